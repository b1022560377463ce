import PyProof.Rows.All
import Wide.All
import OpenK.AllK
import Wide.FinOn
import Lean
import PyProof.EqAt
import PyProof.EqKinds
import PyProof.TupleCall
import PyProof.EqLayable
import PyProof.FitsBits
import PyProof.FitsInt
import PyProof.ReprLen
import PyProof.ReprReads
import PyProof.StrLawsRepr
import KE.KRevIter
import KE.KDictSum
import KE.KRevSl
import PyProof.Rows.ZipGen
import PyProof.Rows.SortWalk
import KE.KDictList
import PyProof.Rows.Tup
import PyProof.Rows.Range3
import PyProof.EnumMake
import PyProof.EnumFor
import PyProof.Rows.SortStr
import PyProof.Rows.SeqMore2
import PyProof.Rows.StrInSeq3
import KE.KIntText
import PyProof.StrCalls
import PyProof.Cells
import PyProof.Rows.SeqMore
import PyProof.ListMulAny
import PyProof.DictUpdate
import KE.KMinKey
import PySem.Challenge.RW_waitloom_k03_no_program
set_option Elab.async false
set_option linter.all false
set_option genSizeOf false
set_option maxRecDepth 100000
noncomputable section
open PySem.W(Frag)
local macro_rules|`(∅)=>`(by decide+kernel)
local macro_rules|`(⋯)=>`(by omega)
theorem O0 {p:Prop} (h:p:=by decide):p:=h
open PySem renaming PyData→Aa,Value→Ab,Addr→Ac,Shared→Ae,sizeLine→Af,mainGlobals→Ak,wpAny_bind→Ah,wpAny_pure→Ar,mem_of_lookup→Bb,wpAny_truthy_bool→B0,wpAny_field→B4,wpAny_holding→B7,wpAny_seqItems→Cj,wpAny_callSpecial?_slot→Ck,wpAny_loadPart'→Cv,wpAny_mono→C0,wpAny_newObj_type→C3,wpAny_setField_rec→De,wpAny_passesOwn→Dh,wpAny_call_entry→Dm,wpAny_getItem_str_slice→Dp,codeAny_builtin→Dq,wpAny_Call_Name_kw→Dr,mem_of_lookup→D8,wpAny_letGo→D9,codeAny_mono→Ec,wpAny_pyIter_tuple→Ed,typeIs_int→Ee,plainId_quiet→Ej,call_meets→En
open Nat renaming le_refl→Aj,le_trans→As,zero_le→A7,lt_of_lt_of_le→Ba,ne_of_lt→Bf,lt_of_le_of_lt→Bx,succ_le_succ→B2,lt_irrefl→C4,max_le→Dc,le_of_succ_le_succ→Dv,le_of_lt→Eb,le_succ_of_le→Eg,ne_of_gt→Em
open Bool renaming false_ne_true→Am,and_eq_true→Ao,true_and→Bw,eq_false_iff→Bz,eq_iff_iff→Cb,not_eq_true'→Cm,false_and→Cq,or_eq_true→Cu,or_eq_false_iff→Cz,and_true→Ek
open List renaming length_map→An,mem_cons_of_mem→Au,mem_cons→Av,size_toArray→Ax,mem_cons_self→A0,map_cons→A2,all_eq_true→A3,getElem?_eq_getElem→A4,length_cons→A5,length_append→A8,mem_append_right→A9,map_append→Bc,not_mem_nil→Bg,mem_of_getElem?→Bi,length_take_le→Bl,getElem?_map→Bm,lookup_cons→Bn,map_map→Bp,length_take→Bq,take_add_one→Br,mem_append_left→Bt,take_length→Bv,append_nil→By,getElem?_eq_some_iff→B3,mem_singleton→B5,mem_of_mem_take→B6,replicate_succ→B9,foldl_cons→Cc,find?_cons→Cd,mem_map→Cg,sum_cons→Ch,any_cons→Co,any_eq_true→Cp,mem_append→Cr,all_map→Ct,of_mem_zip→Cw,nodup_cons→Cy,flatten_cons→C1,flatMap_cons→C2,mem_map_of_mem→C5,length_drop→C8,mem_range→C9,length_set→Dg,getElem?_zip_eq_some→Dj,getElem?_set_ne→Dk,map_nil→Dl,filterMap_cons→Do,length_zip→Ds,take_of_length_le→Du,length_replicate→Dw,drop_zero→Dx,getElem_mem→Dz,cons_append→D6,mem_flatMap→D7,forIn_cons→Ea,length_range→Ef,all_cons→El
open PySem.Heap renaming get?_push_of_some→Ap,lt_size→Ay,get?_push_size→A6,get?_update_other→B8,size_push→C7,get?_update_self→Dy
open PySem.W renaming mg_of→Aq,mg_none_of→Be,kia_one→Bu,cellsFrom_some→Dt
open Int renaming emod_lt_of_pos→Aw,emod_nonneg→Az,le_trans→Bo,toNat_natCast→Eh,le_refl→Ei
open Option.some renaming inj→Bj
open PySem.F renaming plainAttrs_list→B1,slot_list_append→Ce,type_list_append→Cf,plain_max_loop→Cn,slot_tuple_iterator_next→Di
open PySem.Paired renaming length→Ci
open PyProof.Rows.F renaming plain_set_update_loop→Dd
open PySem.PassesOwn renaming never→Df
open Option renaming isSome_iff_exists→Dn
open PySem.Calls renaming evalArgs_plain→D0
open PySem.Around renaming under_plainId→D5
def Ai:=@decide_eq_true
def Al:=@decide_eq_false
def A1:=@of_decide_eq_true
def Bh:=@beq_eq_false_iff_ne
def Bk:=@beq_iff_eq
def Bs:=@decide_eq_true_eq
def C6:=@beq_self_eq_true
namespace L2
open PySem PySem.Spec PyProof.Rows
set_option tactic.hygienic false
abbrev Key:=Sum Int Str
def w6:Key→Ab→Bool
 | .inl k,v=>Value.isInt k v
 | .inr x,v=>Value.isStrOf x v
def keyH (w:World):Key→Int
 | .inl k=>hashInt k
 | .inr x=>hashStr w x
theorem zy:∀ {k:Key} {v:Ab},w6 k v=true→(∃ i t,k=Sum.inl i∧v=Value.int i t)∨(∃ x t,k=Sum.inr x∧v=Value.str x t)
 | .inl i,v,h=>by
  obtain ⟨t,e⟩:=Value.isInt_shape (k:=i) (v:=v) h;exact .inl ⟨i,t,rfl,e⟩
 | .inr x,v,h=>by
  obtain ⟨t,e⟩:=Value.isStrOf_shape (x:=x) (v:=v) h;exact .inr ⟨x,t,rfl,e⟩
theorem XN (i:Int) (t:Tok):w6 (.inl i) (.int i t)=true:=by simp [w6,Value.isInt]
theorem vm (x:Str) (t:Tok):w6 (.inr x) (.str x t)=true:=by simp [w6,Value.isStrOf]
theorem qc0 (a b:Int):decide ((Sum.inl a:Key)=Sum.inl b)=(a==b):=by
 by_cases e:a=b
 ·subst e;simp
 ·have h:¬ (Sum.inl a:Key)=Sum.inl b:=fun q=>e (Sum.inl.inj q);rw [Al h];exact (Bh.mpr e).symm
theorem qcx (a b:Str):decide ((Sum.inr a:Key)=Sum.inr b)=decide (a=b):=by
 by_cases e:a=b
 ·subst e;simp
 ·have h:¬ (Sum.inr a:Key)=Sum.inr b:=fun q=>e (Sum.inr.inj q);rw [Al h,Al e]
theorem qcz (a:Int) (b:Str):decide ((Sum.inl a:Key)=Sum.inr b)=false:=Al (fun q=>nomatch q)
theorem qcy (a:Str) (b:Int):decide ((Sum.inr a:Key)=Sum.inl b)=false:=Al (fun q=>nomatch q)
def zc (prog:Program) (w:World):PySem.KeyKind prog w Key where
 is:=w6
 hash:=keyH w
 inj:=fun v a b ha hb=>by
  rcases zy ha with ⟨i,t,rfl,rfl⟩ | ⟨x,t,rfl,rfl⟩
  ·rcases zy hb with ⟨j,u,rfl,e⟩ | ⟨y,u,rfl,e⟩
   ·injection e with e1 _;rw [e1]
   ·exact nomatch e
  ·rcases zy hb with ⟨j,u,rfl,e⟩ | ⟨y,u,rfl,e⟩
   ·exact nomatch e
   ·injection e with e1 _;rw [e1]
 byValue:=fun k v h=>by
  rcases zy h with ⟨i,t,rfl,rfl⟩ | ⟨x,t,rfl,rfl⟩ <;> rfl
 pyHash:=fun hv h=>by
  rcases zy hv with ⟨i,t,rfl,rfl⟩ | ⟨x,t,rfl,rfl⟩
  ·exact wpAny_pyHash_int h
  ·exact wpAny_pyHash_str h
 eqBool:=fun hu hv h=>by
  rcases zy hu with ⟨i,t,rfl,rfl⟩ | ⟨x,t,rfl,rfl⟩
  ·rcases zy hv with ⟨j,u,rfl,rfl⟩ | ⟨y,u,rfl,rfl⟩
   ·rw [qc0] at h;exact wpAny_eqBool_int h
   ·rw [qcz] at h;exact SeqAt.EqAt.int_str i t y u _ _ _ _ h
  ·rcases zy hv with ⟨j,u,rfl,rfl⟩ | ⟨y,u,rfl,rfl⟩
   ·rw [qcy] at h;exact SeqAt.EqAt.str_int x t j u _ _ _ _ h
   ·rw [qcx] at h;exact wpAny_eqBool_str h
 «strs» :=fun k x t v h=>by
  rcases zy h with ⟨i,u,rfl,e⟩ | ⟨y,u,rfl,e⟩
  ·exact nomatch e
  ·injection e with e1 _
   subst e1;cases v <;> rfl
theorem yI (prog:Program) (w:World) (i:Int) (t:Tok):(zc prog w).is (.inl i) (.int i t)=true:=XN i t
theorem VJ (prog:Program) (w:World) (x:Str) (t:Tok):(zc prog w).is (.inr x) (.str x t)=true:=vm x t
inductive V where
 | non | bl (b:Bool) | int (i:Int) | str (x:Str) | byt (b:Array UInt8) | flt (b:UInt64) | ref (a:Ac) | ty (n:String)
 deriving DecidableEq
def qK:V→Ab→Prop
 | .non,u=>u=Value.none
 | .bl b,u=>u=Value.bool b
 | .int i,u=>∃ t,u=Value.int i t
 | .str x,u=>∃ t,u=Value.str x t
 | .byt b,u=>∃ t,u=Value.bytes b t
 | .flt b,u=>∃ t,u=Value.float b t
 | .ref a,u=>u=Value.ref a
 | .ty n,u=>u=Value.type n
abbrev qL:List V→List Ab→Prop:=Paired qK
theorem qL.length {xs:List V} {us:List Ab} (r:qL xs us):xs.length=us.length:=Ci r
theorem qL.get:∀ {xs:List V} {us:List Ab} {i:Nat} {x:V},qL xs us→xs[i]?=some x→∃ u,us[i]?=some u∧qK x u
 | _,_,_,_,.nil,e=>by simp at e
 | _,_,0,_,.cons r _,e=>by simp at e;subst e;exact ⟨_,rfl,r⟩
 | _,_,i+1,x,.cons _ t,e=>by
  obtain ⟨u,h1,h2⟩:=qL.get (i:=i) (x:=x) t (by simpa using e)
  exact ⟨u,by simpa using h1,h2⟩
theorem qL.set {x:V} {u:Ab} (r:qK x u):∀ {xs:List V} {us:List Ab} (i:Nat),qL xs us→qL (xs.set i x) (us.set i u)
 | _,_,_,.nil=> .nil
 | _,_,0,.cons _ t=> .cons r t
 | _,_,i+1,.cons q t=> .cons q (qL.set r i t)
theorem qL.append:∀ {xs ys:List V} {us ws:List Ab},qL xs us→qL ys ws→qL (xs++ys) (us++ws)
 | _,_,_,_,.nil,s=>s
 | _,_,_,_,.cons r t,s=> .cons r (qL.append t s)
theorem qL.take:∀ {xs:List V} {us:List Ab} (n:Nat),qL xs us→qL (xs.take n) (us.take n)
 | _,_,0,_=> .nil
 | _,_,_+1,.nil=> .nil
 | _,_,n+1,.cons r t=> .cons r (qL.take n t)
theorem qL.drop:∀ {xs:List V} {us:List Ab} (n:Nat),qL xs us→qL (xs.drop n) (us.drop n)
 | _,_,0,r=>r
 | _,_,_+1,.nil=> .nil
 | _,_,n+1,.cons _ t=>qL.drop n t
theorem qL.none_of:∀ {xs:List V} {us:List Ab} {i:Nat},qL xs us→xs[i]?=none→us[i]?=none:=fun {xs us i} r e=>by
 have h1:=r.length;have h2:xs.length≤i:=List.getElem?_eq_none_iff.mp e;exact List.getElem?_eq_none_iff.mpr ⋯
def VA:Option V→Option Ab→Prop
 | some v,some u=>qK v u
 | none,none=>True
 | _,_=>False
def KV {κ:Type}:List (κ×V)→List (κ×Ab)→Prop:=Paired fun (p:κ×V) (q:κ×Ab)=>p.1=q.1∧qK p.2 q.2
def kV:Key→V
 | .inl i=> .int i
 | .inr x=> .str x
inductive HO where
 | lst (xs:List V)
 | tup (xs:List V)
 | dK (kvs:List (Key×V)) | dT (kvs:List (List Key×V))
 | set (S:Int→Bool) (n:Nat)
 | ins (C dx:Ac) (fs:List (Str×V))
 | own (x:Ac)
 | xd (fs:List (Str×V))
 | met (f x:Ac)
 | rng (lo hi:Int)
 | frz (o:Obj) (u:HO)
 | tbl (ps:Array Ab)
 | ext (φ:Heap→Prop)
abbrev Hp:=Ac→Option HO
def upd (H:Hp) (a:Ac) (o:HO):Hp:=fun b=>if b=a then some o else H b
theorem upd_same {H:Hp} {a:Ac} {o:HO}:upd H a o a=some o:=by unfold upd;rw [if_pos rfl]
theorem qB {H:Hp} {a b:Ac} {o:HO} (h:b≠a):upd H a o b=H b:=by unfold upd;rw [if_neg h]
theorem Z6 {H:Hp} {a b:Ac} {o u:HO} (h:H a=some o) (h':H b=some u) (d:o≠u):a≠b:=by
 intro e;subst e;rw [h] at h';exact d (Bj h')
theorem qD {H:Hp} {a b:Ac} {o:HO} (h:H a=some o) (h':H b=none):a≠b:=by
 intro e;subst e;rw [h] at h';cases h'
section
variable (P:Program) (w:World)
def zo (H:Hp) (h:Heap) (a:Ac):HO→Prop
 | .lst xs=>xs.length≤Af∧∃ (its:List Ab) (n:Nat),qL xs its∧h.get? a=some {cls:= .type "list",data:= .seq its.toArray n}
 | .tup xs=>xs.length≤Af∧∃ its:List Ab,qL xs its∧IsTup h a its.toArray
 | .dK kvs=>kvs.length≤Af∧(a==sysModules)=false∧∃ vs,KV kvs vs∧h.DictOf (zc P w) a vs
 | .dT kvs=>kvs.length≤Af∧(a==sysModules)=false∧∃ xs:List (List Key×Ac×Ab),
   Paired (fun (p:List Key×V) (q:List Key×Ac×Ab)=>p.1=q.1∧H q.2.1=some (.tup (p.1.map kV))∧qK p.2 q.2.2) kvs xs∧
   ∃ o es ep,h.get? a=some o∧o.ExactDict∧o.data= .dict es ep∧es.toList=xs.map (entryOfKey (tupleKind (zc P w)))∧(xs.map (·.1)).Nodup
 | .set S n=>h.SetOf (intKind P w) a S n
 | .ins C dx fs=>H dx=some (.own a)∧fs.length≤1000∧dx≠a∧h.get? a=some (PySem.W.instObj C dx)∧
   ∃ mA,h.Ns1 dx mA∧(∀ f,VA (fs.lookup f) (mA f))∧PySem.Within mA (fs.map (·.1))
 | .own _=>∃ o,h.get? a=some o
 | .xd fs=>∃ mA,h.Ns1 a mA∧∀ f,VA (fs.lookup f) (mA f)
 | .rng lo hi=>∃ t u v,h.get? a=some {cls:= .type "range",data:= .fields #[.int lo t,.int hi u,.int 1 v]}
 | .frz o u=>h.get? a=some o∧zo H h a u
 | .tbl ps=>h.get? a=some {cls:= .none,data:= .fields ps}
 | .met f x=>h.get? a=some (PySem.W.methodObj (.ref f) (.ref x))
 | .ext φ=>φ h∧(∃ o,h.get? a=some o)∧∀ h1 h2:Heap,φ h1→(∀ o,h1.get? a=some o→h2.get? a=some o)→φ h2
def HOk (H:Hp) (h:Heap):Prop:=∀ a o,H a=some o→zo P w H h a o
end
section
variable {P:Program} {w:World} {H H':Hp} {h h':Heap} {a:Ac} {o:HO}
theorem zo.lt (x:zo P w H h a o):a<h.objs.size:=by
 cases o with
 | lst xs=>obtain ⟨_,_,_,_,e⟩:=x;exact Ay e
 | tup xs=>obtain ⟨_,_,_,p⟩:=x;exact p.lt
 | dK kvs=>obtain ⟨_,_,_,_,o,_,_,e,_⟩:=x;exact Ay e
 | dT kvs=>obtain ⟨_,_,_,_,o,_,_,e,_⟩:=x;exact Ay e
 | set S n=>obtain ⟨o,_,_,_,e,_⟩:=x;exact Ay e
 | ins C dx fs=>obtain ⟨_,_,_,e,_⟩:=x;exact Ay e
 | own y=>obtain ⟨_,e⟩:=x;exact Ay e
 | xd fs=>obtain ⟨_,⟨_,_,_,e,_⟩,_⟩:=x;exact Ay e
 | rng lo hi=>obtain ⟨_,_,_,e⟩:=x;exact Ay e
 | frz ob u=>obtain ⟨e,_⟩:=x;exact Ay e
 | tbl ps=>exact Ay (show h.get? a=some _ from x)
 | met f y=>exact Ay (show h.get? a=some _ from x)
 | ext φ=>obtain ⟨_,⟨_,e⟩,_⟩:=x;exact Ay e
theorem Paired.mapP {α β:Type} {F G:α→β→Prop}:∀ {l₁:List α} {l₂:List β},Paired F l₁ l₂→(∀ a b,F a b→G a b)→Paired G l₁ l₂
 | _,_,.nil,_=> .nil
 | _,_,.cons r t,f=> .cons (f _ _ r) (Paired.mapP t f)
theorem zo.stay (x:zo P w H h a o) (k:∀ b u,(b=a∨H b=some (.own a))→h.get? b=some u→h'.get? b=some u)
  (ho:∀ b,H b=some (.own a)→H' b=some (.own a)) (ht:∀ b xs,H b=some (.tup xs)→H' b=some (.tup xs)):zo P w H' h' a o:=by
 induction o with
 | lst xs=>obtain ⟨z,its,n,r,e⟩:=x;exact ⟨z,its,n,r,k _ _ (.inl rfl) e⟩
 | tup xs=>obtain ⟨z,its,r,ob,e,c⟩:=x;exact ⟨z,its,r,ob,k _ _ (.inl rfl) e,c⟩
 | dK kvs=>obtain ⟨z,y,vs,r,ob,es,ep,e,c⟩:=x;exact ⟨z,y,vs,r,ob,es,ep,k _ _ (.inl rfl) e,c⟩
 | dT kvs=>
  obtain ⟨z,y,xs,r,ob,es,ep,e,c⟩:=x;exact ⟨z,y,xs,Paired.mapP r fun p q z=>⟨z.1,ht _ _ z.2.1,z.2.2⟩,ob,es,ep,k _ _ (.inl rfl) e,c⟩
 | set S n=>obtain ⟨ob,es,ep,t,e,c⟩:=x;exact ⟨ob,es,ep,t,k _ _ (.inl rfl) e,c⟩
 | ins C dx fs=>
  obtain ⟨d,z,ne,e,mA,⟨od,es,ep,e2,c⟩,r⟩:=x;exact ⟨ho _ d,z,ne,k _ _ (.inl rfl) e,mA,⟨od,es,ep,k _ _ (.inr d) e2,c⟩,r⟩
 | own y=>obtain ⟨ob,e⟩:=x;exact ⟨ob,k _ _ (.inl rfl) e⟩
 | xd fs=>obtain ⟨mA,⟨od,es,ep,e,c⟩,r⟩:=x;exact ⟨mA,⟨od,es,ep,k _ _ (.inl rfl) e,c⟩,r⟩
 | rng lo hi=>obtain ⟨t,u,v,e⟩:=x;exact ⟨t,u,v,k _ _ (.inl rfl) e⟩
 | frz ob u ih=>obtain ⟨e,q⟩:=x;exact ⟨k _ _ (.inl rfl) e,ih q⟩
 | tbl ps=>
  have e:h.get? a=some {cls:= .none,data:= .fields ps}:=x;show h'.get? a=some {cls:= .none,data:= .fields ps};exact k a _ (.inl rfl) e
 | met f y=>
  have e:h.get? a=some (PySem.W.methodObj (.ref f) (.ref y)):=x;show h'.get? a=some (PySem.W.methodObj (.ref f) (.ref y));exact k a _ (.inl rfl) e
 | ext φ=>obtain ⟨p,⟨o,e⟩,st⟩:=x;exact ⟨st _ _ p fun o q=>k _ _ (.inl rfl) q,⟨o,k _ _ (.inl rfl) e⟩,st⟩
theorem HOk.lt (x:HOk P w H h) (e:H a=some o):a<h.objs.size:=(x a o e).lt
theorem HOk.fresh (x:HOk P w H h) (e:h.objs.size≤a):H a=none:=by
 cases q:H a with
 | none=>rfl
 | some u=>exact absurd (Ba (x.lt q) e) (C4 _)
theorem HOk.kept (x:HOk P w H h) (k:∀ b u,h.get? b=some u→h'.get? b=some u):HOk P w H h':=fun a o e=>
 (x a o e).stay (fun b u _ q=>k b u q) (fun _ q=>q) fun _ _ q=>q
theorem HOk.laid (x:HOk P w H h) (k:∀ b u,h.get? b=some u→h'.get? b=some u) (hp:h.objs.size≤a) (new:zo P w (upd H a o) h' a o):HOk P w (upd H a o) h':=fun b u e=>by
 have hn:=x.fresh hp
 by_cases hb:b=a
 ·subst hb;rw [upd_same] at e;cases e;exact new
 ·rw [qB hb] at e;exact (x b u e).stay (fun c v _ q=>k c v q) (fun c q=>by rw [qB (qD q hn)];exact q) fun c xs q=>by rw [qB (qD q hn)];exact q
end
def Rd (H:Hp) (a:Ac) (u:HO):Prop:=H a=some u∨∃ o,H a=some (.frz o u)
theorem Rd.ok {P:Program} {w:World} {H:Hp} {h:Heap} {a:Ac} {u:HO} (r:Rd H a u) (x:HOk P w H h):zo P w H h a u:=by
 rcases r with r | ⟨o,r⟩
 ·exact x a u r
 ·obtain ⟨_,q⟩:=x a _ r;exact q
def Mut:Option HO→Prop
 | some (.lst _)=>True
 | some (.dK _)=>True
 | some (.dT _)=>True
 | some (.set _ _)=>True
 | some (.ins _ _ _)=>True
 | some (.ext _)=>True
 | _=>False
section
variable {P:Program} {w:World} {H:Hp} {h h':Heap} {x e:Ac} {o':HO}
theorem HOk.write (ok:HOk P w H h) (mu:Mut (H x)) (he:e=x∨H e=some (.own x)) (k:∀ b u,b≠e→h.get? b=some u→h'.get? b=some u) (heo:∃ u,h'.get? e=some u)
  (new:zo P w (upd H x o') h' x o'):HOk P w (upd H x o') h':=fun b u q=>by
 have nown:∀ c y,H c=some (.own y)→c≠x:=fun c y r z=>by subst z;rw [r] at mu;exact mu
 have ntup:∀ c xs,H c=some (.tup xs)→c≠x:=fun c xs r z=>by subst z;rw [r] at mu;exact mu
 by_cases hb:b=x
 ·subst hb;rw [upd_same] at q;cases q;exact new
 ·rw [qB hb] at q
  by_cases hbe:b=e
  ·have q':H b=some (.own x):=by
    rcases he with z | z
    ·exact absurd (hbe.trans z) hb
    ·rw [hbe];exact z
   rw [q] at q';cases q';obtain ⟨v,hv⟩:=heo;exact ⟨v,by rw [hbe];exact hv⟩
  ·refine (ok b u q).stay (fun c v hc r=>k c v ?_ r) (fun c r=>by rw [qB (nown c b r)];exact r) fun c xs r=>by rw [qB (ntup c xs r)];exact r
   rcases hc with rfl | hc
   ·exact hbe
   ·rintro rfl;rcases he with z | z
    ·exact nown c b hc z
    ·rw [hc] at z;cases z;exact hb rfl
end
structure Un (fs ex:List Ac) (H H':Hp) (h h':Heap):Prop where
 keep:∀ b o,h.get? b=some o→H b=none→b∉fs→b∉ex→h'.get? b=some o
 slot:∀ b o,h.get? b=some o→H b=none→b∈fs→b∉ex→∃ sl,h'.get? b=some {o with slots:=sl}
 free:∀ b o,h.get? b=some o→H b=none→b∉ex→H' b=none
 there:∀ b o,h.get? b=some o→b∉ex→∃ o',h'.get? b=some o'
 tups:∀ b xs,H b=some (.tup xs)→H' b=some (.tup xs)
 frzs:∀ b o u,H b=some (.frz o u)→H' b=some (.frz o u)
 tbls:∀ b ps,H b=some (.tbl ps)→∃ more,H' b=some (.tbl (ps++more))
section
variable {fs fs' ex ex':List Ac} {H H1 H2:Hp} {h h1 h2 h':Heap} {a x e:Ac} {o:HO}
theorem Un.any (u:Un fs ex H H1 h h1) {b:Ac} {ob:Obj} (q:h.get? b=some ob) (n:H b=none) (hx:b∉ex):∃ sl,h1.get? b=some {ob with slots:=sl}:=by
 by_cases hb:b∈fs
 ·exact u.slot b ob q n hb hx
 ·exact ⟨ob.slots,u.keep b ob q n hb hx⟩
theorem Un.kept (k:∀ b u,h.get? b=some u→h'.get? b=some u):Un fs ex H H h h':=
 ⟨fun b ob q _ _ _=>k b ob q,fun b ob q _ _ _=>⟨ob.slots,k b ob q⟩,fun _ _ _ n _=>n,fun b ob q _=>⟨ob,k b ob q⟩,fun _ _ q=>q,fun _ _ _ q=>q,fun _ ps q=>⟨#[],by rw [q];simp⟩⟩
theorem Un.refl:Un fs ex H H h h:=Un.kept fun _ _ q=>q
theorem Un.laid (k:∀ b u,h.get? b=some u→h'.get? b=some u) (hp:h.objs.size≤a) (hn:H a=none):Un fs ex H (upd H a o) h h' where
 keep:=fun b u q _ _ _=>k b u q
 slot:=fun b u q _ _ _=>⟨u.slots,k b u q⟩
 free:=fun b u q n _=>by rw [qB (Bf (Ba (Ay q) hp))];exact n
 there:=fun b u q _=>⟨u,k b u q⟩
 tups:=fun b xs q=>by rw [qB (qD q hn)];exact q
 frzs:=fun b u xs q=>by rw [qB (qD q hn)];exact q
 tbls:=fun b ps q=>⟨#[],by rw [qB (qD q hn),q];simp⟩
theorem Un.write (mu:Mut (H x)) (he:e=x∨H e=some (.own x)) (k:∀ b u,b≠e→h.get? b=some u→h'.get? b=some u) (heo:∃ u,h'.get? e=some u):Un fs ex H (upd H x o) h h':=by
 have hx:∀ b,H b=none→b≠x:=fun b n z=>by subst z;rw [n] at mu;exact mu
 have hb:∀ b,H b=none→b≠e:=fun b n z=>by
  subst z;rcases he with r | r
  ·exact hx b n r
  ·rw [n] at r;cases r
 have hm:∀ b u,H b=some u→¬ Mut (some u)→b≠x:=fun b u q nm z=>by subst z;rw [q] at mu;exact nm mu
 refine ⟨fun b u q n _ _=>k b u (hb b n) q,fun b u q n _ _=>⟨u.slots,k b u (hb b n) q⟩,fun b u q n _=>by rw [qB (hx b n)];exact n,fun b u q _=>?_,
  fun b xs q=>by rw [qB (hm b _ q fun z=>z)];exact q,fun b u xs q=>by rw [qB (hm b _ q fun z=>z)];exact q,fun b ps q=>⟨#[],by rw [qB (hm b _ q fun z=>z),q];simp⟩⟩
 by_cases hbe:b=e
 ·subst hbe;exact heo
 ·exact ⟨u,k b u hbe q⟩
end
def trk (h:Heap) (H:Hp):List Ac:=(List.range h.objs.size).filter fun a=>(H a).isSome
def W2 (h:Heap) (H:Hp):Heap:=PySem.W.hideAll h (trk h H)
theorem XR (h:Heap) (H:Hp):(W2 h H).objs.size=h.objs.size:=PySem.W.hideAll_size _ _
theorem Qo {h:Heap} {H:Hp} {b:Ac} {o:Obj} (e:h.get? b=some o) (n:H b=none):(W2 h H).get? b=some o:=
 PySem.W.hideAll_get _ e fun hm=>by
  have q:(H b).isSome=true:=(List.mem_filter.mp hm).2;rw [n] at q;simp at q
theorem qae {h:Heap} {H:Hp} {b:Ac} {o:Obj} (e:(W2 h H).get? b=some o):h.get? b=some o∧H b=none:=by
 have e':h.get? b=some o:=PySem.W.of_hideAll (trk h H) e;refine ⟨e',?_⟩;cases q:H b with
 | none=>rfl
 | some x=>
  have hm:b∈trk h H:=List.mem_filter.mpr ⟨C9.mpr (Ay e'),by simp [q]⟩
  have z:(W2 h H).get? b=none:=PySem.W.hideAll_none (trk h H) hm;rw [z] at e;cases e
structure Mod (K:Frag) (mg:Str→Option Ab) (base:Heap):Prop where
 kin:K.In base
 glob:base.Ns Ak mg
 blt:∃ mb,base.Ns builtinsNs mb∧∀ x:Str,x≠"__name__"→mb x=bootBuiltins x
 nolimit:base.NoLimit
structure Cx where
 prog:Program
 w:World
 K:Frag
 mg:Str→Option Ab
 base:Heap
 A:Around
 N:List Str
 s₀:Ae
 H₀:Hp
 env:Env
 outer:List Env
 stack:List Env
 ex:List Ac
 fn:Str→Bool
 calm:Bool
 pn:List (Ac×Obj)
 xe:Ab→Ae→Prop
def frs (l:List Env):List Ac:=l.filterMap (·.frame)
abbrev Cx.fs (X:Cx):List Ac:=frs X.outer
def Vis (sc:Scope) (x:Str):Prop:=sc.names.lookup x=some .local∨sc.names.lookup x=some .cell∨sc.names.lookup x=some .free
def Loc (sc:Scope) (x:Str):Prop:=sc.names.lookup x=some .local∨sc.names.lookup x=some .cell
def Look (env:Env) (h:Heap) (m:Str→Option Ab) (x:Str) (u:Ab):Prop:=
 (env.kindOf x=some .local∧m x=some u)∨((env.kindOf x=some .cell∨env.kindOf x=some .free)∧∃ c,env.cells.lookup x=some c∧h.IsCell c (some u))
structure Cx.Ok (X:Cx):Prop where
 mod:Mod X.K X.mg X.base
 kind:X.env.scope.kind= .function
 glob:X.env.globals=Ak
 blt:X.env.builtins=builtinsNs
 above:X.s₀.heap.objs.size≤X.env.locals
 inj:∀ x y c,X.env.cells.lookup x=some c→X.env.cells.lookup y=some c→x=y
 has:∀ x,(X.env.kindOf x=some .cell∨X.env.kindOf x=some .free)→∃ c,X.env.cells.lookup x=some c
 cab:∀ x c,X.fn x=true→X.env.cells.lookup x=some c→X.s₀.heap.objs.size≤c
 hd:X.calm=true→X.A.handled=none
 frames:X.A.frames=some X.stack
 stk:X.stack=X.outer∨(X.stack=X.env::X.outer∧X.env.frame=some X.env.locals)
 exf:∀ b∈X.ex,b≠X.env.locals∧∀ x c,X.env.cells.lookup x=some c→c≠b
 bs:∀ b o,X.base.get? b=some o→X.s₀.heap.get? b=some o∧X.H₀ b=none
 bsz:X.base.objs.size≤X.s₀.heap.objs.size
 noex:∀ b o,X.base.get? b=some o→b∉X.ex
 exfs:∀ b∈X.ex,b∉X.fs
 funs:X.s₀.heap.FunFrames X.base X.outer
 frf:∀ b∈X.fs,X.H₀ b=none
structure Inv (X:Cx) (pins:List (Ac×Obj)) (σ:List (Option V)) (H:Hp) (s:Ae):Prop where
 ok:X.Ok
 os:s.os=X.s₀.os
 bare:AllBare s.gens
 base:Un X.fs X.ex X.H₀ H X.s₀.heap s.heap
 loc:∃ m,s.heap.Ns X.env.locals m∧∀ (i:Nat) (x:Str) (v:V),X.N[i]?=some x→σ[i]?=some (some v)→Vis X.env.scope x→∃ u,qK v u∧Look X.env s.heap m x u
 cell:∀ x c,X.env.cells.lookup x=some c→∃ v,s.heap.IsCell c v
 free:H X.env.locals=none
 freeC:∀ x c,X.env.cells.lookup x=some c→H c=none
 pin:∀ p∈X.pn++pins,s.heap.get? p.1=some p.2∧H p.1=none∧p.1≠X.env.locals∧p.1∉X.fs∧∀ v,p.2.data≠ .cell v
 hok:HOk X.prog X.w H s.heap
 len:σ.length=X.N.length
section
variable {X:Cx} {pins:List (Ac×Obj)} {σ:List (Option V)} {H H':Hp} {s:Ae} {h':Heap}
theorem Cx.Ok.nofr (ok:X.Ok) {b:Ac} {o:Obj} (e:X.base.get? b=some o):b∉X.fs:=fun hb=>by
 have:=(ok.funs.mem hb).1;rw [e] at this;cases this
theorem Inv.bs (I:Inv X pins σ H s):∀ b o,X.base.get? b=some o→s.heap.get? b=some o∧H b=none:=fun b o e=>
 ⟨I.base.keep b o (I.ok.bs b o e).1 (I.ok.bs b o e).2 (I.ok.nofr e) (I.ok.noex b o e),I.base.free b o (I.ok.bs b o e).1 (I.ok.bs b o e).2 (I.ok.noex b o e)⟩
theorem Inv.bk (I:Inv X pins σ H s):∀ b o,X.base.get? b=some o→s.heap.get? b=some o:=fun b o e=>(I.bs b o e).1
theorem Inv.mod (I:Inv X pins σ H s):Mod X.K X.mg X.base:=I.ok.mod
theorem Inv.kIn (I:Inv X pins σ H s):X.K.In s.heap:=I.ok.mod.kin.keeps I.bk
theorem Inv.lt (I:Inv X pins σ H s):X.env.locals<s.heap.objs.size:=let ⟨_,hn,_⟩:=I.loc;hn.lt
theorem Inv.sz (I:Inv X pins σ H s):X.s₀.heap.objs.size≤s.heap.objs.size:=As I.ok.above (Eb I.lt)
theorem Inv.nofs (I:Inv X pins σ H s) {a:Ac} (h:s.heap.objs.size≤a):a∉X.fs:=fun hb=>by
 obtain ⟨_,o,ho,_⟩:=I.ok.funs.mem hb;exact absurd (Ba (Ay ho) (As I.sz h)) (C4 _)
theorem Inv.cne (I:Inv X pins σ H s):∀ x c,X.env.cells.lookup x=some c→c≠X.env.locals:=fun x c e z=>by
 obtain ⟨v,o,ho,hd⟩:=I.cell x c e;obtain ⟨m,⟨o',es,ep,ho',hd',_⟩,_⟩:=I.loc;rw [z,ho'] at ho;cases ho;rw [hd'] at hd;cases hd
theorem Inv.funs (I:Inv X pins σ H s):s.heap.FunFrames X.base X.outer:=by
 have all:∀ (l:List Env),(∀ b∈frs l,b∈X.fs)→X.s₀.heap.FunFrames X.base l→s.heap.FunFrames X.base l:=by
  intro l
  induction l with
  | nil=>intro _ _;trivial
  | cons env r ih=>
   intro hs hl;obtain ⟨hk,⟨L,o,hf,hn,ho,hd⟩,hr⟩:=hl;have hL:L∈X.fs:=hs L (by unfold frs;rw [Do,hf];exact A0)
   obtain ⟨sl,e⟩:=I.base.slot L o ho (I.ok.frf L hL) hL fun z=>I.ok.exfs L z hL;exact ⟨hk,⟨L,_,hf,hn,e,hd⟩,ih (fun b hb=>hs b (by unfold frs;rw [Do,hf];exact Au _ hb)) hr⟩
 exact all X.outer (fun _ hb=>hb) I.ok.funs
theorem Inv.stack (I:Inv X pins σ H s):s.heap.FunFrames X.base X.stack:=by
 rcases I.ok.stk with e | ⟨e,hf⟩
 ·rw [e];exact I.funs
 ·rw [e];obtain ⟨m,hn,_⟩:=I.loc;refine .cons (by rw [I.ok.kind];decide) hf hn ?_ I.funs
  exact Heap.get?_none_of_le (As I.ok.bsz I.ok.above)
theorem Inv.stkSub (I:Inv X pins σ H s):∀ b∈frs X.stack,b∈X.env.locals::X.fs:=fun b hb=>by
 rcases I.ok.stk with e | ⟨e,hf⟩
 ·rw [e] at hb;exact Au _ hb
 ·rw [e] at hb;unfold frs at hb;rw [Do,hf] at hb;exact hb
theorem Inv.stkFree (I:Inv X pins σ H s):∀ b∈frs X.stack,H b=none:=fun b hb=>by
 rcases Av.mp (I.stkSub b hb) with e | hb
 ·rw [e];exact I.free
 ·obtain ⟨_,o,ho,_⟩:=I.ok.funs.mem hb;exact I.base.free b o ho (I.ok.frf b hb) fun z=>I.ok.exfs b z hb
theorem Inv.step {g':Array GenState} {t':Nat} {d':Drawn} {ch:List Ac} (I:Inv X pins σ H s)
  (hch:∀ b∈ch,(b∈X.ex∨X.s₀.heap.objs.size≤b)∧b≠X.env.locals∧(∀ x c,X.env.cells.lookup x=some c→c≠b)∧∀ p∈X.pn++pins,p.1≠b)
  (keep:∀ b o,b≠X.env.locals→b∉X.fs→b∉ch→s.heap.get? b=some o→H b=none→h'.get? b=some o)
  (slot:∀ b o,b≠X.env.locals→b∈X.fs→b∉ch→s.heap.get? b=some o→H b=none→∃ sl,h'.get? b=some {o with slots:=sl}) (free:∀ b o,b∉ch→s.heap.get? b=some o→H b=none→H' b=none)
  (there:∀ b o,b∉ch→s.heap.get? b=some o→∃ o',h'.get? b=some o')
  (tups:∀ b xs,H b=some (.tup xs)→H' b=some (.tup xs)) (frzs:∀ b o u,H b=some (.frz o u)→H' b=some (.frz o u)) (tbls:∀ b ps,H b=some (.tbl ps)→∃ more,H' b=some (.tbl (ps++more)))
  (ns:∀ m,s.heap.Ns X.env.locals m→h'.Ns X.env.locals m) (hok:HOk X.prog X.w H' h') (hg:AllBare g'):
  Inv X pins σ H' {s with heap:=h',gens:=g',drawn:=d',toks:=t'}:=by
 have neL:∀ b o,X.s₀.heap.get? b=some o→b≠X.env.locals:=fun b o e=>Bf (Ba (Ay e) I.ok.above);have neC:∀ b o,X.s₀.heap.get? b=some o→b∉X.ex→b∉ch:=fun b o e hx hb=>by
  rcases (hch b hb).1 with z | z
  ·exact hx z
  ·exact absurd (Ba (Ay e) z) (C4 _)
 have cellK:∀ x c,X.env.cells.lookup x=some c→∀ v,s.heap.IsCell c v→h'.IsCell c v:=fun x c e v ⟨o,ho,hd⟩=>by
  have nch:c∉ch:=fun z=>(hch c z).2.2.1 x c e rfl
  by_cases hc:c∈X.fs
  ·obtain ⟨sl,q⟩:=slot c o (I.cne x c e) hc nch ho (I.freeC x c e);exact ⟨_,q,hd⟩
  ·exact ⟨o,keep c o (I.cne x c e) hc nch ho (I.freeC x c e),hd⟩
 refine ⟨I.ok,I.os,hg,⟨fun b o e n hb hx=>?_,fun b o e n hb hx=>?_,fun b o e n hx=>?_,fun b o e hx=>?_,fun b xs e=>tups b xs (I.base.tups b xs e),fun b o xs e=>frzs b o xs (I.base.frzs b o xs e),fun b ps e=>?_⟩,?_,fun x c e=>?_,?_,fun x c e=>?_,fun p hp=>?_,hok,I.len⟩
 ·exact keep b o (neL b o e) hb (neC b o e hx) (I.base.keep b o e n hb hx) (I.base.free b o e n hx)
 ·obtain ⟨sl,e1⟩:=I.base.slot b o e n hb hx;obtain ⟨sl',e2⟩:=slot b _ (neL b o e) hb (neC b o e hx) e1 (I.base.free b o e n hx);exact ⟨sl',e2⟩
 ·obtain ⟨o',e1⟩:=I.base.there b o e hx;exact free b o' (neC b o e hx) e1 (I.base.free b o e n hx)
 ·obtain ⟨o',e1⟩:=I.base.there b o e hx;exact there b o' (neC b o e hx) e1
 ·obtain ⟨m1,e1⟩:=I.base.tbls b ps e;obtain ⟨m2,e2⟩:=tbls b _ e1;exact ⟨m1++m2,by rw [e2,Array.append_assoc]⟩
 ·obtain ⟨m,hn,hl⟩:=I.loc;refine ⟨m,ns m hn,fun i x v e1 e2 e3=>?_⟩;obtain ⟨u,r,l⟩:=hl i x v e1 e2 e3;refine ⟨u,r,?_⟩;rcases l with l | ⟨k,c,e,z⟩
  ·exact .inl l
  ·exact .inr ⟨k,c,e,cellK x c e _ z⟩
 ·obtain ⟨v,z⟩:=I.cell x c e;exact ⟨v,cellK x c e v z⟩
 ·obtain ⟨m,⟨o,_,_,ho,_⟩,_⟩:=I.loc;exact free _ o (fun z=>(hch _ z).2.1 rfl) ho I.free
 ·obtain ⟨v,o,ho,hd⟩:=I.cell x c e;exact free c o (fun z=>(hch c z).2.2.1 x c e rfl) ho (I.freeC x c e)
 ·obtain ⟨e,n,ne,nf,d⟩:=I.pin p hp;have nch:p.1∉ch:=fun z=>(hch p.1 z).2.2.2 p hp rfl;exact ⟨keep p.1 p.2 ne nf nch e n,free p.1 p.2 nch e n,ne,nf,d⟩
theorem Inv.un {t':Nat} (I:Inv X pins σ H s) (u:Un X.fs [] H H' s.heap h') (hok:HOk X.prog X.w H' h'):Inv X pins σ H' {s with heap:=h',toks:=t'}:=by
 obtain ⟨m,⟨o,es,ep,ho,r⟩,_⟩:=id I.loc;obtain ⟨sl,hL⟩:=u.any ho I.free (by simp)
 exact I.step (g':=s.gens) (d':=s.drawn) (ch:=[]) (fun _ z=>nomatch z) (fun b o _ hb _ e n=>u.keep b o e n hb (by simp)) (fun b o _ hb _ e n=>u.slot b o e n hb (by simp)) (fun b o _ e n=>u.free b o e n (by simp)) (fun b o _ e=>u.there b o e (by simp)) u.tups u.frzs u.tbls (fun m' hm=>by
  obtain ⟨o',es',ep',ho',r'⟩:=hm;rw [ho] at ho';cases ho';exact ⟨_,es',ep',hL,r'⟩) hok I.bare
theorem Inv.call {g':Array GenState} {t':Nat} {d':Drawn} {ch:List Ac} (I:Inv X pins σ H s) (u:Un (frs X.stack) ch H H' s.heap h') (hok:HOk X.prog X.w H' h') (hg:AllBare g')
  (hch:∀ b∈ch,(b∈X.ex∨X.s₀.heap.objs.size≤b)∧b≠X.env.locals∧(∀ x c,X.env.cells.lookup x=some c→c≠b)∧∀ p∈X.pn++pins,p.1≠b):
  Inv X pins σ H' {s with heap:=h',gens:=g',drawn:=d',toks:=t'}:=by
 obtain ⟨m,⟨o,es,ep,ho,r⟩,_⟩:=id I.loc;obtain ⟨sl,hL⟩:=u.any ho I.free fun z=>(hch _ z).2.1 rfl;exact I.step (ch:=ch) hch (fun b o hL hb hc e n=>u.keep b o e n (fun z=>(Av.mp (I.stkSub b z)).elim hL hb) hc) (fun b o _ _ hc e n=>u.any e n hc) (fun b o hc e n=>u.free b o e n hc) (fun b o hc e=>u.there b o e hc) u.tups u.frzs u.tbls (fun m' hm=>by
  obtain ⟨o',es',ep',ho',r'⟩:=hm;rw [ho] at ho';cases ho';exact ⟨_,es',ep',hL,r'⟩) hok hg
theorem Inv.turned {t':Nat} {it:Ac} (I:Inv X pins σ H s) (k:∀ b o,b≠it→s.heap.get? b=some o→h'.get? b=some o) (hn:H it=none) (hL:it≠X.env.locals)
  (h1:it∈X.ex∨X.s₀.heap.objs.size≤it) (h2:∀ x c,X.env.cells.lookup x=some c→c≠it) (h3:∀ p∈X.pn++pins,p.1≠it):Inv X pins σ H {s with heap:=h',toks:=t'}:=by
 have nit:∀ b u,H b=some u→b≠it:=fun b u e z=>by rw [z,hn] at e;cases e
 refine I.step (g':=s.gens) (d':=s.drawn) (ch:=[it]) (fun b hb=>?_) (fun b o _ _ hc e _=>k b o (fun z=>hc (by simp [z])) e) (fun b o _ _ hc e _=>⟨o.slots,k b o (fun z=>hc (by simp [z])) e⟩) (fun _ _ _ _ n=>n)
  (fun b o hc e=>⟨o,k b o (fun z=>hc (by simp [z])) e⟩) (fun _ _ e=>e) (fun _ _ _ e=>e) (fun b ps e=>⟨#[],by rw [e];simp⟩) (fun m hm=>?_) (fun b u e=>?_) I.bare
 ·have e:b=it:=by simpa using hb
  subst e;exact ⟨h1,hL,h2,h3⟩
 ·obtain ⟨o,es,ep,ho,r⟩:=hm;exact ⟨o,es,ep,k _ o (Ne.symm hL) ho,r⟩
 ·refine (I.hok b u e).stay (fun c v hc q=>k c v ?_ q) (fun _ q=>q) fun _ _ q=>q;rcases hc with z | z
  ·rw [z];exact nit b u e
  ·exact nit c _ z
theorem Inv.tok (I:Inv X pins σ H s) (t:Nat):Inv X pins σ H {s with toks:=t}:=I.un (h':=s.heap) (t':=t) Un.refl I.hok
theorem Inv.kept {t':Nat} (I:Inv X pins σ H s) (k:∀ b u,s.heap.get? b=some u→h'.get? b=some u):Inv X pins σ H {s with heap:=h',toks:=t'}:=I.un (Un.kept k) (I.hok.kept k)
theorem Inv.laid {a:Ac} {o:HO} {t':Nat} (I:Inv X pins σ H s) (k:∀ b u,s.heap.get? b=some u→h'.get? b=some u) (hp:s.heap.objs.size≤a) (new:zo X.prog X.w (upd H a o) h' a o):
  Inv X pins σ (upd H a o) {s with heap:=h',toks:=t'}:=I.un (Un.laid k hp (I.hok.fresh hp)) (I.hok.laid k hp new)
theorem Inv.write {x e:Ac} {o:HO} {t':Nat} (I:Inv X pins σ H s) (mu:Mut (H x)) (he:e=x∨H e=some (.own x)) (k:∀ b u,b≠e→s.heap.get? b=some u→h'.get? b=some u) (heo:∃ u,h'.get? e=some u)
  (new:zo X.prog X.w (upd H x o) h' x o):Inv X pins σ (upd H x o) {s with heap:=h',toks:=t'}:=I.un (Un.write mu he k heo) (I.hok.write mu he k heo new)
theorem Inv.weak {σ':List (Option V)} (I:Inv X pins σ H s) (hl:σ'.length=σ.length) (w:∀ (i:Nat) v,σ'[i]?=some (some v)→σ[i]?=some (some v)):Inv X pins σ' H s:=
 ⟨I.ok,I.os,I.bare,I.base,let ⟨m,hn,hl'⟩:=I.loc;⟨m,hn,fun i x v e1 e2 e3=>hl' i x v e1 (w i v e2) e3⟩,I.cell,I.free,I.freeC,I.pin,I.hok,hl.trans I.len⟩
theorem Inv.pins_of {pins':List (Ac×Obj)} (I:Inv X pins σ H s) (h:∀ p∈pins',s.heap.get? p.1=some p.2∧H p.1=none∧p.1≠X.env.locals∧p.1∉X.fs∧∀ v,p.2.data≠ .cell v):Inv X pins' σ H s:=
 ⟨I.ok,I.os,I.bare,I.base,I.loc,I.cell,I.free,I.freeC,fun p hp=>(Cr.mp hp).elim (fun z=>I.pin p (Bt _ z)) (h p),I.hok,I.len⟩
theorem yC {N:List Str} (hN:N.Nodup) {i j:Nat} {x:Str} (a:N[i]?=some x) (b:N[j]?=some x):i=j:=by
 obtain ⟨h1,e1⟩:=B3.mp a;obtain ⟨h2,e2⟩:=B3.mp b;exact (List.getElem_inj hN).mp (e1.trans e2.symm)
theorem wR {M:Model} {A:Around} {E:Ab→Ae→Prop} {i:Nat} {x:Str} {v:V} {u:Ab} {Q:Unit→Ae→Prop} (I:Inv X pins σ H s) (hN:X.N.Nodup) (hi:X.N[i]?=some x) (hx:Loc X.env.scope x) (r:qK v u)
  (h:∀ s',Inv X pins (σ.set i (some v)) H s'→(∃ a,Heap.SameBut a s.heap s'.heap∧(a=X.env.locals∨X.env.cells.lookup x=some a))→Q () s') (hf:X.fn x=true∨X.env.scope.names.lookup x=some .local:=by first | exact .inl rfl | exact .inr rfl | assumption):wpAny M A (storeName X.env x u) Q E s:=by
 obtain ⟨m,hn,hl⟩:=id I.loc;have hcls:(X.env.scope.kind== .class||(X.env.scope.kind== .module&&X.env.locals !=X.env.globals))=false:=by rw [I.ok.kind];rfl
 have hiσ:i<σ.length:=by rw [I.len];exact (B3.mp hi).1
 have cne:=I.cne;have tracked:∀ {a:Ac} {h':Heap},(∃ o,s.heap.get? a=some o∧H a=none)→Heap.SameBut a s.heap h'→HOk X.prog X.w H h':=fun {a h'} ha hs b ob e=>by
  obtain ⟨_,_,hfree⟩:=ha;refine (I.hok b ob e).stay (fun c w' hc q=>(hs.2 c ?_).trans q) (fun _ q=>q) fun _ _ q=>q;rintro rfl;rcases hc with rfl | hc
  ·rw [hfree] at e;cases e
  ·rw [hfree] at hc;cases hc
 rcases hx with hk | hk
 ·refine wpAny_storeName_local hk hn (fun h' hn' hs=>?_) hcls;obtain ⟨oL,_,_,hoL,_⟩:=id hn;refine h _ ⟨I.ok,I.os,I.bare,⟨fun b o e n hb hx=>?_,fun b o e n hb hx=>?_,I.base.free,fun b o e hx=>?_,I.base.tups,I.base.frzs,I.base.tbls⟩,⟨_,hn',fun j y v' e1 e2 e3=>?_⟩,fun y c e=>?_,I.free,I.freeC,fun p hp=>?_,tracked ⟨oL,hoL,I.free⟩ hs,by simpa using I.len⟩ ⟨_,hs,.inl rfl⟩
  ·exact (hs.2 b (Bf (Ba (Ay e) I.ok.above))).trans (I.base.keep b o e n hb hx)
  ·obtain ⟨sl,e1⟩:=I.base.slot b o e n hb hx;exact ⟨sl,(hs.2 b (Bf (Ba (Ay e) I.ok.above))).trans e1⟩
  ·obtain ⟨o',e1⟩:=I.base.there b o e hx;exact ⟨o',(hs.2 b (Bf (Ba (Ay e) I.ok.above))).trans e1⟩
  ·by_cases hj:j=i
   ·subst hj;rw [hi] at e1;cases e1;rw [List.getElem?_set_self hiσ] at e2;cases e2;exact ⟨u,r,.inl ⟨hk,by simp⟩⟩
   ·rw [Dk (Ne.symm hj)] at e2;obtain ⟨u',r',q⟩:=hl j y v' e1 e2 e3;refine ⟨u',r',?_⟩;rcases q with ⟨k,e⟩ | ⟨k,c,e,z⟩
    ·refine .inl ⟨k,?_⟩;have:y≠x:=fun e=>hj (yC hN e1 (e▸hi));simp [this,e]
    ·exact .inr ⟨k,c,e,z.sameBut hs (cne y c e)⟩
  ·obtain ⟨w',z⟩:=I.cell y c e;exact ⟨w',z.sameBut hs (cne y c e)⟩
  ·obtain ⟨e,n,ne,nf,d⟩:=I.pin p hp;exact ⟨(hs.2 p.1 ne).trans e,n,ne,nf,d⟩
 ·have hfn:X.fn x=true:=by
   rcases hf with z | z
   ·exact z
   ·rw [z] at hk;cases hk
  obtain ⟨c,hc⟩:=I.ok.has x (.inl hk);obtain ⟨w',z⟩:=I.cell x c hc;refine wpAny_storeName_cell I.ok.kind hk hc z (fun h' hc' hs=>?_);obtain ⟨oc,hoc,hocd⟩:=id z;refine h {s with heap:=h'} ⟨I.ok,I.os,I.bare,⟨fun b o e n hb hx=>?_,fun b o e n hb hx=>?_,I.base.free,fun b o e hx=>?_,I.base.tups,I.base.frzs,I.base.tbls⟩,⟨m,hn.sameBut hs (Ne.symm (cne x c hc)),fun j y v' e1 e2 e3=>?_⟩,fun y c' e=>?_,I.free,I.freeC,fun p hp=>?_,tracked ⟨oc,hoc,I.freeC x c hc⟩ hs,by simpa using I.len⟩ ⟨c,hs,.inr hc⟩
  ·exact (hs.2 b (Bf (Ba (Ay e) (I.ok.cab x c hfn hc)))).trans (I.base.keep b o e n hb hx)
  ·obtain ⟨sl,e1⟩:=I.base.slot b o e n hb hx;exact ⟨sl,(hs.2 b (Bf (Ba (Ay e) (I.ok.cab x c hfn hc)))).trans e1⟩
  ·obtain ⟨o',e1⟩:=I.base.there b o e hx;exact ⟨o',(hs.2 b (Bf (Ba (Ay e) (I.ok.cab x c hfn hc)))).trans e1⟩
  ·by_cases hj:j=i
   ·subst hj;rw [hi] at e1;cases e1;rw [List.getElem?_set_self hiσ] at e2;cases e2;exact ⟨u,r,.inr ⟨.inl hk,c,hc,hc'⟩⟩
   ·rw [Dk (Ne.symm hj)] at e2;obtain ⟨u',r',q⟩:=hl j y v' e1 e2 e3;refine ⟨u',r',?_⟩;rcases q with q | ⟨k,c',e,z'⟩
    ·exact .inl q
    ·refine .inr ⟨k,c',e,z'.sameBut hs ?_⟩;rintro rfl;exact hj (yC hN e1 (I.ok.inj _ _ _ e hc▸hi))
  ·by_cases hcc:c'=c
   ·subst hcc;exact ⟨_,hc'⟩
   ·obtain ⟨w2,z2⟩:=I.cell y c' e;exact ⟨w2,z2.sameBut hs hcc⟩
  ·obtain ⟨e,n,ne,nf,d⟩:=I.pin p hp;refine ⟨(hs.2 p.1 ?_).trans e,n,ne,nf,d⟩;intro q;rw [q,hoc] at e;have q':oc=p.2:=Bj e;exact d w' (by rw [← q'];exact hocd)
theorem vT {M:Model} {A:Around} {E:Ab→Ae→Prop} {i:Nat} {x:Str} {v:V} {u:Ab} {Q:Unit→Ae→Prop} (I:Inv X pins σ H s) (hN:X.N.Nodup) (hi:X.N[i]?=some x) (hx:Loc X.env.scope x) (r:qK v u)
  (h:∀ s',Inv X pins (σ.set i (some v)) H s'→Q () s') (hf:X.fn x=true∨X.env.scope.names.lookup x=some .local:=by first | exact .inl rfl | exact .inr rfl | assumption):wpAny M A (storeName X.env x u) Q E s:=
 wR I hN hi hx r (fun s' I' _=>h s' I') hf
theorem Inv.call' {s':Ae} {ch:List Ac} (I:Inv X pins σ H s) (ho:s'.os=s.os) (u:Un (frs X.stack) ch H H' s.heap s'.heap) (hok:HOk X.prog X.w H' s'.heap) (hg:AllBare s'.gens)
  (hch:∀ b∈ch,(b∈X.ex∨X.s₀.heap.objs.size≤b)∧b≠X.env.locals∧(∀ x c,X.env.cells.lookup x=some c→c≠b)∧∀ p∈X.pn++pins,p.1≠b):Inv X pins σ H' s':=by
 obtain ⟨h',g',d',t',o'⟩:=s';have e:o'=s.os:=ho;subst e;exact I.call (g':=g') (t':=t') (d':=d') u hok hg hch
end
abbrev XK:=Ab→Option Ac→Hp→Prop
abbrev St:=List (Option V)
abbrev VK:=V→Hp→Prop
abbrev TE:=St→Hp→VK→Prop
abbrev TT:=St→Hp→(Bool→Hp→Prop)→Prop
abbrev TA:=St→Hp→(List V→Hp→Prop)→Prop
structure Ends where
 nx:St→Hp→Prop
 rt:VK
 bk:St→Hp→Prop:=fun _ _=>False
 ct:St→Hp→Prop:=fun _ _=>False
abbrev TS:=Ends→St→Hp→Prop
def EP (X:Cx) (pins:List (Ac×Obj)) (σ:St) (Q:VK) (u:Ab) (s':Ae):Prop:=∃ v H',Inv X pins σ H' s'∧qK v u∧Q v H'
def TP (X:Cx) (pins:List (Ac×Obj)) (σ:St) (Q:Bool→Hp→Prop) (b:Bool) (s':Ae):Prop:=∃ H',Inv X pins σ H' s'∧Q b H'
def AP (X:Cx) (pins:List (Ac×Obj)) (σ:St) (Q:List V→Hp→Prop) (us:List Ab) (s':Ae):Prop:=∃ vs H',Inv X pins σ H' s'∧qL vs us∧Q vs H'
def SP (X:Cx) (pins:List (Ac×Obj)) (D:Ends) (f:Flow) (s':Ae):Prop:=
 match f with
 | .next=>∃ σ' H',Inv X pins σ' H' s'∧D.nx σ' H'
 | .brk=>∃ σ' H',Inv X pins σ' H' s'∧D.bk σ' H'
 | .cont=>∃ σ' H',Inv X pins σ' H' s'∧D.ct σ' H'
 | .ret u=>∃ v σ' H',Inv X pins σ' H' s'∧qK v u∧D.rt v H'
def PE (X:Cx) (e:Expr) (t:TE):Prop:=
 ∀ (pins:List (Ac×Obj)) (s:Ae) (σ:St) (H:Hp) (Q:VK),Inv X pins σ H s→t σ H Q→wpAny (model X.prog X.w) X.A (eval e X.env) (EP X pins σ Q) X.xe s
def PT (X:Cx) (e:Expr) (t:TT):Prop:=
 ∀ (pins:List (Ac×Obj)) (s:Ae) (σ:St) (H:Hp) (Q:Bool→Hp→Prop),Inv X pins σ H s→t σ H Q→wpAny (model X.prog X.w) X.A (isTrue e X.env (eval e X.env)) (TP X pins σ Q) X.xe s
def PW (X:Cx) (e:Expr) (t:TT):Prop:=
 ∀ (whole:Sem Ab) (pins:List (Ac×Obj)) (s:Ae) (σ:St) (H:Hp) (Q:Bool→Hp→Prop),Inv X pins σ H s→t σ H Q→wpAny (model X.prog X.w) X.A (isTrue e X.env whole) (TP X pins σ Q) X.xe s
theorem PW.pt {X:Cx} {e:Expr} {t:TT} (h:PW X e t):PT X e t:=h _
def PA (X:Cx) (es:List Expr) (t:TA):Prop:=
 ∀ (pos:Pos) (pins:List (Ac×Obj)) (s:Ae) (σ:St) (H:Hp) (Q:List V→Hp→Prop),Inv X pins σ H s→t σ H Q→wpAny (model X.prog X.w) X.A (spliced (backTo pos (starEach es X.env))) (AP X pins σ Q) X.xe s
def PS (X:Cx) (st:Stmt) (t:TS):Prop:=
 ∀ (pins:List (Ac×Obj)) (s:Ae) (σ:St) (H:Hp) (D:Ends),Inv X pins σ H s→t D σ H→wpAny (model X.prog X.w) X.A (exec st X.env) (SP X pins D) X.xe s
def PSs (X:Cx) (st:List Stmt) (t:TS):Prop:=
 ∀ (pins:List (Ac×Obj)) (s:Ae) (σ:St) (H:Hp) (D:Ends),Inv X pins σ H s→t D σ H→wpAny (model X.prog X.w) X.A (execs st X.env) (SP X pins D) X.xe s
theorem thn {α:Type} {t:Sem α} {Q Q':α→Ae→Prop} {M:Model} {A:Around} {E:Ab→Ae→Prop} {s:Ae} (h:wpAny M A t Q E s) (hQ:∀ a s,Q a s→Q' a s):wpAny M A t Q' E s:=C0 h hQ fun _ _ x=>x
section
variable {X:Cx}
def qG (i:Nat):TE:=fun σ H Q=>∃ v,σ[i]?=some (some v)∧Q v H
def tC (v:V):TE:=fun _ H Q=>Q v H
theorem qcc {i:Nat} {x:Str} {pos:Pos} (hN:X.N[i]?=some x) (hv:Vis X.env.scope x) (hd:(x==("__debug__":Str))=false:=by decide) (hcd:(x==("__classdict__":Str))=false:=by decide):PE X (.Name x pos) (qG i):=by
 intro pins s σ H Q I h;obtain ⟨v,e,h⟩:=h;obtain ⟨m,hn,hl⟩:=I.loc;obtain ⟨u,r,l⟩:=hl i x v hN e hv;have fin:EP X pins σ Q u s:=⟨v,H,I,r,h⟩;rcases l with ⟨hk,hm⟩ | ⟨hk,c,hc,hcell⟩
 ·exact wpAny_Name (wpAny_loadName_local I.ok.kind hk hn hm fin) hd
 ·rcases hk with hk | hk
  ·exact wpAny_Name (wpAny_loadName_cell I.ok.kind hk hc hcell fin) hd
  ·exact wpAny_Name (wpAny_loadName_free I.ok.kind hk hc hcell fin hcd) hd
theorem qf {i j pos}:PE X (.Constant (.int i) j pos) (tC (.int i)):=fun _ _ _ H _ I h=>wpAny_Constant_int ⟨.int i,H,I.tok _,⟨_,rfl⟩,h⟩
theorem zr {b j pos}:PE X (.Constant (.bool b) j pos) (tC (.bl b)):=fun _ _ _ H _ I h=>Constant_bool ⟨.bl b,H,I,rfl,h⟩
theorem zY {j pos}:PE X (.Constant .none j pos) (tC .non):=fun _ _ _ H _ I h=>Constant_none ⟨.non,H,I,rfl,h⟩
theorem qh {x j pos}:PE X (.Constant (.str x) j pos) (tC (.str x)):=fun _ _ _ H _ I h=>Calls.Constant_str ⟨.str x,H,I.tok _,⟨_,rfl⟩,h⟩
def Gl (X:Cx) (x:Str):Prop:=X.env.kindOf x=some .globalImplicit
theorem JN {E:Ab→Ae→Prop} {pins:List (Ac×Obj)} {s:Ae} {σ:St} {H:Hp} {x:Str} {u:Ab} {pos:Pos} {Q:Ab→Ae→Prop} (I:Inv X pins σ H s) (hg:Gl X x) (hm:X.mg x=some u) (h:Q u s)
  (hd:(x==("__debug__":Str))=false:=by decide):wpAny (model X.prog X.w) X.A (eval (.Name x pos) X.env) Q E s:=
 Calls.Name_function_global I.ok.kind hg (Calls.loadGlobal_global (by rw [I.ok.glob];exact I.mod.glob.keeps I.bk) hm h) hd
theorem Vv {E:Ab→Ae→Prop} {pins:List (Ac×Obj)} {s:Ae} {σ:St} {H:Hp} {x:Str} {u:Ab} {pos:Pos} {Q:Ab→Ae→Prop} (I:Inv X pins σ H s) (hg:Gl X x) (hm:X.mg x=none) (hv:bootBuiltins x=some u) (h:Q u s)
  (hn:x≠"__name__":=by decide) (hd:(x==("__debug__":Str))=false:=by decide):wpAny (model X.prog X.w) X.A (eval (.Name x pos) X.env) Q E s:=by
 obtain ⟨mb,h1,h2⟩:=I.mod.blt;exact Calls.Name_function_global I.ok.kind hg (Calls.loadGlobal_builtin (by rw [I.ok.glob];exact I.mod.glob.keeps I.bk) hm (by rw [I.ok.blt];exact h1.keeps I.bk) ((h2 x hn).trans hv) h) hd
theorem YY {x:Str} {v:V} {u:Ab} {pos:Pos} (hg:Gl X x) (hm:X.mg x=some u) (r:qK v u) (hd:(x==("__debug__":Str))=false:=by decide):PE X (.Name x pos) (tC v):=
 fun _ _ _ H _ I h=>JN I hg hm ⟨v,H,I,r,h⟩ hd
theorem Q7 {x:Str} {v:V} {u:Ab} {pos:Pos} (hg:Gl X x) (hm:X.mg x=none) (hv:bootBuiltins x=some u) (r:qK v u) (hn:x≠"__name__":=by decide) (hd:(x==("__debug__":Str))=false:=by decide):PE X (.Name x pos) (tC v):=
 fun _ _ _ H _ I h=>Vv I hg hm hv ⟨v,H,I,r,h⟩ hn hd
variable {a b:Expr} {ta tb:TE} {pos:Pos}
def tB (t:TE):TT:=fun σ H Q=>t σ H fun x H1=>∃ c,x= .bl c∧Q c H1
theorem zh {e:Expr} {t:TE} (h:PE X e t) (he:∀ whole,isTrue e X.env whole=(do let v ← whole;standAt e.pos;holding [v] (truthy v)):=by intro _;rfl):PT X e (tB t):=by
 intro pins s σ H Q I hw;refine isTrue_plain (thn (h pins s σ H _ I hw) fun v s1 ⟨x,H1,I1,r1,q1⟩=>?_) (he _);obtain ⟨d,rfl,q⟩:=q1;cases r1;exact B0 ⟨H1,I1,q⟩
variable {tA tB':TT} {rest:List Expr}
def qdw (t u:TT):TT:=fun σ H Q=>t σ H fun c H1=>if c=true then u σ H1 Q else Q false H1
def tOr (t u:TT):TT:=fun σ H Q=>t σ H fun c H1=>if c=true then Q true H1 else u σ H1 Q
def qbo (t:TT):TT:=fun σ H Q=>t σ H fun c H1=>Q (!c) H1
theorem jJ (ha:PT X a tA):PW X (.BoolOp .And [a] pos) tA:=by
 intro wh pins s σ H Q I h;refine isTrue_and (thn (ha pins s σ H Q I h) fun c s1 e=>?_);cases c with
 | true=>exact isTrue_and_nil e
 | false=>exact e
theorem jt (ha:PT X a tA):PW X (.BoolOp .Or [a] pos) tA:=by
 intro wh pins s σ H Q I h;refine isTrue_or (thn (ha pins s σ H Q I h) fun c s1 e=>?_);cases c with
 | false=>exact isTrue_or_nil e
 | true=>exact e
theorem Jx (ha:PT X a tA) (hb:PW X (.BoolOp .And (b::rest) pos) tB'):PW X (.BoolOp .And (a::b::rest) pos) (qdw tA tB'):=by
 intro wh pins s σ H Q I h;refine isTrue_and (thn (ha pins s σ H _ I h) fun c s1 ⟨H1,I1,q1⟩=>?_);cases c with
 | true=>exact hb wh pins s1 σ H1 Q I1 q1
 | false=>exact ⟨H1,I1,q1⟩
theorem jd (ha:PT X a tA) (hb:PW X (.BoolOp .Or (b::rest) pos) tB'):PW X (.BoolOp .Or (a::b::rest) pos) (tOr tA tB'):=by
 intro wh pins s σ H Q I h;refine isTrue_or (thn (ha pins s σ H _ I h) fun c s1 ⟨H1,I1,q1⟩=>?_);cases c with
 | true=>exact ⟨H1,I1,q1⟩
 | false=>exact hb wh pins s1 σ H1 Q I1 q1
theorem zI (ha:PT X a tA):PT X (.UnaryOp .Not a pos) (qbo tA):=by
 intro pins s σ H Q I h;exact isTrue_not (ha pins s σ H (fun c H1=>Q (!c) H1) I h)
def qdv (ta tb:TE):TE:=fun σ H Q=>ta σ H fun x H1=>∃ c,x= .bl c∧if c=true then tb σ H1 Q else Q (.bl false) H1
def tOrV (ta tb:TE):TE:=fun σ H Q=>ta σ H fun x H1=>∃ c,x= .bl c∧if c=true then Q (.bl true) H1 else tb σ H1 Q
def qdq (ta:TE):TE:=fun σ H Q=>ta σ H fun x H1=>∃ c,x= .bl c∧Q (.bl (!c)) H1
theorem Jd {op} {t:TE} (h:PE X a t):PE X (.BoolOp op [a] pos) t:=fun pins s σ H Q I hw=>BoolOp_one (h pins s σ H Q I hw)
theorem jF (ha:PE X a ta) (hb:PE X (.BoolOp .And (b::rest) pos) tb):PE X (.BoolOp .And (a::b::rest) pos) (qdv ta tb):=by
 intro pins s σ H Q I h;refine BoolOp_and (thn (ha pins s σ H _ I h) fun v s1 ⟨x,H1,I1,r1,q1⟩=>?_);obtain ⟨c,rfl,q1⟩:=q1;cases r1;refine B0 ?_;cases c with
 | true=>exact hb pins s1 σ H1 Q I1 q1
 | false=>exact ⟨.bl false,H1,I1,rfl,q1⟩
theorem qbb (ha:PE X a ta) (hb:PE X (.BoolOp .Or (b::rest) pos) tb):PE X (.BoolOp .Or (a::b::rest) pos) (tOrV ta tb):=by
 intro pins s σ H Q I h;refine BoolOp_or (thn (ha pins s σ H _ I h) fun v s1 ⟨x,H1,I1,r1,q1⟩=>?_);obtain ⟨c,rfl,q1⟩:=q1;cases r1;refine B0 ?_;cases c with
 | false=>exact hb pins s1 σ H1 Q I1 q1
 | true=>exact ⟨.bl true,H1,I1,rfl,q1⟩
theorem Z1 (ha:PE X a ta):PE X (.UnaryOp .Not a pos) (qdq ta):=by
 intro pins s σ H Q I h;refine UnaryOp_ (thn (ha pins s σ H _ I h) fun v s1 ⟨x,H1,I1,r1,q1⟩=>?_);obtain ⟨c,rfl,q1⟩:=q1;cases r1;exact not_of (B0 ⟨.bl (!c),H1,I1,rfl,q1⟩)
def tIf (t:TT) (ta tb:TE):TE:=fun σ H Q=>t σ H fun c H1=>if c=true then ta σ H1 Q else tb σ H1 Q
theorem Je {c:Expr} (hc:PT X c tA) (ha:PE X a ta) (hb:PE X b tb):PE X (.IfExp c a b pos) (tIf tA ta tb):=by
 intro pins s σ H Q I h;refine wpAny_IfExp (thn (hc pins s σ H _ I h) fun d s1 ⟨H1,I1,q1⟩=>?_);cases d with
 | true=>exact ha pins s1 σ H1 Q I1 q1
 | false=>exact hb pins s1 σ H1 Q I1 q1
end
def SqL (K:Frag) (H:Hp) (a:Ac) (xs:List V):Prop:=
 Rd H a (.lst xs)∨
  ∃ (o:Obj) (its:Array Ab) (n:Nat),K.lookup a=some o∧o.cls= .type "list"∧o.dict=none∧o.data= .seq its n∧its.size≤Af∧qL xs its.toList
def SqT (K:Frag) (H:Hp) (a:Ac) (xs:List V):Prop:=
 Rd H a (.tup xs)∨
  ∃ (o:Obj) (its:Array Ab) (n:Nat),K.lookup a=some o∧o.cls= .type "tuple"∧o.data= .seq its n∧its.size≤Af∧qL xs its.toList
def absV:Ab→Option V
 | .none=>some .non
 | .bool b=>some (.bl b)
 | .int i _=>some (.int i)
 | .str x _=>some (.str x)
 | .bytes b _=>some (.byt b)
 | .float b _=>some (.flt b)
 | .ref a=>some (.ref a)
 | .type n=>some (.ty n)
 | _=>none
theorem qK.abs {x:V} {u:Ab} (r:qK x u):absV u=some x:=by
 cases x with
 | non=>cases r;rfl
 | bl _=>cases r;rfl
 | int _=>obtain ⟨t,rfl⟩:=r;rfl
 | str _=>obtain ⟨t,rfl⟩:=r;rfl
 | byt _=>obtain ⟨t,rfl⟩:=r;rfl
 | flt _=>obtain ⟨t,rfl⟩:=r;rfl
 | ref _=>cases r;rfl
 | ty _=>cases r;rfl
theorem qK.inj {x y:V} {u:Ab} (r:qK x u) (q:qK y u):x=y:=Bj (r.abs.symm.trans q.abs)
theorem qL.inj:∀ {xs ys:List V} {us:List Ab},qL xs us→qL ys us→xs=ys
 | _,_,_,.nil,.nil=>rfl
 | _,_,_,.cons r t,.cons r' t'=>by rw [r.inj r',qL.inj t t']
section
variable {X:Cx} {pins:List (Ac×Obj)} {σ:St} {H:Hp} {s:Ae} {a:Ac} {xs ys:List V}
theorem SqL.of {K:Frag} (h:H a=some (.lst xs)):SqL K H a xs:= .inl (.inl h)
theorem SqT.of {K:Frag} (h:H a=some (.tup xs)):SqT K H a xs:= .inl (.inl h)
theorem Inv.list (I:Inv X pins σ H s) (h:SqL X.K H a xs):∃ its:List Ab,qL xs its∧PlainL s.heap a its.toArray∧xs.length≤Af:=by
 rcases h with h | ⟨o,its,n,hk,hc,hd,hs,hz,r⟩
 ·obtain ⟨z,its,n,r,e⟩:=h.ok I.hok;exact ⟨its,r,⟨_,n,e,rfl,rfl,rfl⟩,z⟩
 ·refine ⟨its.toList,r,⟨o,n,I.kIn a o hk,hc,hd,by simpa using hs⟩,?_⟩
  have e:=r.length;simp only [Array.length_toList] at e;omega
theorem Inv.tuple (I:Inv X pins σ H s) (h:SqT X.K H a xs):∃ its:List Ab,qL xs its∧IsTup s.heap a its.toArray∧xs.length≤Af:=by
 rcases h with h | ⟨o,its,n,hk,hc,hs,hz,r⟩
 ·obtain ⟨z,its,r,p⟩:=h.ok I.hok;exact ⟨its,r,p,z⟩
 ·refine ⟨its.toList,r,⟨o,I.kIn a o hk,hc,n,by simpa using hs⟩,?_⟩
  have e:=r.length;simp only [Array.length_toList] at e;omega
theorem Inv.list_inj (I:Inv X pins σ H s) (h:SqL X.K H a xs) (h':SqL X.K H a ys):xs=ys:=by
 obtain ⟨its,r,⟨o,n,e,_,_,d⟩,_⟩:=I.list h;obtain ⟨its',r',⟨o',n',e',_,_,d'⟩,_⟩:=I.list h';rw [e] at e';cases e';rw [d] at d';injection d' with d1 _
 have:its=its':=by simpa using congrArg Array.toList d1
 subst this;exact r.inj r'
theorem Inv.tuple_inj (I:Inv X pins σ H s) (h:SqT X.K H a xs) (h':SqT X.K H a ys):xs=ys:=by
 obtain ⟨its,r,⟨o,e,_,n,d⟩,_⟩:=I.tuple h;obtain ⟨its',r',⟨o',e',_,n',d'⟩,_⟩:=I.tuple h';rw [e] at e';cases e';rw [d] at d';injection d' with d1 _
 have:its=its':=by simpa using congrArg Array.toList d1
 subst this;exact r.inj r'
end
abbrev Cx.wish (X:Cx) (E:Ab→Ae→Prop):Cx:={X with xe:=E}
abbrev Cx.nox (X:Cx):Cx:=X.wish fun _ _=>False
theorem Cx.Ok.wish {X:Cx} (ok:X.Ok) (E:Ab→Ae→Prop):(X.wish E).Ok:=
 ⟨ok.mod,ok.kind,ok.glob,ok.blt,ok.above,ok.inj,ok.has,ok.cab,ok.hd,ok.frames,ok.stk,ok.exf,ok.bs,ok.bsz,ok.noex,ok.exfs,ok.funs,ok.frf⟩
theorem Cx.Ok.unwish {X:Cx} {E:Ab→Ae→Prop} (ok:(X.wish E).Ok):X.Ok:=
 ⟨ok.mod,ok.kind,ok.glob,ok.blt,ok.above,ok.inj,ok.has,ok.cab,ok.hd,ok.frames,ok.stk,ok.exf,ok.bs,ok.bsz,ok.noex,ok.exfs,ok.funs,ok.frf⟩
section
variable {X:Cx} {pins:List (Ac×Obj)} {σ:St} {H:Hp} {s:Ae} {E:Ab→Ae→Prop}
theorem Inv.wish (I:Inv X pins σ H s) (E:Ab→Ae→Prop):Inv (X.wish E) pins σ H s:=⟨I.ok.wish E,I.os,I.bare,I.base,I.loc,I.cell,I.free,I.freeC,I.pin,I.hok,I.len⟩
theorem Inv.unwish (I:Inv (X.wish E) pins σ H s):Inv X pins σ H s:=⟨I.ok.unwish,I.os,I.bare,I.base,I.loc,I.cell,I.free,I.freeC,I.pin,I.hok,I.len⟩
theorem SP.unwish {D:Ends} {f:Flow} {s':Ae} (h:SP (X.wish E) pins D f s'):SP X pins D f s':=by
 cases f with
 | next=>obtain ⟨σ',H',I,q⟩:=h;exact ⟨σ',H',I.unwish,q⟩
 | brk=>obtain ⟨σ',H',I,q⟩:=h;exact ⟨σ',H',I.unwish,q⟩
 | cont=>obtain ⟨σ',H',I,q⟩:=h;exact ⟨σ',H',I.unwish,q⟩
 | ret u=>obtain ⟨v,σ',H',I,r,q⟩:=h;exact ⟨v,σ',H',I.unwish,r,q⟩
theorem PSs.nox {st:List Stmt} {t:TS} (h:PSs X.nox st t):PSs X st t:=fun pins s σ H D I hw=>
 C0 (h pins s σ H D (I.wish _) hw) (fun _ _ q=>q.unwish) fun _ _ z=>False.elim z
end
section
variable {X:Cx} {st:Stmt} {rest:List Stmt} {t u:TS} {e:Expr} {te:TE} {pos:Pos}
def JR:TS:=fun D σ H=>D.nx σ H
def jA (t u:TS):TS:=fun D σ H=>t {D with nx:=u D} σ H
theorem qy:PSs X [] JR:=fun _ _ σ H _ I h=>wpAny_execs_nil ⟨σ,H,I,h⟩
theorem qg (h1:PS X st t) (h2:PSs X rest u):PSs X (st::rest) (jA t u):=by
 intro pins s σ H D I h;refine wpAny_execs_cons (thn (h1 pins s σ H {D with nx:=u D} I h) fun f s1 q=>?_)
 cases f with
 | next=>
  obtain ⟨σ',H',I',q⟩:=q;exact h2 pins s1 σ' H' D I' q
 | ret v=>exact q
 | brk=>exact q
 | cont=>exact q
theorem ql (h1:PS X st t):PSs X [st] t:=by
 intro pins s σ H D I h;refine wpAny_execs_cons (thn (h1 pins s σ H D I h) fun f s1 q=>?_);cases f with
 | next=>exact wpAny_execs_nil q
 | ret v=>exact q
 | brk=>exact q
 | cont=>exact q
theorem Inv.quiet {pins:List (Ac×Obj)} {σ:St} {H:Hp} {s:Ae} (I:Inv X pins σ H s):interactive X.env=false:=by simp [interactive,I.ok.kind]
def YK (te:TE):TS:=fun D σ H=>te σ H fun _ H1=>D.nx σ H1
theorem zJ (he:PE X e te) (hs:swapsWith e none pos.line X.env=pure false:=by rfl):PS X (.Expr e pos) (YK te):=by
 intro pins s σ H D I h;exact wpAny_Expr_any (thn (he pins s σ H _ I h) fun v s1 ⟨x,H1,I1,r1,q1⟩=>⟨σ,H1,I1,q1⟩) I.quiet hs
def vS (te:TE):TS:=fun D σ H=>te σ H D.rt
theorem qt (he:PE X e te):PS X (.Return (some e) pos) (vS te):=by
 intro pins s σ H D I h;exact wpAny_Return_some (thn (he pins s σ H _ I h) fun v s1 ⟨x,H1,I1,r1,q1⟩=>⟨x,σ,H1,I1,r1,q1⟩)
def JU (c:TT) (t u:TS):TS:=fun D σ H=>c σ H fun b H1=>if b=true then t D σ H1 else u D σ H1
theorem qE {c:Expr} {a b:List Stmt} {tc:TT} (hc:PT X c tc) (ha:PSs X a t) (hb:PSs X b u):PS X (.If c a b pos) (JU tc t u):=by
 intro pins s σ H D I h;refine wpAny_If (thn (hc pins s σ H _ I h) fun d s1 ⟨H1,I1,q1⟩=>?_);cases d with
 | true=>exact ha pins s1 σ H1 D I1 q1
 | false=>exact hb pins s1 σ H1 D I1 q1
end
abbrev TG:=V→St→Hp→(St→Hp→Prop)→Prop
abbrev TGs:=List V→St→Hp→(St→Hp→Prop)→Prop
def PG (X:Cx) (target:Expr) (t:TG):Prop:=
 ∀ (pins:List (Ac×Obj)) (s:Ae) (σ:St) (H:Hp) (v:V) (u:Ab) (Q:St→Hp→Prop),Inv X pins σ H s→qK v u→t v σ H Q→
  wpAny (model X.prog X.w) X.A (assign target X.env u) (fun _ s'=>∃ σ' H',Inv X pins σ' H' s'∧Q σ' H') X.xe s
def PGs (X:Cx) (ts:List Expr) (t:TGs):Prop:=
 ∀ (pins:List (Ac×Obj)) (s:Ae) (σ:St) (H:Hp) (vs:List V) (us:List Ab) (Q:St→Hp→Prop),Inv X pins σ H s→qL vs us→t vs σ H Q→
  wpAny (model X.prog X.w) X.A (assignInOrder ((assignEach ts X.env).map (·.2)) us) (fun _ s'=>∃ σ' H',Inv X pins σ' H' s'∧Q σ' H') X.xe s
abbrev qdk:=V→V→V→Hp→(Hp→Prop)→Prop
def qfb (X:Cx) (t:qdk):Prop:=
 ∀ (pins:List (Ac×Obj)) (s:Ae) (σ:St) (H:Hp) (o i v:V) (ov iv u:Ab) (Q:Hp→Prop),Inv X pins σ H s→qK o ov→qK i iv→qK v u→t o i v H Q→
  wpAny (model X.prog X.w) X.A (setItem ov iv u) (fun _ s'=>∃ H',Inv X pins σ H' s'∧Q H') X.xe s
abbrev TIp:=V→V→Hp→VK→Prop
def PIp (X:Cx) (op:Operator) (t:TIp):Prop:=
 ∀ (pins:List (Ac×Obj)) (s:Ae) (σ:St) (H:Hp) (x y:V) (v u:Ab) (Q:VK),Inv X pins σ H s→qK x v→qK y u→t x y H Q→
  wpAny (model X.prog X.w) X.A (inplaceOp op v u) (EP X pins σ Q) X.xe s
section
variable {X:Cx} {pos:Pos}
def zC (i:Nat):TG:=fun v σ H Q=>Q (σ.set i (some v)) H
theorem zb {i:Nat} {x:Str} (hN:X.N.Nodup) (hi:X.N[i]?=some x) (hx:Loc X.env.scope x) (hf:X.fn x=true∨X.env.scope.names.lookup x=some .local:=by first | exact .inl rfl | exact .inr rfl | assumption):PG X (.Name x pos) (zC i):=by
 intro pins s σ H v u Q I r h;exact wpAny_assign_Name (vT I hN hi hx r (fun s' I'=>⟨_,H,I',h⟩) hf)
def qc7:TGs:=fun vs σ H Q=>vs=[]∧Q σ H
def yS (t:TG) (u:TGs):TGs:=fun vs σ H Q=>∃ v r,vs=v::r∧t v σ H fun σ' H'=>u r σ' H' Q
theorem V3:PGs X [] qc7:=by
 intro pins s σ H vs us Q I r h;obtain ⟨e,h⟩:=h;subst e;cases r;exact assignInOrder_nil ⟨σ,H,I,h⟩
theorem ju {e:Expr} {es:List Expr} {t:TG} {u:TGs} (h1:PG X e t) (h2:PGs X es u)
  (hs:(assignEach (e::es) X.env).map (·.2)=assign e X.env::(assignEach es X.env).map (·.2):=by rfl):PGs X (e::es) (yS t u):=by
 intro pins s σ H vs us Q I r h;obtain ⟨v,vr,e1,h⟩:=h;subst e1;cases r with
 | cons r rr=>
  rw [hs];refine assignInOrder_cons (thn (h1 pins s σ H _ _ _ I r h) fun _ s1 ⟨σ1,H1,I1,q1⟩=>?_);exact h2 pins s1 σ1 H1 _ _ Q I1 rr q1
def qaq (K:Frag) (n:Nat) (t:TGs):TG:=fun v σ H Q=>∃ a xs,v= .ref a∧SqT K H a xs∧xs.length=n∧t xs σ H Q
theorem qb9 {es:List Expr} {k:Nat} {t:TGs} {n:Nat} (hc:X.calm=true) (h:PGs X es t)
  (hn:(assignEach es X.env).length=n:=by rfl) (hst:(assignEach es X.env).findIdx? (·.1)=none:=by rfl):PG X (.Tuple es k pos) (qaq X.K n t):=by
 intro pins s σ H v u Q I r hw;obtain ⟨a,xs,e1,hq,hl,hw⟩:=hw;subst e1;cases r;obtain ⟨its,rv,ht,hz⟩:=I.tuple hq;refine assign_Tuple_tuple (I.ok.hd hc) ht (by simp [hn,← hl,rv.length]) hst fun h' hx=>?_
 have I1:Inv X pins σ H {s with heap:=h'}:=I.kept (t':=s.toks) fun b o e=>hx b o (Bf (Ay e)) e
 exact h pins _ σ H xs _ Q I1 (by simpa using rv) hw
def gSub (to ti:TE) (t:qdk):TG:=fun v σ H Q=>to σ H fun o H1=>ti σ H1 fun i H2=>t o i v H2 fun H3=>Q σ H3
theorem qca {o i:Expr} {to ti:TE} {t:qdk} (ho:PE X o to) (hi:PE X i ti) (hs:qfb X t)
  (ha:∀ v,assign (.Subscript o i pos) X.env v=(do
   let ov ← holding [v] (eval o X.env)
   let iv ← holding [v,ov] (eval i X.env)
   standAt pos
   holding [v,ov,iv] (setItem ov iv v)
   release [v,ov,iv] []):=by intro _;rfl):PG X (.Subscript o i pos) (gSub to ti t):=by
 intro pins s σ H v u Q I r h;rw [ha];refine Ah (B7 (thn (ho pins s σ H _ I h) fun ov s1 ⟨x,H1,I1,r1,q1⟩=>?_));refine Ah (B7 (thn (hi pins s1 σ H1 _ I1 q1) fun iv s2 ⟨y,H2,I2,r2,q2⟩=>?_));refine Ah (wpAny_standAt (Ah (B7 (thn (hs pins s2 σ H2 x y v ov iv u _ I2 r1 r2 r q2) fun _ s3 ⟨H3,I3,q3⟩=>?_))));exact wpAny_release ⟨σ,H3,I3,q3⟩
def vD (te:TE) (g:TG):TS:=fun D σ H=>te σ H fun x H1=>g x σ H1 D.nx
theorem qb6 {tg e:Expr} {te:TE} {g:TG} (he:PE X e te) (hg:PG X tg g) (hs:swapsWithSole [tg] e pos.line X.env=pure false:=by rfl) (hw:swappedStores [tg] e X.env=pure none:=by rfl)
  (h1:(assignEach [tg] X.env).map (·.2)=[assign tg X.env]:=by rfl):PS X (.Assign [tg] e pos) (vD te g):=by
 intro pins s σ H D I h;refine wpAny_Assign_stores (thn (he pins s σ H _ I h) fun v s1 ⟨x,H1,I1,r1,q1⟩=>?_) hs hw;rw [h1];exact thn (hg pins s1 σ H1 x v _ I1 r1 q1) fun _ s2 q=>q
theorem qb5 {i:Nat} {x:Str} {e:Expr} {te:TE} {pos':Pos} (hN:X.N.Nodup) (hi:X.N[i]?=some x) (hx:Loc X.env.scope x) (he:PE X e te) (hs:swapsWith e (some (.Name x pos')) pos.line X.env=pure false:=by rfl) (hf:X.fn x=true∨X.env.scope.names.lookup x=some .local:=by first | exact .inl rfl | exact .inr rfl | assumption):
  PS X (.Assign [.Name x pos'] e pos) (vD te (zC i)):=by
 intro pins s σ H D I h;refine wpAny_Assign_Name (thn (he pins s σ H _ I h) fun v s1 ⟨y,H1,I1,r1,q1⟩=>?_) hs;exact vT I1 hN hi hx r1 (fun s2 I2=>⟨_,H1,I2,q1⟩) hf
def tAug (i:Nat) (te:TE) (ti:TIp):TS:=fun D σ H=>∃ x,σ[i]?=some (some x)∧te σ H fun y H1=>ti x y H1 fun z H2=>D.nx (σ.set i (some z)) H2
theorem ZY {i:Nat} {x:Str} {e:Expr} {te:TE} {op:Operator} {ti:TIp} {pos':Pos} (hN:X.N.Nodup) (hi:X.N[i]?=some x) (hx:Loc X.env.scope x) (he:PE X e te) (ho:PIp X op ti) (hf:X.fn x=true∨X.env.scope.names.lookup x=some .local:=by first | exact .inl rfl | exact .inr rfl | assumption):
  PS X (.AugAssign (.Name x pos') op e pos) (tAug i te ti):=by
 intro pins s σ H D I h;obtain ⟨v,e1,h⟩:=h;obtain ⟨m,hn,hl⟩:=I.loc;have vis:Vis X.env.scope x:=by rcases hx with k | k;exact .inl k;exact .inr (.inl k)
 obtain ⟨u,r,l⟩:=hl i x v hi e1 vis;refine wpAny_AugAssign_Name ?_;have go:wpAny (model X.prog X.w) X.A (eval e X.env) (fun w s₂=>wpAny (model X.prog X.w) X.A (inplaceOp op u w) (fun r s₃=>wpAny (model X.prog X.w) X.A (storeName X.env x r) (fun _=>SP X pins D .next) X.xe s₃) X.xe s₂) X.xe s:=by
  refine thn (he pins s σ H _ I h) fun w s1 ⟨y,H1,I1,r1,q1⟩=>?_;refine thn (ho pins s1 σ H1 v y u w _ I1 r r1 q1) fun z s2 ⟨zv,H2,I2,r2,q2⟩=>?_;exact vT I2 hN hi hx r2 (fun s3 I3=>⟨_,H2,I3,q2⟩) hf
 rcases l with ⟨hk,hm⟩ | ⟨hk,c,hc,hcell⟩
 ·exact wpAny_loadName_local I.ok.kind hk hn hm go
 ·rcases hk with hk | hk
  ·exact wpAny_loadName_cell I.ok.kind hk hc hcell go
  ·rcases hx with k | k
   ·have:X.env.scope.names.lookup x=some .free:=hk;rw [k] at this;cases this
   ·have:X.env.scope.names.lookup x=some .free:=hk;rw [k] at this;cases this
def ipI (f:Int→Int→Int):TIp:=fun x y H Q=>∃ i j,x= .int i∧y= .int j∧Q (.int (f i j)) H
theorem Qk:PIp X .Add (ipI fun i j=>i+j):=by
 intro pins s σ H x y v u Q I r1 r2 h;obtain ⟨i,j,e1,e2,q⟩:=h;subst e1;subst e2;obtain ⟨t,rfl⟩:=r1;obtain ⟨t',rfl⟩:=r2;exact iadd_int ⟨.int _,H,I.tok _,⟨_,rfl⟩,q⟩
end
section
variable {X:Cx} {pos:Pos}
def qbn (c:TT) (tb:TS):TS:=fun D σ H=>∃ W:Nat→St→Hp→Prop,(∃ m,W m σ H)∧∀ m σ H,W m σ H→
 c σ H fun b H1=>if b=true then ∃ N:St→Hp→Prop,(∀ σ' H',N σ' H'→∃ m',m'<m∧W m' σ' H')∧tb {D with nx:=N,ct:=N,bk:=D.nx} σ H1 else D.nx σ H1
theorem wq {c:Expr} {body:List Stmt} {tc:TT} {tb:TS} (hp:PassesOwn (model X.prog X.w) X.A X.env X.xe) (hc:PT X c tc) (hb:PSs X body tb):PS X (.While c body [] pos) (qbn tc tb):=by
 intro pins s σ H D I h;obtain ⟨W,⟨m0,w0⟩,turn⟩:=h;refine wpAny_While (codeAny_whileLoop (fun n s'=>∃ σ' H',Inv X pins σ' H' s'∧W n σ' H') ?_ m0 ⟨σ,H,I,w0⟩);rintro n s1 ⟨σ1,H1,I1,w1⟩;refine Dh hp (thn (hc pins s1 σ1 H1 _ I1 (turn n σ1 H1 w1)) fun b s2 ⟨H2,I2,q2⟩=>?_);cases b with
 | true=>
  obtain ⟨N,hN,q2⟩:=q2;rw [if_pos rfl];refine Dh hp (thn (hb pins s2 σ1 H2 _ I2 q2) fun f s3 q3=>?_);cases f with
  | next=>
   obtain ⟨σ3,H3,I3,n3⟩:=q3;obtain ⟨m',hm,w3⟩:=hN σ3 H3 n3;exact ⟨m',hm,σ3,H3,I3,w3⟩
  | cont=>
   obtain ⟨σ3,H3,I3,n3⟩:=q3;obtain ⟨m',hm,w3⟩:=hN σ3 H3 n3;exact ⟨m',hm,σ3,H3,I3,w3⟩
  | brk=>exact q3
  | ret v=>exact q3
 | false=>
  rw [if_neg Am];exact wpAny_execs_nil ⟨σ1,H2,I2,q2⟩
end
structure It where
 go:Nat→Hp→Prop
 yld:Nat→Hp→V→Hp→Prop
 stop:Nat→Hp→Prop
def Vj (X:Cx) (pins:List (Ac×Obj)) (H:Hp) (b:Ac):Prop:=
 H b=none∧b≠X.env.locals∧b∉X.fs∧(b∈X.ex∨X.s₀.heap.objs.size≤b)∧(∀ x c,X.env.cells.lookup x=some c→c≠b)∧∀ p∈X.pn++pins,p.1≠b
theorem Inv.fpOk {X:Cx} {pins:List (Ac×Obj)} {σ:St} {H H':Hp} {s:Ae} {b:Ac} (I:Inv X pins σ H s) (hb:s.heap.objs.size≤b) (hn:H' b=none):Vj X pins H' b:=by
 refine ⟨hn,Em (Ba I.lt hb),I.nofs hb,.inr (As I.sz hb),fun x c e z=>?_,fun p hp z=>?_⟩
 ·obtain ⟨v,q⟩:=I.cell x c e;exact absurd (Ba q.lt (by rw [z];exact hb)) (C4 _)
 ·exact absurd (Ba (Ay (I.pin p hp).1) (by rw [z];exact hb)) (C4 _)
structure Turn (P:Program) (w:World) (K:Frag) (tg:Expr) (J:It) (fp:List Ac) (it:Ac) (tn:Nat→Heap→Prop):Prop where
 mem:it∈fp
 obj:∀ i h,tn i h→∀ b∈fp,∃ o,h.get? b=some o∧∀ v,o.data≠ .cell v
 keep:∀ i h h',tn i h→(∀ b∈fp,∀ o,h.get? b=some o→h'.get? b=some o)→tn i h'
 item:∀ (X:Cx),X.prog=P→X.w=w→X.K=K→X.calm=true→∀ (i:Nat) (pins:List (Ac×Obj)) (s:Ae) (σ:St) (H:Hp) (E:Ab→Ae→Prop),Inv X pins σ H s→(∀ b∈fp,Vj X pins H b)→tn i s.heap→J.go i H→
  wpAny (model P w) X.A (pyNext (.ref it)) (fun r s1=>∃ u,r=some u∧
   wpAny (model P w) X.A (letOwnedTupleGo tg (.ref it) u) (fun _ s2=>∃ x H',Inv X pins σ H' s2∧qK x u∧J.yld i H x H'∧tn (i+1) s2.heap∧∀ b∈fp,H' b=none) E s1) E s
 done:∀ (X:Cx),X.prog=P→X.w=w→X.K=K→X.calm=true→∀ (i:Nat) (pins:List (Ac×Obj)) (s:Ae) (σ:St) (H:Hp) (E:Ab→Ae→Prop),Inv X pins σ H s→(∀ b∈fp,Vj X pins H b)→tn i s.heap→J.stop i H→
  wpAny (model P w) X.A (pyNext (.ref it)) (fun r s1=>r=none∧Inv X pins σ H s1) E s
 self:∀ (A:Around) (i:Nat) (s:Ae) (Q:Ab→Ae→Prop) (E:Ab→Ae→Prop),tn i s.heap→Q (.ref it) s→wpAny (model P w) A (pyIter (.ref it)) Q E s
abbrev TI:=St→Hp→(It→Hp→Prop)→Prop
def PIE (X:Cx) (pins:List (Ac×Obj)) (σ:St) (tg:Expr) (R:It→Hp→Prop) (itv:Ab) (s2:Ae):Prop:=
 ∃ (it:Ac) (fp:List Ac) (tn:Nat→Heap→Prop) (J:It) (H':Hp),itv= .ref it∧Inv X pins σ H' s2∧Turn X.prog X.w X.K tg J fp it tn∧tn 0 s2.heap∧(∀ b∈fp,Vj X pins H' b)∧R J H'
def PI (X:Cx) (tg iter:Expr) (wi:TI):Prop:=
 ∀ (pins:List (Ac×Obj)) (s:Ae) (σ:St) (H:Hp) (R:It→Hp→Prop),Inv X pins σ H s→wi σ H R→
  wpAny (model X.prog X.w) X.A (eval iter X.env) (fun v s1=>wpAny (model X.prog X.w) X.A (pyIter v) (PIE X pins σ tg R) X.xe s1) X.xe s
theorem Xb {M:Model} {A:Around} {E:Ab→Ae→Prop} {s:Ae} {tg:Expr} {it:Ac} {u:Ab} {o:Obj} {n:String} {vs:Array Ab} {Q:Unit→Ae→Prop} (ho:s.heap.get? it=some o) (hc:o.cls= .type n) (hd:o.data= .fields vs)
  (hn:["enumerate","zip","dict_itemiterator","dict_reverseitemiterator","odict_iterator","itertools.zip_longest","itertools.pairwise"].contains n=false) (hQ:Q () s):wpAny M A (letOwnedTupleGo tg (.ref it) u) Q E s:=by
 unfold letOwnedTupleGo;cases tg <;> first
  | exact Ar hQ
  | (cases u <;> first
    | exact Ar hQ
    | (refine Ah (wpAny_load ho ?_)
       rw [hc,hd];show wpAny M A (if (["enumerate","zip","dict_itemiterator","dict_reverseitemiterator","odict_iterator","itertools.zip_longest","itertools.pairwise"].contains n&&vs[0]?==some (rawInt _))=true then _ else _) Q E s
       rw [if_neg (by intro h;rw [hn,Cq] at h;cases h)]
       exact Ar hQ))
def Itl (K:Frag) (a:Ac):It:=
 ⟨fun i H=>∃ xs x,SqL K H a xs∧xs[i]?=some x,fun i H x H'=>H'=H∧∀ xs,SqL K H a xs→xs[i]?=some x,fun i H=>∃ xs,SqL K H a xs∧xs.length≤i⟩
def Itt (K:Frag) (a:Ac):It:=
 ⟨fun i H=>∃ xs x,SqT K H a xs∧xs[i]?=some x,fun i H x H'=>H'=H∧∀ xs,SqT K H a xs→xs[i]?=some x,fun i H=>∃ xs,SqT K H a xs∧xs.length≤i⟩
def Itr (lo:Int) (n:Nat):It:=⟨fun i _=>i<n,fun i H x H'=>H'=H∧x= .int (lo+i),fun i _=>n≤i⟩
theorem Xp {P:Program} {w:World} {K:Frag} {tg:Expr} (a it:Ac):Turn P w K tg (Itl K a) [it] it (fun i h=>h.IsListIter it a i) where
 mem:=by simp
 obj:=fun i h st b hb=>by
  have e:b=it:=by simpa using hb
  subst e;obtain ⟨o,e,c,d⟩:=st;exact ⟨o,e,fun v z=>by rw [d] at z;cases z⟩
 keep:=fun i h h' st k=>st.at fun o e=>k it (by simp) o e
 item:=by
  intro X hP hw hK hc i pins s σ H E I hf st hg;subst hP hw hK;obtain ⟨xs,x,hq,hx⟩:=hg;obtain ⟨its,rv,p,hz⟩:=I.list hq;obtain ⟨u,hu,ru⟩:=rv.get hx;obtain ⟨f0,f1,f2,f3,f4,f5⟩:=hf it (by simp)
  refine wpAny_pyNext_list_item st p.isList (x:=u) (by simpa using hu) fun h' st' sb=>?_
  have I1:Inv X pins σ H {s with heap:=h'}:=I.turned (t':=s.toks) (fun b o hb e=>(sb.2 b hb).trans e) f0 f1 f3 f4 f5
  obtain ⟨o,e,c,d⟩:=id st';exact ⟨u,rfl,Xb (s:={s with heap:=h'}) e c d O0 ⟨x,H,I1,ru,⟨rfl,fun ys hy=>by rw [I.list_inj hy hq];exact hx⟩,st',fun b hb=>(hf b hb).1⟩⟩
 done:=by
  intro X hP hw hK hc i pins s σ H E I hf st hg;subst hP hw hK;obtain ⟨xs,hq,hx⟩:=hg;obtain ⟨its,rv,p,hz⟩:=I.list hq;obtain ⟨f0,f1,f2,f3,f4,f5⟩:=hf it (by simp)
  have hl:=rv.length;exact wpAny_pyNext_list_end (I.ok.hd hc) st p.isList (by simp;omega) fun h' eb=>⟨rfl,I.turned (t':=s.toks) (fun b o hb e=>eb b o hb e) f0 f1 f3 f4 f5⟩
 self:=fun _ _ _ _ _ st h=>wpAny_pyIter_listiter st h
theorem Yf {P:Program} {w:World} {K:Frag} {tg:Expr} (a it:Ac):Turn P w K tg (Itt K a) [it] it (fun i h=>h.IsTupleIter it a i) where
 mem:=by simp
 obj:=fun i h st b hb=>by
  have e:b=it:=by simpa using hb
  subst e;obtain ⟨o,e,c,d⟩:=st;exact ⟨o,e,fun v z=>by rw [d] at z;cases z⟩
 keep:=fun i h h' st k=>st.at fun o e=>k it (by simp) o e
 item:=by
  intro X hP hw hK hc i pins s σ H E I hf st hg;subst hP hw hK;obtain ⟨xs,x,hq,hx⟩:=hg;obtain ⟨its,rv,p,hz⟩:=I.tuple hq;obtain ⟨u,hu,ru⟩:=rv.get hx;obtain ⟨f0,f1,f2,f3,f4,f5⟩:=hf it (by simp)
  refine wpAny_pyNext_tuple_item st (show s.heap.IsTuple a its.toArray from p) (x:=u) (by simpa using hu) fun h' st' sb=>?_
  have I1:Inv X pins σ H {s with heap:=h'}:=I.turned (t':=s.toks) (fun b o hb e=>(sb.2 b hb).trans e) f0 f1 f3 f4 f5
  obtain ⟨o,e,c,d⟩:=id st';exact ⟨u,rfl,Xb (s:={s with heap:=h'}) e c d O0 ⟨x,H,I1,ru,⟨rfl,fun ys hy=>by rw [I.tuple_inj hy hq];exact hx⟩,st',fun b hb=>(hf b hb).1⟩⟩
 done:=by
  intro X hP hw hK hc i pins s σ H E I hf st hg;subst hP hw hK;obtain ⟨xs,hq,hx⟩:=hg;obtain ⟨its,rv,p,hz⟩:=I.tuple hq;obtain ⟨f0,f1,f2,f3,f4,f5⟩:=hf it (by simp)
  have hl:=rv.length;exact wpAny_pyNext_tuple_end (I.ok.hd hc) st (show s.heap.IsTuple a its.toArray from p) (by simp;omega) fun h' eb=>⟨rfl,I.turned (t':=s.toks) (fun b o hb e=>eb b o hb e) f0 f1 f3 f4 f5⟩
 self:=fun _ _ _ _ _ st h=>wpAny_pyIter_tupleiter st h
theorem Yg {P:Program} {w:World} {K:Frag} {tg:Expr} (it:Ac) (lo:Int) (n:Nat):Turn P w K tg (Itr lo n) [it] it (fun i h=>IsRangeIter h it (lo+(i:Nat)*1) ((n:Int) - (i:Nat)) 1) where
 mem:=by simp
 obj:=fun i h st b hb=>by
  have e:b=it:=by simpa using hb
  subst e;exact ⟨_,st,fun v z=>by
   have z':Data.fields _=Data.cell v:=z;cases z'⟩
 keep:=fun i h h' st k=>k it (by simp) _ st
 item:=by
  intro X hP hw hK hc i pins s σ H E I hf st hg;subst hP hw hK;obtain ⟨f0,f1,f2,f3,f4,f5⟩:=hf it (by simp)
  have W:=Walks.range (prog:=X.prog) (w:=X.w) (I.ok.hd hc) it lo 1 n;refine W.item i s _ _ hg st fun v h' tk hv st' kk=>?_;obtain ⟨t,rfl⟩:=hv;have I1:Inv X pins σ H {s with heap:=h',toks:=tk}:=I.turned (fun b o hb e=>kk b o (by simpa using hb) e) f0 f1 f3 f4 f5
  refine ⟨_,rfl,Xb (s:={s with heap:=h',toks:=tk}) (n:="range_iterator") st' rfl rfl O0 ⟨.int (lo+i),H,I1,⟨t,?_⟩,⟨rfl,rfl⟩,st',fun b hb=>(hf b hb).1⟩⟩
  rw [Int.mul_one]
 done:=by
  intro X hP hw hK hc i pins s σ H E I hf st hg;subst hP hw hK;obtain ⟨f0,f1,f2,f3,f4,f5⟩:=hf it (by simp)
  exact wpAny_pyNext_range_end (I.ok.hd hc) st (by have:n≤i:=hg;omega) fun h' eb=>⟨rfl,I.turned (t':=s.toks) (fun b o hb e=>eb b o hb e) f0 f1 f3 f4 f5⟩
 self:=fun _ _ _ _ _ st h=>wpAny_pyIter_rangeiter st h
section
variable {X:Cx} {tg:Expr}
theorem ZR {pins:List (Ac×Obj)} {σ:St} {H:Hp} {s:Ae} {R:It→Hp→Prop} {E:Ab→Ae→Prop} {lo hi:Int} {t u v:Tok} {tk:Nat} (I:Inv X pins σ H s) (h1: -(2 ^ 62)≤lo) (h2:lo<2 ^ 62) (h3: -(2 ^ 62)≤hi) (h4:hi<2 ^ 62)
  (q:R (Itr lo (hi - lo).toNat) H):wpAny (model X.prog X.w) X.A (pyIter (.ref s.heap.objs.size)) (PIE X pins σ tg R) E {s with heap:=s.heap.push {cls:= .type "range",data:= .fields #[.int lo t,.int hi u,.int 1 v]},toks:=tk}:=by
 refine wpAny_pyIter_range (IsRange.new ..) (small_one h1 h2 h3 h4) ?_;have I1:Inv X pins σ H {s with heap:=s.heap.push {cls:= .type "range",data:= .fields #[.int lo t,.int hi u,.int 1 v]},toks:=tk}:=I.kept fun b o e=>Ap _ e
 refine ⟨(s.heap.push {cls:= .type "range",data:= .fields #[.int lo t,.int hi u,.int 1 v]}).objs.size,[(s.heap.push {cls:= .type "range",data:= .fields #[.int lo t,.int hi u,.int 1 v]}).objs.size],_,_,H,rfl,
  I1.kept (t':=tk) fun b o e=>Ap _ e,Yg _ lo (hi - lo).toNat,?_,fun b hb=>?_,q⟩
 ·have e1:lo+((0:Nat):Int)*1=lo:=by simp
  have e2:(((hi - lo).toNat:Nat):Int) - ((0:Nat):Int)=Builtin.Range.rangeSize lo hi 1:=by rw [rangeSize_one];split <;> omega
  show IsRangeIter _ _ (lo+((0:Nat):Int)*1) ((((hi - lo).toNat:Nat):Int) - ((0:Nat):Int)) 1;rw [e1,e2];exact A6 _ rfl
 ·have e:b=(s.heap.push {cls:= .type "range",data:= .fields #[.int lo t,.int hi u,.int 1 v]}).objs.size:=by simpa using hb
  subst e;exact I1.fpOk (Aj _) (I1.hok.fresh (Aj _))
def Qn (ta:TA):TI:=fun σ H R=>ta σ H fun vs H1=>∃ j:Int,vs=[.int j]∧ -(2 ^ 62)≤j∧j<2 ^ 62∧R (Itr 0 j.toNat) H1
theorem zP {a:Expr} {ta:TA} {p pos:Pos} (hg:Gl X "range") (hm:X.mg "range"=none) (ha:PA X [a] ta) (hs:starEach [a] X.env=[(false,eval a X.env)]:=by rfl):PI X tg (.Call (.Name "range" p) [a] [] pos) (Qn ta):=by
 intro pins s σ H R I h;refine Call_ (Vv I hg hm boot_range (PyProof.Rows.callWith_type1 (thn (ha pos pins s σ H _ I h) fun us s1 ⟨vs,H1,I1,r1,q1⟩=>?_) hs rfl));obtain ⟨j,e,q1,q2,q⟩:=q1;subst e;cases r1 with
 | cons r rr=>
  cases rr;obtain ⟨t,rfl⟩:=r;exact call_range_1 (ZR I1 ⋯ ⋯ q1 q2 (by simpa using q))
def tFor (wi:TI) (g:TG) (tb:TS):TS:=fun D σ H=>wi σ H fun J H1=>∃ W:Nat→Nat→St→Hp→Prop,(∃ m,W 0 m σ H1)∧∀ i m σ H,W i m σ H→
 (J.stop i H∧D.nx σ H)∨(J.go i H∧∃ N:St→Hp→Prop,(∀ σ' H',N σ' H'→∃ m',m'<m∧W (i+1) m' σ' H')∧∀ x H',J.yld i H x H'→g x σ H' fun σ2 H2=>tb {D with nx:=N,ct:=N,bk:=D.nx} σ2 H2)
def vI (fp:List Ac) (h:Heap):List (Ac×Obj):=fp.filterMap fun b=>(h.get? b).map fun o=>(b,o)
theorem JL {fp:List Ac} {h:Heap} {b:Ac} {o:Obj} (hb:b∈fp) (e:h.get? b=some o):(b,o)∈vI fp h:=List.mem_filterMap.mpr ⟨b,hb,by rw [e];rfl⟩
theorem XE {fp:List Ac} {h:Heap} {p:Ac×Obj} (hp:p∈vI fp h):p.1∈fp∧h.get? p.1=some p.2:=by
 obtain ⟨b,hb,e⟩:=List.mem_filterMap.mp hp;cases q:h.get? b with
 | none=>rw [q] at e;cases e
 | some o=>
  rw [q] at e;have e':(b,o)=p:=Bj e;subst e';exact ⟨hb,q⟩
theorem Inv.pinned {pins:List (Ac×Obj)} {σ:St} {H:Hp} {s:Ae} {fp:List Ac} (I:Inv X pins σ H s) (hf:∀ b∈fp,Vj X pins H b) (ho:∀ b∈fp,∃ o,s.heap.get? b=some o∧∀ v,o.data≠ .cell v):Inv X (pins++vI fp s.heap) σ H s:=
 I.pins_of fun p hp=>(Cr.mp hp).elim (fun z=>I.pin p (A9 _ z)) fun z=>by
  obtain ⟨hb,e⟩:=XE z;obtain ⟨f0,f1,f2,_⟩:=hf p.1 hb;obtain ⟨o,e',d⟩:=ho p.1 hb;rw [e] at e';cases e';exact ⟨e,f0,f1,f2,d⟩
theorem Inv.unpinned {pins pl:List (Ac×Obj)} {σ:St} {H:Hp} {s:Ae} (I:Inv X (pins++pl) σ H s):Inv X pins σ H s:=I.pins_of fun p hp=>I.pin p (A9 _ (Bt _ hp))
theorem WE {iter:Expr} {body:List Stmt} {wi:TI} {g:TG} {tb:TS} {pos:Pos} (hp:PassesOwn (model X.prog X.w) X.A X.env X.xe) (hc:X.calm=true) (hi:PI X tg iter wi) (hg:PG X tg g) (hb:PSs X body tb)
  (hs:∀ x,foldedSetIterable iter X.env x=pure x:=by intro _;rfl):PS X (.For tg iter body [] pos) (tFor wi g tb):=by
 intro pins s σ H D I h;refine wpAny_For (thn (hi pins s σ H _ I h) fun v s1 h1=>thn h1 fun itv s2 h2=>?_) hs;obtain ⟨it,fp,tn,J,H2,e,I2,T,st2,f2,W,⟨m0,w0⟩,turn⟩:=h2;subst e;have stat:∀ {H':Hp},(∀ b∈fp,H' b=none)→∀ b∈fp,Vj X pins H' b:=fun hn b hb=>⟨hn b hb,(f2 b hb).2⟩;refine codeAny_forLoop_any (fun n s'=>∃ i σ' H',Inv X pins σ' H' s'∧tn i s'.heap∧(∀ b∈fp,H' b=none)∧W i n σ' H') ?_ m0 ⟨0,σ,H2,I2,st2,fun b hb=>(f2 b hb).1,w0⟩;rintro n s3 ⟨i,σ3,H3,I3,st3,fr3,w3⟩;rcases turn i n σ3 H3 w3 with ⟨stop,qn⟩ | ⟨go,N,hN,step⟩
 ·refine Dh hp (thn (T.done X rfl rfl rfl hc i pins s3 σ3 H3 X.xe I3 (stat fr3) st3 stop) fun r s4 ⟨hr,I4⟩=>?_);subst hr;exact wpAny_execs_nil ⟨σ3,H3,I4,qn⟩
 ·refine Dh hp (thn (T.item X rfl rfl rfl hc i pins s3 σ3 H3 X.xe I3 (stat fr3) st3 go) fun r s4 ⟨u,hr,h4⟩=>?_);subst hr;refine Dh hp (thn h4 fun _ s5 ⟨x,H5,I5,r5,y5,st5,fr5⟩=>?_);have I5':=I5.pinned (stat fr5) (T.obj _ _ st5);refine Dh hp (thn (hg _ s5 σ3 H5 x u _ I5' r5 (step x H5 y5)) fun _ s6 ⟨σ6,H6,I6,q6⟩=>?_);refine Dh hp (thn (hb _ s6 σ6 H6 _ I6 q6) fun f s7 q7=>?_);have again:∀ {σ7:St} {H7:Hp},Inv X (pins++vI fp s5.heap) σ7 H7 s7→N σ7 H7→∃ m,m<n∧∃ i σ' H',Inv X pins σ' H' s7∧tn i s7.heap∧(∀ b∈fp,H' b=none)∧W i m σ' H':=fun {σ7 H7} I7 n7=>by
   obtain ⟨m',hm,w7⟩:=hN σ7 H7 n7;refine ⟨m',hm,i+1,σ7,H7,I7.unpinned,T.keep _ _ _ st5 fun b hb o e=>(I7.pin (b,o) (A9 _ (A9 _ (JL hb e)))).1,fun b hb=>?_,w7⟩;obtain ⟨o,e,d⟩:=T.obj _ _ st5 b hb;exact (I7.pin (b,o) (A9 _ (A9 _ (JL hb e)))).2.1
  cases f with
  | next=>obtain ⟨σ7,H7,I7,n7⟩:=q7;exact again I7 n7
  | cont=>obtain ⟨σ7,H7,I7,n7⟩:=q7;exact again I7 n7
  | brk=>obtain ⟨σ7,H7,I7,q7⟩:=q7;exact ⟨σ7,H7,I7.unpinned,q7⟩
  | ret v=>obtain ⟨x7,σ7,H7,I7,r7,q7⟩:=q7;exact ⟨x7,σ7,H7,I7.unpinned,r7,q7⟩
end
abbrev R2:=V→V→Hp→VK→Prop
def OpR (X:Cx) (f:Ab→Ab→Sem Ab) (r:R2):Prop:=
 ∀ (pins:List (Ac×Obj)) (s:Ae) (σ:St) (H:Hp) (x y:V) (v u:Ab) (Q:VK),Inv X pins σ H s→qK x v→qK y u→r x y H Q→
  wpAny (model X.prog X.w) X.A (f v u) (EP X pins σ Q) X.xe s
def UnR (X:Cx) (f:Ab→Sem Ab) (r:V→Hp→VK→Prop):Prop:=
 ∀ (pins:List (Ac×Obj)) (s:Ae) (σ:St) (H:Hp) (x:V) (v:Ab) (Q:VK),Inv X pins σ H s→qK x v→r x H Q→
  wpAny (model X.prog X.w) X.A (f v) (EP X pins σ Q) X.xe s
def jb (X:Cx) (f:Ab) (r:List V→Hp→VK→Prop):Prop:=
 ∀ (pins:List (Ac×Obj)) (s:Ae) (σ:St) (H:Hp) (xs:List V) (us:List Ab) (Q:VK),Inv X pins σ H s→qL xs us→r xs H Q→
  wpAny (model X.prog X.w) X.A (call f us) (EP X pins σ Q) X.xe s
def TruR (X:Cx) (r:V→Hp→(Bool→Hp→Prop)→Prop):Prop:=
 ∀ (pins:List (Ac×Obj)) (s:Ae) (σ:St) (H:Hp) (x:V) (v:Ab) (Q:Bool→Hp→Prop),Inv X pins σ H s→qK x v→r x H Q→
  wpAny (model X.prog X.w) X.A (truthy v) (TP X pins σ Q) X.xe s
def tOp (r:R2) (ta tb:TE):TE:=fun σ H Q=>ta σ H fun x H1=>tb σ H1 fun y H2=>r x y H2 Q
def tUn (r:V→Hp→VK→Prop) (ta:TE):TE:=fun σ H Q=>ta σ H fun x H1=>r x H1 Q
def rI (C:Int→Int→Prop) (g:Int→Int→V):R2:=fun x y H Q=>∃ i j,x= .int i∧y= .int j∧C i j∧Q (g i j) H
def rI0 (g:Int→Int→V):R2:=fun x y H Q=>∃ i j,x= .int i∧y= .int j∧Q (g i j) H
def rU (g:Int→V):V→Hp→VK→Prop:=fun x H Q=>∃ i,x= .int i∧Q (g i) H
section
variable {X:Cx} {a b c:Expr} {ta tb tc:TE} {pos:Pos}
theorem qdf (ha:PE X a ta) (hb:PE X b tb) {pins:List (Ac×Obj)} {s:Ae} {σ:St} {H:Hp} {R:V→V→Hp→Prop} (I:Inv X pins σ H s)
  (h:ta σ H fun x H1=>tb σ H1 fun y H2=>R x y H2) {Q:Ab→Ae→Prop} {f:Ab→Ab→Sem Ab}
  (hf:∀ v u s2 x y H2,Inv X pins σ H2 s2→qK x v→qK y u→R x y H2→wpAny (model X.prog X.w) X.A (f v u) Q X.xe s2):
  wpAny (model X.prog X.w) X.A (eval a X.env) (fun v s₁=>wpAny (model X.prog X.w) X.A (eval b X.env) (fun u s₂=>wpAny (model X.prog X.w) X.A (f v u) Q X.xe s₂) X.xe s₁) X.xe s:=by
 refine thn (ha pins s σ H _ I h) fun v s1 ⟨x,H1,I1,r1,q1⟩=>?_;refine thn (hb pins s1 σ H1 _ I1 q1) fun u s2 ⟨y,H2,I2,r2,q2⟩=>?_;exact hf v u s2 x y H2 I2 r1 r2 q2
theorem qm {op:Operator} {r:R2} (ho:OpR X (binaryOp op) r) (ha:PE X a ta) (hb:PE X b tb):PE X (.BinOp a op b pos) (tOp r ta tb):=by
 intro pins s σ H Q I h;exact wpAny_BinOp (qdf ha hb I h fun v u s2 x y H2 I2 rx ry q=>ho pins s2 σ H2 x y v u Q I2 rx ry q)
theorem qba {op:UnaryOp} {r:V→Hp→VK→Prop} (ho:UnR X (unaryOp op) r) (ha:PE X a ta):PE X (.UnaryOp op a pos) (tUn r ta):=by
 intro pins s σ H Q I h;exact UnaryOp_ (thn (ha pins s σ H _ I h) fun v s1 ⟨x,H1,I1,r1,q1⟩=>ho pins s1 σ H1 x v Q I1 r1 q1)
theorem opI {f:Ab→Ab→Sem Ab} {C:Int→Int→Prop} {g:Int→Int→Int}
  (rule:∀ (i j:Int) (t u:Tok) (s:Ae) (Q:Ab→Ae→Prop) (E:Ab→Ae→Prop),C i j→Q (.int (g i j) s.toks) {s with toks:=s.toks+1}→wpAny (model X.prog X.w) X.A (f (.int i t) (.int j u)) Q E s):
  OpR X f (rI C fun i j=> .int (g i j)):=by
 intro pins s σ H x y v u Q I rx ry h;obtain ⟨i,j,rfl,rfl,hc,q⟩:=h;obtain ⟨t,rfl⟩:=rx;obtain ⟨t',rfl⟩:=ry;exact rule i j t t' s _ _ hc ⟨.int (g i j),H,I.tok _,⟨_,rfl⟩,q⟩
theorem qen {f:Ab→Ab→Sem Ab} {g:Int→Int→Int}
  (rule:∀ (i j:Int) (t u:Tok) (s:Ae) (Q:Ab→Ae→Prop) (E:Ab→Ae→Prop),Q (.int (g i j) s.toks) {s with toks:=s.toks+1}→wpAny (model X.prog X.w) X.A (f (.int i t) (.int j u)) Q E s):
  OpR X f (rI0 fun i j=> .int (g i j)):=by
 intro pins s σ H x y v u Q I rx ry h;obtain ⟨i,j,rfl,rfl,q⟩:=h;obtain ⟨t,rfl⟩:=rx;obtain ⟨t',rfl⟩:=ry;exact rule i j t t' s _ _ ⟨.int (g i j),H,I.tok _,⟨_,rfl⟩,q⟩
theorem qch {f:Ab→Ab→Sem Ab} {g:Int→Int→Bool}
  (rule:∀ (i j:Int) (t u:Tok) (s:Ae) (Q:Ab→Ae→Prop) (E:Ab→Ae→Prop),Q (.bool (g i j)) s→wpAny (model X.prog X.w) X.A (f (.int i t) (.int j u)) Q E s):
  OpR X f (rI0 fun i j=> .bl (g i j)):=by
 intro pins s σ H x y v u Q I rx ry h;obtain ⟨i,j,rfl,rfl,q⟩:=h;obtain ⟨t,rfl⟩:=rx;obtain ⟨t',rfl⟩:=ry;exact rule i j t t' s _ _ ⟨.bl (g i j),H,I,rfl,q⟩
def Za (i j:Int):Prop:=0<j∧j<1073741824
def QH (i j:Int):Prop:=0≤j∧j≤1000000∧i.natAbs<2 ^ 64
def qaz (i j:Int):Prop:=(-(2 ^ 64)<i∧i<2 ^ 64)∨(-(2 ^ 64)<j∧j<2 ^ 64)
theorem qaz.ok {i j:Int} (h:qaz i j):IntMulOk i j:=by
 rcases h with ⟨h1,h2⟩ | ⟨h1,h2⟩
 ·exact .of_left (intBits_le_64 h1 h2)
 ·exact .of_right (intBits_le_64 h1 h2)
theorem qcg:OpR X (binaryOp .Add) (rI0 fun i j=> .int (i+j)):=qen fun _ _ _ _ _ _ _ q=>add_int q
theorem zl:OpR X (binaryOp .Sub) (rI0 fun i j=> .int (i - j)):=qen fun _ _ _ _ _ _ _ q=>sub_int q
theorem J6:OpR X (binaryOp .Mult) (rI qaz fun i j=> .int (i*j)):=opI fun _ _ _ _ _ _ _ hc q=>mul_int q hc.ok
theorem qQ:OpR X (binaryOp .FloorDiv) (rI Za fun i j=> .int (i / j)):=opI fun i j _ _ _ _ _ hc q=>by
 have h1:(0:Int)<j:=hc.1;have h2:j<1073741824:=hc.2;exact floordiv_int ⋯ (by rw [Int.fdiv_eq_ediv_of_nonneg i ⋯];exact q) (.inl (PyProof.noPylong_small ⋯))
theorem qA:OpR X (binaryOp .Mod) (rI (fun _ j=>0<j) fun i j=> .int (i % j)):=opI fun i j _ _ _ _ _ hc q=>by
 have h1:(0:Int)<j:=hc;exact mod_int' ⋯ (by rw [Int.fmod_eq_emod_of_nonneg i ⋯];exact q)
theorem Vq:OpR X (binaryOp .Pow) (rI QH fun i j=> .int (i ^ j.toNat)):=opI fun _ _ _ _ _ _ _ hc q=>pow_int_small hc.1 hc.2.1 hc.2.2 q
theorem unI {f:Ab→Sem Ab} {g:Int→Int}
  (rule:∀ (i:Int) (t:Tok) (s:Ae) (Q:Ab→Ae→Prop) (E:Ab→Ae→Prop),Q (.int (g i) s.toks) {s with toks:=s.toks+1}→wpAny (model X.prog X.w) X.A (f (.int i t)) Q E s):
  UnR X f (rU fun i=> .int (g i)):=by
 intro pins s σ H x v Q I rx h;obtain ⟨i,rfl,q⟩:=h;obtain ⟨t,rfl⟩:=rx;exact rule i t s _ _ ⟨.int (g i),H,I.tok _,⟨_,rfl⟩,q⟩
theorem Ze:UnR X (unaryOp .USub) (rU fun i=> .int (-i)):=unI fun _ _ _ _ _ q=>neg_int q
end
def qdy:V→V→Bool
 | .non,.non=>true | .non,.int _=>true | .int _,.non=>true | .non,.bl _=>true | .bl _,.non=>true | .non,.str _=>true | .str _,.non=>true
 | .int _,.int _=>true | .bl _,.bl _=>true | .str _,.str _=>true | .byt _,.byt _=>true
 | .int _,.str _=>true | .str _,.int _=>true | .bl _,.str _=>true | .str _,.bl _=>true
 | _,_=>false
def rEq:R2:=fun x y H Q=>qdy x y=true∧Q (.bl (decide (x=y))) H
def rNe:R2:=fun x y H Q=>qdy x y=true∧Q (.bl (!decide (x=y))) H
theorem Xe {i j:Int}:decide (V.int i=V.int j)=(i==j):=by
 rw [Cb];simp
theorem Qw {i j:Bool}:decide (V.bl i=V.bl j)=(i==j):=by
 rw [Cb];simp
theorem Xd {i j:Str}:decide (V.str i=V.str j)=(i==j):=by
 rw [Cb];simp
theorem Xf {i j:Array UInt8}:decide (V.byt i=V.byt j)=(i.toList==j.toList):=by
 rw [Cb];cases i;cases j;simp
section
variable {X:Cx} {a b c:Expr} {ta tb tc:TE} {pos:Pos}
theorem qO {pins:List (Ac×Obj)} {σ:St} {H:Hp} {s:Ae} {Q:VK} {k k':Bool} (I:Inv X pins σ H s) (q:Q (.bl k) H) (e:k=k'):EP X pins σ Q (.bool k') s:=by
 subst e;exact ⟨.bl k,H,I,rfl,q⟩
theorem qT:OpR X (compareOp .Eq) rEq:=by
 intro pins s σ H x y v u Q I rx ry h;obtain ⟨hs,q⟩:=h;cases x with
 | non=>
  cases rx;cases y with
  | non=>cases ry;exact PySem.EqNone.eq_none_none (qO I q (by simp))
  | bl j=>cases ry;exact PySem.EqNone.eq_none_bool (qO I q (by simp))
  | int j=>obtain ⟨t',rfl⟩:=ry;exact PySem.EqNone.eq_none_int (qO I q (by simp))
  | str j=>obtain ⟨t',rfl⟩:=ry;exact PySem.EqNone.eq_none_str (qO I q (by simp))
  | _=>exact absurd (show false=true from hs) Am
 | bl i=>
  cases rx;cases y with
  | non=>cases ry;exact PySem.EqNone.eq_bool_none (qO I q (by simp))
  | bl j=>cases ry;exact eq_bool (qO I q Qw)
  | str j=>obtain ⟨t',rfl⟩:=ry;exact PySem.EqMixed.eq_bool_str (qO I q (by simp))
  | _=>exact absurd (show false=true from hs) Am
 | int i=>
  obtain ⟨t,rfl⟩:=rx;cases y with
  | non=>cases ry;exact PySem.EqNone.eq_int_none (qO I q (by simp))
  | int j=>obtain ⟨t',rfl⟩:=ry;exact eq_int (qO I q Xe)
  | str j=>obtain ⟨t',rfl⟩:=ry;exact PySem.EqMixed.eq_int_str (qO I q (by simp))
  | _=>exact absurd (show false=true from hs) Am
 | str i=>
  obtain ⟨t,rfl⟩:=rx;cases y with
  | non=>cases ry;exact PySem.EqNone.eq_str_none (qO I q (by simp))
  | bl j=>cases ry;exact PySem.EqMixed.eq_str_bool (qO I q (by simp))
  | int j=>obtain ⟨t',rfl⟩:=ry;exact PySem.EqMixed.eq_str_int (qO I q (by simp))
  | str j=>obtain ⟨t',rfl⟩:=ry;exact eq_str (qO I q Xd)
  | _=>exact absurd (show false=true from hs) Am
 | byt i=>
  obtain ⟨t,rfl⟩:=rx;cases y with
  | byt j=>obtain ⟨t',rfl⟩:=ry;exact PySem.W.eq_bytes (qO I q Xf)
  | _=>exact absurd (show false=true from hs) Am
 | _=>cases y <;> exact absurd (show false=true from hs) Am
theorem wU:OpR X (compareOp .NotEq) rNe:=by
 intro pins s σ H x y v u Q I rx ry h;obtain ⟨hs,q⟩:=h;cases x with
 | non=>
  cases rx;cases y with
  | non=>cases ry;exact PySem.EqNone.ne_none_none (qO I q (by simp))
  | bl j=>cases ry;exact PySem.EqNone.ne_none_bool (qO I q (by simp))
  | int j=>obtain ⟨t',rfl⟩:=ry;exact PySem.EqNone.ne_none_int (qO I q (by simp))
  | str j=>obtain ⟨t',rfl⟩:=ry;exact PySem.EqNone.ne_none_str (qO I q (by simp))
  | _=>exact absurd (show false=true from hs) Am
 | bl i=>
  cases rx;cases y with
  | non=>cases ry;exact PySem.EqNone.ne_bool_none (qO I q (by simp))
  | bl j=>cases ry;exact ne_bool (qO I q (congrArg not Qw))
  | str j=>obtain ⟨t',rfl⟩:=ry;exact PySem.EqMixed.ne_bool_str (qO I q (by simp))
  | _=>exact absurd (show false=true from hs) Am
 | int i=>
  obtain ⟨t,rfl⟩:=rx;cases y with
  | non=>cases ry;exact PySem.EqNone.ne_int_none (qO I q (by simp))
  | int j=>obtain ⟨t',rfl⟩:=ry;exact ne_int (qO I q (congrArg not Xe))
  | str j=>obtain ⟨t',rfl⟩:=ry;exact PySem.EqMixed.ne_int_str (qO I q (by simp))
  | _=>exact absurd (show false=true from hs) Am
 | str i=>
  obtain ⟨t,rfl⟩:=rx;cases y with
  | non=>cases ry;exact PySem.EqNone.ne_str_none (qO I q (by simp))
  | bl j=>cases ry;exact PySem.EqMixed.ne_str_bool (qO I q (by simp))
  | int j=>obtain ⟨t',rfl⟩:=ry;exact PySem.EqMixed.ne_str_int (qO I q (by simp))
  | str j=>obtain ⟨t',rfl⟩:=ry;exact ne_str (qO I q (congrArg not Xd))
  | _=>exact absurd (show false=true from hs) Am
 | byt i=>
  obtain ⟨t,rfl⟩:=rx;cases y with
  | byt j=>obtain ⟨t',rfl⟩:=ry;exact PySem.W.ne_bytes (qO I q (congrArg not Xf))
  | _=>exact absurd (show false=true from hs) Am
 | _=>cases y <;> exact absurd (show false=true from hs) Am
theorem Jf:OpR X (compareOp .Lt) (rI0 fun i j=> .bl (decide (i<j))):=qch fun _ _ _ _ _ _ _ q=>lt_int q
theorem VE:OpR X (compareOp .LtE) (rI0 fun i j=> .bl (decide (i≤j))):=qch fun _ _ _ _ _ _ _ q=>le_int q
theorem VF:OpR X (compareOp .Gt) (rI0 fun i j=> .bl (decide (j<i))):=qch fun _ _ _ _ _ _ _ q=>gt_int q
theorem Ym:OpR X (compareOp .Is) (fun x y H Q=>y= .non∧Q (.bl (decide (x= .non))) H):=by
 intro pins s σ H x y v u Q I rx ry h;obtain ⟨rfl,q⟩:=h;cases ry;refine is_none_gen (qO I q ?_);cases x <;> first
  | (cases rx;rfl)
  | (obtain ⟨t,rfl⟩:=rx;rfl)
theorem Q8:OpR X (compareOp .IsNot) (fun x y H Q=>y= .non∧Q (.bl (!decide (x= .non))) H):=by
 intro pins s σ H x y v u Q I rx ry h;obtain ⟨rfl,q⟩:=h;cases ry;refine isnot_none_gen (qO I q ?_);cases x <;> first
  | (cases rx;rfl)
  | (obtain ⟨t,rfl⟩:=rx;rfl)
theorem WH:OpR X (compareOp .NotIn) (fun x y H Q=>∃ i j,x= .str i∧y= .str j∧Q (.bl (!(!(Builtin.Str.occurrences j i 0 j.length 1).isEmpty))) H):=by
 intro pins s σ H x y v u Q I rx ry h;obtain ⟨i,j,rfl,rfl,q⟩:=h;obtain ⟨t,rfl⟩:=rx;obtain ⟨t',rfl⟩:=ry;exact notIn_str (qO I q rfl)
theorem OpR.or {f:Ab→Ab→Sem Ab} {r r':R2} (h:OpR X f r) (h':OpR X f r'):OpR X f (fun x y H Q=>r x y H Q∨r' x y H Q):=by
 intro pins s σ H x y v u Q I rx ry q;rcases q with q | q
 ·exact h pins s σ H x y v u Q I rx ry q
 ·exact h' pins s σ H x y v u Q I rx ry q
theorem qv (b:Expr) {op:CmpOp} (h:op≠ .In:=by decide) (h2:op≠ .NotIn:=by decide):behindInMarks op b=false:=by
 have e1:(op==CmpOp.In)=false:=by cases op <;> first | rfl | exact absurd rfl h
 have e2:(op==CmpOp.NotIn)=false:=by cases op <;> first | rfl | exact absurd rfl h2
 cases b <;> simp [behindInMarks,e1,e2]
theorem zF {op:CmpOp} {r:R2} (ho:OpR X (compareOp op) r) (ha:PE X a ta) (hb:PE X b tb) (hm:behindInMarks op b=false):PE X (.Compare a [op] [b] pos) (tOp r ta tb):=by
 intro pins s σ H Q I h;exact wpAny_Compare1 (qdf ha hb I h fun v u s2 x y H2 I2 rx ry q=>ho pins s2 σ H2 x y v u Q I2 rx ry q) hm
def jT (t:TE):TT:=fun σ H Q=>t σ H fun x H'=>∃ k,x= .bl k∧Q k H'
theorem qq {op:CmpOp} {r:R2} (ho:OpR X (compareOp op) r) (ha:PE X a ta) (hb:PE X b tb) (hm:behindInMarks op b=false):PT X (.Compare a [op] [b] pos) (jT (tOp r ta tb)):=by
 intro pins s σ H Q I h;refine wpAny_isTrue_Compare1 (thn (ha pins s σ H _ I h) fun v s1 ⟨x,H1,I1,r1,q1⟩=>thn (hb pins s1 σ H1 _ I1 q1) fun u s2 ⟨y,H2,I2,r2,q2⟩=>
  thn (ho pins s2 σ H2 x y v u _ I2 r1 r2 q2) fun c s3 ⟨z,H3,I3,r3,k,e,q3⟩=>?_) hm
 subst e;cases r3;exact B0 ⟨H3,I3,q3⟩
def Zm (r r':R2) (ta tb tc:TE):TE:=fun σ H Q=>ta σ H fun x H1=>tb σ H1 fun y H2=>r x y H2 fun z H3=>∃ k,z= .bl k∧
 (if k=true then tc σ H3 fun w' H4=>r' y w' H4 Q else Q (.bl false) H3)
theorem yq {op op':CmpOp} {r r':R2} (ho:OpR X (compareOp op) r) (ho':OpR X (compareOp op') r') (ha:PE X a ta) (hb:PE X b tb) (hc:PE X c tc)
  (hm:lastMarks [op,op'] [b,c]=false:=by with_unfolding_all rfl):PE X (.Compare a [op,op'] [b,c] pos) (Zm r r' ta tb tc):=by
 intro pins s σ H Q I h;refine Compare_chain (thn (ha pins s σ H _ I h) fun v s1 ⟨x,H1,I1,r1,q1⟩=>chain_link (thn (hb pins s1 σ H1 _ I1 q1) fun u s2 ⟨y,H2,I2,r2,q2⟩=>
  thn (ho pins s2 σ H2 x y v u _ I2 r1 r2 q2) fun d s3 ⟨z,H3,I3,r3,k,e,q3⟩=>?_)) hm
 subst e;cases r3;refine B0 ?_;cases k with
 | false=>exact ite_ff ⟨.bl false,H3,I3,rfl,q3⟩
 | true=>exact ite_tt (chain_last (thn (hc pins s3 σ H3 _ I3 q3) fun w' s4 ⟨z',H4,I4,r4,q4⟩=>ho' pins s4 σ H4 y z' u w' Q I4 r2 r4 q4))
theorem ZW {op op':CmpOp} {r r':R2} (ho:OpR X (compareOp op) r) (ho':OpR X (compareOp op') r') (ha:PE X a ta) (hb:PE X b tb) (hc:PE X c tc)
  (hm:lastMarks [op,op'] [b,c]=false:=by with_unfolding_all rfl):PT X (.Compare a [op,op'] [b,c] pos) (jT (Zm r r' ta tb tc)):=by
 intro pins s σ H Q I h;refine isTrue_chain (thn (ha pins s σ H _ I h) fun v s1 ⟨x,H1,I1,r1,q1⟩=>test_link (thn (hb pins s1 σ H1 _ I1 q1) fun u s2 ⟨y,H2,I2,r2,q2⟩=>
  thn (ho pins s2 σ H2 x y v u _ I2 r1 r2 q2) fun d s3 ⟨z,H3,I3,r3,k,e,q3⟩=>?_)) hm
 subst e;cases r3;refine B0 ?_;cases k with
 | false=>
  obtain ⟨k',e',q'⟩:=q3;cases e';exact ite_ff ⟨H3,I3,q'⟩
 | true=>
  refine ite_tt (test_last (thn (hc pins s3 σ H3 _ I3 q3) fun w' s4 ⟨z',H4,I4,r4,q4⟩=>thn (ho' pins s4 σ H4 y z' u w' _ I4 r2 r4 q4) fun d' s5 ⟨z2,H5,I5,r5,k2,e2,q5⟩=>?_));subst e2;cases r5;exact B0 ⟨H5,I5,q5⟩
def qdj (K:Frag) (x:V) (H:Hp) (k:Bool):Prop:=
 match x with
 | .non=>k=false
 | .bl b=>k=b
 | .int i=>k=(i !=0)
 | .str y=>y.length≤Af∧k=((y.length:Int) !=0)
 | .byt y=>y.size≤Af∧k=((y.size:Int) !=0)
 | .ref p=>(∃ xs,SqL K H p xs∧k=!xs.isEmpty)∨(∃ xs,SqT K H p xs∧k=!xs.isEmpty)∨∃ kvs,H p=some (.dK kvs)∧k=!kvs.isEmpty
 | _=>False
theorem Yv {κ:Type} {kvs:List (κ×V)} {vs:List (κ×Ab)} (r:KV kvs vs):(!vs.isEmpty)=!kvs.isEmpty:=by
 cases r <;> rfl
theorem wA {xs:List V} {its:List Ab} (r:qL xs its):(!its.toArray.isEmpty)=!xs.isEmpty:=by
 cases r <;> simp
theorem Vu:(Af:Nat)<2 ^ 63:=by rw [sizeLine_eq];decide
theorem qbl:TruR X (fun x H Q=>∃ k,qdj X.K x H k∧Q k H):=by
 intro pins s σ H x v Q I rx h;obtain ⟨k,e,q⟩:=h;have hl:=Vu;have hs:Af=16777216:=sizeLine_eq;cases x with
 | non=>
  cases rx;have e':k=false:=e;subst e';exact truthy_none ⟨H,I,q⟩
 | bl b=>
  cases rx;have e':k=b:=e;subst e';exact B0 ⟨H,I,q⟩
 | int i=>
  obtain ⟨t,rfl⟩:=rx;have e':k=(i !=0):=e;subst e';exact PySem.P.truthy_int ⟨H,I,q⟩
 | str y=>
  obtain ⟨t,rfl⟩:=rx;obtain ⟨hy,e'⟩:y.length≤Af∧k=((y.length:Int) !=0):=e;subst e';exact PySem.P.truthy_str ⋯ ⟨H,I.tok _,q⟩
 | byt y=>
  obtain ⟨t,rfl⟩:=rx;obtain ⟨hy,e'⟩:y.size≤Af∧k=((y.size:Int) !=0):=e;subst e';exact PySem.W.truthy_bytes ⋯ ⟨H,I.tok _,q⟩
 | ref p=>
  cases rx;have e':(∃ xs,SqL X.K H p xs∧k=!xs.isEmpty)∨(∃ xs,SqT X.K H p xs∧k=!xs.isEmpty)∨∃ kvs,H p=some (.dK kvs)∧k=!kvs.isEmpty:=e;rcases e' with ⟨xs,hx,e'⟩ | ⟨xs,hx,e'⟩ | ⟨kvs,hx,e'⟩
  ·subst e';obtain ⟨its,r,pl,hz⟩:=I.list hx;have hlen:=r.length;exact wpAny_truthy_list pl.isList (by simp only [Ax];omega) ⟨H,I.tok _,by rw [wA r];exact q⟩
  ·subst e';obtain ⟨its,r,pl,hz⟩:=I.tuple hx;have hlen:=r.length;exact truthy_tuple pl (by simp only [Ax];omega) ⟨H,I.tok _,by rw [wA r];exact q⟩
  ·subst e';obtain ⟨hz,hS,vs,r,m⟩:kvs.length≤Af∧(p==sysModules)=false∧∃ vs,KV kvs vs∧s.heap.DictOf (zc X.prog X.w) p vs:=I.hok p _ hx;have hlen:kvs.length=vs.length:=Ci r;exact wpAny_truthy_dict hS m ⋯ ⟨H,I.tok _,by rw [Yv r];exact q⟩
 | _=>exact (show False from e).elim
theorem ZU (ha:PE X a ta) (he:∀ whole,isTrue a X.env whole=(do let v ← whole;standAt a.pos;holding [v] (truthy v))):
  PT X a (fun σ H Q=>ta σ H fun x H'=>∃ k,qdj X.K x H' k∧Q k H'):=by
 intro pins s σ H Q I h;exact isTrue_plain (thn (ha pins s σ H _ I h) fun v s1 ⟨x,H1,I1,r1,q1⟩=>qbl pins s1 σ H1 x v Q I1 r1 q1) (he _)
theorem Yn:OpR X (binaryOp .Add) (fun x y H Q=>∃ i j,x= .str i∧y= .str j∧i.length+j.length≤Af∧Q (.str (i++j)) H):=by
 intro pins s σ H x y v u Q I rx ry h;obtain ⟨i,j,rfl,rfl,hz,q⟩:=h;obtain ⟨t,rfl⟩:=rx;obtain ⟨t',rfl⟩:=ry;exact add_str (fun t' tk=>⟨.str (i++j),H,I.tok _,⟨_,rfl⟩,q⟩) hz
theorem jm {x:V} {us:List Ab} (r:qL [x] us):∃ u,us=[u]∧qK x u:=by
 cases r with
 | cons r1 r2=>cases r2;exact ⟨_,rfl,r1⟩
theorem Zd {x y:V} {us:List Ab} (r:qL [x,y] us):∃ u w',us=[u,w']∧qK x u∧qK y w':=by
 cases r with
 | cons r1 r2=>
  cases r2 with
  | cons r3 r4=>cases r4;exact ⟨_,_,rfl,r1,r3⟩
theorem QB:jb X (.builtin "abs") (fun xs H Q=>∃ i,xs=[.int i]∧Q (.int (if i<0 then -i else i)) H):=by
 intro pins s σ H xs us Q I r h;obtain ⟨i,rfl,q⟩:=h;obtain ⟨u,rfl,t,rfl⟩:=jm r;exact call_abs_int fun u tk=>⟨.int (if i<0 then -i else i),H,I.tok _,⟨_,rfl⟩,q⟩
theorem X6 (hc:X.calm=true):jb X (.builtin "max") (fun xs H Q=>∃ i j,xs=[.int i,.int j]∧Q (.int (if j>i then j else i)) H):=by
 intro pins s σ H xs us Q I r h;obtain ⟨i,j,rfl,q⟩:=h;obtain ⟨u,w',rfl,⟨t,rfl⟩,⟨t',rfl⟩⟩:=Zd r;refine max_two_ints (I.ok.hd hc) fun h' tk k=>⟨_,H,I.kept k,?_,q⟩
 by_cases hj:j>i
 ·rw [if_pos hj,if_pos hj];exact ⟨_,rfl⟩
 ·rw [if_neg hj,if_neg hj];exact ⟨_,rfl⟩
theorem X7:jb X (.type "int") (fun xs H Q=>(∃ i,xs=[.int i]∧Q (.int i) H)∨∃ k,xs=[.bl k]∧Q (.int (if k then 1 else 0)) H):=by
 intro pins s σ H xs us Q I r h;rcases h with ⟨i,rfl,q⟩ | ⟨k,rfl,q⟩
 ·obtain ⟨u,rfl,t,rfl⟩:=jm r;exact call_int_int ⟨.int i,H,I,⟨_,rfl⟩,q⟩
 ·obtain ⟨u,rfl,r1⟩:=jm r;cases r1;exact call_int_bool ⟨.int (if k then 1 else 0),H,I.tok _,⟨_,rfl⟩,q⟩
def qdm (K:Frag) (x:V) (H:Hp) (n:Nat):Prop:=
 match x with
 | .str y=>y.length≤Af∧n=y.length
 | .byt y=>y.size≤Af∧n=y.size
 | .ref p=>(∃ xs,SqL K H p xs∧n=xs.length)∨∃ xs,SqT K H p xs∧n=xs.length
 | _=>False
theorem Qz:jb X (.builtin "len") (fun xs H Q=>∃ x n,xs=[x]∧qdm X.K x H n∧Q (.int n) H):=by
 intro pins s σ H xs us Q I r h;obtain ⟨x,n,rfl,e,q⟩:=h;obtain ⟨u,rfl,rx⟩:=jm r;have hl:=Vu;have hs:Af=16777216:=sizeLine_eq;cases x with
 | str y=>
  obtain ⟨t,rfl⟩:=rx;obtain ⟨hy,e'⟩:y.length≤Af∧n=y.length:=e;subst e';exact len_str ⋯ ⟨.int _,H,I.tok _,⟨_,rfl⟩,q⟩
 | byt y=>
  obtain ⟨t,rfl⟩:=rx;obtain ⟨hy,e'⟩:y.size≤Af∧n=y.size:=e;subst e';exact PySem.W.len_bytes ⋯ ⟨.int _,H,I.tok _,⟨_,rfl⟩,q⟩
 | ref p=>
  cases rx;have e':(∃ xs,SqL X.K H p xs∧n=xs.length)∨∃ xs,SqT X.K H p xs∧n=xs.length:=e;rcases e' with ⟨xs,hx,e'⟩ | ⟨xs,hx,e'⟩
  ·subst e';obtain ⟨its,r',pl,hz⟩:=I.list hx;have hlen:=r'.length;exact Calls.call_len_list pl.isList (by simp only [Ax];omega) ⟨.int xs.length,H,I.tok _,⟨_,by simp only [Ax];rw [hlen]⟩,q⟩
  ·subst e';obtain ⟨its,r',pl,hz⟩:=I.tuple hx;have hlen:=r'.length;exact len_tuple pl (by simp only [Ax];omega) ⟨.int xs.length,H,I.tok _,⟨_,by simp only [Ax];rw [hlen]⟩,q⟩
 | _=>exact (show False from e).elim
end
structure ObjM (h:Heap) (x dx C:Ac) (mA:Str→Option Ab):Prop where
 obj:h.get? x=some (PySem.W.instObj C dx)
 ns:h.Ns1 dx mA
 ne:dx≠x
set_option tactic.hygienic true in
theorem XI {h:Heap} {dx:Ac} {mA:Str→Option Ab} (n:h.Ns1 dx mA):∃ od,h.get? dx=some od∧∀ name,PySem.W.lookIn name od=some (mA name):=by
 obtain ⟨o,es,ep,ho,hd,hk,_,hm⟩:=n;refine ⟨o,ho,fun name=>?_⟩;have e:=hm name;unfold nsFind findBy at e;rw [← Array.find?_toList] at e;unfold PySem.W.lookIn;rw [hd];dsimp only;split
 ·rename_i y q;rw [q] at e;exact congrArg some e
 ·rename_i q;rw [q] at e;have a:es.toList.any (·.refKey)=false:=by
   rw [List.any_eq_false];intro y hy;obtain ⟨z,t,hkey⟩:=hk y (Array.mem_toList_iff.mp hy);simp [DictEntry.refKey,hkey]
  have a':¬ es.toList.any (·.refKey)=true:=by rw [a];exact Am
  rw [if_neg a'];exact congrArg some e
theorem ObjM.look {h:Heap} {x dx C:Ac} {mA:Str→Option Ab} (I:ObjM h x dx C mA):∃ od,PySem.W.InstAt h x (PySem.W.instObj C dx) C (some od)∧∀ name,PySem.W.lookIn name od=some (mA name):=
 let ⟨od,ho,hl⟩:=XI I.ns
 ⟨od,⟨I.obj,rfl,rfl,ho⟩,hl⟩
section
variable {prog:Program} {w:World} {A:Around} {E:Ab→Ae→Prop} {s:Ae} {K:Frag} {x dx C f:Ac} {mA:Str→Option Ab} {name:Str} {v:Ab}
end
theorem VA.some_of {v:V} {o:Option Ab} (r:VA (some v) o):∃ u,o=some u∧qK v u:=by
 cases o with
 | none=>exact (show False from r).elim
 | some u=>exact ⟨u,rfl,r⟩
section
variable {P:Program} {w:World} {H H':Hp} {h h':Heap} {a C dx:Ac} {fs fs':List (Str×V)}
theorem qao (hok:HOk P w H h) (e:H a=some (.ins C dx fs)):∃ mA,ObjM h a dx C mA∧(∀ f,VA (fs.lookup f) (mA f))∧PySem.Within mA (fs.map (·.1))∧fs.length≤1000∧H dx=some (.own a):=by
 obtain ⟨d,z,ne,ob,mA,n,r,q⟩:=(show zo P w H h a (.ins C dx fs) from hok a _ e);exact ⟨mA,⟨ob,n,ne⟩,r,q,z,d⟩
end
structure Cls (K:Frag) (C:Ac):Prop where
 pg:PySem.W.plainGet K C Str.empty=true
 hd:PySem.W.hasDictIn K C=true
 po:PySem.W.plainOver K C=true
 sa:PySem.W.findIn K (.ref C) "__setattr__"=some (some (.builtin "object.__setattr__"))
theorem Cls.get {K:Frag} {C:Ac} (c:Cls K C) (f:Str):PySem.W.plainGet K C f=true:=c.pg
section
variable {X:Cx} {pins:List (Ac×Obj)} {σ:St} {H:Hp} {s:Ae} {a C dx:Ac} {fs:List (Str×V)} {f:Str} {v:V} {A:Around} {E:Ab→Ae→Prop}
end
section
variable {X:Cx} {o e value:Expr} {f:Str} {pos pos' tpos:Pos} {ta tv:TE}
end
section
variable {X:Cx} {pins:List (Ac×Obj)} {σ:St} {H:Hp} {s:Ae} {A:Around} {E:Ab→Ae→Prop} {Q:Ab→Ae→Prop} {c:Ab} {b:Bool}
inductive TyOf (K:Frag) (H:Hp):V→Ab→Prop where
 | non:TyOf K H .non (.type "NoneType")
 | bl (x:Bool):TyOf K H (.bl x) (.type "bool")
 | int (i:Int):TyOf K H (.int i) (.type "int")
 | str (x:Str):TyOf K H (.str x) (.type "str")
 | flt (x:UInt64):TyOf K H (.flt x) (.type "float")
 | lst {a:Ac} {xs:List V} (e:H a=some (.lst xs)):TyOf K H (.ref a) (.type "list")
 | frz {a:Ac} {o:Obj} {xs:List V} (e:H a=some (.frz o (.lst xs))):TyOf K H (.ref a) (.type "list")
 | tup {a:Ac} {xs:List V} (e:H a=some (.tup xs)):TyOf K H (.ref a) (.type "tuple")
 | dK {a:Ac} {kvs:List (Key×V)} (e:H a=some (.dK kvs)):TyOf K H (.ref a) (.type "dict")
 | dT {a:Ac} {kvs:List (List Key×V)} (e:H a=some (.dT kvs)):TyOf K H (.ref a) (.type "dict")
 | ins {a C dx:Ac} {fs:List (Str×V)} (e:H a=some (.ins C dx fs)) (cl:Cls K C) (ha:PySem.W.findIn K (.ref C) "__class__"=some (some (.builtin "object.__class__")))
   (hn:PySem.W.specialIn K (.builtin "object.__class__") "__get__"=some (some (.builtin "getset_descriptor.__get__"))) (htk:PySem.W.takesIn K (.builtin "object.__class__")=some true)
   (hm:PySem.W.mroIn K C (.type "object")=some true):TyOf K H (.ref a) (.ref C)
theorem vn {x:V} {u t:Ab} (I:Inv X pins σ H s) (rx:qK x u) (ty:TyOf X.K H x t) (e:PySem.W.kitOne X.K t c=some b) (h:∀ tk,Q (.bool b) {s with toks:=tk}):
  wpAny (model X.prog X.w) A (call (.builtin "isinstance") [u,c]) Q E s:=by
 cases ty with
 | non=>cases (show u=Value.none from rx);exact Bu PySem.W.kitx_none I.kIn True.intro e (fun z=>nomatch z) h
 | bl y=>cases (show u=Value.bool y from rx);exact Bu PySem.W.kitx_bool I.kIn True.intro e (fun z=>nomatch z) h
 | int i=>obtain ⟨t,q⟩:=(show ∃ t,u=Value.int i t from rx);cases q;exact Bu PySem.W.kitx_int I.kIn True.intro e (fun z=>nomatch z) h
 | str y=>obtain ⟨t,q⟩:=(show ∃ t,u=Value.str y t from rx);cases q;exact Bu PySem.W.kitx_str I.kIn True.intro e (fun z=>nomatch z) h
 | flt y=>obtain ⟨t,q⟩:=(show ∃ t,u=Value.float y t from rx);cases q;exact Bu PySem.W.kitx_float I.kIn True.intro e (fun z=>nomatch z) h
 | @lst a xs ea=>
  cases (show u=Value.ref a from rx);obtain ⟨_,_,n,_,h1⟩:=(show zo X.prog X.w H s.heap a (.lst xs) from I.hok a _ ea);exact Bu PySem.W.kitx_list I.kIn ⟨_,h1,rfl⟩ e (fun z=>nomatch z) h
 | @frz a ob xs ea=>
  cases (show u=Value.ref a from rx);obtain ⟨_,_,_,n,_,h1⟩:=(show zo X.prog X.w H s.heap a (.frz ob (.lst xs)) from I.hok a _ ea);exact Bu PySem.W.kitx_list I.kIn ⟨_,h1,rfl⟩ e (fun z=>nomatch z) h
 | @tup a xs ea=>
  cases (show u=Value.ref a from rx);obtain ⟨_,_,_,p⟩:=(show zo X.prog X.w H s.heap a (.tup xs) from I.hok a _ ea);obtain ⟨o,h1,h2,_⟩:=p;exact Bu PySem.W.kitx_tuple I.kIn ⟨o,h1,h2⟩ e (fun z=>nomatch z) h
 | @dK a kvs ea=>
  cases (show u=Value.ref a from rx);obtain ⟨_,_,vs,_,p⟩:=(show zo X.prog X.w H s.heap a (.dK kvs) from I.hok a _ ea);obtain ⟨o,es,ep,h1,h2,_⟩:=p;exact Bu PySem.W.kitx_dict I.kIn ⟨o,h1,h2.1⟩ e (fun z=>nomatch z) h
 | @dT a kvs ea=>
  cases (show u=Value.ref a from rx);obtain ⟨_,_,xs,_,o,es,ep,h1,h2,_⟩:=(show zo X.prog X.w H s.heap a (.dT kvs) from I.hok a _ ea);exact Bu PySem.W.kitx_dict I.kIn ⟨o,h1,h2.1⟩ e (fun z=>nomatch z) h
 | @ins a C dx fs ea cl ha hn htk hm=>
  cases (show u=Value.ref a from rx);obtain ⟨mA,O,_⟩:=qao I.hok ea;obtain ⟨od,J,_⟩:=O.look;exact Bu (PySem.W.kitx_own (cl.get _) cl.hd ha hn htk hm) I.kIn J e (fun z=>nomatch z) h
end
structure Room (k:Nat) (A:Around):Prop where
 hd:A.handled=none
 dp:A.depth+3*k+5<recursionLimit
 un:A.units+16*k+200<cLine
theorem Room.mono {j k:Nat} {A:Around} (r:Room k A) (h:j≤k):Room j A:=⟨r.hd,by have:=r.dp;omega,by have:=r.un;omega⟩
theorem Room.deeper {k:Nat} {A:Around} (r:Room (k+1) A) (env:Env):Room k (A.deeper env):=
 ⟨r.hd,by have:=r.dp;show A.depth+1+3*k+5<_;omega,by have:=r.un;show A.units+3+16*k+200<_;omega⟩
theorem Room.depth {k:Nat} {A:Around} (r:Room k A):A.depth<recursionLimit:=by have:=r.dp;omega
theorem Room.units {k:Nat} {A:Around} (r:Room k A):A.units+64<cLine:=by have:=r.un;omega
def zf:TA:=fun _ H Q=>Q [] H
def qw (ta:TE) (tr:TA):TA:=fun σ H Q=>ta σ H fun x H1=>tr σ H1 fun xs H2=>Q (x::xs) H2
section
variable {X:Cx} {e:Expr} {es:List Expr} {te:TE} {t:TA} {pos:Pos}
theorem qd:PA X [] zf:=fun _ _ _ _ H Q I h=>Calls.spliced_nil ⟨[],H,I,.nil,h⟩
theorem qc (ha:PE X e te) (hr:PA X es t) (hs:starEach (e::es) X.env=(false,eval e X.env)::starEach es X.env:=by rfl):PA X (e::es) (qw te t):=by
 intro pos pins s σ H Q I h;rw [hs];show wpAny _ _ (spliced ((false,eval e X.env)::backTo pos (starEach es X.env))) _ _ s;refine Calls.spliced_cons (thn (ha pins s σ H _ I h) fun u s1 ⟨x,H1,I1,r1,q1⟩=>?_);exact thn (hr pos pins s1 σ H1 _ I1 q1) fun us s2 ⟨xs,H2,I2,r2,q2⟩=>⟨x::xs,H2,I2,.cons r1 r2,q2⟩
def JT (t:TA):TE:=fun σ H Q=>t σ H fun xs H1=>xs.length≤Af∧∀ p,H1 p=none→Q (.ref p) (upd H1 p (.tup xs))
def vC (t:TA):TE:=fun σ H Q=>t σ H fun xs H1=>xs.length≤Af∧∀ p,H1 p=none→Q (.ref p) (upd H1 p (.lst xs))
theorem qi {x1} (h:PA X es t):PE X (.Tuple es x1 pos) (JT t):=by
 intro pins s σ H Q I hq;refine wpAny_Tuple_spliced (thn (h pos pins s σ H _ I hq) fun us s1 ⟨xs,H1,I1,r,z,q⟩=>⟨by rw [← r.length];exact z,?_⟩)
 have hf:H1 s1.heap.objs.size=none:=I1.hok.fresh (Aj _);refine ⟨.ref s1.heap.objs.size,upd H1 s1.heap.objs.size (.tup xs),I1.laid (t':=s1.toks) (fun b u e=>Ap _ e) (Aj _) ?_,rfl,q _ hf⟩;exact ⟨z,us,r,⟨_,A6 _ rfl,rfl,_,rfl⟩⟩
theorem qX (h:PA X es t):PE X (.List es pos) (vC t):=by
 intro pins s σ H Q I hq;refine wpAny_List_spliced (thn (h pos pins s σ H _ I hq) fun us s1 ⟨xs,H1,I1,r,z,q⟩=>⟨by rw [← r.length];exact z,?_⟩)
 have hf:H1 s1.heap.objs.size=none:=I1.hok.fresh (Aj _);refine ⟨.ref s1.heap.objs.size,upd H1 s1.heap.objs.size (.lst xs),I1.laid (t':=s1.toks) (fun b u e=>Ap _ e) (Aj _) ?_,rfl,q _ hf⟩;exact ⟨z,us,0,r,A6 _ rfl⟩
end
abbrev Sp:=List V→Hp→VK→XK→Prop
abbrev CXT:=List Env→Hp→Ae→XK→Ab→Ae→Prop
structure Env0 (P:Program) (w:World) (K:Frag) (mg:Str→Option Ab) (base:Heap) (A:Around) (outer:List Env) (s:Ae) (H:Hp):Prop where
 frames:A.frames=some outer
 mod:Mod K mg base
 bs:∀ b o,base.get? b=some o→s.heap.get? b=some o∧H b=none
 bsz:base.objs.size≤s.heap.objs.size
 funs:s.heap.FunFrames base outer
 frf:∀ b∈frs outer,H b=none
 hok:HOk P w H s.heap
 bare:AllBare s.gens
def CE (outer:List Env) (P:Program) (w:World) (H:Hp) (s:Ae) (Q:VK) (u:Ab) (s':Ae):Prop:=
 ∃ v H',s'.os=s.os∧AllBare s'.gens∧Un (frs outer) [] H H' s.heap s'.heap∧HOk P w H' s'.heap∧qK v u∧Q v H'
def CR (CX:CXT) (outer:List Env) (P:Program) (w:World) (H:Hp) (s:Ae) (Q:VK) (E:XK) (r:Result) (s':Ae):Prop:=
 match r with
 | .ok (.ret u)=>CE outer P w H s Q u s'
 | .ok _=>False
 | .error e=>CX outer H s E e s'
structure FnOk (P:Program) (w:World) (K:Frag) (mg:Str→Option Ab) (base:Heap) (CX:CXT) (k:Nat) (f:Ac) (fd:FuncData) (ps:List Str) (sp:Sp):Prop where
 len:∀ vs H Q E,sp vs H Q E→vs.length=ps.length
 run:∀ (A:Around) (outer:List Env) (s:Ae) (H:Hp) (args:Args) (us:List Ab) (vs:List V) (Q:VK) (E:XK),Room k A→Env0 P w K mg base A outer s H→BindsTo s fd args (ps.zip us)→qL vs us→sp vs H Q E→
  codeAny (model P w) A (.call (.ref f) args) (CR CX outer P w H s Q E) s
theorem FnOk.mono {P:Program} {w:World} {K:Frag} {mg:Str→Option Ab} {base:Heap} {CX:CXT} {j k:Nat} {f:Ac} {fd:FuncData} {ps:List Str} {sp:Sp} (F:FnOk P w K mg base CX j f fd ps sp) (h:j≤k):
  FnOk P w K mg base CX k f fd ps sp:=⟨F.len,fun A outer s H args us vs Q E hr=>F.run A outer s H args us vs Q E (hr.mono h)⟩
section
variable {X:Cx} {pins:List (Ac×Obj)} {σ:St} {H:Hp} {s s':Ae}
theorem Inv.env0 (I:Inv X pins σ H s):Env0 X.prog X.w X.K X.mg X.base X.A X.stack s H:=
 ⟨I.ok.frames,I.ok.mod,I.bs,As I.ok.bsz I.sz,I.stack,I.stkFree,I.hok,I.bare⟩
theorem Inv.after {Q:VK} {u:Ab} (I:Inv X pins σ H s) (h:CE X.stack X.prog X.w H s Q u s'):EP X pins σ Q u s':=by
 obtain ⟨v,H',os,bare,un,hok,r,q⟩:=h;obtain ⟨hh,g,d,t,os'⟩:=s';obtain rfl:os'=s.os:=os;exact ⟨v,H',I.call (h':=hh) (g':=g) (d':=d) (t':=t) (ch:=[]) un hok bare (fun b z=>absurd z (by simp)),r,q⟩
end
def zB (sp:Sp) (dvs:List V) (E:XK) (t:TA):TE:=fun σ H Q=>t σ H fun vs H1=>sp (vs++dvs) H1 Q E
def Js (K:Frag) (fd:FuncData) (ps:List Str) (ds:List Ab):Prop:=
 ∀ (s:Ae) (us:List Ab),K.In s.heap→(us++ds).length=ps.length→BindsTo s fd ⟨us,[]⟩ (ps.zip (us++ds))
theorem Js.all {K:Frag} {fd:FuncData} {ps:List Str} (h:∀ us:List Ab,us.length=ps.length→bindArgs fd ⟨us,[]⟩=pure (ps.zip us)):Js K fd ps []:=fun s us _ hl=>by
 rw [By] at hl ⊢;exact .of_eq (h us hl)
def vN (CX:CXT) (X:Cx) (E:XK):Prop:=∀ (pins:List (Ac×Obj)) (σ:St) (H:Hp) (s:Ae) (e:Ab) (s':Ae),Inv X pins σ H s→CX X.stack H s E e s'→X.xe e s'
section
variable {X:Cx} {CX:CXT} {k:Nat} {f C:Ac} {fd:FuncData} {ps:List Str} {sp:Sp} {dvs:List V} {ds:List Ab} {E:XK} {x m:Str} {p pos apos:Pos} {e o:Expr} {es:List Expr} {ta:TE} {t:TA}
theorem qbv {pins:List (Ac×Obj)} {σ:St} {H:Hp} {s:Ae} {Q:VK} {us:List Ab} {vs:List V} (F:FnOk X.prog X.w X.K X.mg X.base CX k f fd ps sp) (hr:Room k X.A) (hb:Js X.K fd ps ds) (hd:qL dvs ds) (hx:vN CX X E)
  (I:Inv X pins σ H s) (r:qL vs us) (h:sp (vs++dvs) H Q E):wpAny (model X.prog X.w) X.A (call (.ref f) us) (EP X pins σ Q) X.xe s:=by
 have r2:qL (vs++dvs) (us++ds):=r.append hd;have hl:(us++ds).length=ps.length:=by rw [← r2.length];exact F.len _ _ _ _ h
 refine wpAny_call (Ec (F.run X.A X.stack s H ⟨us,[]⟩ (us++ds) (vs++dvs) Q E hr I.env0 (hb s us I.kIn hl) r2 h) fun r s' hq=>?_);cases r with
 | error e=>exact hx pins σ H s e s' I hq
 | ok fl=>
  cases fl with
  | ret u=>exact I.after hq
  | next=>exact False.elim hq
  | brk=>exact False.elim hq
  | cont=>exact False.elim hq
theorem YZ (F:FnOk X.prog X.w X.K X.mg X.base CX k f fd ps sp) (hr:Room k X.A) (hg:Gl X x) (hm:X.mg x=some (.ref f)) (hk:PySem.W.keepIn X.K (.ref f)=true) (hb:Js X.K fd ps ds) (hd:qL dvs ds) (hx:vN CX X E)
  (ha:PA X (e::es) t) (hdb:(x==("__debug__":Str))=false:=by decide) (he:starEach (e::es) X.env=(false,eval e X.env)::starEach es X.env:=by rfl) (hpl:(backTo pos (starEach es X.env)).any (·.1)=false:=by rfl):
  PE X (.Call (.Name x p) (e::es) [] pos) (zB sp dvs E t):=by
 intro pins s σ H Q I h;refine Dr (JN I hg hm ?_ hdb);refine PySem.W.callWith_K (h₀:=X.base) I.ok.mod.kin hk (thn (ha pos pins s σ H _ I h) fun us s1 ⟨vs,H1,I1,r,q⟩=>⟨I1.kIn,?_⟩) he hpl;exact qbv F hr hb hd hx I1 r q
structure Mk (K:Frag) (C f:Ac):Prop where
 makes:PySem.W.makesIn K C=true
 init:PySem.W.findIn K (.ref C) "__init__"=some (some (.ref f))
 fn:PySem.W.isFn K (.ref f)=true
 kp:PySem.W.keepIn K (.ref C)=true
end
def PK (X:Cx) (kws:List Keyword) (t:TA):Prop:=
 ∀ (pos:Pos) (pins:List (Ac×Obj)) (s:Ae) (σ:St) (H:Hp) (Q:List V→Hp→Prop),Inv X pins σ H s→t σ H Q→wpAny (model X.prog X.w) X.A (evalAll ((backToKw pos (keywordEach kws X.env)).map (·.2))) (AP X pins σ Q) X.xe s
section
variable {X:Cx} {CX:CXT} {k:Nat} {f C:Ac} {fd:FuncData} {ps ks:List Str} {sp:Sp} {E:XK} {x m:Str} {p pos apos kpos:Pos} {e o:Expr} {es:List Expr} {kws:List Keyword} {te ta:TE} {t tk:TA} {nm:Option Str}
theorem qb7:PK X [] zf:=fun _ _ _ _ H Q I h=>wpAny_evalAll_nil ⟨[],H,I,.nil,h⟩
theorem Q1 (ha:PE X e te) (hr:PK X kws t):PK X (⟨nm,e,kpos⟩::kws) (qw te t):=by
 intro pos pins s σ H Q I h;show wpAny _ _ (evalAll ((do let v ← eval e X.env;standAt pos;pure v)::(backToKw pos (keywordEach kws X.env)).map (·.2))) _ _ s
 refine wpAny_evalAll_cons (Ah (thn (ha pins s σ H _ I h) fun u s1 ⟨x,H1,I1,r1,q1⟩=>Ah (wpAny_standAt (Ar ?_))));exact thn (hr pos pins s1 σ H1 _ I1 q1) fun us s2 ⟨xs,H2,I2,r2,q2⟩=>⟨x::xs,H2,I2,.cons r1 r2,q2⟩
variable {g:List Ab→List Ab→List Ab} {gV:List V→List V→List V}
end
structure FnScope (N P:List Str) (sc:Scope):Prop where
 kind:sc.kind= .function
 co:sc.isCoroutine=false
 gen:sc.isGenerator=false
 nd:N.Nodup
 pre:N.take P.length=P
 par:∀ x∈P,sc.names.lookup x=some .local∨sc.names.lookup x=some .cell
 nofree:∀ y∈sc.names,y.2≠ .free
theorem Wn {kindOf:Str→Option NameKind} {x:Str}:∀ {binds:List (Str×Ab)} {m:Str→Option Ab},(∀ v,(x,v)∉binds)→bindL kindOf binds m x=m x
 | [],_,_=>rfl
 | (n,v)::r,m,h=>by
  unfold bindL;rw [Wn fun w hw=>h w (Au _ hw)];split
  ·have:x≠n:=by rintro rfl;exact h v A0
   simp [this]
  ·rfl
theorem Wo {kindOf:Str→Option NameKind} {x:Str}:∀ {binds:List (Str×Ab)} {m:Str→Option Ab},(∀ v,(x,v)∉binds)→bindC kindOf binds m x=m x
 | [],_,_=>rfl
 | (n,v)::r,m,h=>by
  unfold bindC;rw [Wo fun w hw=>h w (Au _ hw)];split
  ·rfl
  ·have:x≠n:=by rintro rfl;exact h v A0
   simp [this]
theorem Vy {kindOf:Str→Option NameKind} {x:Str} {v:Ab}:∀ {P:List Str} {vs:List Ab} {i:Nat} {m:Str→Option Ab},P.Nodup→P[i]?=some x→vs[i]?=some v→kindOf x=some .local→
  bindL kindOf (P.zip vs) m x=some v
 | [],_,_,_,_,h,_,_=>by simp at h
 | _::_,[],_,_,_,_,h,_=>by simp at h
 | p::P,w::vs,0,m,nd,h1,h2,hk=>by
  simp at h1 h2;subst h1;subst h2;show bindL kindOf ((p,w)::P.zip vs) m p=_;unfold bindL;rw [Wn fun v hv=>(Cy.mp nd).1 (Cw hv).1,if_pos hk];simp
 | p::P,w::vs,i+1,m,nd,h1,h2,hk=>by
  show bindL kindOf ((p,w)::P.zip vs) m x=_;unfold bindL;exact Vy (i:=i) (Cy.mp nd).2 (by simpa using h1) (by simpa using h2) hk
theorem Vz {kindOf:Str→Option NameKind} {x:Str} {v:Ab}:∀ {P:List Str} {vs:List Ab} {i:Nat} {m:Str→Option Ab},P.Nodup→P[i]?=some x→vs[i]?=some v→kindOf x≠some .local→
  bindC kindOf (P.zip vs) m x=some v
 | [],_,_,_,_,h,_,_=>by simp at h
 | _::_,[],_,_,_,_,h,_=>by simp at h
 | p::P,w::vs,0,m,nd,h1,h2,hk=>by
  simp at h1 h2;subst h1;subst h2;show bindC kindOf ((p,w)::P.zip vs) m p=_;unfold bindC;rw [Wo fun v hv=>(Cy.mp nd).1 (Cw hv).1,if_neg hk];simp
 | p::P,w::vs,i+1,m,nd,h1,h2,hk=>by
  show bindC kindOf ((p,w)::P.zip vs) m x=_;unfold bindC;exact Vz (i:=i) (Cy.mp nd).2 (by simpa using h1) (by simpa using h2) hk
def zW (N:List Str) (vs:List V):St:=vs.map some++List.replicate (N.length - vs.length) none
def Vd (CX:CXT) (P:Program) (w:World) (K:Frag) (mg:Str→Option Ab) (base:Heap) (N:List Str) (qual:Str) (scope:Scope) (f:Ac) (cd:Ab) (A:Around) (outer:List Env) (s:Ae) (H:Hp) (E:XK):Cx where
 prog:=P
 w:=w
 K:=K
 mg:=mg
 base:=base
 A:=A.deeper (envOfC qual scope s.heap.objs.size f cd)
 N:=N
 s₀:=s
 H₀:=H
 env:=envOfC qual scope s.heap.objs.size f cd
 outer:=outer
 stack:=envOfC qual scope s.heap.objs.size f cd::outer
 ex:=[]
 calm:=true
 fn:=fun _=>true
 pn:=[]
 xe:=fun e s'=>wpAny (model P w) (A.deeper (envOfC qual scope s.heap.objs.size f cd)) (leaving (envOfC qual scope s.heap.objs.size f cd) e) (fun _ s''=>CX outer H s E e s'') (fun e' s''=>CX outer H s E e' s'') s'
theorem Vg {sc:Scope} {n:Nat} {x:Str} (h:sc.names.lookup x=some .cell):∃ c,(cellsFrom n sc.names []).lookup x=some c:=by
 have q:=Dt sc.names n [] (.inl h);exact Dn.mp q
theorem Wb {CX:CXT} {P:Program} {w:World} {K:Frag} {mg:Str→Option Ab} {base:Heap} {N ps:List Str} {qual:Str} {scope:Scope} {f:Ac} {cd:Ab} {A:Around} {outer:List Env} {s s1:Ae} {H:Hp} {E:XK} {us:List Ab} {vs:List V}
  (S:FnScope N ps scope) (hd:A.handled=none) (e0:Env0 P w K mg base A outer s H) (hl:vs.length=ps.length) (r:qL vs us)
  (x:InCallC s s.heap.objs.size (bindL (envOfC qual scope s.heap.objs.size f cd).kindOf (ps.zip us) fun _=>none) (cellsFrom (s.heap.objs.size+1) scope.names []) (bindC (envOfC qual scope s.heap.objs.size f cd).kindOf (ps.zip us) fun _=>none) s1):
  Inv (Vd CX P w K mg base N qual scope f cd A outer s H E) [] (zW N vs) H s1:=by
 have hpl:ps.length≤N.length:=by have:=congrArg List.length S.pre;rw [Bq] at this;omega
 obtain ⟨h1,tk,rfl,hk⟩:=x.done;have noA:∀ b:Ac,b∉(Vd CX P w K mg base N qual scope f cd A outer s H E).ex:=fun b z=>absurd (show b∈([]:List Ac) from z) (by simp)
 refine ⟨⟨e0.mod,S.kind,rfl,rfl,Aj _,fun y z c h1 h2=>?_,fun y hy=>?_,fun y c _ h=>?_,fun _=>hd,Around.frames_deeper e0.frames,.inr ⟨rfl,rfl⟩,fun b z=>absurd z (noA b),e0.bs,e0.bsz,fun b _ _=>noA b,fun b z=>absurd z (noA b),e0.funs,e0.frf⟩,
  rfl,e0.bare,Un.kept hk,⟨_,x.toInCall.ns,fun i y v h1 h2 h3=>?_⟩,fun y c h=>⟨_,x.cell y c h⟩,e0.hok.fresh (Aj _),fun y c h=>?_,fun p hp=>absurd (show p∈([]:List (Ac×Obj)) from hp) (by simp),e0.hok.kept hk,?_⟩
 ·exact name_of_addr x.apart (Bb h1) (Bb h2)
 ·have hy:scope.names.lookup y=some .cell∨scope.names.lookup y=some .free:=hy;rcases hy with hy | hy
  ·exact Vg hy
  ·exact absurd rfl (S.nofree _ (Bb hy))
 ·exact Eb (x.above y c (Bb h))
 ·have hi:i<vs.length:=by
   unfold zW at h2
   by_cases hi:i<vs.length
   ·exact hi
   ·rw [List.getElem?_append_right (by simpa using hi)] at h2
    rw [List.getElem?_replicate] at h2;split at h2 <;> cases h2
  have ha:vs[i]?=some v:=by
   unfold zW at h2;rw [List.getElem?_append_left (by simpa using hi),Bm] at h2
   cases e:vs[i]? with
   | none=>rw [e] at h2;cases h2
   | some a=>rw [e] at h2;cases h2;rfl
  obtain ⟨u,hu,rv⟩:=r.get ha;have hp:ps[i]?=some y:=by
   rw [← S.pre,List.getElem?_take_of_lt ⋯];exact h1
  have ndP:ps.Nodup:=by rw [← S.pre];exact S.nd.sublist (List.take_sublist _ _)
  refine ⟨u,rv,?_⟩;rcases S.par y (Bi hp) with k | k
  ·exact .inl ⟨k,Vy ndP hp hu k⟩
  ·obtain ⟨c,e⟩:=Vg (n:=s.heap.objs.size+1) k;refine .inr ⟨.inl k,c,e,?_⟩;have q:=x.cell y c e;rw [Vz ndP hp hu (by show scope.names.lookup y≠_;rw [k];decide)] at q
   exact q
 ·exact e0.hok.fresh (Eb (x.above y c (Bb h)))
 ·unfold zW;show _=N.length;rw [A8,An,Dw];omega
theorem qbf {CX:CXT} {P:Program} {w:World} {K:Frag} {mg:Str→Option Ab} {base:Heap} {k:Nat} {f:Ac} {name qual:Str} {params:Arguments} {body:List Stmt} {scope:Scope} {dV kV doc pm cdv ct oc:Ab} {an od:Option Ac}
  {osl:Array (Option Ab)} {N ps:List Str} {sp:Sp} (lk:K.lookup f=some ⟨oc,od,.func (PySem.W.fnOf name qual params body scope dV kV doc pm an cdv ct),osl⟩) (hcd:PySem.W.codeIn K cdv qual=true) (S:FnScope N ps scope)
  (len:∀ vs H Q E,sp vs H Q E→vs.length=ps.length)
  (hbody:∀ (A:Around) (outer:List Env) (s:Ae) (H:Hp) (vs:List V) (Q:VK) (E:XK),Room k (A.deeper (envOfC qual scope s.heap.objs.size f cdv))→sp vs H Q E→
   ∃ t,PSs (Vd CX P w K mg base N qual scope f cdv A outer s H E) body t∧t {nx:=fun _ H'=>Q .non H',rt:=Q} (zW N vs) H):
  FnOk P w K mg base CX (k+1) f (PySem.W.fnOf name qual params body scope dV kV doc pm an cdv ct) ps sp:=by
 refine ⟨len,fun A outer s H args us vs Q E hr e0 hb r hsp=>?_⟩;have hl:=len _ _ _ _ hsp;have KX:K.In s.heap:=e0.mod.kin.keeps fun b o e=>(e0.bs b o e).1;have lim:s.heap.NoLimit:=e0.mod.nolimit.keeps fun b o e=>(e0.bs b o e).1;have hkind:∀ y∈ps.zip us,scope.names.lookup y.1=some .local∨(scope.names.lookup y.1=some .cell∧((cellsFrom (s.heap.objs.size+1) scope.names []).lookup y.1).isSome=true):=fun ⟨n,v⟩ hy=>by
  rcases S.par n (Cw hy).1 with q | q
  ·exact .inl q
  ·exact .inr ⟨q,Dt _ _ _ (.inl q)⟩
 refine codeAny_call_function hr.depth (KX _ _ lk) rfl S.co S.gen rfl (PySem.W.codeRec_of KX hcd) (hb _ _ _ _ ?_);refine wpAny_newFunctionEnv_cells S.kind hkind fun env he s1 x=>?_;subst he;refine ⟨lim.keeps x.toInCall.keep,codeAny_func ?_⟩;obtain ⟨t,ht,hq⟩:=hbody A outer s H vs Q E (hr.deeper _) hsp;have I:Inv (Vd CX P w K mg base N qual scope f cdv A outer s H E) [] (zW N vs) H s1:=Wb S hr.hd e0 hl r x;refine C0 (ht [] s1 (zW N vs) H _ I hq) (fun fl s' hs=>?_) fun e s' hs=>hs;have fin:∀ {σ':St} {H':Hp} {v:V} {u:Ab},Inv (Vd CX P w K mg base N qual scope f cdv A outer s H E) [] σ' H' s'→qK v u→Q v H'→CE outer P w H s Q u s':=
  fun {σ' H' v u} J rv q=>⟨v,H',J.os,J.bare,J.base,J.hok,rv,q⟩
 cases fl with
 | ret u=>
  obtain ⟨v,σ',H',J,rv,q⟩:=hs;exact fin J rv q
 | next=>
  obtain ⟨σ',H',J,q⟩:=hs;exact fin (v:=V.non) (u:=Value.none) J rfl q
 | brk=>
  obtain ⟨_,_,_,q⟩:=hs;exact False.elim q
 | cont=>
  obtain ⟨_,_,_,q⟩:=hs;exact False.elim q
section
variable {X:Cx} {x:Str} {p pos:Pos} {e:Expr} {es:List Expr} {t:TA} {id T:String} {r:List V→Hp→VK→Prop}
def tCB (r:List V→Hp→VK→Prop) (t:TA):TE:=fun σ H Q=>t σ H fun vs H1=>r vs H1 Q
theorem qu (hc:jb X (.builtin id) r) (hg:Gl X x) (hm:X.mg x=none) (hv:bootBuiltins x=some (.builtin id)) (ha:PA X (e::es) t) (hn:x≠"__name__":=by decide) (hdb:(x==("__debug__":Str))=false:=by decide)
  (he:starEach (e::es) X.env=(false,eval e X.env)::starEach es X.env:=by rfl) (hpl:(backTo pos (starEach es X.env)).any (·.1)=false:=by rfl):PE X (.Call (.Name x p) (e::es) [] pos) (tCB r t):=by
 intro pins s σ H Q I h;refine Dr (Vv I hg hm hv ?_ hn hdb);exact PyProof.Rows.callWith_builtin1 (thn (ha pos pins s σ H _ I h) fun us s1 ⟨vs,H1,I1,r1,q1⟩=>hc pins s1 σ H1 vs us Q I1 r1 q1) he hpl
theorem zt (hc:jb X (.type T) r) (hg:Gl X x) (hm:X.mg x=none) (hv:bootBuiltins x=some (.type T)) (ha:PA X (e::es) t) (hn:x≠"__name__":=by decide) (hdb:(x==("__debug__":Str))=false:=by decide)
  (he:starEach (e::es) X.env=(false,eval e X.env)::starEach es X.env:=by rfl) (hpl:(backTo pos (starEach es X.env)).any (·.1)=false:=by rfl):PE X (.Call (.Name x p) (e::es) [] pos) (tCB r t):=by
 intro pins s σ H Q I h;refine Dr (Vv I hg hm hv ?_ hn hdb);exact PyProof.Rows.callWith_type1 (thn (ha pos pins s σ H _ I h) fun us s1 ⟨vs,H1,I1,r1,q1⟩=>hc pins s1 σ H1 vs us Q I1 r1 q1) he hpl
end
end L2
namespace HT
open PySem PyProof.Rows
section
open PySem.SeqAt
open PySem.AutoSeq1 (wpAny_loadPart')
open PySem.MeetsSeq PySem.MeetsSeq2 PySem.MeetsSeq3
end
section
variable {prog:Program} {w:World} {A:Around} {E:Ab→Ae→Prop} {s:Ae}
theorem cat_tup {t b:Ac} {vs ws:List Ab} {Q:Ab→Ae→Prop} (ht:IsTup s.heap t vs.toArray) (hb:IsTup s.heap b ws.toArray) (hv:vs≠[])
  (h1:ws=[]→Q (.ref t) s) (h2:ws≠[]→Q (.ref s.heap.objs.size) {s with heap:=s.heap.push {cls:= .type "tuple",data:= .seq (vs++ws).toArray}})
  (hsz:vs.length+ws.length≤Af):wpAny (model prog w) A (binaryOp .Add (.ref t) (.ref b)) Q E s:=by
 obtain ⟨⟨cls,dd,data,sl⟩,ho,hc,n,hd⟩:=id ht;obtain ⟨⟨cls2,dd2,data2,sl2⟩,ho2,hc2,n2,hd2⟩:=id hb;simp only at hc hd hc2 hd2;subst hc hd hc2 hd2;have e:vs.toArray++ws.toArray=(vs++ws).toArray:=by simp
 by_cases hw:ws=[]
 ·exact concat_meets ⟨_,ho,rfl⟩ ⟨_,ho2,rfl⟩ noFill_tuple_add seq_tuple_add PySem.F.slot_tuple_add PySem.F.entry_tuple_add (PySem.F.args_tuple_add_2 _ _)
   (tuple_addW1 t b vs.toArray ws.toArray n n2 dd dd2 sl sl2 (by simpa using hv) (by simp [hw])) ⟨ho,ho2,h1 hw⟩
 ·refine concat_meets ⟨_,ho,rfl⟩ ⟨_,ho2,rfl⟩ noFill_tuple_add seq_tuple_add PySem.F.slot_tuple_add PySem.F.entry_tuple_add (PySem.F.args_tuple_add_2 _ _)
   (tuple_addW2 t b vs.toArray ws.toArray n n2 dd dd2 sl sl2 (by simpa using hv) (by simpa using hw) (by rw [Ax,Ax];exact hsz)) ⟨ho,ho2,?_⟩
  rw [e];exact h2 hw
def sIx (n d:Nat):Option Int→Nat
 | none=>d
 | some v=>if v<0 then (v+(n:Int)).toNat else min v.toNat n
theorem sIx_none (n d:Nat):sIx n d none=d:=rfl
theorem sIx_nat (n d k:Nat):sIx n d (some (k:Int))=min k n:=by
 show (if (k:Int)<0 then ((k:Int)+(n:Int)).toNat else min (k:Int).toNat n)=min k n
 rw [if_neg ⋯,Eh]
theorem qbu (n d:Nat) (hd:d≤n) (o:Option Int):sIx n d o≤n:=by
 cases o with
 | none=>exact hd
 | some v=>
  show (if v<0 then (v+(n:Int)).toNat else min v.toNat n)≤n
  by_cases hv:v<0
  ·rw [if_pos hv];omega
  ·rw [if_neg hv];exact Nat.min_le_right _ _
theorem Xh (v:Int) (n d:Nat):(if v<0 then max (v+(n:Int)) 0 else min v (n:Int))=((sIx n d (some v):Nat):Int):=by
 show (if v<0 then max (v+(n:Int)) 0 else min v (n:Int))=(((if v<0 then (v+(n:Int)).toNat else min v.toNat n):Nat):Int)
 by_cases hv:v<0
 ·simp only [if_pos hv];omega
 ·simp only [if_neg hv];omega
theorem YF (lo hi:Option Int) (n:Nat):Builtin.Slice.sliceAdjust lo hi 1 (n:Int)=(((sIx n 0 lo:Nat):Int),((sIx n n hi:Nat):Int)):=by
 have h1:¬ ((1:Int)<0):=⋯;unfold Builtin.Slice.sliceAdjust;simp only [h1,if_false];refine Prod.ext ?_ ?_
 ·cases lo with
  | none=>rfl
  | some v=>exact Xh v n 0
 ·cases hi with
  | none=>rfl
  | some v=>exact Xh v n n
theorem Yl (i j:Nat):Builtin.Slice.slicePlaces (i:Int) (j:Int) 1=j - i:=by
 unfold Builtin.Slice.slicePlaces;have h1:(1:Int)>0:=⋯;simp only [h1,if_true,Int.ediv_one];split <;> omega
theorem wg {v:Ab} {o:Option Int} {Q:Option Int→Ae→Prop} (p:IsPart v o) (h:Q o s):wpAny (model prog w) A (Builtin.Slice.slicePartIndex v) Q E s:=by
 cases p with
 | none=>exact slicePart_none h
 | int i t=>exact slicePart_int h
theorem JB {sl:Ac} {vl vu:Ab} {lo hi:Option Int} {n:Nat} {Q:Int×Int×Nat→Ae→Prop} (hs:s.heap.IsSliceOf sl vl vu .none) (pl:IsPart vl lo) (pu:IsPart vu hi)
  (h:Q (((sIx n 0 lo:Nat):Int),1,sIx n n hi - sIx n 0 lo) s):wpAny (model prog w) A (Builtin.Slice.sliceApplied (.ref sl) (pure (n:Int))) Q E s:=by
 obtain ⟨os,hos,hcs,hds⟩:=id hs;unfold Builtin.Slice.sliceApplied Builtin.Slice.sliceFields;refine Ah (Ah (B4 hos hds (x:=vl) rfl (Ah (B4 hos hds (x:=vu) rfl (Ah (B4 hos hds (x:= .none) rfl (Ar ?_)))))));refine Ah (slicePart_none ?_);show wpAny _ _ (if ((1:Int)==0)=true then _ else _) _ _ s
 rw [if_neg O0];refine Ah (wg pl (Ah (wg pu (Ah (Ar ?_)))));show wpAny _ _ (match Builtin.Slice.sliceAdjust lo hi 1 (n:Int) with | (lo,hi)=>pure (lo,(1:Int),Builtin.Slice.slicePlaces lo hi 1)) _ _ s
 rw [YF lo hi n];show wpAny _ _ (pure (((sIx n 0 lo:Nat):Int),(1:Int),Builtin.Slice.slicePlaces ((sIx n 0 lo:Nat):Int) ((sIx n n hi:Nat):Int) 1)) _ _ s;rw [Yl];exact Ar h
theorem ZZ (xs:Array Ab) (i k:Nat):((List.range k).filterMap fun (m:Nat)=>xs[((i:Int)+(m:Int)*1).toNat]?).toArray=((xs.toList.drop i).take k).toArray:=by
 have e:(fun (m:Nat)=>xs[((i:Int)+(m:Int)*1).toNat]?)=fun m=>xs[i+m]?:=by
  funext m;have:((i:Int)+(m:Int)*1).toNat=i+m:=⋯;rw [this]
 rw [e];have:=pick_run xs i k;rw [List.filterMap_map] at this;have e2:((fun x=>xs[x]?) ∘ fun x=>i+x)=fun m=>xs[i+m]?:=rfl;rw [e2] at this;rw [this]
theorem getItem_tuple_cut {t sl:Ac} {items:Array Ab} {vl vu:Ab} {lo hi:Option Int} {Q:Ab→Ae→Prop} (ht:IsTup s.heap t items) (hs:s.heap.IsSliceOf sl vl vu .none) (pl:IsPart vl lo) (pu:IsPart vu hi)
  (hw:¬ (sIx items.size 0 lo=0∧sIx items.size items.size hi=items.size))
  (h:Q (.ref s.heap.objs.size) {s with heap:=s.heap.push {cls:= .type "tuple",data:= .seq ((items.toList.drop (sIx items.size 0 lo)).take (sIx items.size items.size hi - sIx items.size 0 lo)).toArray}})
  (hsz:items.size≤Af):wpAny (model prog w) A (getItem (.ref t) (.ref sl)) Q E s:=by
 have htake:sizeOk (.seq ((items.toList.drop (sIx items.size 0 lo)).take (sIx items.size items.size hi - sIx items.size 0 lo)).toArray):=by
  show ((items.toList.drop (sIx items.size 0 lo)).take (sIx items.size items.size hi - sIx items.size 0 lo)).toArray.size≤Af;rw [Ax,Bq,C8,Array.length_toList];omega
 have hj:sIx items.size items.size hi≤items.size:=qbu _ _ (Aj _) hi;obtain ⟨os,hos,hcs,hds⟩:=id hs;have hTs:s.TypeIs (.ref sl) "slice":=⟨os,hos,hcs⟩;unfold getItem
 try with_reducible refine B7 ?_
 first | refine Ah (Ar ?_) | skip
 refine Ah (wpAny_sequenceKey ht.typeIs O0 ?_);refine Ah (Ck (name:=Str.ofString "__getitem__") ht.typeIs PyProof.Rows.slot_tuple_getitem
  (Dm PyProof.Rows.slot_tuple_getitem ht.typeIs entry_tuple_getitem ?_ (args_tuple_getitem _ _)))
 show wpAny _ _ (Builtin.Tuple.tupleItemsOf (.ref t)>>=_) _ _ s;refine Ah (tupleItemsOf_ ht ?_);refine Ah (wpAny_typeOf hTs ?_);rw [if_pos O0];refine Ah (JB hs pl pu ?_);have hno:¬ ((((sIx items.size 0 lo:Nat):Int)==0&&(1:Int)==1&&(sIx items.size items.size hi - sIx items.size 0 lo)==items.size)=true):=by
  intro q;rw [Ao,Ao] at q;have q1:((sIx items.size 0 lo:Nat):Int)=0:=eq_of_beq q.1.1;have q2:sIx items.size items.size hi - sIx items.size 0 lo=items.size:=eq_of_beq q.2;exact hw ⟨⋯,⋯⟩
 show wpAny _ _ (if (((sIx items.size 0 lo:Nat):Int)==0&&(1:Int)==1&&(sIx items.size items.size hi - sIx items.size 0 lo)==items.size)=true then _ else _) _ _ s
 rw [if_neg hno,ZZ]
 first
  | exact Ah (m:=Builtin.Tuple.tupleExact _) (C3 (Ar ⟨_,rfl,Ar h⟩) htake)
  | exact Ah (m:=Builtin.Tuple.tupleExact _) (C3 (Ah (Ar (Ar ⟨_,rfl,Ar h⟩))) htake)
  | exact Ah (Ah (m:=Builtin.Tuple.tupleExact _) (C3 (Ar (Ar ⟨_,rfl,Ar h⟩)) htake))
  | exact Ah (Ah (m:=Builtin.Tuple.tupleExact _) (C3 (Ar ⟨_,rfl,Ar h⟩) htake))
end
end HT
namespace L2
open PySem PySem.Spec PyProof.Rows
abbrev TO:=St→Hp→(Option Int→Hp→Prop)→Prop
def PO (X:Cx) (e:Option Expr) (t:TO):Prop:=
 ∀ (pins:List (Ac×Obj)) (s:Ae) (σ:St) (H:Hp) (Q:Option Int→Hp→Prop),Inv X pins σ H s→t σ H Q→
  wpAny (model X.prog X.w) X.A (evalPart e X.env) (fun u s'=>∃ o H',Inv X pins σ H' s'∧IsPart u o∧Q o H') X.xe s
def QM:TO:=fun _ H Q=>Q none H
def Zl (t:TE):TO:=fun σ H Q=>t σ H fun x H1=>∃ i,x= .int i∧Q (some i) H1
section
variable {X:Cx} {e:Expr} {te:TE} {lo hi:Option Expr} {tl th:TO} {pos p2:Pos}
theorem jK:PO X none QM:=by
 intro pins s σ H Q I h;rw [evalPart_none];exact Ar ⟨none,H,I,.none,h⟩
theorem je (h:PE X e te):PO X (some e) (Zl te):=by
 intro pins s σ H Q I hw;rw [evalPart_some];refine thn (h pins s σ H _ I hw) fun u s1 ⟨x,H1,I1,r1,q1⟩=>?_;obtain ⟨i,rfl,q⟩:=q1;obtain ⟨t,rfl⟩:=r1;exact ⟨some i,H1,I1,.int i t,q⟩
def SlR (X:Cx) (r:V→Option Int→Option Int→Hp→VK→Prop):Prop:=
 ∀ (pins:List (Ac×Obj)) (s:Ae) (σ:St) (H:Hp) (x:V) (v vl vu:Ab) (lo hi:Option Int) (sl:Ac) (Q:VK),Inv X pins σ H s→qK x v→s.heap.IsSliceOf sl vl vu .none→IsPart vl lo→IsPart vu hi→r x lo hi H Q→
  ∃ T id,typeLookup (.type T) "__getitem__"=pure (some (.builtin id))∧s.TypeIs v T∧wpAny (model X.prog X.w) X.A (getItem v (.ref sl)) (EP X pins σ Q) X.xe s
theorem SlR.or {r r':V→Option Int→Option Int→Hp→VK→Prop} (h:SlR X r) (h':SlR X r'):SlR X (fun x lo hi H Q=>r x lo hi H Q∨r' x lo hi H Q):=by
 intro pins s σ H x v vl vu lo hi sl Q I rx hs pl pu q;rcases q with q | q
 ·exact h pins s σ H x v vl vu lo hi sl Q I rx hs pl pu q
 ·exact h' pins s σ H x v vl vu lo hi sl Q I rx hs pl pu q
def tSl (r:V→Option Int→Option Int→Hp→VK→Prop) (te:TE) (tl th:TO):TE:=fun σ H Q=>te σ H fun x H1=>tl σ H1 fun l H2=>th σ H2 fun u H3=>r x l u H3 Q
theorem zX {r:V→Option Int→Option Int→Hp→VK→Prop} (hr:SlR X r) (he:PE X e te) (hl:PO X lo tl) (hu:PO X hi th):PE X (.Subscript e (.Slice lo hi none p2) pos) (tSl r te tl th):=by
 intro pins s σ H Q I h;refine Subscript_ (thn (he pins s σ H _ I h) fun v s1 ⟨x,H1,I1,r1,q1⟩=>?_);refine wpAny_Slice (thn (hl pins s1 σ H1 _ I1 q1) fun vl s2 ⟨l,H2,I2,pl,q2⟩=>thn (hu pins s2 σ H2 _ I2 q2) fun vu s3 ⟨u,H3,I3,pu,q3⟩=>?_);rw [evalPart_none];refine Ar ?_;have I4:Inv X pins σ H3 {s3 with heap:=s3.heap.push {cls:= .type "slice",data:= .fields #[vl,vu,.none]}}:=I3.kept (t':=s3.toks) fun b ob q=>Ap _ q
 obtain ⟨T,id,hT,ht,hg⟩:=hr pins {s3 with heap:=s3.heap.push {cls:= .type "slice",data:= .fields #[vl,vu,.none]}} σ H3 x v vl vu l u s3.heap.objs.size Q I4 r1 (Heap.IsSliceOf.new ..) pl pu q3
 show wpAny (model X.prog X.w) X.A (subscriptTail e (.Slice lo hi none p2) v (.ref s3.heap.objs.size)) (EP X pins σ Q) X.xe {s3 with heap:=s3.heap.push {cls:= .type "slice",data:= .fields #[vl,vu,.none]}}
 exact tail_any (ops:=[.ref s3.heap.objs.size,v]) ht hT hg (by with_unfolding_all rfl)
def JP (xs:List V) (lo hi:Option Int):List V:=(xs.drop (HT.sIx xs.length 0 lo)).take (HT.sIx xs.length xs.length hi - HT.sIx xs.length 0 lo)
theorem VN (xs:List V) (lo hi:Option Int):(JP xs lo hi).length≤xs.length:=by
 unfold JP;rw [Bq,C8];omega
def qd1 (K:Frag):V→Option Int→Option Int→Hp→VK→Prop:=fun x lo hi H Q=>∃ a xs,x= .ref a∧SqT K H a xs∧
 ¬ (HT.sIx xs.length 0 lo=0∧HT.sIx xs.length xs.length hi=xs.length)∧∀ p,H p=none→Q (.ref p) (upd H p (.tup (JP xs lo hi)))
theorem ZK:SlR X (qd1 X.K):=by
 intro pins s σ H x v vl vu lo hi sl Q I rx hs pl pu h;obtain ⟨a,xs,rfl,hx,hw,q⟩:=h;cases rx;obtain ⟨its,r,ht,hz⟩:=I.tuple hx;have hlen:its.toArray.size=xs.length:=by rw [Ax];exact r.length.symm
 refine ⟨"tuple",_,PyProof.Rows.slot_tuple_getitem.lookup,ht.typeIs,?_⟩;refine HT.getItem_tuple_cut ht hs pl pu (by rw [hlen];exact hw) ?_ (by rw [hlen];exact hz)
 rw [hlen];refine ⟨.ref s.heap.objs.size,_,I.laid (t':=s.toks) (o:= .tup (JP xs lo hi)) (fun b ob q=>Ap _ q) (Aj _) ?_,rfl,q _ (I.hok.fresh (Aj _))⟩;exact ⟨As (VN xs lo hi) hz,_,(r.drop (HT.sIx xs.length 0 lo)).take (HT.sIx xs.length xs.length hi - HT.sIx xs.length 0 lo),IsTup.new _ _⟩
def qea (K:Frag):R2:=fun x y H Q=>∃ a b xs ys,x= .ref a∧y= .ref b∧SqT K H a xs∧SqT K H b ys∧xs≠[]∧xs.length+ys.length≤Af∧
 (ys=[]→Q (.ref a) H)∧(ys≠[]→∀ p,H p=none→Q (.ref p) (upd H p (.tup (xs++ys))))
theorem qL.nil_iff {xs:List V} {us:List Ab} (r:qL xs us):us=[]↔xs=[]:=by
 cases r with
 | nil=>simp
 | cons _ _=>simp
theorem qab:OpR X (binaryOp .Add) (qea X.K):=by
 intro pins s σ H x y v u Q I rx ry h;obtain ⟨a,b,xs,ys,rfl,rfl,ha,hb,hx,hz,q1,q2⟩:=h;cases rx;cases ry;obtain ⟨its,r1,p1,_⟩:=I.tuple ha;obtain ⟨its2,r2,p2,_⟩:=I.tuple hb;refine HT.cat_tup p1 p2 (fun z=>hx (r1.nil_iff.mp z)) (fun z=>⟨.ref a,H,I,rfl,q1 (r2.nil_iff.mp z)⟩) (fun z=>?_) (by rw [← r1.length,← r2.length];exact hz)
 refine ⟨.ref s.heap.objs.size,_,I.laid (t':=s.toks) (o:= .tup (xs++ys)) (fun b ob q=>Ap _ q) (Aj _) ?_,rfl,q2 (fun w=>z (r2.nil_iff.mpr w)) _ (I.hok.fresh (Aj _))⟩;exact ⟨by rw [A8];exact hz,_,r1.append r2,IsTup.new _ _⟩
end
def ixN (n:Nat) (i:Int):Option Nat:=if 0≤i then (if i<n then some i.toNat else none) else if -(n:Int)≤i then some (i+n).toNat else none
def atI {α:Type} (xs:List α) (i:Int):Option α:=(ixN xs.length i).bind fun j=>xs[j]?
theorem Xa {n:Nat} {i:Int} {j:Nat} (h:ixN n i=some j):seqIndex? i n=some j∧j<n∧ -(n:Int)≤i∧i<n:=by
 unfold ixN at h
 by_cases h0:0≤i
 ·rw [if_pos h0] at h
  by_cases h1:i<n
  ·rw [if_pos h1] at h;have e:i.toNat=j:=Bj h;exact ⟨by rw [seqIndex_of h0 h1,e],⋯,⋯,h1⟩
  ·rw [if_neg h1] at h;cases h
 ·rw [if_neg h0] at h
  by_cases h1: -(n:Int)≤i
  ·rw [if_pos h1] at h;have e:(i+n).toNat=j:=Bj h;exact ⟨by rw [seqIndex_neg ⋯ h1,e],⋯,h1,⋯⟩
  ·rw [if_neg h1] at h;cases h
theorem W8 {α:Type} {xs:List α} {i:Int} {v:α} (h:atI xs i=some v):∃ j,seqIndex? i xs.length=some j∧xs[j]?=some v∧j<xs.length∧ -(xs.length:Int)≤i∧i<xs.length:=by
 unfold atI at h;cases e:ixN xs.length i with
 | none=>rw [e] at h;cases h
 | some j=>
  rw [e] at h;obtain ⟨h1,h2,h3,h4⟩:=Xa e;exact ⟨j,h1,h,h2,h3,h4⟩
theorem qS {α:Type} {xs:List α} {j:Nat} {v:α} (h:xs[j]?=some v):atI xs (j:Int)=some v:=by
 have hj:j<xs.length:=(B3.mp h).1;have e:ixN xs.length (j:Int)=some j:=by
  unfold ixN;rw [if_pos ⋯,if_pos ⋯];simp
 unfold atI;rw [e];exact h
def Xj (b:Expr):Prop:=∀ o i,subscripted b false o i=operate [o,i] (getItem o i)
def IxR (X:Cx) (r:R2):Prop:=
 ∀ (value slice:Expr) (pins:List (Ac×Obj)) (s:Ae) (σ:St) (H:Hp) (x y:V) (v u:Ab) (Q:VK),Inv X pins σ H s→qK x v→qK y u→r x y H Q→
  subscripted slice false v u=operate [v,u] (getItem v u)→wpAny (model X.prog X.w) X.A (subscriptTail value slice v u) (EP X pins σ Q) X.xe s
def MtR (X:Cx) (id:String) (r:V→List V→Hp→VK→Prop):Prop:=
 ∀ (pins:List (Ac×Obj)) (s:Ae) (σ:St) (H:Hp) (x:V) (xs:List V) (v:Ab) (us:List Ab) (Q:VK),Inv X pins σ H s→qK x v→qL xs us→r x xs H Q→
  wpAny (model X.prog X.w) X.A (call (.builtin id) (v::us)) (EP X pins σ Q) X.xe s
section
variable {X:Cx} {a b:Expr} {ta tb:TE} {pos:Pos}
theorem IxR.or {r r':R2} (h:IxR X r) (h':IxR X r'):IxR X (fun x y H Q=>r x y H Q∨r' x y H Q):=by
 intro value slice pins s σ H x y v u Q I rx ry q hs;rcases q with q | q
 ·exact h value slice pins s σ H x y v u Q I rx ry q hs
 ·exact h' value slice pins s σ H x y v u Q I rx ry q hs
theorem qei {r:R2} (hr:IxR X r) (ha:PE X a ta) (hb:PE X b tb) (hs:Xj b):PE X (.Subscript a b pos) (tOp r ta tb):=by
 intro pins s σ H Q I h;exact Subscript_ (qdf ha hb I h fun v u s2 x y H2 I2 rx ry q=>hr a b pins s2 σ H2 x y v u Q I2 rx ry q (hs _ _))
def qd8 (K:Frag):R2:=fun x y H Q=>∃ p xs i v,x= .ref p∧y= .int i∧SqL K H p xs∧atI xs i=some v∧Q v H
def qd6 (K:Frag):R2:=fun x y H Q=>∃ p xs i v,x= .ref p∧y= .int i∧SqT K H p xs∧atI xs i=some v∧Q v H
def qd7:R2:=fun x y H Q=>∃ z i c,x= .str z∧y= .int i∧z.length≤Af∧atI z.cps.toList i=some c∧Q (.str ⟨#[c]⟩) H
theorem qan:IxR X (qd8 X.K):=by
 intro value slice pins s σ H x y v u Q I rx ry h hs;obtain ⟨p,xs,i,z,rfl,rfl,hq,he,q⟩:=h;cases rx;obtain ⟨t,rfl⟩:=ry;obtain ⟨its,r,pl,hz⟩:=I.list hq;obtain ⟨j,h1,h2,h3,h4,h5⟩:=W8 he;obtain ⟨w,ew,rw'⟩:=r.get h2;have hl:=r.length;have hn:=Vu;have fin:EP X pins σ Q w s:=⟨z,H,I,rw',q⟩
 by_cases h0:0≤i
 ·have hj:i.toNat=j:=by
   rw [seqIndex_of h0 h5] at h1;exact Bj h1
  exact item_listR pl.isList h0 ⋯ (by rw [hj];simpa using ew) fin hs
 ·have hj:(i+(its.toArray.size:Int)).toNat=j:=by
   rw [seqIndex_neg ⋯ h4] at h1;rw [Ax,← hl];exact Bj h1
  exact subscriptTail_builtinR (x:=w) pl.isList.typeIs slot_list_getitem.lookup
   (wpAny_getItem_list_neg (Q:=fun r s'=>r=w∧EP X pins σ Q r s') pl.isList ⋯ (by rw [Ax] <;> omega) ⋯ (by rw [hj];simpa using ew) ⟨rfl,fin⟩) hs
theorem qc1:IxR X (qd6 X.K):=by
 intro value slice pins s σ H x y v u Q I rx ry h hs;obtain ⟨p,xs,i,z,rfl,rfl,hq,he,q⟩:=h;cases rx;obtain ⟨t,rfl⟩:=ry;obtain ⟨its,r,pl,hz⟩:=I.tuple hq;obtain ⟨j,h1,h2,h3,h4,h5⟩:=W8 he;obtain ⟨w,ew,rw'⟩:=r.get h2;have hl:=r.length;have hn:=Vu;have fin:EP X pins σ Q w s:=⟨z,H,I,rw',q⟩;exact subscriptTail_builtinR (x:=w) pl.typeIs slot_tuple_getitem.lookup
  (getItem_tuple (j:=j) (Q:=fun r s'=>r=w∧EP X pins σ Q r s') pl ⋯ ⋯ (by rw [Ax,← hl];exact h1) (by simpa using ew) ⟨rfl,fin⟩) hs
theorem qc2:IxR X qd7:=by
 intro value slice pins s σ H x y v u Q I rx ry h hs;obtain ⟨z,i,c,rfl,rfl,hz,he,q⟩:=h;obtain ⟨t,rfl⟩:=rx;obtain ⟨t',rfl⟩:=ry;obtain ⟨j,h1,h2,h3,h4,h5⟩:=W8 he;have hl:z.cps.toList.length=z.length:=by simp [Str.length]
 rw [hl] at h1 h4 h5;have hn:=Vu;exact tail_any (typeIs_str s z t) slot_str_getitem.lookup (getItem_str (c:=c) (by
  have e1:decide (i< -(2 ^ 63:Int))=false:=Al ⋯;have e2:decide (i ≥ 2 ^ 63)=false:=Al ⋯;rw [e1,e2,Bool.or_false]) (by rw [h1];simpa using h2) ⟨.str ⟨#[c]⟩,H,I.tok _,⟨_,rfl⟩,q⟩) hs
def rIx (K:Frag):R2:=fun x y H Q=>qd8 K x y H Q∨qd6 K x y H Q∨qd7 x y H Q
theorem qc3:IxR X (rIx X.K):=qan.or (qc1.or qc2)
theorem Yt (its:List Ab) (n j:Nat) (u:Ab):Obj.mapSeq (·.setIfInBounds j u) {cls:= .type "list",data:= .seq its.toArray n}={cls:= .type "list",data:= .seq (its.set j u).toArray n}:=by
 simp [Obj.mapSeq]
theorem Inv.lst {pins:List (Ac×Obj)} {σ:St} {H:Hp} {s:Ae} {p:Ac} {xs:List V} (I:Inv X pins σ H s) (h:H p=some (.lst xs)):
  ∃ (its:List Ab) (n:Nat),qL xs its∧s.heap.get? p=some {cls:= .type "list",data:= .seq its.toArray n}∧xs.length≤Af:=by
 obtain ⟨z,its,n,r,e⟩:=I.hok p _ h;exact ⟨its,n,r,e,z⟩
theorem Inv.lstUpd {pins:List (Ac×Obj)} {σ:St} {H:Hp} {s:Ae} {p:Ac} {xs ys:List V} {its its':List Ab} {n n':Nat} {f:Obj→Obj} (I:Inv X pins σ H s) (h:H p=some (.lst xs))
  (ho:s.heap.get? p=some {cls:= .type "list",data:= .seq its.toArray n}) (hf:f {cls:= .type "list",data:= .seq its.toArray n}={cls:= .type "list",data:= .seq its'.toArray n'}) (r:qL ys its') (hz:ys.length≤Af) (t:Nat):
  Inv X pins σ (upd H p (.lst ys)) {s with heap:=s.heap.update p f,toks:=t}:=by
 have e:(s.heap.update p f).get? p=some {cls:= .type "list",data:= .seq its'.toArray n'}:=by
  rw [Dy f ho (by rw [hf] <;> rfl),hf]
 refine I.write (x:=p) (e:=p) (by rw [h];trivial) (.inl rfl) (fun b u hb q=>(B8 _ _ (Ne.symm hb)).trans q) ⟨_,e⟩ ?_
 exact ⟨hz,its',n',r,e⟩
def qd4:V→V→V→Hp→(Hp→Prop)→Prop:=fun o i v H Q=>∃ p xs k j,o= .ref p∧i= .int k∧H p=some (.lst xs)∧ixN xs.length k=some j∧Q (upd H p (.lst (xs.set j v)))
theorem ZN:qfb X qd4:=by
 intro pins s σ H o i v ov iv u Q I ro ri rv h;obtain ⟨p,xs,k,j,rfl,rfl,hp,hj,q⟩:=h;cases ro;obtain ⟨t,rfl⟩:=ri;obtain ⟨its,n,r,ho,hz⟩:=I.lst hp;obtain ⟨h1,h2,h3,h4⟩:=Xa hj;have hl:=r.length;have hn:=Vu;have I':Inv X pins σ (upd H p (.lst (xs.set j v))) {s with heap:=s.heap.update p (Obj.mapSeq (·.setIfInBounds j u))}:=
  I.lstUpd hp ho (Yt its n j u) (r.set rv j) (by rw [Dg];exact hz) s.toks
 by_cases h0:0≤k
 ·have hk:k.toNat=j:=by
   rw [seqIndex_of h0 h4] at h1;exact Bj h1
  exact PySem.W.ki_setAt ho h0 ⋯ (by rw [Ax,← hl];exact h4) (by rw [hk];exact ⟨_,I',q⟩)
 ·have hk:(k+(its.toArray.size:Int)).toNat=j:=by
   rw [seqIndex_neg ⋯ h3] at h1;rw [Ax,← hl];exact Bj h1
  exact PySem.W.ki_setBack ho ⋯ (by rw [Ax,← hl];exact h3) ⋯ (by rw [hk];exact ⟨_,I',q⟩)
theorem Wx (lo hi:Option Int) (n:Nat):(sliceBounds lo hi none n).1=((HT.sIx n 0 lo:Nat):Int)∧(sliceBounds lo hi none n).2.1=((HT.sIx n n hi:Nat):Int)∧(sliceBounds lo hi none n).2.2=1:=by
 refine ⟨?_,?_,rfl⟩
 ·cases lo with
  | none=>simp [sliceBounds,HT.sIx]
  | some i=>
   simp only [sliceBounds,HT.sIx,Option.getD_none,show (1:Int)>0 from O0,if_true]
   by_cases h:i<0
   ·simp only [h,if_true] <;> omega
   ·simp only [h,if_false] <;> omega
 ·cases hi with
  | none=>simp [sliceBounds,HT.sIx]
  | some i=>
   simp only [sliceBounds,HT.sIx,Option.getD_none,show (1:Int)>0 from O0,if_true]
   by_cases h:i<0
   ·simp only [h,if_true] <;> omega
   ·simp only [h,if_false] <;> omega
theorem wI (its:List Ab) (lo hi:Option Int):slicePick its.toArray lo hi none=((its.drop (HT.sIx its.length 0 lo)).take (HT.sIx its.length its.length hi - HT.sIx its.length 0 lo)).toArray:=by
 obtain ⟨h1,h2,h3⟩:=Wx lo hi its.toArray.size;unfold slicePick;rw [h1,h2,h3];simp only [sliceRange_one,pick_run,Ax] <;> rfl
def qd3 (K:Frag):V→Option Int→Option Int→Hp→VK→Prop:=fun x lo hi H Q=>∃ a xs,x= .ref a∧SqL K H a xs∧∀ p,H p=none→Q (.ref p) (upd H p (.lst (JP xs lo hi)))
theorem QP:SlR X (qd3 X.K):=by
 intro pins s σ H x v vl vu lo hi sl Q I rx hs pl pu h;obtain ⟨a,xs,rfl,hx,q⟩:=h;cases rx;obtain ⟨its,r,ht,hz⟩:=I.list hx;have hlen:=r.length;refine ⟨"list",_,slot_list_getitem.lookup,ht.isList.typeIs,?_⟩;refine wpAny_getItem_list_slice ht.isList hs pl pu .none (by simp) ?_ (by rw [Ax] <;> omega)
 rw [wI,← hlen];refine ⟨.ref s.heap.objs.size,_,I.laid (t':=s.toks) (o:= .lst (JP xs lo hi)) (fun b ob q=>Ap _ q) (Aj _) ?_,rfl,q _ (I.hok.fresh (Aj _))⟩;exact ⟨As (VN xs lo hi) hz,_,0,(r.drop (HT.sIx xs.length 0 lo)).take (HT.sIx xs.length xs.length hi - HT.sIx xs.length 0 lo),A6 _ rfl⟩
def Vc:V→Bool
 | .non=>true
 | .bl _=>true
 | .int _=>true
 | .str _=>true
 | _=>false
def eqV:V→V→Bool
 | .non,.non=>true
 | .bl a,.bl b=>a==b
 | .bl a,.int b=>(if a then 1 else 0)==b
 | .int a,.bl b=>a==(if b then 1 else 0)
 | .int a,.int b=>a==b
 | .str a,.str b=>a==b
 | _,_=>false
theorem qda {A:Around} {s:Ae} {y x:V} {u v:Ab} (ry:qK y u) (rx:qK x v) (fy:Vc y=true) (fx:Vc x=true):SeqAt.EqAt A s u v (eqV y x):=by
 cases y with
 | non=>
  cases ry;cases x with
  | non=>cases rx;exact SeqAt.EqAt.same _
  | bl b=>cases rx;exact SeqAt.EqAt.none_bool b
  | int b=>obtain ⟨t,rfl⟩:=rx;exact SeqAt.EqAt.none_int b t
  | str b=>obtain ⟨t,rfl⟩:=rx;exact SeqAt.EqAt.none_str b t
  | _=>exact absurd (show false=true from fx) Am
 | bl a=>
  cases ry;cases x with
  | non=>cases rx;exact SeqAt.EqAt.bool_none a
  | bl b=>cases rx;exact SeqAt.EqAt.bool_bool a b
  | int b=>obtain ⟨t,rfl⟩:=rx;exact SeqAt.EqAt.bool_int a b t
  | str b=>obtain ⟨t,rfl⟩:=rx;exact SeqAt.EqAt.bool_str a b t
  | _=>exact absurd (show false=true from fx) Am
 | int a=>
  obtain ⟨t',rfl⟩:=ry;cases x with
  | non=>cases rx;exact SeqAt.EqAt.int_none a t'
  | bl b=>cases rx;exact SeqAt.EqAt.int_bool a t' b
  | int b=>obtain ⟨t,rfl⟩:=rx;exact SeqAt.EqAt.int_int a t' b t
  | str b=>obtain ⟨t,rfl⟩:=rx;exact SeqAt.EqAt.int_str a t' b t
  | _=>exact absurd (show false=true from fx) Am
 | str a=>
  obtain ⟨t',rfl⟩:=ry;cases x with
  | non=>cases rx;exact SeqAt.EqAt.str_none a t'
  | bl b=>cases rx;exact SeqAt.EqAt.str_bool a t' b
  | int b=>obtain ⟨t,rfl⟩:=rx;exact SeqAt.EqAt.str_int a t' b t
  | str b=>obtain ⟨t,rfl⟩:=rx;exact SeqAt.EqAt.str_str a t' b t
  | _=>exact absurd (show false=true from fx) Am
 | _=>exact absurd (show false=true from fy) Am
def eqU (x:V) (u:Ab):Bool:=match u with
 | .none=>eqV .non x
 | .bool b=>eqV (.bl b) x
 | .int i _=>eqV (.int i) x
 | .str z _=>eqV (.str z) x
 | _=>false
theorem Qt {x y:V} {u:Ab} (r:qK y u) (f:Vc y=true):eqU x u=eqV y x:=by
 cases y with
 | non=>cases r;rfl
 | bl b=>cases r;rfl
 | int i=>obtain ⟨t,rfl⟩:=r;rfl
 | str z=>obtain ⟨t,rfl⟩:=r;rfl
 | _=>exact absurd (show false=true from f) Am
theorem Vh {x:V}:∀ {xs:List V} {us:List Ab},qL xs us→xs.all Vc=true→us.any (eqU x)=xs.any fun y=>eqV y x
 | _,_,.nil,_=>rfl
 | y::xs,u::us,.cons r t,f=>by
  rw [El,Ao] at f;rw [Co,Co,Qt r f.1,Vh t f.2]
theorem va {A:Around} {s:Ae} {x:V} {v:Ab} (rx:qK x v) (fx:Vc x=true):∀ {xs:List V} {us:List Ab},qL xs us→xs.all Vc=true→∀ u∈us,SeqAt.EqAt A s u v (eqU x u)
 | _,_,.nil,_=>fun u hu=>by cases hu
 | y::xs,u::us,.cons r t,f=>fun u' hu=>by
  rw [El,Ao] at f;rcases Av.mp hu with rfl | hu
  ·rw [Qt r f.1];exact qda r rx f.1 fx
  ·exact va rx fx t f.2 u' hu
def inV (x:V) (xs:List V):Bool:=xs.any fun y=>eqV y x
def rIn (K:Frag) (neg:Bool):R2:=fun x y H Q=>∃ p xs,y= .ref p∧(SqL K H p xs∨SqT K H p xs)∧Vc x=true∧xs.all Vc=true∧Q (.bl (if neg then !inV x xs else inV x xs)) H
theorem XC:OpR X (compareOp .In) (rIn X.K false):=by
 intro pins s σ H x y v u Q I rx ry h;obtain ⟨p,xs,rfl,hq,fx,fs,q⟩:=h;cases ry;rcases hq with hq | hq
 ·obtain ⟨its,r,pl,hz⟩:=I.list hq;refine SeqAt.in_listAt (eqU x) pl.isList (fun w hw=>va rx fx r fs w (by simpa using hw)) ⟨.bl _,H,I,rfl,?_⟩
  rw [show its.toArray.any (eqU x)=its.any (eqU x) by simp,Vh r fs]
  exact q
 ·obtain ⟨its,r,pl,hz⟩:=I.tuple hq;refine SeqAt.in_tupleAt (eqU x) pl (fun w hw=>va rx fx r fs w (by simpa using hw)) ⟨.bl _,H,I,rfl,?_⟩
  rw [show its.toArray.any (eqU x)=its.any (eqU x) by simp,Vh r fs]
  exact q
theorem WJ:OpR X (compareOp .NotIn) (rIn X.K true):=by
 intro pins s σ H x y v u Q I rx ry h;obtain ⟨p,xs,rfl,hq,fx,fs,q⟩:=h;cases ry;rcases hq with hq | hq
 ·obtain ⟨its,r,pl,hz⟩:=I.list hq;refine SeqAt.notIn_listAt (eqU x) pl.isList (fun w hw=>va rx fx r fs w (by simpa using hw)) ⟨.bl _,H,I,rfl,?_⟩
  rw [show its.toArray.any (eqU x)=its.any (eqU x) by simp,Vh r fs]
  exact q
 ·obtain ⟨its,r,pl,hz⟩:=I.tuple hq;refine SeqAt.notIn_tupleAt (eqU x) pl (fun w hw=>va rx fx r fs w (by simpa using hw)) ⟨.bl _,H,I,rfl,?_⟩
  rw [show its.toArray.any (eqU x)=its.any (eqU x) by simp,Vh r fs]
  exact q
theorem W7:jb X (.type "list") (fun xs H Q=>∃ p ys,xs=[.ref p]∧(SqL X.K H p ys∨SqT X.K H p ys)∧∀ l,H l=none→Q (.ref l) (upd H l (.lst ys))):=by
 intro pins s σ H xs us Q I r h;obtain ⟨p,ys,rfl,hq,q⟩:=h;obtain ⟨u,rfl,rx⟩:=jm r;cases rx;have fin:∀ (its:List Ab),qL ys its→ys.length≤Af→∀ (h':Heap) (c':Nat),(∀ b o',s.heap.get? b=some o'→h'.get? b=some o')→
   h'.get? s.heap.objs.size=some {cls:= .type "list",dict:=none,data:= .seq its.toArray c',slots:= #[]}→EP X pins σ Q (.ref s.heap.objs.size) {s with heap:=h'}:=fun its r' hz h' c' kp e=>
  ⟨.ref s.heap.objs.size,_,I.laid (t':=s.toks) kp (Aj _) (show zo X.prog X.w _ h' _ (.lst ys) from ⟨hz,its,c',r',e⟩),rfl,q _ (I.hok.fresh (Aj _))⟩
 rcases hq with hq | hq
 ·obtain ⟨its,r',pl,hz⟩:=I.list hq;have hlen:=r'.length;obtain ⟨o,ho,hc,n,hd⟩:=pl.isList;exact call_list_seq p (.inl rfl) ho hc hd (fun h' c' kp e=>fin its r' hz h' c' kp e) (by simp only [Ax] <;> omega)
 ·obtain ⟨its,r',pl,hz⟩:=I.tuple hq;have hlen:=r'.length;obtain ⟨o,ho,hc,n,hd⟩:=pl;exact call_list_seq p (.inr rfl) ho hc hd (fun h' c' kp e=>fin its r' hz h' c' kp e) (by simp only [Ax] <;> omega)
theorem wM:jb X (.type "tuple") (fun xs H Q=>∃ p ys,xs=[.ref p]∧((SqL X.K H p ys∧∀ l,H l=none→Q (.ref l) (upd H l (.tup ys)))∨(SqT X.K H p ys∧Q (.ref p) H))):=by
 intro pins s σ H xs us Q I r h;obtain ⟨p,ys,rfl,h⟩:=h;obtain ⟨u,rfl,rx⟩:=jm r;cases rx;rcases h with ⟨hq,q⟩ | ⟨hq,q⟩
 ·obtain ⟨its,r',pl,hz⟩:=I.list hq;have hlen:=r'.length;refine call_tuple_list pl.isList (fun h' kp=>?_) (by simp only [Ax] <;> omega)
  have I1:Inv X pins σ H {s with heap:=h'}:=I.kept (t':=s.toks) kp
  have I2:Inv X pins σ (upd H h'.objs.size (.tup ys)) {s with heap:=h'.push {cls:= .type "tuple",data:= .seq its.toArray}}:=
   I1.laid (t':=s.toks) (fun b o e=>Ap _ e) (Aj _) (show zo X.prog X.w _ _ _ (.tup ys) from ⟨hz,its,r',IsTup.new _ _⟩)
  exact ⟨.ref h'.objs.size,_,I2,rfl,q _ (I1.hok.fresh (Aj _))⟩
 ·obtain ⟨its,r',pl,hz⟩:=I.tuple hq;exact call_tuple_same pl ⟨.ref p,H,I,rfl,q⟩
def tyV (K:Frag) (T:String) (x:V) (H:Hp):Prop:=match x with
 | .str _=>T="str"
 | .int _=>T="int"
 | .ref p=>(T="list"∧∃ xs,SqL K H p xs)∨(T="tuple"∧∃ o,K.lookup p=some o∧o.cls= .type "tuple"∧o.dict=none)∨
   (T="dict"∧((∃ kvs,H p=some (.dK kvs))∨∃ kvs,H p=some (.dT kvs)))∨(T="set"∧∃ S n,H p=some (.set S n))
 | _=>False
theorem qbk {pins:List (Ac×Obj)} {σ:St} {H:Hp} {s:Ae} {T:String} {x:V} {v:Ab} (I:Inv X pins σ H s) (r:qK x v) (ty:tyV X.K T x H):
  s.TypeIs v T∧∀ a,v= .ref a→∃ ob,s.heap.get? a=some ob∧ob.dict=none:=by
 cases x with
 | str z=>
  obtain ⟨t,rfl⟩:=r;cases (show T="str" from ty);exact ⟨typeIs_str s z t,fun _ e=>nomatch e⟩
 | int i=>
  obtain ⟨t,rfl⟩:=r;cases (show T="int" from ty);exact ⟨Ee s i t,fun _ e=>nomatch e⟩
 | ref p=>
  cases r;rcases ty with ⟨rfl,xs,hq⟩ | ⟨rfl,o,hk,hc,hd⟩ | ⟨rfl,hk⟩ | ⟨rfl,S,n,hk⟩
  ·obtain ⟨its,_,pl,_⟩:=I.list hq;refine ⟨pl.isList.typeIs,fun a e=>?_⟩;cases e;obtain ⟨o,n,e,c,hd,_⟩:=pl;exact ⟨o,e,hd⟩
  ·refine ⟨⟨o,I.kIn p o hk,hc⟩,fun a e=>?_⟩;cases e;exact ⟨o,I.kIn _ o hk,hd⟩
  ·have z:∃ o,s.heap.get? p=some o∧o.ExactDict:=by
    rcases hk with ⟨kvs,hk⟩ | ⟨kvs,hk⟩
    ·obtain ⟨_,_,_,_,o,_,_,e,ex,_⟩:=I.hok p _ hk;exact ⟨o,e,ex⟩
    ·obtain ⟨_,_,_,_,o,_,_,e,ex,_⟩:=I.hok p _ hk;exact ⟨o,e,ex⟩
   obtain ⟨o,e,ex⟩:=z;refine ⟨⟨o,e,ex.1⟩,fun a e2=>?_⟩;cases e2;exact ⟨o,e,ex.2.1⟩
  ·obtain ⟨o,_,_,_,e,ex,_⟩:=I.hok p _ hk;refine ⟨⟨o,e,ex.1⟩,fun a e2=>?_⟩;cases e2;exact ⟨o,e,ex.2.1⟩
 | _=>exact False.elim ty
def tBM (K:Frag) (T:String) (r:V→List V→Hp→VK→Prop) (to:TE) (t:TA):TE:=fun σ H Q=>to σ H fun x H1=>tyV K T x H1∧t σ H1 fun xs H2=>r x xs H2 Q
variable {o e:Expr} {es:List Expr} {to:TE} {t:TA} {name:Str} {apos cpos:Pos} {T id:String} {r:V→List V→Hp→VK→Prop}
theorem qek (pa:PlainAttrs T) (slot:Slot T name id) (hty:typeOf (.builtin id)=pure (.type "method_descriptor")) (hm:MtR X id r) (ho:PE X o to) (ha:PA X (e::es) t)
  (hbase:attributeBase o name X.env (eval o X.env)=eval o X.env:=by rfl)
  (hfew:((backTo cpos (starEach (e::es) X.env)).all (fun x=>!x.1)&&(backToKw cpos (keywordEach [] X.env)).all (fun x=>x.1.isSome)
   &&decide ((e::es).length+([]:List Keyword).length+(if ([]:List Keyword).isEmpty then 0 else 1)<30))=true:=by rfl)
  (hline:(apos.endLine==cpos.line)=true:=by rfl) (hs:starEach (e::es) X.env=(false,eval e X.env)::starEach es X.env:=by rfl) (hplain:(backTo cpos (starEach es X.env)).any (·.1)=false:=by rfl):
  PE X (.Call (.Attribute o name apos) (e::es) [] cpos) (tBM X.K T r to t):=by
 intro pins s σ H Q I h;refine wpAny_Call_method_late hbase hfew hline rfl (thn (ho pins s σ H _ I h) fun v s1 ⟨x,H1,I1,r1,ty,q1⟩=>?_);obtain ⟨h1,h2⟩:=qbk I1 r1 ty;refine ⟨T,id,pa,slot,hty,h1,h2,?_⟩;have hA:=ha cpos pins s1 σ H1 _ I1 q1;rw [hs] at hA ⊢;refine Calls.callWith_builtin (by show (false||(backTo cpos (starEach es X.env)).any (·.1))=false;rw [hplain] <;> rfl) (D0 ?_)
 exact thn hA fun us s2 ⟨vs,H2,I2,r2,q2⟩=>hm pins s2 σ H2 x vs v us Q I2 r1 r2 q2
end
def MtM (X:Cx) (id:String) (r:V→List V→Hp→VK→Prop):Prop:=
 ∀ (pins:List (Ac×Obj)) (s:Ae) (σ:St) (H:Hp) (x:V) (xs:List V) (v:Ab) (us:List Ab) (Q:VK),Inv X pins σ H s→qK x v→qL xs us→r x xs H Q→
  wpAny (model X.prog X.w) X.A (call (.builtin id) (v::us)) (EP X pins σ Q) X.xe s
theorem qL.one:∀ {x:V} {us:List Ab},qL [x] us→∃ u,us=[u]∧qK x u
 | _,_,.cons r .nil=>⟨_,rfl,r⟩
theorem qL.rep {xs:List V} {us:List Ab} (h:qL xs us):∀ k:Nat,qL (List.replicate k xs).flatten (List.replicate k us).flatten
 | 0=> .nil
 | k+1=>by
  rw [B9,B9,C1,C1];exact qL.append h (qL.rep h k)
theorem We (its:List Ab):∀ (k:Nat) (acc:List Ab),
  List.foldl (fun x1 x2=>x1++x2) acc.toArray (List.replicate k its.toArray)=(acc++(List.replicate k its).flatten).toArray
 | 0,acc=>by simp
 | k+1,acc=>by
  have e:acc.toArray++its.toArray=(acc++its).toArray:=by simp
  have e2:(acc++its)++(List.replicate k its).flatten=acc++(List.replicate (k+1) its).flatten:=by
   rw [B9,C1,List.append_assoc]
  rw [← e2,← We its k (acc++its),← e,B9,Cc]
section
variable {X:Cx} {pins:List (Ac×Obj)} {σ:St} {H:Hp} {s:Ae} {l b:Ac} {xs ys zs:List V}
theorem Inv.lset {its its':List Ab} {n:Nat} {f:Array Ab→Array Ab} {t':Nat} (I:Inv X pins σ H s) (hH:H l=some (.lst xs))
  (e:s.heap.get? l=some {cls:= .type "list",data:= .seq its.toArray n}) (hf:f its.toArray=its'.toArray) (hv:qL ys its') (hz:ys.length≤Af):
  Inv X pins σ (upd H l (.lst ys)) {s with heap:=s.heap.update l (Obj.mapSeq f),toks:=t'}:=by
 have q:=PySem.IsL.update e f;rw [hf] at q;refine I.write (x:=l) (e:=l) (by rw [hH];exact trivial) (.inl rfl) (fun b' u hb hu=>(B8 s.heap (Obj.mapSeq f) (Ne.symm hb)).trans hu) ⟨_,q⟩ ?_
 exact ⟨hz,its',_,hv,q⟩
theorem Inv.lnew {its:List Ab} {t':Nat} (I:Inv X pins σ H s) (hv:qL ys its) (hz:ys.length≤Af):
  Inv X pins σ (upd H s.heap.objs.size (.lst ys)) {s with heap:=s.heap.push {cls:= .type "list",data:= .seq its.toArray},toks:=t'}:=
 I.laid (fun _ _ q=>Ap _ q) (Aj _) ⟨hz,its,0,hv,A6 _ rfl⟩
theorem Inv.fresh (I:Inv X pins σ H s):H s.heap.objs.size=none:=I.hok.fresh (Aj _)
theorem Inv.lstM (I:Inv X pins σ H s) (hH:H l=some (.lst xs)):xs.length≤Af∧∃ (its:List Ab) (n:Nat),qL xs its∧xs.length=its.length∧s.heap.get? l=some {cls:= .type "list",data:= .seq its.toArray n}:=by
 obtain ⟨z,its,n,r,e⟩:=I.hok l _ hH;exact ⟨z,its,n,r,r.length,e⟩
theorem Z4 {n:Nat} (h:n≤Af):Builtin.List.listTooLong n=false:=by
 unfold Builtin.List.listTooLong;exact Al ⋯
end
section
variable {X:Cx}
def V0:V→List V→Hp→VK→Prop:=fun x vs H Q=>∃ l xs y,x= .ref l∧vs=[y]∧H l=some (.lst xs)∧xs.length<Af∧Q .non (upd H l (.lst (xs++[y])))
theorem jZ:MtM X "list.append" V0:=by
 intro pins s σ H x vs v us Q I rx rv h;obtain ⟨l,xs,y,rfl,rfl,hH,hz,q⟩:=h;cases rx;obtain ⟨u,rfl,ru⟩:=rv.one;obtain ⟨z,its,n,r,hl,e⟩:=I.lstM hH;refine En F.slot_list_append ⟨_,e,rfl⟩ F.entry_list_append (F.args_list_append_2 _ _) (PySem.list_append l its.toArray n u (by rw [Ax];omega)) ⟨e,?_⟩
 refine ⟨.non,_,I.lset (its':=its++[u]) hH e (by simp) (r.append (.cons ru .nil)) ?_,rfl,q⟩
 rw [A8,List.length_singleton];omega
def QT:V→List V→Hp→VK→Prop:=fun x vs H Q=>∃ l b xs zs,x= .ref l∧vs=[.ref b]∧H l=some (.lst xs)∧H b=some (.lst zs)∧xs.length+zs.length≤Af∧Q .non (upd H l (.lst (xs++zs)))
theorem wY:MtM X "list.extend" QT:=by
 intro pins s σ H x vs v us Q I rx rv h;obtain ⟨l,b,xs,zs,rfl,rfl,hH,hB,hz,q⟩:=h;cases rx;obtain ⟨u,rfl,ru⟩:=rv.one;cases ru;obtain ⟨z,its,n,r,hl,e⟩:=I.lstM hH;obtain ⟨z2,its2,n2,r2,hl2,e2⟩:=I.lstM hB;have hsz:its.toArray.size+its2.toArray.size≤Af:=by rw [Ax,Ax];omega
 have hlong:¬ (!its.toArray.isEmpty&&Builtin.List.listTooLong (its.toArray.size+its2.toArray.size))=true:=by
  rw [Z4 hsz,Bool.and_false];exact Am
 refine En F.slot_list_extend ⟨_,e,rfl⟩ F.entry_list_extend (F.args_list_extend_2 _ _)
  (AutoSeq1.list_extend_list_list_0 l its.toArray n b its2.toArray n2 hlong (by rw [Ax];omega) ⋯) ⟨e,e2,?_⟩
 refine ⟨.non,_,I.lset (its':=its++its2) hH e (by simp) (r.append r2) ?_,rfl,q⟩
 rw [A8];omega
def qeb:R2:=fun x y H Q=>∃ l b xs zs,x= .ref l∧y= .ref b∧H l=some (.lst xs)∧H b=some (.lst zs)∧xs.length+zs.length≤Af∧∀ p,H p=none→Q (.ref p) (upd H p (.lst (xs++zs)))
theorem qcf:OpR X (binaryOp .Add) qeb:=by
 intro pins s σ H x y v u Q I rx ry h;obtain ⟨l,b,xs,zs,rfl,rfl,hH,hB,hz,q⟩:=h;cases rx;cases ry;obtain ⟨z,its,n,r,hl,e⟩:=I.lstM hH;obtain ⟨z2,its2,n2,r2,hl2,e2⟩:=I.lstM hB;refine PySem.P.add_list e e2 ?_ (by rw [Ax,Ax];omega)
 have ea:its.toArray++its2.toArray=(its++its2).toArray:=by simp
 rw [ea];exact ⟨.ref _,_,I.lnew (t':=s.toks) (r.append r2) (by rw [A8];omega),rfl,q _ I.fresh⟩
theorem WW {α:Type} (xs:List α) (k:Nat):(List.replicate k xs).flatten.length=k*xs.length:=by
 induction k with
 | zero=>simp
 | succ k ih=>rw [B9,C1,A8,ih,Nat.succ_mul,Nat.add_comm]
end
section
variable {prog:Program} {w:World} {A:Around} {E:Ab→Ae→Prop} {s:Ae}
end
section
variable {X:Cx}
end
end L2
namespace Att
open PySem PySem.W PySem.Calls PyProof.Rows
theorem VY {P:Params} {h:Heap}:∀ (ns:List Int) (vs:List Ab),WellAll P h vs (ns.map WData.int)→IntsAre vs ns:=by
 intro ns
 induction ns with
 | nil=>
  intro vs w;rw [Dl] at w;cases w;exact .nil
 | cons n ns ih=>
  intro vs w;rw [A2] at w;cases w with
  | cons a b=>
   cases a;exact .cons _ _ (ih _ b)
theorem Xw {l:OpenLaw} {n:Nat} (hn:l.most=some n) {P:Params} {h:Heap} {args:List WData} {vals:List Ab}
  (hpre:l.row.toRowW.claim.pre args=true) (hwl:WellAll P h vals args):
  ∃ a vs ns,vals=[Value.ref a]∧args=[WData.list (ns.map WData.int)]∧h.get? a=some {cls:= .type "list",data:= .seq vs.toArray}∧IntsAre vs ns∧ns.length≤n:=by
 have hsh:WShape.hasAll [] args [.list .int]=true:=(pre_splitW hpre).1;have hc:l.pre.holds [] {args:=args}=true:=(pre_splitW hpre).2;obtain ⟨d,r,rfl,h1,h2⟩:=hasAllW_cons hsh;obtain rfl:=hasAllW_nil h2;obtain ⟨xs,rfl,h3⟩:=hasW_list h1;obtain ⟨ns,rfl⟩:=items_int h3;have hlen:ns.length≤n:=by
  unfold OpenLaw.pre at hc;have h4:(WTm.not (.lt (.lit (.int (n:Int))) (.len (.arg 0)))).holds [] {args:=[.list (ns.map .int)]}=true:=by
   have h4:=(holds_andW hc).1;rw [hn] at h4;exact h4
  have h5:=condW_of h4 (w_not (w_lt w_lit (w_len_list (w_arg rfl))));rw [An] at h5;refine Nat.le_of_not_lt fun q=>?_;have q':(n:Int)<((ns.length:Nat):Int):=⋯
  first
   | (rw [Ai q'] at h5;exact absurd h5 O0)
   | (simp at h5;omega)
 cases hwl with
 | cons w1 w2=>
  cases w2;cases w1 with
  | list ho hall=>exact ⟨_,_,ns,rfl,rfl,ho,VY ns _ hall,hlen⟩
theorem XA (l:OpenLaw) (args:List WData):l.row.toRowW.claim.post args (.bool true) args=true:=
 postW_of (r:=l.row.toRowW) (X:=(true==true))
  (show WShape.has [] (.bool true) .bool=true by first | rfl | decide | simp [WShape.has,WShape.arms,WShape.armsAll])
  (show (WTm.eq .res (.lit (.bool true))).value [] {args:=args,res:=some (.bool true),after:=args}=some (.bool (true==true)) from w_eq_bool (w_res rfl) w_lit) rfl
theorem attach_call {l:OpenLaw} {n:Nat} {q:Program} {loose:List Str} {XP:(Str→Option Ab)→Heap→Prop} {YP:World→Heap→Prop} {d:DefRec}
  (hn:l.most=some n) (hdf:d.params.defaults=[])
  (call:∀ (w:World) (s₀ s₁:Ae) (mg mb:Str→Option Ab) (fa:Ac) (o:Obj) (pm cd doc:Ab) (a:Ac) (vs:List Ab) (ns:List Int),
   Ground q loose [] XP w s₀ mg mb s₁.heap→YP w s₁.heap→
   s₁.heap.get? fa=some o→o.data= .func (docDef d.name d.params d.body d.scope pm cd doc)→s₁.heap.CodeRec cd d.name→mg d.name=some (.ref fa)→
   s₁.heap.get? a=some {cls:= .type "list",data:= .seq vs.toArray}→IntsAre vs ns→ns.length≤n→s₁.gens= #[]→
   codeAny (model l.prog w) callerA (.call (.ref fa) ⟨[.ref a],[]⟩) (fun r s'=>r= .ok (.ret (.bool true))∧OldK s₁.heap s'.heap∧s'.os=s₁.os∧AllBare s'.gens) s₁):
  WalkO q loose XP YP l.row.toRowW d [] (fun f vs=>PySem.call f vs):=by
 intro w s₀ s₁ mg mb G Y fa o pm cd doc dV kV ho hd hcd hD hmg hg args vals as hpre hlay hrd hwl hlo;obtain rfl:dV= .none:=Dflts.none hD hdf;obtain rfl:kV= .none:=Dflts.noKw hD;obtain ⟨a,vs,ns,rfl,rfl,hobj,hints,hlen⟩:=Xw hn hpre hwl;refine enter_call (Ec (call w s₀ s₁ mg mb fa o pm cd doc a vs ns G Y ho (fd_plain hd) hcd hmg hobj hints hlen hg) fun r s' hq=>?_);obtain ⟨rfl,h2,h3,h4⟩:=hq;exact ⟨.inl ⟨.bool true,.bool true,[],rfl,fun _=>rfl,.bool true,XA l _,fun _=>⟨List.Pairwise.nil,fun _ hm=>(nomatch hm)⟩⟩,h2,h3,h4⟩
section
variable {prog:Program} {w:World} {A:Around} {E:Ab→Ae→Prop} {s:Ae} {K:Frag}
end
end Att
namespace L2
open PySem PySem.Spec PyProof.Rows
theorem wQ:∀ {vs:List Ab} {ns:List Int},IntsAre vs ns→qL (ns.map V.int) vs
 | _,_,.nil=> .nil
 | _,_,.cons n t h=> .cons ⟨t,rfl⟩ (wQ h)
def qdl (H:Hp):Prop:=∀ b,H b=none∨∃ o xs,H b=some (.frz o (.lst xs))
def jL (s:Stmt):Arguments:=match s with
 | .FunctionDef _ a _ _ _ _ _ _ _ _=>a
 | _=>{posonlyargs:=[],args:=[],vararg:=none,kwonlyargs:=[],kw_defaults:=[],kwarg:=none,defaults:=[]}
def zU (s:Stmt):List Stmt:=match s with
 | .FunctionDef _ _ b _ _ _ _ _ _ _=>b
 | _=>[]
def qo (s:Stmt):Scope:=match s with
 | .FunctionDef _ _ _ _ _ _ sc _ _ _=>sc
 | _=>{kind:= .function,names:=[],isGenerator:=false,isCoroutine:=false}
abbrev CX0:CXT:=fun _ _ _ _ _ _=>False
abbrev E0:XK:=fun _ _ _=>False
theorem qem {X:Cx}:vN CX0 X E0:=fun _ _ _ _ _ _ _ h=>h.elim
structure Fun (K:Frag) (x qual:Str) (st:Stmt) (f:Ac) (fd:FuncData):Prop where
 ex:∃ (oc:Ab) (od:Option Ac) (kV doc pm:Ab) (an:Option Ac) (cdv ct:Ab) (osl:Array (Option Ab)),
  fd=PySem.W.fnOf x qual (jL st) (zU st) (qo st) .none kV doc pm an cdv ct∧K.lookup f=some ⟨oc,od,.func fd,osl⟩∧PySem.W.codeIn K cdv qual=true
 kp:PySem.W.keepIn K (.ref f)=true
section
variable {P:Program} {w:World} {K:Frag} {mg:Str→Option Ab} {base:Heap}
theorem Fun.ok {x qual:Str} {st:Stmt} {f:Ac} {fd:FuncData} {N ps:List Str} {k:Nat} {sp:Sp} (F:Fun K x qual st f fd) (S:FnScope N ps (qo st)) (len:∀ vs H Q E,sp vs H Q E→vs.length=ps.length)
  (hbody:∀ (cdv:Ab) (A:Around) (outer:List Env) (s:Ae) (H:Hp) (vs:List V) (Q:VK) (E:XK),Room k (A.deeper (envOfC qual (qo st) s.heap.objs.size f cdv))→sp vs H Q E→
   ∃ t,PSs (Vd CX0 P w K mg base N qual (qo st) f cdv A outer s H E).nox (zU st) t∧t {nx:=fun _ H'=>Q .non H',rt:=Q} (zW N vs) H):FnOk P w K mg base CX0 (k+1) f fd ps sp:=by
 obtain ⟨oc,od,kV,doc,pm,an,cdv,ct,osl,rfl,lk,hcd⟩:=F.ex;refine qbf lk hcd S len fun A outer s H vs Q E hr hsp=>?_;obtain ⟨t,h,q⟩:=hbody cdv A outer s H vs Q E hr hsp;exact ⟨t,h.nox,q⟩
theorem Fun.binds {x qual:Str} {st:Stmt} {f:Ac} {fd:FuncData} {ps:List Str} (F:Fun K x qual st f fd)
  (h:∀ (kV doc pm:Ab) (an:Option Ac) (cdv ct:Ab) (us:List Ab),us.length=ps.length→bindArgs (PySem.W.fnOf x qual (jL st) (zU st) (qo st) .none kV doc pm an cdv ct) ⟨us,[]⟩=pure (ps.zip us)):Js K fd ps []:=by
 obtain ⟨oc,od,kV,doc,pm,an,cdv,ct,osl,rfl,lk,hcd⟩:=F.ex;exact .all (h kV doc pm an cdv ct)
theorem Qp {x qual:Str} {st:Stmt} {f:Ac} {oc:Ab} {od an:Option Ac} {osl:Array (Option Ab)} {kV doc pm cdv ct:Ab} (l:K.lookup f=some ⟨oc,od,.func (PySem.W.fnOf x qual (jL st) (zU st) (qo st) .none kV doc pm an cdv ct),osl⟩)
  (c:PySem.W.codeIn K cdv qual=true) (k:PySem.W.keepIn K (.ref f)=true):Fun K x qual st f (PySem.W.fnOf x qual (jL st) (zU st) (qo st) .none kV doc pm an cdv ct):=⟨⟨oc,od,kV,doc,pm,an,cdv,ct,osl,rfl,l,c⟩,k⟩
end
theorem Wc {A:Around} {k:Nat} (hr:Room k A):A.units+1<cLine:=Bx (Nat.add_le_add_left (O0:1≤64) _) hr.units
section
variable {X:Cx}
theorem pv (i:Nat) {x:Str} {pos:Pos} (hN:X.N[i]?=some x:=by rfl) (hv:Vis X.env.scope x:=by first | exact Or.inl rfl | exact Or.inr (Or.inl rfl) | exact Or.inr (Or.inr rfl)) (hd:(x==("__debug__":Str))=false:=by decide)
  (hcd:(x==("__classdict__":Str))=false:=by decide):PE X (.Name x pos) (qG i):=qcc hN hv hd hcd
end
theorem jl {A B:Prop} (h:B):if false=true then A else B:=by
 rw [if_neg Am];exact h
theorem zV {A B:Prop} (h:A):if true=true then A else B:=by
 rw [if_pos rfl];exact h
theorem vt {c A B:Prop} [Decidable c] (h1:c→A) (h2:¬ c→B):if c then A else B:=by
 by_cases h:c
 ·rw [if_pos h];exact h1 h
 ·rw [if_neg h];exact h2 h
def qp (H H':Hp):Prop:=∀ b o,H b=some o→H' b=some o
theorem qp.refl (H:Hp):qp H H:=fun _ _ h=>h
theorem qp.trans {H H1 H2:Hp} (a:qp H H1) (b:qp H1 H2):qp H H2:=fun c o h=>b c o (a c o h)
theorem qp.free {H H':Hp} (e:qp H H') {l:Ac} (h:H' l=Option.none):H l=Option.none:=by
 cases q:H l with
 | none=>rfl
 | some o=>
  rw [e l o q] at h;cases h
theorem qp.seq {K:Frag} {H H':Hp} {a:Ac} {xs:List V} (e:qp H H') (h:SqL K H a xs):SqL K H' a xs:=by
 rcases h with (h | ⟨o,h⟩) | h
 ·exact .inl (.inl (e _ _ h))
 ·exact .inl (.inr ⟨o,e _ _ h⟩)
 ·exact .inr h
section
variable {κ:Type} [DecidableEq κ]
def vq (kvs:List (κ×V)) (k:κ):Option V:=(kvs.find? fun kv=>decide (kv.1=k)).map (·.2)
def jx (kvs:List (κ×V)) (k:κ) (v:V):List (κ×V):=
 if (kvs.any fun kv=>decide (kv.1=k))=true then kvs.map (fun kv=>if kv.1=k then (kv.1,v) else kv) else kvs++[(k,v)]
theorem jM {p:κ×V} {r:List (κ×V)} {k:κ} (e:p.1=k):vq (p::r) k=some p.2:=by simp [vq,Cd,e]
theorem jc {p:κ×V} {r:List (κ×V)} {k:κ} (e:¬ p.1=k):vq (p::r) k=vq r k:=by simp [vq,Cd,e]
theorem vQ (k:κ):∀ kvs:List (κ×V),(kvs.any fun kv=>decide (kv.1=k))=(vq kvs k).isSome
 | []=>rfl
 | p::r=>by
  rw [Co]
  by_cases e:p.1=k
  ·simp only [jM e,Ai e,Bool.true_or,Option.isSome_some]
  ·rw [jc e,Al e,Bool.false_or];exact vQ k r
theorem vb (kvs:List (κ×V)) (k:κ) (v:V):(jx kvs k v).length≤kvs.length+1:=by
 unfold jx;split
 ·rw [An];omega
 ·rw [A8,A5,List.length_nil];omega
theorem VA.isSome_eq {o:Option V} {u:Option Ab} (r:VA o u):o.isSome=u.isSome:=by
 cases o with
 | none=>cases u with
  | none=>rfl
  | some _=>exact (show False from r).elim
 | some _=>cases u with
  | none=>exact (show False from r).elim
  | some _=>rfl
theorem VA.getD {o:Option V} {u:Option Ab} {d:V} {d':Ab} (r:VA o u) (rd:qK d d'):qK (o.getD d) (u.getD d'):=by
 cases o with
 | none=>cases u with
  | none=>exact rd
  | some _=>exact (show False from r).elim
 | some _=>cases u with
  | none=>exact (show False from r).elim
  | some _=>exact r
theorem KV.val {kvs:List (κ×V)} {vs:List (κ×Ab)} (r:KV kvs vs) (k:κ):VA (vq kvs k) (valueAt vs k):=by
 unfold KV at r
 induction r with
 | nil=>exact True.intro
 | @cons p q ps qs h t ih=>
  obtain ⟨h1,h2⟩:=h
  by_cases e:p.1=k
  ·have e':q.1=k:=h1.symm.trans e;have b:valueAt (q::qs) k=some q.2:=by simp [valueAt,Cd,e']
   rw [jM e,b];exact h2
  ·have e':¬ q.1=k:=fun z=>e (h1.trans z);have b:valueAt (q::qs) k=valueAt qs k:=by simp [valueAt,Cd,e']
   rw [jc e,b];exact ih
theorem KV.any {kvs:List (κ×V)} {vs:List (κ×Ab)} (r:KV kvs vs) (k:κ):(kvs.any fun kv=>decide (kv.1=k))=vs.any fun kv=>decide (kv.1=k):=by
 unfold KV at r
 induction r with
 | nil=>rfl
 | cons h t ih=>rw [Co,Co,ih,h.1]
theorem KV.repl {kvs:List (κ×V)} {vs:List (κ×Ab)} (r:KV kvs vs) (k:κ) {y:V} {u:Ab} (ry:qK y u):
  KV (kvs.map fun kv=>if kv.1=k then (kv.1,y) else kv) (vs.map fun kv=>if kv.1=k then (kv.1,u) else kv):=by
 unfold KV at r ⊢
 induction r with
 | nil=>exact .nil
 | @cons p q ps qs h t ih=>
  rw [A2,A2];refine .cons ?_ ih;obtain ⟨h1,h2⟩:=h
  by_cases e:p.1=k
  ·rw [if_pos e,if_pos (h1.symm.trans e)];exact ⟨h1,ry⟩
  ·rw [if_neg e,if_neg (fun z=>e (h1.trans z))];exact ⟨h1,h2⟩
theorem KV.put {kvs:List (κ×V)} {vs:List (κ×Ab)} (r:KV kvs vs) (k:κ) {y:V} {u:Ab} (ry:qK y u):KV (jx kvs k y) (stored vs k u):=by
 unfold jx stored;rw [r.any k]
 by_cases e:(vs.any fun kv=>decide (kv.1=k))=true
 ·rw [if_pos e,if_pos e];exact r.repl k ry
 ·rw [if_neg e,if_neg e];exact Paired.snoc r ⟨rfl,ry⟩
theorem KV.length {kvs:List (κ×V)} {vs:List (κ×Ab)} (r:KV kvs vs):kvs.length=vs.length:=Ci r
end
theorem yL {P:Program} {w:World} {k:Key} {u:Ab} (r:qK (kV k) u):(zc P w).is k u=true:=by
 cases k with
 | inl i=>obtain ⟨t,e⟩:=(show ∃ t,u=Value.int i t from r);subst e;exact yI P w i t
 | inr x=>obtain ⟨t,e⟩:=(show ∃ t,u=Value.str x t from r);subst e;exact VJ P w x t
theorem Wa {P:Program} {w:World}:∀ {ks:List Key} {us:List Ab},qL (ks.map kV) us→ItemsAre (zc P w) ks us
 | [],_,r=>by rw [Dl] at r;cases r;exact .nil
 | k::ks,_,r=>by
  rw [A2] at r;cases r with
  | cons h t=>exact .cons (yL h) (Wa t)
abbrev KT (H:Hp):List (List Key×V)→List (List Key×Ac×Ab)→Prop:=Paired fun p q=>p.1=q.1∧H q.2.1=some (.tup (p.1.map kV))∧qK p.2 q.2.2
theorem KT.val {H:Hp} {kvs:List (List Key×V)} {xs:List (List Key×Ac×Ab)} (r:KT H kvs xs) (k:List Key):VA (vq kvs k) ((atKey xs k).map (·.2)):=by
 induction r with
 | nil=>exact True.intro
 | @cons p q ps qs h t ih=>
  obtain ⟨h1,_,h2⟩:=h
  by_cases e:p.1=k
  ·have e':q.1=k:=h1.symm.trans e;have b:atKey (q::qs) k=some q.2:=by simp [atKey,Cd,e']
   rw [jM e,b];exact h2
  ·have e':¬ q.1=k:=fun z=>e (h1.trans z);have b:atKey (q::qs) k=atKey qs k:=by simp [atKey,Cd,e']
   rw [jc e,b];exact ih
theorem KT.repl {H:Hp} {kvs:List (List Key×V)} {xs:List (List Key×Ac×Ab)} (r:KT H kvs xs) (k:List Key) {y:V} {u:Ab} (ry:qK y u):
  KT H (kvs.map fun kv=>if kv.1=k then (kv.1,y) else kv) (xs.map (putAt k u)):=by
 induction r with
 | nil=>exact .nil
 | @cons p q ps qs h t ih=>
  rw [A2,A2];refine .cons ?_ ih;obtain ⟨h1,h2,h3⟩:=h;unfold putAt
  by_cases e:p.1=k
  ·rw [if_pos e,if_pos (h1.symm.trans e)];exact ⟨h1,h2,ry⟩
  ·rw [if_neg e,if_neg (fun z=>e (h1.trans z))];exact ⟨h1,h2,h3⟩
theorem KT.put {H:Hp} {kvs:List (List Key×V)} {xs:List (List Key×Ac×Ab)} (r:KT H kvs xs) (k:List Key) {b:Ac} {y:V} {u:Ab} (hb:H b=some (.tup (k.map kV))) (ry:qK y u):
  KT H (jx kvs k y) (storedH xs k b u):=by
 have e:(kvs.any fun kv=>decide (kv.1=k))=(atKey xs k).isSome:=by
  rw [vQ,(r.val k).isSome_eq,Option.isSome_map]
 unfold jx storedH;rw [e]
 by_cases q:(atKey xs k).isSome=true
 ·rw [if_pos q,if_pos q];exact r.repl k ry
 ·rw [if_neg q,if_neg q];exact Paired.snoc r ⟨rfl,hb,ry⟩
theorem KT.keeps {H H':Hp} {kvs:List (List Key×V)} {xs:List (List Key×Ac×Ab)} (r:KT H kvs xs) (ht:∀ b ys,H b=some (.tup ys)→H' b=some (.tup ys)):KT H' kvs xs:=
 Paired.mapP r fun _ _ z=>⟨z.1,ht _ _ z.2.1,z.2.2⟩
section
variable {P:Program} {w:World} {H:Hp} {h:Heap} {a:Ac}
theorem qa6 {u:HO} (ok:HOk P w H h) (e:Rd H a u):zo P w H h a u:=e.ok ok
theorem yY {kvs:List (Key×V)} (ok:HOk P w H h) (e:Rd H a (.dK kvs)):kvs.length≤Af∧(a==sysModules)=false∧∃ vs,KV kvs vs∧h.DictOf (zc P w) a vs:=
 show zo P w H h a (.dK kvs) from qa6 ok e
theorem Xc {kvs:List (Key×V)} (ok:HOk P w H h) (e:H a=some (.dK kvs)):kvs.length≤Af∧(a==sysModules)=false∧∃ vs,KV kvs vs∧h.DictOf (zc P w) a vs:=yY ok (.inl e)
theorem WY {ks:List Key} (ok:HOk P w H h) (e:H a=some (.tup (ks.map kV))):(tupleKind (zc P w)).is h ks a:=by
 obtain ⟨_,its,r,o,h1,h2,n,h3⟩:=(show zo P w H h a (.tup (ks.map kV)) from ok a _ e);exact ⟨o,its.toArray,n,h1,h2,h3,by simpa using Wa r⟩
theorem yX {kvs:List (List Key×V)} (ok:HOk P w H h) (e:Rd H a (.dT kvs)):kvs.length≤Af∧(a==sysModules)=false∧
  ∃ xs,KT H kvs xs∧h.DictOfH (tupleKind (zc P w)) a xs:=by
 obtain ⟨z,y,xs,r,o,es,ep,h1,h2,h3,h4,h5⟩:=(show zo P w H h a (.dT kvs) from qa6 ok e);refine ⟨z,y,xs,r,o,es,ep,h1,h2,h3,h4,fun x hx=>?_,h5⟩;have all:∀ {l:List (List Key×V)} {m:List (List Key×Ac×Ab)},KT H l m→∀ x∈m,(tupleKind (zc P w)).is h x.1 x.2.1:=by
  intro l m q
  induction q with
  | nil=>intro x hx;exact nomatch hx
  | @cons p q ps qs hq t ih=>
   intro x hx;rcases Av.mp hx with e | hx
   ·subst e;exact WY ok (by rw [← hq.1];exact hq.2.1)
   ·exact ih x hx
 exact all r x hx
theorem qe7 {kvs:List (List Key×V)} (ok:HOk P w H h) (e:H a=some (.dT kvs)):kvs.length≤Af∧(a==sysModules)=false∧
  ∃ xs,KT H kvs xs∧h.DictOfH (tupleKind (zc P w)) a xs:=yX ok (.inl e)
end
def jR (H:Hp) (a:Ac) (y:V) (r:Option V):Prop:=
 (∃ kvs k,Rd H a (.dK kvs)∧y=kV k∧r=vq kvs k)∨∃ kvs k b,Rd H a (.dT kvs)∧y= .ref b∧H b=some (.tup (k.map kV))∧r=vq kvs k
def W9 (H:Hp) (a:Ac) (y v:V) (H':Hp):Prop:=
 (∃ kvs k,H a=some (.dK kvs)∧y=kV k∧kvs.length<Af∧H'=upd H a (.dK (jx kvs k v)))∨
 ∃ kvs k b,H a=some (.dT kvs)∧y= .ref b∧H b=some (.tup (k.map kV))∧kvs.length<Af∧H'=upd H a (.dT (jx kvs k v))
theorem jR.k {H:Hp} {a:Ac} {kvs:List (Key×V)} {k:Key} (e:H a=some (.dK kvs)):jR H a (kV k) (vq kvs k):= .inl ⟨kvs,k,.inl e,rfl,rfl⟩
theorem W9.k {H:Hp} {a:Ac} {kvs:List (Key×V)} {k:Key} {v:V} (e:H a=some (.dK kvs)) (hl:kvs.length<Af):W9 H a (kV k) v (upd H a (.dK (jx kvs k v))):= .inl ⟨kvs,k,e,rfl,hl,rfl⟩
section
variable {X:Cx} {pins:List (Ac×Obj)} {σ:St} {H:Hp} {s:Ae} {a:Ac} {y v:V} {u r:Ab} {o:Option V} {A:Around} {E:Ab→Ae→Prop}
theorem Inv.big (I:Inv X pins σ H s):sysModules<s.heap.objs.size:=by
 have h:Ak<s.heap.objs.size:=(I.mod.glob.keeps I.bk).lt;exact Nat.lt_trans O0 h
theorem XY {Q:Ab→Ae→Prop} (hu:A.units+1<cLine) (I:Inv X pins σ H s) (g:jR H a y (some v)) (ry:qK y u) (h:∀ w' s',Inv X pins σ H s'→qK v w'→Q w' s'):
  wpAny (model X.prog X.w) A (getItem (.ref a) u) Q E s:=by
 rcases g with ⟨kvs,k,e,ey,l⟩ | ⟨kvs,k,b,e,ey,eb,l⟩
 ·subst ey;obtain ⟨z,hd,vs,rel,dd⟩:=yY I.hok e;obtain ⟨w',hw,rw'⟩:=VA.some_of (v:=v) (o:=valueAt vs k) (by rw [l];exact rel.val k)
  exact wpAny_getItem_of (yL ry) dd.mapOf hw (h w' _ (I.tok _) rw')
 ·subst ey;cases (show u=Value.ref b from ry);obtain ⟨z,hd,xs,rel,dd⟩:=yX I.hok e;obtain ⟨w',hw,rw'⟩:=VA.some_of (v:=v) (o:=(atKey xs k).map (·.2)) (by rw [l];exact rel.val k)
  obtain ⟨p,hp,hp2⟩:=Option.map_eq_some_iff.mp hw;refine wpAny_getItem_heap (tupleKind_room_in1 hu) (WY I.hok eb) dd hp ?_;rw [hp2];exact h w' _ (I.tok _) rw'
theorem V7 {h':Heap} {t':Nat} {ob:HO} (I:Inv X pins σ H s) (mu:Mut (H a)) (hs:Heap.SameBut a s.heap h') (he:∃ q,h'.get? a=some q) (new:zo X.prog X.w (upd H a ob) h' a ob):
  Inv X pins σ (upd H a ob) {s with heap:=h',toks:=t'}:=
 I.write (x:=a) (e:=a) mu (.inl rfl) (fun b q hb z=>(hs.2 b hb).trans z) he new
theorem YC {P:Program} {w:World} {H':Hp} {h':Heap} {kvs:List (Key×V)} {vs:List (Key×Ab)} (z:kvs.length≤Af) (hd:(a==sysModules)=false) (rel:KV kvs vs) (dd:h'.DictOf (zc P w) a vs):
  zo P w H' h' a (.dK kvs):=⟨z,hd,vs,rel,dd⟩
theorem XX {H':Hp} {Q:Unit→Ae→Prop} (hu:A.units+1<cLine) (I:Inv X pins σ H s) (g:W9 H a y v H') (ry:qK y u) (rv:qK v r) (h:∀ s',Inv X pins σ H' s'→Q () s'):
  wpAny (model X.prog X.w) A (setItem (.ref a) u r) Q E s:=by
 rcases g with ⟨kvs,k,e,ey,l,eH⟩ | ⟨kvs,k,b,e,ey,eb,l,eH⟩
 ·subst ey eH;obtain ⟨z,hd,vs,rel,dd⟩:=Xc I.hok e;have hz:vs.length≤Af:=by rw [← rel.length];exact z
  have hl:(jx kvs k v).length≤Af:=by have:=vb kvs k v;omega
  refine wpAny_setItem_pairs (hsz:=hz) (yL ry) dd fun h' dd' hs=>h _ ?_;have he:∃ q,h'.get? a=some q:=let ⟨q,_,_,hq,_⟩:=dd';⟨q,hq⟩;exact V7 I (by rw [e];exact True.intro) hs he (YC hl hd (rel.put k rv) dd')
 ·subst ey eH;cases (show u=Value.ref b from ry);obtain ⟨z,hd,xs,rel,dd⟩:=qe7 I.hok e;have hz:xs.length≤Af:=by rw [← Ci rel];exact z
  have hl:(jx kvs k v).length≤Af:=by have:=vb kvs k v;omega
  refine wpAny_setItem_heap (hsz:=hz) (tupleKind_room_in1 hu) (WY I.hok eb) dd fun h' dd' hs=>h _ ?_;obtain ⟨q,es,ep,hq,h2,h3,h4,_,h5⟩:=dd';refine V7 I (by rw [e];exact True.intro) hs ⟨q,hq⟩ ⟨hl,hd,_,(rel.put k eb rv).keeps fun c ys ec=>?_,q,es,ep,hq,h2,h3,h4,h5⟩
  rw [qB (Z6 ec e (fun z=>nomatch z))];exact ec
end
section
variable {X:Cx} {pins:List (Ac×Obj)} {σ:St} {H:Hp} {s:Ae} {a:Ac} {kvs:List (Key×V)} {k:Key} {u:Ab} {A:Around} {E:Ab→Ae→Prop}
end
def qay (i:Expr):Prop:=∀ ov iv,subscripted i false ov iv=operate [ov,iv] (getItem ov iv)
theorem Wt {prog:Program} {w:World} {A:Around} {E:Ab→Ae→Prop} {s:Ae} {env:Env} {value slice:Expr} {pos:Pos} {T id:String} {Q:Ab→Ae→Prop}
  (hl:typeLookup (.type T) "__getitem__"=pure (some (.builtin id))) (hs:qay slice)
  (h:wpAny (model prog w) A (eval value env) (fun o s₁=>wpAny (model prog w) A (eval slice env) (fun i s₂=>s₂.TypeIs o T∧wpAny (model prog w) A (getItem o i) Q E s₂) E s₁) E s):
  wpAny (model prog w) A (eval (.Subscript value slice pos) env) Q E s:=by
 refine Subscript_ (C0 h (fun o s₁ h₁=>C0 h₁ (fun i s₂ h₂=>?_) fun _ _ x=>x) fun _ _ x=>x);obtain ⟨hT,h₂⟩:=h₂;unfold subscriptTail;refine Ah ?_;rw [getitemInPython_of_ne hT.not_modules];refine Ah (wpAny_specialOf hT hl ?_);have fin:wpAny (model prog w) A (subscripted slice false o i) (fun r s₃=>wpAny (model prog w) A (letTemporaryGo value o r>>=fun _=>pure r) Q E s₃) E s₂:=by
  rw [hs o i];exact wpAny_operating (C0 h₂ (fun r s₃ h₃=>Ah (wpAny_letTemporaryGo (Ar h₃))) fun _ _ x=>x)
 first
  | exact Ar (Ah fin)
  | exact Ah (Ar (Ah fin))
  | exact Ah fin
theorem yZ {X:Cx} {pins:List (Ac×Obj)} {σ:St} {H:Hp} {s:Ae} {a:Ac} {y:V} {o:Option V} (I:Inv X pins σ H s) (g:jR H a y o):s.TypeIs (.ref a) "dict":=by
 rcases g with ⟨kvs,k,e,_,_⟩ | ⟨kvs,k,b,e,_,_,_⟩
 ·obtain ⟨_,_,vs,_,dd⟩:=yY I.hok e;exact dd.typeIs
 ·obtain ⟨_,_,xs,_,dd⟩:=yX I.hok e;exact dd.typeIs
def qdu (td ty:TE):TE:=fun σ H Q=>td σ H fun x H1=>ty σ H1 fun y H2=>∃ a v,x= .ref a∧jR H2 a y (some v)∧Q v H2
def qdz (td ty tv:TE):TS:=fun D σ H=>tv σ H fun v H1=>td σ H1 fun x H2=>ty σ H2 fun y H3=>∃ a H4,x= .ref a∧W9 H3 a y v H4∧D.nx σ H4
section
variable {X:Cx} {o i e value:Expr} {pos pos' tpos:Pos} {td ty tv:TE}
theorem jf (hu:X.A.units+1<cLine) (ho:PE X o td) (hi:PE X i ty) (hs:qay i):PE X (.Subscript o i pos) (qdu td ty):=by
 intro pins s σ H Q I h;refine Wt PySem.F.slot_dict_getitem.lookup hs (thn (ho pins s σ H _ I h) fun u s1 ⟨x,H1,I1,rx,q1⟩=>thn (hi pins s1 σ H1 _ I1 q1) fun iv s2 ⟨y,H2,I2,ry,a,v,ex,g,q2⟩=>?_);subst ex;obtain rfl:u=Value.ref a:=rx;exact ⟨yZ I2 g,XY hu I2 g ry fun w' s3 I3 rw'=>⟨v,H2,I3,rw',q2⟩⟩
theorem v0 (hu:X.A.units+1<cLine) (ho:PE X o td) (hi:PE X i ty) (hv:PE X value tv) (hs:swapsWith value (some (.Subscript o i pos')) pos.line X.env=pure false):
  PS X (.Assign [.Subscript o i pos'] value pos) (qdz td ty tv):=by
 intro pins s σ H D I h;refine wpAny_Assign_Subscript (thn (hv pins s σ H _ I h) fun r s1 ⟨v,H1,I1,rv,q1⟩=>thn (ho pins s1 σ H1 _ I1 q1) fun u s2 ⟨x,H2,I2,rx,q2⟩=>thn (hi pins s2 σ H2 _ I2 q2) fun iv s3 ⟨y,H3,I3,ry,a,H4,ex,g,q3⟩=>?_) hs;subst ex;obtain rfl:u=Value.ref a:=rx;exact XX hu I3 g ry rv fun s4 I4=>⟨σ,H4,I4,q3⟩
end
theorem Qv {P:Program} {w:World} {H:Hp} (h:Heap) (hb:sysModules<h.objs.size):zo P w H (h.push {cls:= .type "dict",data:= .dict #[]}) h.objs.size (.dK []):=
 ⟨A7 _,Bh.mpr (Ne.symm (Bf hb)),[],.nil,Heap.DictOf.new h⟩
section
variable {X:Cx} {pos:Pos}
end
def Yh:List (TE×TE)→St→Hp→(List (V×V)→Hp→Prop)→Prop
 | [],_,H,Q=>Q [] H
 | (tk,tv)::r,σ,H,Q=>tk σ H fun x H1=>tv σ H1 fun y H2=>Yh r σ H2 fun ps H3=>Q ((x,y)::ps) H3
abbrev VV:List (V×V)→List (Ab×Ab)→Prop:=Paired fun p q=>qK p.1 q.1∧qK p.2 q.2
def PPs (X:Cx) (pos:Pos) (keys:List (Option Expr)) (values:List Expr) (trs:List (TE×TE)):Prop:=
 ∀ (pins:List (Ac×Obj)) (s:Ae) (σ:St) (H:Hp) (Q:List (V×V)→Hp→Prop),Inv X pins σ H s→Yh trs σ H Q→
  wpAny (model X.prog X.w) X.A (evalPairs (pairTrees keys values X.env pos)) (fun vs s'=>∃ ps H',Inv X pins σ H' s'∧VV ps vs∧Q ps H') X.xe s
theorem v3 {X:Cx} {pos:Pos}:PPs X pos [] [] []:=fun pins s σ H Q I h=>pairTrees_nil_walk ⟨[],H,I,.nil,h⟩
theorem qW {X:Cx} {pos:Pos} {k v:Expr} {ks:List (Option Expr)} {vs:List Expr} {tk tv:TE} {trs:List (TE×TE)} (hk:PE X k tk) (hv:PE X v tv) (hr:PPs X pos ks vs trs):
  PPs X pos (some k::ks) (v::vs) ((tk,tv)::trs):=fun pins s σ H Q I h=>
 pairTrees_cons_walk (thn (hk pins s σ H _ I h) fun u s1 ⟨x,H1,I1,rx,q1⟩=>thn (hv pins s1 σ H1 _ I1 q1) fun w2 s2 ⟨y,H2,I2,ry,q2⟩=>
  thn (hr pins s2 σ H2 _ I2 q2) fun ws s3 ⟨ps,H3,I3,rel,q3⟩=>⟨(x,y)::ps,H3,I3,.cons ⟨rx,ry⟩ rel,q3⟩)
def Jy (kvs more:List (Key×V)):List (Key×V):=more.foldl (fun acc kv=>jx acc kv.1 kv.2) kvs
theorem KV.merge:∀ {more:List (Key×V)} {rs:List (Key×Ab)} {kvs:List (Key×V)} {vs:List (Key×Ab)},KV more rs→KV kvs vs→KV (Jy kvs more) (merged vs rs):=by
 intro more rs kvs vs r;unfold KV at r
 induction r generalizing kvs vs with
 | nil=>intro q;exact q
 | @cons p q ps qs h t ih=>
  intro r0;have e:KV (jx kvs p.1 p.2) (stored vs q.1 q.2):=by
   have:=r0.put p.1 h.2;rw [← h.1];exact this
  exact ih e
theorem vB:∀ (more kvs:List (Key×V)),(Jy kvs more).length≤kvs.length+more.length
 | [],kvs=>by show kvs.length≤kvs.length+0;omega
 | p::r,kvs=>by
  have h1:=vB r (jx kvs p.1 p.2);have h2:=vb kvs p.1 p.2;show (Jy (jx kvs p.1 p.2) r).length≤_;rw [A5];omega
theorem wF {P:Program} {w:World}:∀ {kvs:List (Key×V)} {ws:List (Ab×Ab)},VV (kvs.map fun kv=>(kV kv.1,kv.2)) ws→∃ rs,Carries (zc P w) ws rs∧KV kvs rs
 | [],_,r=>by rw [Dl] at r;cases r;exact ⟨[],True.intro,.nil⟩
 | p::kvs,_,r=>by
  rw [A2] at r;cases r with
  | @cons a b as bs h t=>
   obtain ⟨rs,c,q⟩:=wF (P:=P) (w:=w) t;obtain ⟨b1,b2⟩:=b;exact ⟨(p.1,b2)::rs,⟨yL h.1,rfl,c⟩,.cons ⟨rfl,h.2⟩ q⟩
def qds (trs:List (TE×TE)):TE:=fun σ H Q=>∀ p,H p=none→Yh trs σ (upd H p (.dK [])) fun ps H2=>H2 p=some (.dK [])∧∃ kvs:List (Key×V),ps=kvs.map (fun kv=>(kV kv.1,kv.2))∧kvs.length≤15∧Q (.ref p) (upd H2 p (.dK (Jy [] kvs)))
theorem v6 {X:Cx} {pos:Pos} {keys:List (Option Expr)} {values:List Expr} {trs:List (TE×TE)} (h:PPs X pos keys values trs) (hall:keys.all (·.isSome)=true) (hl:keys.length=values.length) (h0:keys≠[])
  (h15:keys.length≤15):PE X (.Dict keys values pos) (qds trs):=by
 intro pins s σ H Q I q;have hn:=I.hok.fresh (Aj s.heap.objs.size);have I1:=I.laid (a:=s.heap.objs.size) (o:= .dK []) (h':=s.heap.push {cls:= .type "dict",data:= .dict #[]}) (t':=s.toks) (fun _ _ q=>Ap _ q) (Aj _) (Qv s.heap I.big);refine wpAny_Dict_walk (knd:=zc X.prog X.w) hall hl h0 h15 (thn (h pins _ σ _ _ I1 (q _ hn)) fun ws s2 ⟨ps,H2,I2,rel,e,kvs,ep,lk,q2⟩=>?_);subst ep;obtain ⟨rs,c,rk⟩:=wF (P:=X.prog) (w:=X.w) rel;obtain ⟨z,hd,vs0,r0,dd⟩:=Xc I2.hok e;cases r0;refine ⟨rs,c,dd,fun h' dd' hs=>⟨.ref s.heap.objs.size,_,?_,rfl,q2⟩⟩;have hz:(Jy [] kvs).length≤Af:=by
  have h1:=vB kvs [];rw [List.length_nil] at h1;rw [sizeLine_eq];omega
 have he:∃ q,h'.get? s.heap.objs.size=some q:=let ⟨q,_,_,hq,_⟩:=dd';⟨q,hq⟩;exact V7 I2 (by rw [e];exact True.intro) hs he (YC hz hd (rk.merge .nil) dd')
structure M1 (X:Cx) (o:Expr) (m:Str) (apos:Pos) (e:Expr) (cpos:Pos):Prop where
 base:attributeBase o m X.env (eval o X.env)=eval o X.env
 few:((backTo cpos (starEach [e] X.env)).all (fun x=>!x.1)&&(backToKw cpos (keywordEach [] X.env)).all (fun x=>x.1.isSome)
  &&decide (([e]:List Expr).length+([]:List Keyword).length+(if ([]:List Keyword).isEmpty then 0 else 1)<30))=true
 line:(apos.endLine==cpos.line)=true
 trees:backTo cpos (starEach [e] X.env)=[(false,eval e X.env)]
def IsD (H:Hp) (a:Ac):Prop:=(∃ kvs,Rd H a (.dK kvs))∨∃ kvs,Rd H a (.dT kvs)
theorem Qj {X:Cx} {pins:List (Ac×Obj)} {σ:St} {H:Hp} {s:Ae} {a:Ac} (I:Inv X pins σ H s) (d:IsD H a):
  s.TypeIs (.ref a) "dict"∧(∀ b,Value.ref a= .ref b→∃ ob,s.heap.get? b=some ob∧ob.dict=none)∧(a==sysModules)=false:=by
 rcases d with ⟨kvs,e⟩ | ⟨kvs,e⟩
 ·obtain ⟨_,hd,vs,_,dd⟩:=yY I.hok e;refine ⟨dd.typeIs,fun b q=>?_,hd⟩;cases q;obtain ⟨ob,_,_,h1,h2,_⟩:=dd;exact ⟨ob,h1,h2.2.1⟩
 ·obtain ⟨_,hd,xs,_,dd⟩:=yX I.hok e;refine ⟨dd.typeIs,fun b q=>?_,hd⟩;cases q;obtain ⟨ob,_,_,h1,h2,_⟩:=dd;exact ⟨ob,h1,h2.2.1⟩
section
variable {X:Cx} {pins:List (Ac×Obj)} {σ:St} {H:Hp} {s:Ae} {a:Ac} {y d:V} {u r:Ab} {o:Option V} {A:Around} {E:Ab→Ae→Prop}
theorem qdb {Q:Ab→Ae→Prop} (hu:A.units+1<cLine) (I:Inv X pins σ H s) (g:jR H a y o) (ry:qK y u) (h:∀ w' s',Inv X pins σ H s'→qK (o.getD .non) w'→Q w' s'):
  wpAny (model X.prog X.w) A (call (.builtin "dict.get") [.ref a,u]) Q E s:=by
 rcases g with ⟨kvs,k,e,ey,l⟩ | ⟨kvs,k,b,e,ey,eb,l⟩
 ·subst ey;obtain ⟨z,hd,vs,rel,dd⟩:=yY I.hok e;refine call_meetsIn PySem.F.slot_dict_get dd.typeIs PySem.F.entry_dict_get (PySem.F.args_dict_get_2 _ _) (meets_dict_get (zc X.prog X.w) a (yL ry) hd) ⟨_,dd.mapOf,h _ _ (I.tok _) ?_⟩;rw [l];exact (rel.val k).getD rfl
 ·subst ey;cases (show u=Value.ref b from ry);obtain ⟨z,hd,xs,rel,dd⟩:=yX I.hok e;refine call_meetsIn PySem.F.slot_dict_get dd.typeIs PySem.F.entry_dict_get (PySem.F.args_dict_get_2 _ _) (meetsH_dict_get (tupleKind (zc X.prog X.w)) a b hd) ⟨tupleKind_room_in1 hu,k,xs,WY I.hok eb,dd,h _ _ (I.tok _) ?_⟩;rw [l];exact (rel.val k).getD rfl
end
def qbp (td ty:TE):TE:=fun σ H Q=>td σ H fun x H1=>∃ a,x= .ref a∧IsD H1 a∧ty σ H1 fun y H2=>∃ o,jR H2 a y o∧Q (o.getD .non) H2
section
variable {X:Cx} {o e f:Expr} {apos cpos:Pos} {td ty tx:TE}
theorem yp (hu:X.A.units+1<cLine) (ho:PE X o td) (he:PE X e ty) (m:M1 X o "get" apos e cpos):PE X (.Call (.Attribute o "get" apos) [e] [] cpos) (qbp td ty):=by
 intro pins s σ H Q I h;refine wpAny_Call_method m.base m.few m.line PySem.F.plainAttrs_dict PySem.F.slot_dict_get PySem.F.type_dict_get (thn (ho pins s σ H _ I h) fun u s1 ⟨x,H1,I1,rx,a,ex,d,q1⟩=>?_);subst ex;obtain rfl:u=Value.ref a:=rx;obtain ⟨t1,t2,_⟩:=Qj I1 d;refine ⟨t1,t2,?_⟩;rw [m.trees];refine Calls.callWith_builtin rfl (D0 (Calls.spliced_cons (thn (he pins s1 σ H1 _ I1 q1) fun iv s2 ⟨y,H2,I2,ry,ov,g,q2⟩=>Calls.spliced_nil ?_)));exact qdb hu I2 g ry fun w' s3 I3 rw'=>⟨_,H2,I3,rw',q2⟩
end
section
variable {X:Cx} {pins:List (Ac×Obj)} {σ:St} {H:Hp} {s:Ae} {a:Ac} {kvs:List (Key×V)} {A:Around} {E:Ab→Ae→Prop}
end
section
variable {X:Cx} {pins:List (Ac×Obj)} {σ:St} {H:Hp} {s:Ae} {a:Ac} {y:V} {u:Ab} {A:Around} {E:Ab→Ae→Prop}
end
section
variable {X:Cx}
end
section
variable {κ:Type} [DecidableEq κ]
end
end L2
set_option maxHeartbeats 4000000
set_option maxRecDepth 100000
namespace L2
open PySem PySem.Spec PyProof.Rows
theorem Inv.track {X:Cx} {pins:List (Ac×Obj)} {σ:St} {H:Hp} {s:Ae} {D:Ac} {o:HO} (I:Inv X pins σ H s) (f:Vj X pins H D) (new:zo X.prog X.w (upd H D o) s.heap D o):Inv X pins σ (upd H D o) s:=by
 obtain ⟨f0,f1,f2,f3,f4,f5⟩:=f;show Inv X pins σ (upd H D o) {s with heap:=s.heap,gens:=s.gens,drawn:=s.drawn,toks:=s.toks}
 refine I.step (g':=s.gens) (d':=s.drawn) (t':=s.toks) (h':=s.heap) (ch:=[D]) (fun b hb=>?_) (fun b o _ _ _ e _=>e) (fun b o _ _ _ e _=>⟨o.slots,e⟩) (fun b ob hc e n=>?_) (fun b ob _ e=>⟨ob,e⟩)
  (fun b xs e=>?_) (fun b ob u e=>?_) (fun b ps e=>⟨#[],?_⟩) (fun m hm=>hm) (fun b u e=>?_) I.bare
 ·have z:b=D:=by simpa using hb
  subst z;exact ⟨f3,f1,f4,f5⟩
 ·rw [qB (fun z=>hc (by simp [z]))];exact n
 ·rw [qB (qD e f0)];exact e
 ·rw [qB (qD e f0)];exact e
 ·rw [qB (qD e f0),e];simp
 ·by_cases hb:b=D
  ·subst hb;rw [upd_same] at e;cases e;exact new
  ·rw [qB hb] at e;exact (I.hok b u e).stay (fun c v _ q=>q) (fun c q=>by rw [qB (qD q f0)];exact q) fun c xs q=>by rw [qB (qD q f0)];exact q
theorem vc {env:Env} {f:Str×NameKind→List (Str×Ac)→Sem (ForInStep (List (Str×Ac)))} (h1:∀ n k cs,k≠ .free→f (n,k) cs=pure (.yield cs))
  (h2:∀ n cs c,env.cells.lookup n=some c→f (n,.free) cs=pure (.yield ((n,c)::cs))):∀ (names:List (Str×NameKind)) (acc:List (Str×Ac)),(∀ y∈names,y.2= .free→∃ c,env.cells.lookup y.1=some c)→
   ∃ cl,forIn names acc f=pure cl∧(∀ x c,cl.lookup x=some c→acc.lookup x=some c∨env.cells.lookup x=some c)∧(∀ x,(acc.lookup x).isSome=true→(cl.lookup x).isSome=true)∧
    ∀ y∈names,y.2= .free→(cl.lookup y.1).isSome=true
 | [],acc,_=>⟨acc,rfl,fun x c e=> .inl e,fun x e=>e,fun y hy=>absurd hy (by simp)⟩
 | (n,k)::r,acc,h=>by
  have hr:∀ y∈r,y.2= .free→∃ c,env.cells.lookup y.1=some c:=fun y hy=>h y (Au _ hy)
  by_cases hk:k= .free
  ·subst hk;obtain ⟨c,hc⟩:=h (n,.free) A0 rfl;obtain ⟨cl,e,a1,a2,a3⟩:=vc h1 h2 r ((n,c)::acc) hr;refine ⟨cl,by rw [Ea,h2 n acc c hc,pure_bind];exact e,fun x d hx=>?_,fun x hx=>a2 x ?_,fun y hy hf=>?_⟩
   ·rcases a1 x d hx with q | q
    ·rw [Bn] at q;cases z:x==n with
     | true=>
      rw [z] at q;have z':x=n:=by simpa using z
      subst z';cases q;exact .inr hc
     | false=>rw [z] at q;exact .inl q
    ·exact .inr q
   ·rw [Bn];cases x==n with
    | true=>rfl
    | false=>exact hx
   ·rcases Av.mp hy with z | z
    ·subst z;refine a2 n ?_;rw [Bn];simp
    ·exact a3 y z hf
  ·obtain ⟨cl,e,a1,a2,a3⟩:=vc h1 h2 r acc hr;refine ⟨cl,by rw [Ea,h1 n k acc hk,pure_bind];exact e,a1,a2,fun y hy hf=>?_⟩
   rcases Av.mp hy with z | z
   ·subst z;exact absurd hf hk
   ·exact a3 y z hf
theorem wE {scope:Scope} {env:Env} (h:∀ y∈scope.names,y.2= .free→∃ c,env.cells.lookup y.1=some c):
  ∃ cl,closureFor scope env=pure cl∧(∀ x c,cl.lookup x=some c→env.cells.lookup x=some c)∧∀ y∈scope.names,y.2= .free→∃ c,cl.lookup y.1=some c:=by
 obtain ⟨cl,e,a1,_,a3⟩:=vc (env:=env) (f:=fun x r=>if (x.2==NameKind.free)=true then (do let c ← cellOf env x.1;pure (ForInStep.yield ((x.1,c)::r))) else pure (ForInStep.yield r)) (fun n k cs hk=>by
  have z:(k==NameKind.free)=false:=by simpa using hk
  simp only [z,Bool.false_eq_true,if_false]) (fun n cs c hc=>by
  simp only [C6,if_true,cellOf,hc,pure_bind]) scope.names [] h
 simp only [closureFor];refine ⟨cl,by rw [e,pure_bind],fun x c q=>?_,fun y hy hf=>Dn.mp (a3 y hy hf)⟩
 rcases a1 x c q with z | z
 ·cases z
 ·exact z
theorem WC {scope:Scope} {env:Env} {x:Str} (hcell:∀ y∈scope.names,y.2≠ .cell) (h:(relabel scope env).names.lookup x=some .cell∨(relabel scope env).names.lookup x=some .free):scope.names.lookup x=some .free:=by
 unfold relabel at h;dsimp only at h;generalize scope.names=l at h hcell
 induction l with
 | nil=>rcases h with h | h <;> cases h
 | cons y r ih=>
  obtain ⟨n,k⟩:=y;have hr:∀ y∈r,y.2≠ .cell:=fun y hy=>hcell y (Au _ hy);have hk:k≠ .cell:=hcell (n,k) A0;rw [A2] at h;dsimp only at h;rw [Bn];cases hx:x==n with
  | true=>
   dsimp only
   by_cases hc:(k==NameKind.free&&env.scope.kind== .function&&env.kindOf n==some .cell)=true
   ·simp only [Ao,Bk] at hc;rw [hc.1.1]
   ·rw [if_neg hc,Bn,hx] at h;dsimp only at h;rcases h with h | h
    ·exact absurd (Bj h) hk
    ·exact h
  | false=>
   dsimp only;refine ih ?_ hr
   by_cases hc:(k==NameKind.free&&env.scope.kind== .function&&env.kindOf n==some .cell)=true
   ·rw [if_pos hc,Bn,hx] at h;exact h
   ·rw [if_neg hc,Bn,hx] at h;exact h
theorem WD {scope:Scope} {env:Env} {x:Str} (h:scope.names.lookup x=some .free):(relabel scope env).names.lookup x=some .cell∨(relabel scope env).names.lookup x=some .free:=by
 unfold relabel;dsimp only;generalize scope.names=l at h
 induction l with
 | nil=>cases h
 | cons y r ih=>
  obtain ⟨n,k⟩:=y;rw [Bn] at h;rw [A2];dsimp only;cases hx:x==n with
  | true=>
   rw [hx] at h;have hk:k= .free:=Bj h;subst hk
   by_cases hc:(NameKind.free==NameKind.free&&env.scope.kind== .function&&env.kindOf n==some .cell)=true
   ·rw [if_pos hc,Bn,hx];exact .inl rfl
   ·rw [if_neg hc,Bn,hx];exact .inr rfl
  | false=>
   rw [hx] at h
   by_cases hc:(k==NameKind.free&&env.scope.kind== .function&&env.kindOf n==some .cell)=true
   ·rw [if_pos hc,Bn,hx];exact ih h
   ·rw [if_neg hc,Bn,hx];exact ih h
theorem vL {scope:Scope} {env:Env} {x:Str} (h:scope.names.lookup x=some .free):¬ (relabel scope env).names.lookup x=some .local:=fun e=>by
 rcases WD (env:=env) h with q | q <;> (rw [e] at q;cases q)
def cxC (X:Cx) (scope:Scope) (cl:List (Str×Ac)) (C:Ac) (N:List Str) (fp:List Ac) (s:Ae) (H:Hp):Cx where
 prog:=X.prog
 w:=X.w
 K:=X.K
 mg:=X.mg
 base:=X.base
 A:=X.A
 N:=N
 s₀:=s
 H₀:=H
 env:=compEnvC scope cl C X.env
 outer:=X.stack
 stack:=X.stack
 ex:=fp
 fn:=fun _=>false
 calm:=X.calm
 pn:=[]
 xe:=fun _ _=>False
def zZ (js:List (Option Nat)) (σ:St):St:=js.map fun j=>match j with
 | some i=>(σ[i]?).join
 | none=>none
structure CompScope (sc scope:Scope) (NX N:List Str) (js:List (Option Nat)):Prop where
 cell:∀ y∈scope.names,y.2≠ .cell
 kind:scope.kind= .function
 names:∀ y∈scope.names,y.2= .local→scope.names.lookup y.1=some .local
 free:∀ y∈scope.names,y.2= .free→sc.names.lookup y.1=some .cell∨sc.names.lookup y.1=some .free
 len:js.length=N.length
 out:∀ p∈js.zip N,∀ j∈p.1,NX[j]?=some p.2∧scope.names.lookup p.2=some .free
def PF (X:Cx) (ifs:List Expr) (t:TT):Prop:=
 ∀ (pins:List (Ac×Obj)) (s:Ae) (σ:St) (H:Hp) (Q:Bool→Hp→Prop),Inv X pins σ H s→t σ H Q→
  wpAny (model X.prog X.w) X.A (forIn ifs true fun c r=>if r=true then do let ok ← isTrue c X.env (eval c X.env);pure (ForInStep.yield ok) else pure (ForInStep.yield r)) (TP X pins σ Q) X.xe s
def Wq:TT:=fun _ H Q=>Q true H
theorem zG {X:Cx}:PF X [] Wq:=fun _ _ _ H _ I h=>by
 rw [List.forIn_nil];exact Ar ⟨H,I,h⟩
theorem qcb {X:Cx} {c:Expr} {t:TT} (hc:PT X c t):PF X [c] t:=fun pins s σ H Q I h=>by
 rw [Ea];simp only [if_true];rw [bind_assoc];refine Ah (thn (hc pins s σ H Q I h) fun b s1 q=>?_);rw [pure_bind];dsimp only;rw [List.forIn_nil];exact Ar q
section
variable {prog:Program} {w:World} {A:Around} {R:Result→Ae→Prop} {s:Ae}
theorem W6 {elt target iter:Expr} {ifs:List Expr} {scope:Scope} {pos:Pos} {it acc:Ab} {env:Env} (I:Nat→Ae→Prop)
  (turn:∀ n s,I n s→wpAny (model prog w) A (pyNext it) (fun r s₁=>match r with
   | none=>R (.ok .next) s₁
   | some v=>wpAny (model prog w) A (letOwnedTupleGo target it v) (fun _ s₀=>wpAny (model prog w) A (assign target env v) (fun _ s₂=>
     wpAny (model prog w) A (forIn ifs true fun c r=>if r=true then do let ok ← isTrue c env (eval c env);pure (ForInStep.yield ok) else pure (ForInStep.yield r)) (fun ok s₃=>
      if ok=true then wpAny (model prog w) A (eval elt env) (fun x s₄=>
       wpAny (model prog w) A (call (.builtin "list.append") [acc,x]) (fun _ s₅=>∃ m,m<n∧I m s₅) (fun _ _=>False) s₄) (fun _ _=>False) s₃
      else ∃ m,m<n∧I m s₃) (fun _ _=>False) s₂) (fun _ _=>False) s₀) (fun _ _=>False) s₁) (fun _ _=>False) s)
  (n:Nat) (h:I n s):codeAny (model prog w) A (.compLoop (.ListComp elt [⟨target,iter,ifs,0⟩] scope pos) 0 it acc env) R s:=by
 refine codeAny_loop rfl I (fun n s hI=>?_) n h;show wpAny _ A ((compTurn (.ListComp elt [⟨target,iter,ifs,0⟩] scope pos) 0 it acc env).onRaise (fun x=>do noteFrame x env;theTreesLotGoes x)) _ _ s
 refine wpAny_noted ?_;rw [compTurn_list];refine C0 (E:=fun _ _=>False) ?_ (fun _ _ q=>q) fun _ _ f=>f.elim;refine Ah (wpAny_standAt (Ah (thn (turn n s hI) (fun r s₁ h₁=>?_))));cases r with
 | none=>exact Ar h₁
 | some v=>
  refine Ah (thn h₁ fun _ s₀ h₀=>?_);refine Ah (thn h₀ (fun _ s₂ h₂=>Ah (thn h₂ (fun ok s₃ h₃=>?_))));cases ok with
  | false=>exact Ar ⟨rfl,h₃⟩
  | true=>
   exact Ah (Ah (thn h₃ (fun x s₄ h₄=>Ah (thn h₄ (fun _ s₅ h₅=>Ar (Ar ⟨rfl,h₅⟩))))))
end
def QG (js:List (Option Nat)) (g:TG):Prop:=∀ (σ:St) (x:V) (H:Hp) (Q:St→Hp→Prop),g x (zZ js σ) H Q→
 g x (zZ js σ) H fun σ3 H3=>(σ3.length=(zZ js σ).length∧∀ (i:Nat) v,(zZ js σ)[i]?=some (some v)→σ3[i]?=some (some v))∧Q σ3 H3
def VO (J:It) (js:List (Option Nat)) (g:TG) (tt:TT) (te:TE) (σ:St) (H1:Hp) (Q:VK):Prop:=∃ W:Nat→Nat→List V→Hp→Prop,(∃ m,W 0 m [] H1)∧
 ∀ i m ys H',W i m ys H'→ys.length≤Af∧((J.stop i H'∧∀ D,H' D=none→Q (.ref D) (upd H' D (.lst ys)))∨
  (J.go i H'∧∃ N:List V→Hp→Prop,(∀ ys H,N ys H→∃ m',m'<m∧W (i+1) m' ys H)∧
   ∀ x H2,J.yld i H' x H2→g x (zZ js σ) H2 fun σ3 H3=>tt σ3 H3 fun ok H4=>if ok=true then te σ3 H4 fun y H5=>N (ys++[y]) H5 else N ys H4))
def YL (wi:TI) (js:List (Option Nat)) (g:TG) (tt:TT) (te:TE):TE:=fun σ H Q=>wi σ H fun J H1=>VO J js g tt te σ H1 Q
theorem zL {J:It} {js:List (Option Nat)} {g:TG} {tt:TT} {te:TE} {σ:St} {H1:Hp} {Q:VK} (n:Nat) (Pv:Nat→List V→Hp→Prop) (h0:Pv 0 [] H1) (hl:∀ i ys H,Pv i ys H→ys.length≤i) (hz:n≤Af)
  (hs:∀ i ys H,i<n→Pv i ys H→J.go i H∧∀ x H2,J.yld i H x H2→g x (zZ js σ) H2 fun σ3 H3=>tt σ3 H3 fun ok H4=>if ok=true then te σ3 H4 fun y H5=>Pv (i+1) (ys++[y]) H5 else Pv (i+1) ys H4)
  (hd:∀ ys H,Pv n ys H→J.stop n H∧∀ D,H D=none→Q (.ref D) (upd H D (.lst ys))):VO J js g tt te σ H1 Q:=by
 refine ⟨fun i m ys H=>m=n - i∧i≤n∧Pv i ys H,⟨n,by simp,A7 _,h0⟩,?_⟩
 rintro i m ys H ⟨rfl,hi,p⟩;refine ⟨As (hl i ys H p) (As hi hz),?_⟩
 by_cases hlt:i<n
 ·obtain ⟨a,b⟩:=hs i ys H hlt p;exact .inr ⟨a,Pv (i+1),fun ys' H' p'=>⟨n - (i+1),⋯,rfl,hlt,p'⟩,b⟩
 ·have e:i=n:=⋯;subst e;exact .inl (hd ys H p)
theorem zd {js:List (Option Nat)} {k:Nat} (h:js[k]?=some none):QG js (zC k):=fun σ x H Q q=>by
 refine ⟨⟨by rw [Dg],fun i v e=>?_⟩,q⟩
 by_cases hik:k=i
 ·subst hik;unfold zZ at e;rw [Bm,h] at e;cases e
 ·rw [Dk hik];exact e
theorem Y1 {K:Frag} {js:List (Option Nat)} {k l:Nat} (h:js[k]?=some none) (h':js[l]?=some none):QG js (qaq K 2 (yS (zC k) (yS (zC l) qc7))):=fun σ x H Q q=>by
 obtain ⟨a,xs,e1,e2,e3,v,r,rfl,v2,r2,rfl,rfl,q⟩:=q;have key:∀ {i:Nat} {z:V},(zZ js σ)[i]?=some (some z)→i≠k∧i≠l:=fun {i z} e=>by
  unfold zZ at e;rw [Bm] at e;refine ⟨fun q=>?_,fun q=>?_⟩
  ·subst q;rw [h] at e;cases e
  ·subst q;rw [h'] at e;cases e
 refine ⟨a,_,e1,e2,e3,v,_,rfl,v2,_,rfl,rfl,⟨by rw [Dg,Dg],fun i z e=>?_⟩,q⟩
 obtain ⟨n1,n2⟩:=key e;rw [Dk (Ne.symm n2),Dk (Ne.symm n1)];exact e
section
variable {X:Cx} {sc scope:Scope} {NX N:List Str} {js:List (Option Nat)} {elt iter tg:Expr} {ifs:List Expr} {pos:Pos} {wi:TI} {g:TG} {tt:TT} {te:TE}
theorem y9 {pins:List (Ac×Obj)} {σ:St} {H2:Hp} {s2:Ae} {fp:List Ac} {cl:List (Str×Ac)} {h1:Heap} {tk:Nat} (hsc:X.env.scope=sc) (hNX:X.N=NX) (ok:CompScope sc scope NX N js) (I2:Inv X pins σ H2 s2)
  (cl1:∀ x c,cl.lookup x=some c→X.env.cells.lookup x=some c) (cl2:∀ y∈scope.names,y.2= .free→∃ c,cl.lookup y.1=some c) (f2:∀ b∈fp,Vj X pins H2 b) (hfp:∀ b∈fp,b<s2.heap.objs.size)
  {C:Ac} (hC:s2.heap.objs.size≤C) (old:∀ b o,s2.heap.get? b=some o→h1.get? b=some o) (hns:h1.Ns C fun _=>none):
  Inv (cxC X scope cl C N fp s2 H2) [] (zZ js σ) H2 {s2 with heap:=h1,toks:=tk}:=by
 have cOld:∀ x c,X.env.cells.lookup x=some c→c<s2.heap.objs.size:=fun x c e=>by
  obtain ⟨v,z⟩:=I2.cell x c e;exact z.lt
 refine ⟨⟨I2.ok.mod,?_,I2.ok.glob,I2.ok.blt,hC,fun x y c e1 e2=>I2.ok.inj x y c (cl1 x c e1) (cl1 y c e2),fun x hx=>?_,fun x c hf _=>absurd hf Am,I2.ok.hd,I2.ok.frames,.inl rfl,fun b hb=>⟨Bf (Ba (hfp b hb) hC),fun x c e=>(f2 b hb).2.2.2.2.1 x c (cl1 x c e)⟩,
  I2.bs,As I2.ok.bsz I2.sz,fun b o e hb=>?_,fun b hb z=>?_,I2.stack,I2.stkFree⟩,rfl,I2.bare,Un.kept old,⟨_,hns,fun i x v e1 e2 e3=>?_⟩,fun x c e=>?_,I2.hok.fresh hC,fun x c e=>I2.freeC x c (cl1 x c e),fun p hp=>absurd (show p∈([]:List (Ac×Obj)) from hp) (by simp),I2.hok.kept old,?_⟩
 ·exact ok.kind
 ·have q:scope.names.lookup x=some .free:=WC ok.cell hx;exact cl2 (x,.free) (Bb q) rfl
 ·rcases (f2 b hb).2.2.2.1 with z | z
  ·exact I2.ok.noex b o e z
  ·exact absurd (Ba (Ay (I2.ok.bs b o e).1) z) (C4 _)
 ·rcases Av.mp (I2.stkSub b z) with q | q
  ·exact (f2 b hb).2.1 q
  ·exact (f2 b hb).2.2.1 q
 ·have e1':N[i]?=some x:=e1;have e2':(zZ js σ)[i]?=some (some v):=e2;unfold zZ at e2';rw [Bm] at e2';cases hj:js[i]? with
  | none=>rw [hj] at e2';cases e2'
  | some oj=>
   rw [hj] at e2';cases oj with
   | none=>cases e2'
   | some j=>
    have e4:(σ[j]?).join=some v:=Bj e2';have e5:σ[j]?=some (some v):=by
     cases z:σ[j]? with
     | none=>rw [z] at e4;cases e4
     | some ov=>
      rw [z] at e4;have e6:ov=some v:=e4;rw [e6]
    have hz:(some j,x)∈js.zip N:=by
     refine Bi (i:=i) ?_;rw [Dj];exact ⟨hj,e1'⟩
    obtain ⟨q1,q2⟩:=ok.out _ hz j rfl;have q3:=ok.free (x,.free) (Bb q2) rfl;rw [← hsc] at q3;obtain ⟨m,hn,hl⟩:=I2.loc;obtain ⟨u,r,l⟩:=hl j x v (by rw [hNX];exact q1) e5 (.inr q3)
    refine ⟨u,r,.inr ?_⟩;rcases l with ⟨k,_⟩ | ⟨_,c,hc,hcell⟩
    ·have k':X.env.scope.names.lookup x=some .local:=k;rcases q3 with q3 | q3 <;> (rw [k'] at q3;cases q3)
    ·obtain ⟨c',hc'⟩:=cl2 (x,.free) (Bb q2) rfl;have ec:=cl1 x c' hc';rw [hc] at ec;cases ec;refine ⟨?_,c,hc',?_⟩
     ·have e3':Vis (relabel scope X.env) x:=e3;rcases e3' with e3' | e3' | e3'
      ·have:=vL q2 (env:=X.env);exact absurd e3' this
      ·exact .inl e3'
      ·exact .inr e3'
     ·obtain ⟨o,ho,hd⟩:=hcell;exact ⟨o,old _ _ ho,hd⟩
 ·obtain ⟨v,o,ho,hd⟩:=I2.cell x c (cl1 x c e);exact ⟨v,o,old _ _ ho,hd⟩
 ·show (zZ js σ).length=N.length;unfold zZ;rw [An,ok.len]
theorem Wi {pins:List (Ac×Obj)} {σ:St} {H2:Hp} {s2:Ae} {it:Ac} {fp:List Ac} {tn:Nat→Heap→Prop} {J:It} {cl:List (Str×Ac)} {Q:VK} {E:Ab→Ae→Prop} {RR:Ab→Ac→Result→Ae→Prop}
  (hsc:X.env.scope=sc) (hNX:X.N=NX) (ok:CompScope sc scope NX N js) (hc:X.calm=true) (I2:Inv X pins σ H2 s2)
  (cl1:∀ x c,cl.lookup x=some c→X.env.cells.lookup x=some c) (cl2:∀ y∈scope.names,y.2= .free→∃ c,cl.lookup y.1=some c)
  (T:Turn X.prog X.w X.K tg J fp it tn) (st2:tn 0 s2.heap) (f2:∀ b∈fp,Vj X pins H2 b)
  (hg:∀ C,PG (cxC X scope cl C N fp s2 H2) tg g) (ht:∀ C,PF (cxC X scope cl C N fp s2 H2) ifs tt) (he:∀ C,PE (cxC X scope cl C N fp s2 H2) elt te)
  (own:QG js g) {W:Nat→Nat→List V→Hp→Prop} {m0:Nat} (w0:W 0 m0 [] H2)
  (turn:∀ i m ys H',W i m ys H'→ys.length≤Af∧((J.stop i H'∧∀ D,H' D=none→Q (.ref D) (upd H' D (.lst ys)))∨
   (J.go i H'∧∃ N:List V→Hp→Prop,(∀ ys H,N ys H→∃ m',m'<m∧W (i+1) m' ys H)∧
    ∀ x H2,J.yld i H' x H2→g x (zZ js σ) H2 fun σ3 H3=>tt σ3 H3 fun ok H4=>if ok=true then te σ3 H4 fun y H5=>N (ys++[y]) H5 else N ys H4)))
  (fin:∀ D C m s' Hf,Inv X pins σ Hf s'→s'.heap.Ns C m→Vj X pins Hf C→Q (.ref D) Hf→RR (.ref D) C (.ok .next) s'):
  wpAny (model X.prog X.w) X.A (newList []) (fun acc s₃=>wpAny (model X.prog X.w) X.A (newFunctionEnv scope X.env.globals cl [] X.env.qual none .none (some X.env)) (fun cenv s₄=>
   codeAny (model X.prog X.w) X.A (.compStart (.ListComp elt [⟨tg,iter,ifs,0⟩] scope pos) 0 (.ref it) acc {cenv with scope:=relabel scope X.env}) (RR acc cenv.locals) s₄) E s₃) E s2:=by
 refine C3 (wpAny_newFunctionEnv ok.cell (by intro y hy;simp at hy) (fun h₁ hns₁ hsb₁=>?_) ok.kind)
 dsimp only at hns₁ hsb₁ ⊢;generalize hHH:s2.heap.push {cls:= .type "list",dict:=none,data:= .seq ([]:List Ab).toArray}=HH at hns₁ hsb₁ ⊢;have hCe:HH.objs.size=s2.heap.objs.size+1:=by rw [← hHH,C7]
 obtain ⟨D,hD⟩:∃ D:Nat,D=s2.heap.objs.size:=⟨_,rfl⟩;obtain ⟨C,hC⟩:∃ C:Nat,C=HH.objs.size:=⟨_,rfl⟩;rw [← hC] at hCe hns₁ hsb₁ ⊢;rw [← hD] at hCe ⊢;have hDC:D≠C:=⋯;have hCle:s2.heap.objs.size≤C:=⋯;have hfp:∀ b∈fp,b<s2.heap.objs.size:=fun b hb=>by
  obtain ⟨o,e,_⟩:=T.obj 0 _ st2 b hb;exact Ay e
 have old:∀ b o,s2.heap.get? b=some o→h₁.get? b=some o:=fun b o e=>hsb₁.extBut b o (Bf (Ba (Ay e) hCle)) (Ap _ (hHH▸Ap _ e));have hacc:h₁.PlainList D #[]:=⟨_,hsb₁.extBut _ _ hDC (Ap _ (by rw [← hHH,hD];exact A6 _ rfl))⟩
 have hns:h₁.Ns C fun _=>none:=hns₁;have I4:Inv (cxC X scope cl C N fp s2 H2) [] (zZ js σ) H2 {s2 with heap:=h₁,toks:=s2.toks+([]:List (Str×Ab)).length}:=
  y9 hsc hNX ok I2 cl1 cl2 f2 hfp ⋯ old hns
 have st4:tn 0 h₁:=T.keep 0 _ _ st2 fun b _ o e=>old b o e;have cOld:∀ x c,X.env.cells.lookup x=some c→c<s2.heap.objs.size:=fun x c e=>by
  obtain ⟨v,z⟩:=I2.cell x c e;exact z.lt
 have nDfp:D∉fp:=fun z=>absurd (hfp D z) (by rw [hD];exact C4 _)
 have stat:∀ {pl:List (Ac×Obj)} {H':Hp},(∀ b∈fp,H' b=none)→(∀ p∈pl,p.1∉fp)→∀ b∈fp,Vj (cxC X scope cl C N fp s2 H2) pl H' b:=fun {pl H'} hn hp b hb=>by
  refine ⟨hn b hb,(I4.ok.exf b hb).1,I4.ok.exfs b hb,.inl hb,(I4.ok.exf b hb).2,fun p hpp z=>?_⟩;exact hp p (by simpa [cxC] using hpp) (z▸hb)
 have fpD:∀ {H':Hp},H' D=none→Vj (cxC X scope cl C N fp s2 H2) [] H' D:=fun {H'} hn=>by
  refine ⟨hn,hDC,fun z=>?_,.inr (by show s2.heap.objs.size≤D;omega),fun x c e=>?_,fun p hpp=>absurd (show p∈([]:List (Ac×Obj)) from hpp) (by simp)⟩
  ·obtain ⟨_,o,ho,_⟩:=I4.ok.funs.mem z;exact absurd (show D<s2.heap.objs.size from Ay ho) (by rw [hD];exact C4 _)
  ·exact Bf (by rw [hD];exact cOld x c (cl1 x c e))
 refine (fun loop=>codeAny_compStart_list (loop _ rfl) (T.self X.A 0 _ _ _ st4 (loop _ rfl))) (fun s₃ (hs₃:s₃={s2 with heap:=h₁,toks:=s2.toks+([]:List (Str×Ab)).length})=>?_)
 subst hs₃;refine W6 (env:=compEnvC scope cl C X.env) (fun n s'=>∃ i ys its H',Inv (cxC X scope cl C N fp s2 H2) [] (zZ js σ) H' s'∧tn i s'.heap∧(∀ b∈fp,H' b=none)∧s'.heap.PlainList D its∧qL ys its.toList∧H' D=none∧W i n ys H')
  ?_ m0 ⟨0,[],#[],H2,I4,st4,fun b hb=>(f2 b hb).1,hacc,.nil,I2.hok.fresh ⋯,w0⟩
 rintro n s5 ⟨i,ys,its,H5,I5,st5,fr5,⟨k5,pl5⟩,vl5,hD5,w5⟩;obtain ⟨hz,tr⟩:=turn i n ys H5 w5;have hz':its.size≤Af:=by
  have:=vl5.length;have e4:its.toList.length=its.size:=by simp
  omega
 have I5':Inv (cxC X scope cl C N fp s2 H2) [(D,{cls:= .type "list",data:= .seq its k5})] (zZ js σ) H5 s5:=I5.pins_of fun p hp=>by
  have e:p=(D,{cls:= .type "list",data:= .seq its k5}):=by simpa using hp
  subst e;exact ⟨pl5,hD5,hDC,(fpD hD5).2.2.1,fun v z=>by cases z⟩
 have np:∀ p∈[(D,({cls:= .type "list",data:= .seq its k5}:Obj))],p.1∉fp:=fun p hp=>by
  have e:p=(D,{cls:= .type "list",data:= .seq its k5}):=by simpa using hp
  subst e;exact nDfp
 rcases tr with ⟨stop,qn⟩ | ⟨go,N',hN,step⟩
 ·refine thn (T.done (cxC X scope cl C N fp s2 H2) rfl rfl rfl hc i _ s5 (zZ js σ) H5 (fun _ _=>False) I5' (stat fr5 np) st5 stop) fun r s6 ⟨hr,I6⟩=>?_;subst hr;have pD:=(I6.pin _ (A9 _ A0)).1;have I6':Inv (cxC X scope cl C N fp s2 H2) [] (zZ js σ) H5 s6:=I6.pins_of fun p hp=>absurd hp (by simp)
  have I7:Inv (cxC X scope cl C N fp s2 H2) [] (zZ js σ) (upd H5 D (.lst ys)) s6:=I6'.track (fpD hD5) ⟨hz,its.toList,k5,vl5,by simpa using pD⟩
  obtain ⟨m,hn,_⟩:=I7.loc;have hfC:upd H5 D (.lst ys) C=none:=I7.free;refine fin D C m s6 (upd H5 D (.lst ys)) ?_ hn (I2.fpOk ⋯ hfC) (qn D hD5);exact I2.call' (ch:=fp) I7.os I7.base I7.hok I7.bare fun b hb=>⟨(f2 b hb).2.2.2.1,(f2 b hb).2.1,(f2 b hb).2.2.2.2.1,(f2 b hb).2.2.2.2.2⟩
 ·refine thn (T.item (cxC X scope cl C N fp s2 H2) rfl rfl rfl hc i _ s5 (zZ js σ) H5 (fun _ _=>False) I5' (stat fr5 np) st5 go) fun r s6 ⟨u,hr,h6⟩=>?_;subst hr;refine thn h6 fun _ s7 ⟨x,H7,I7,r7,y7,st7,fr7⟩=>?_;have I7':=I7.pinned (stat fr7 np) (T.obj _ _ st7);have q7:=own σ x H7 _ (step x H7 y7);refine thn (hg C _ s7 (zZ js σ) H7 x u _ I7' r7 q7) fun _ s8 ⟨σ8,H8,I8,ag8,q8⟩=>?_;have keepD:∀ {σ9:St} {H9:Hp} {s9:Ae},Inv (cxC X scope cl C N fp s2 H2) ([(D,{cls:= .type "list",data:= .seq its k5})]++vI fp s7.heap) σ9 H9 s9→s9.heap.get? D=some {cls:= .type "list",data:= .seq its k5}∧H9 D=none:=fun I9=>by
   obtain ⟨a,b,_⟩:=I9.pin _ (A9 _ (Bt _ A0));exact ⟨a,b⟩
  have keepF:∀ {σ9:St} {H9:Hp} {s9:Ae},Inv (cxC X scope cl C N fp s2 H2) ([(D,{cls:= .type "list",data:= .seq its k5})]++vI fp s7.heap) σ9 H9 s9→tn (i+1) s9.heap∧∀ b∈fp,H9 b=none:=fun I9=>by
   refine ⟨T.keep _ _ _ st7 fun b hb o e=>(I9.pin (b,o) (A9 _ (A9 _ (JL hb e)))).1,fun b hb=>?_⟩;obtain ⟨o,e,d⟩:=T.obj _ _ st7 b hb;exact (I9.pin (b,o) (A9 _ (A9 _ (JL hb e)))).2.1
  refine thn (ht C _ s8 σ8 H8 _ I8 q8) fun okb s9 ⟨H9,I9,q9⟩=>?_;have again:∀ {H10:Hp} {s10:Ae},Inv (cxC X scope cl C N fp s2 H2) ([(D,{cls:= .type "list",data:= .seq its k5})]++vI fp s7.heap) σ8 H10 s10→Inv (cxC X scope cl C N fp s2 H2) [] (zZ js σ) H10 s10:=fun I=>(I.pins_of fun p hp=>absurd hp (by simp)).weak ag8.1.symm ag8.2
  cases okb with
  | false=>
   have q9':N' ys H9:=q9;obtain ⟨m',hm,w9⟩:=hN _ _ q9';show ∃ m,m<n∧_;exact ⟨m',hm,i+1,ys,its,H9,again I9,(keepF I9).1,(keepF I9).2,⟨k5,(keepD I9).1⟩,vl5,(keepD I9).2,w9⟩
  | true=>
   have q9':te σ8 H9 fun y H5=>N' (ys++[y]) H5:=q9;show wpAny _ _ (eval elt (compEnvC scope cl C X.env)) _ _ s9;refine thn (he C _ s9 σ8 H9 _ I9 q9') fun yv s10 ⟨y,H10,I10,r10,q10⟩=>?_;obtain ⟨m',hm,w10⟩:=hN _ _ q10;refine wpAny_list_append_plain (hsz:=hz') ⟨k5,(keepD I10).1⟩ fun h' hl' hs'=>?_;refine ⟨m',hm,i+1,ys++[y],its.push yv,H10,?_,?_,(keepF I10).2,hl',?_,(keepD I10).2,w10⟩
   ·obtain ⟨g0,g1,g2,g3,g4,g5⟩:=fpD (keepD I10).2;exact (again I10).turned (t':=s10.toks) (fun b o hb e=>(hs'.2 b hb).trans e) g0 g1 g3 g4 g5
   ·exact T.keep _ _ _ (keepF I10).1 fun b hb o e=>(hs'.2 b (fun z=>nDfp (z▸hb))).trans e
   ·rw [Array.toList_push];exact vl5.append (.cons r10 .nil)
theorem zx (hi:PI X tg iter wi) (hg:∀ cl C fp s H,PG (cxC X scope cl C N fp s H) tg g) (ht:∀ cl C fp s H,PF (cxC X scope cl C N fp s H) ifs tt) (he:∀ cl C fp s H,PE (cxC X scope cl C N fp s H) elt te)
  (own:QG js g) (ok:CompScope sc scope NX N js) (hsc:X.env.scope=sc:=by rfl) (hNX:X.N=NX:=by rfl) (hc:X.calm=true:=by rfl) (hs:∀ x,foldedSetIterable iter X.env x=pure x:=by intro _;rfl):
  PE X (.ListComp elt [⟨tg,iter,ifs,0⟩] scope pos) (YL wi js g tt te):=by
 intro pins s σ H Q I h;rw [eval_ListComp];obtain ⟨cl,hclos,cl1,cl2⟩:=wE (scope:=scope) (env:=X.env) fun y hy hf=>I.ok.has y.1 (by
  have q:=ok.free y hy hf;rw [← hsc] at q;exact q)
 refine wpAny_comprehension_free (use:=none) rfl hs hclos ok.kind ok.names (thn (hi pins s σ H _ I h) fun xv s1 h1=>thn h1 fun itv s2 h2=>?_);obtain ⟨it,fp,tn,J,H2,rfl,I2,T,st2,f2,W,⟨m0,w0⟩,turn⟩:=h2;refine Wi (RR:=fun acc C=>compPost (model X.prog X.w) X.A X.xe none (EP X pins σ Q) acc C) hsc hNX ok hc I2 cl1 cl2 T st2 f2 (fun C=>hg cl C fp s2 H2) (fun C=>ht cl C fp s2 H2) (fun C=>he cl C fp s2 H2) own w0 turn fun D C m s' Hf I' hn f q=>?_;obtain ⟨g0,g1,g2,g3,g4,g5⟩:=f;exact ⟨m,hn,fun h' hs'=>⟨.ref D,Hf,I'.turned (t':=s'.toks) (fun b o hb e=>(hs'.2 b hb).trans e) g0 g1 g3 g4 g5,rfl,q⟩⟩
end
mutual
inductive Rep (K:Frag) (H:Hp):V→Aa→Prop
 | non:Rep K H .non .none
 | bl (b:Bool):Rep K H (.bl b) (.bool b)
 | int (i:Int):Rep K H (.int i) (.int i)
 | str (x:Str):Rep K H (.str x) (.str x)
 | lst {a:Ac} {xs:List V} {ds:List Aa}:SqL K H a xs→Reps K H xs ds→Rep K H (.ref a) (.list ds)
 | tup {a:Ac} {xs:List V} {ds:List Aa}:SqT K H a xs→Reps K H xs ds→Rep K H (.ref a) (.tuple ds)
inductive Reps (K:Frag) (H:Hp):List V→List Aa→Prop
 | nil:Reps K H [] []
 | cons {x:V} {xs:List V} {d:Aa} {ds:List Aa}:Rep K H x d→Reps K H xs ds→Reps K H (x::xs) (d::ds)
end
section
variable {X:Cx} {pins:List (Ac×Obj)} {σ:St} {H H':Hp} {s:Ae} {K:Frag}
mutual
theorem Rep.reads (I:Inv X pins σ H s):∀ {x:V} {d:Aa} {v:Ab},Rep X.K H x d→qK x v→∃ as,Reads s.heap v d as
 | _,_,_,.non,r=>by cases (show _=Value.none from r);exact ⟨_,.none⟩
 | _,_,_,.bl b,r=>by cases (show _=Value.bool b from r);exact ⟨_,.bool b⟩
 | _,_,_,.int i,r=>by
  obtain ⟨t,rfl⟩:=(show ∃ t,_=Value.int i t from r);exact ⟨_,.int i t⟩
 | _,_,_,.str x,r=>by
  obtain ⟨t,rfl⟩:=(show ∃ t,_=Value.str x t from r);exact ⟨_,.str x t⟩
 | _,_,_,.lst (a:=a) h q,r=>by
  cases (show _=Value.ref a from r);obtain ⟨its,rv,⟨o,n,e,c,_,d⟩,_⟩:=I.list h;obtain ⟨as,z⟩:=Reps.reads I q rv;exact ⟨_,.list e c d (by simpa using z)⟩
 | _,_,_,.tup (a:=a) h q,r=>by
  cases (show _=Value.ref a from r);obtain ⟨its,rv,⟨o,e,c,n,d⟩,_⟩:=I.tuple h;obtain ⟨as,z⟩:=Reps.reads I q rv;exact ⟨_,.tuple e c d (by simpa using z)⟩
theorem Reps.reads (I:Inv X pins σ H s):∀ {xs:List V} {ds:List Aa} {vs:List Ab},Reps X.K H xs ds→qL xs vs→∃ as,ReadsAll s.heap vs ds as
 | _,_,_,.nil,.nil=>⟨_,.nil⟩
 | _,_,_,.cons h q,.cons r rr=>by
  obtain ⟨as,z⟩:=Rep.reads I h r;obtain ⟨bs,y⟩:=Reps.reads I q rr;exact ⟨_,.cons z y⟩
end
theorem qp.sqT (g:qp H H') {a:Ac} {xs:List V} (h:SqT K H a xs):SqT K H' a xs:=by
 rcases h with (h | ⟨o,h⟩) | h
 ·exact .inl (.inl (g _ _ h))
 ·exact .inl (.inr ⟨o,g _ _ h⟩)
 ·exact .inr h
mutual
theorem Rep.mono (gL:∀ {a:Ac} {xs:List V},SqL K H a xs→SqL K H' a xs) (gT:∀ {a:Ac} {xs:List V},SqT K H a xs→SqT K H' a xs):∀ {x:V} {d:Aa},Rep K H x d→Rep K H' x d
 | _,_,.non=> .non
 | _,_,.bl b=> .bl b
 | _,_,.int i=> .int i
 | _,_,.str x=> .str x
 | _,_,.lst h q=> .lst (gL h) (Reps.mono gL gT q)
 | _,_,.tup h q=> .tup (gT h) (Reps.mono gL gT q)
theorem Reps.mono (gL:∀ {a:Ac} {xs:List V},SqL K H a xs→SqL K H' a xs) (gT:∀ {a:Ac} {xs:List V},SqT K H a xs→SqT K H' a xs):∀ {xs:List V} {ds:List Aa},Reps K H xs ds→Reps K H' xs ds
 | _,_,.nil=> .nil
 | _,_,.cons h q=> .cons (Rep.mono gL gT h) (Reps.mono gL gT q)
end
theorem Rep.same (g:qp H H') {x:V} {d:Aa} (h:Rep K H x d):Rep K H' x d:=h.mono g.seq g.sqT
theorem Reps.same (g:qp H H') {xs:List V} {ds:List Aa} (h:Reps K H xs ds):Reps K H' xs ds:=h.mono g.seq g.sqT
theorem Reps.length:∀ {xs:List V} {ds:List Aa},Reps K H xs ds→xs.length=ds.length
 | _,_,.nil=>rfl
 | _,_,.cons _ q=>by rw [A5,A5,Reps.length q]
theorem Reps.append:∀ {xs ys:List V} {ds es:List Aa},Reps K H xs ds→Reps K H ys es→Reps K H (xs++ys) (ds++es)
 | _,_,_,_,.nil,q=>q
 | _,_,_,_,.cons h p,q=> .cons h (Reps.append p q)
theorem Reps.get:∀ {xs:List V} {ds:List Aa} {i:Nat} {x:V},Reps K H xs ds→xs[i]?=some x→∃ d,ds[i]?=some d∧Rep K H x d
 | _,_,_,_,.nil,e=>by simp at e
 | _,_,0,_,.cons r _,e=>by simp at e;subst e;exact ⟨_,rfl,r⟩
 | _,_,i+1,x,.cons _ t,e=>by
  obtain ⟨d,h1,h2⟩:=Reps.get (i:=i) (x:=x) t (by simpa using e)
  exact ⟨d,by simpa using h1,h2⟩
theorem Reps.strs:∀ xs:List Str,Reps K H (xs.map V.str) (xs.map PyData.str)
 | []=> .nil
 | b::r=> .cons (.str b) (Reps.strs r)
end
section
variable {X:Cx} {tg:Expr}
theorem wV:OpR X (compareOp .LtE) (fun x y H Q=>∃ i j,x= .str i∧y= .str j∧Q (.bl (!decide (j.cps.toList<i.cps.toList))) H):=by
 intro pins s σ H x y v u Q I rx ry h;obtain ⟨i,j,rfl,rfl,q⟩:=h;obtain ⟨t,rfl⟩:=rx;obtain ⟨t',rfl⟩:=ry;exact PySem.P.le_str (qO I q rfl)
def Its (x:Str):It:=⟨fun i _=>i<x.cps.size,fun i H v H'=>H'=H∧∃ c,x.cps[i]?=some c∧v= .str ⟨#[c]⟩,fun i _=>x.cps.size≤i⟩
theorem Zg {P:Program} {w:World} {K:Frag} {tg:Expr} (it:Ac) (x:Str) (t:Tok):Turn P w K tg (Its x) [it] it (fun i h=>h.IsStrIter it (strIterType x) x t i) where
 mem:=by simp
 obj:=fun i h st b hb=>by
  have e:b=it:=by simpa using hb
  subst e;obtain ⟨o,e,c,d⟩:=st;exact ⟨o,e,fun v z=>by rw [d] at z;cases z⟩
 keep:=fun i h h' st k=>by
  obtain ⟨o,e,c⟩:=st;exact ⟨o,k it (by simp) o e,c⟩
 item:=by
  intro X hP hw hK hc i pins s σ H E I hf st hg;subst hP hw hK;obtain ⟨f0,f1,f2,f3,f4,f5⟩:=hf it (by simp)
  have hlt:i<x.cps.size:=hg;have hi:x.cps[i]?=some x.cps[i]:=Array.getElem?_eq_getElem hlt;have fin:∀ h',h'.IsStrIter it (strIterType x) x t (i+1)→Heap.SameBut it s.heap h'→∃ u,some (Value.str ⟨#[x.cps[i]]⟩ s.toks)=some u∧
    wpAny (model X.prog X.w) X.A (letOwnedTupleGo tg (.ref it) u) (fun _ s2=>∃ y H',Inv X pins σ H' s2∧qK y u∧(Its x).yld i H y H'∧s2.heap.IsStrIter it (strIterType x) x t (i+1)∧∀ b∈[it],H' b=none) E {s with heap:=h',toks:=s.toks+1}:=fun h' st' sb=>by
   have I1:Inv X pins σ H {s with heap:=h',toks:=s.toks+1}:=I.turned (fun b o hb e=>(sb.2 b hb).trans e) f0 f1 f3 f4 f5
   obtain ⟨o,e,c,d⟩:=id st';refine ⟨_,rfl,Xb (s:={s with heap:=h',toks:=s.toks+1}) e c d ?_ ⟨.str ⟨#[x.cps[i]]⟩,H,I1,⟨_,rfl⟩,⟨rfl,_,hi,rfl⟩,st',fun b hb=>(hf b hb).1⟩⟩
   unfold strIterType;split <;> decide
  cases ha:x.cps.all (· <128) with
  | true=>
   have e:strIterType x="str_ascii_iterator":=by unfold strIterType;rw [if_pos ha]
   rw [e] at st;refine wpAny_pyNext_ascii_item st hi fun h' st' sb=>fin h' (by rw [e];exact st') sb
  | false=>
   have e:strIterType x="str_iterator":=by unfold strIterType;rw [if_neg (by rw [ha];decide)]
   rw [e] at st;refine wpAny_pyNext_wide_item st hi fun h' st' sb=>fin h' (by rw [e];exact st') sb
 done:=by
  intro X hP hw hK hc i pins s σ H E I hf st hg;subst hP hw hK;obtain ⟨f0,f1,f2,f3,f4,f5⟩:=hf it (by simp)
  have hi:x.cps[i]?=none:=by
   have:x.cps.size≤i:=hg;simp [this]
  cases ha:x.cps.all (· <128) with
  | true=>
   have e:strIterType x="str_ascii_iterator":=by unfold strIterType;rw [if_pos ha]
   rw [e] at st;exact wpAny_pyNext_ascii_end (I.ok.hd hc) st hi fun h' eb=>⟨rfl,I.turned (t':=s.toks) (fun b o hb e=>eb b o hb e) f0 f1 f3 f4 f5⟩
  | false=>
   have e:strIterType x="str_iterator":=by unfold strIterType;rw [if_neg (by rw [ha];decide)]
   rw [e] at st;exact wpAny_pyNext_wide_end (I.ok.hd hc) st hi fun h' eb=>⟨rfl,I.turned (t':=s.toks) (fun b o hb e=>eb b o hb e) f0 f1 f3 f4 f5⟩
 self:=fun A i s Q E st h=>by
  cases ha:x.cps.all (· <128) with
  | true=>
   have e:strIterType x="str_ascii_iterator":=by unfold strIterType;rw [if_pos ha]
   rw [e] at st;exact wpAny_pyIter_striter_ascii st h
  | false=>
   have e:strIterType x="str_iterator":=by unfold strIterType;rw [if_neg (by rw [ha];decide)]
   rw [e] at st;exact wpAny_pyIter_striter_wide st h
def qd2:V→Option Int→Option Int→Hp→VK→Prop:=fun v lo hi H Q=>∃ x,v= .str x∧x.length≤Af∧Q (.str (Txt.slice x lo hi)) H
theorem qbr:SlR X qd2:=by
 intro pins s σ H x v vl vu lo hi sl Q I rx hs pl pu h;obtain ⟨z,rfl,hz,q⟩:=h;obtain ⟨t,rfl⟩:=rx;refine ⟨"str",_,F.slot_str_getitem.lookup,typeIs_str _ _ _,?_⟩;have fin:∀ t' k,EP X pins σ Q (.str (Txt.slice z lo hi) t') {s with toks:=k}:=fun t' k=>⟨.str _,H,I.tok k,⟨t',rfl⟩,q⟩
 obtain ⟨o,ho,hc,hd⟩:=hs;cases pl with
 | none=>cases pu with
  | none=>exact Dp (l:=none) (u:=none) (st:=none) ⟨o,ho,hc,hd⟩ rfl (post_val_or_str ⟨As (Txt.slice_le z _ _) hz,fin⟩)
  | int j tj=>exact Dp (l:=none) (u:=some (j,tj)) (st:=none) ⟨o,ho,hc,hd⟩ rfl (post_val_or_str ⟨As (Txt.slice_le z _ _) hz,fin⟩)
 | int i ti=>cases pu with
  | none=>exact Dp (l:=some (i,ti)) (u:=none) (st:=none) ⟨o,ho,hc,hd⟩ rfl (post_val_or_str ⟨As (Txt.slice_le z _ _) hz,fin⟩)
  | int j tj=>exact Dp (l:=some (i,ti)) (u:=some (j,tj)) (st:=none) ⟨o,ho,hc,hd⟩ rfl (post_val_or_str ⟨As (Txt.slice_le z _ _) hz,fin⟩)
theorem Xy {bs:List Bool}:(List.range bs.length).all (fun i=>bs.getD i false)=bs.all id:=by
 rw [Cb,A3,A3];constructor
 ·intro h b hb;obtain ⟨i,hi,e⟩:=List.getElem_of_mem hb;have:=h i (C9.mpr hi);rw [List.getD_eq_getElem?_getD,A4 hi] at this;rw [← e];exact this
 ·intro h i hi;have hi':=C9.mp hi;rw [List.getD_eq_getElem?_getD,A4 hi'];exact h _ (Dz hi')
theorem QA (hc:X.calm=true):jb X (.builtin "all") (fun xs H Q=>∃ (a:Ac) (bs:List Bool),xs=[.ref a]∧SqL X.K H a (bs.map V.bl)∧Q (.bl (bs.all id)) H):=by
 intro pins s σ H xs us Q I r h;obtain ⟨a,bs,rfl,ha,q⟩:=h;obtain ⟨u,rfl,ru⟩:=jm r;cases ru;obtain ⟨its,rv,p,hz⟩:=I.list ha;have hlt:a<s.heap.objs.size:=by
  obtain ⟨o,n,e,_⟩:=id p;exact Ay e
 have hl:its.length=bs.length:=by rw [← rv.length,An]
 refine call_all_walk (wpAny_pyIter_list p.isList ?_);refine ⟨s.heap.objs.size,[s.heap.objs.size,a],[s.heap.objs.size],its.toArray.size,_,_,fun i=>bs.getD i false,rfl,Walks.list (A:=X.A.in1) (I.ok.hd hc) s.heap.objs.size a (Bf hlt) its.toArray,⟨⟨_,A6 _ rfl,rfl,rfl⟩,p.isList.at fun o e=>Ap _ e⟩,?_,fun h' tk hk=>?_⟩
 ·intro i v s' Q' E' hv hq;have hv':its[i]?=some v:=by simpa using hv
  have hi:i<its.length:=(B3.mp hv').1;have hb:(bs.map V.bl)[i]?=some (.bl (bs.getD i false)):=by
   rw [Bm,List.getD_eq_getElem?_getD,A4 ⋯];rfl
  obtain ⟨u,hu,ru⟩:=rv.get hb;rw [hv'] at hu;cases hu;cases (show v=Value.bool _ from ru);exact B0 hq
 ·have e:its.toArray.size=bs.length:=by rw [Ax];exact hl
  rw [e,Xy];refine ⟨.bl _,H,?_,rfl,q⟩;have I1:Inv X pins σ H {s with heap:=s.heap.push {cls:= .type "list_iterator",data:= .fields #[.ref a,.int 0 0]}}:=I.kept (t':=s.toks) fun b o e=>Ap _ e
  have f:=I.fpOk (Aj _) (I.hok.fresh (Aj _));exact I1.turned (fun b o hb e=>hk b o (by simpa using hb) e) f.1 f.2.1 f.2.2.2.1 f.2.2.2.2.1 f.2.2.2.2.2
theorem YM:∀ {ys:List Str} {its:List Ab},qL (ys.map V.str) its→StrsAre its ys
 | [],_,.nil=> .nil
 | y::r,_,.cons h t=>by
  obtain ⟨k,rfl⟩:=h;exact .cons _ k (YM t)
def qa9 (K:Frag):V→List V→Hp→VK→Prop:=fun x xs H Q=>∃ (z:Str) (a:Ac) (ys:List Str),x= .str z∧xs=[.ref a]∧SqL K H a (ys.map V.str)∧(ys.map (·.length)).sum+ys.length*z.length≤16777216∧Q (.str (Txt.join z ys)) H
theorem qai:MtR X "str.join" (qa9 X.K):=by
 intro pins s σ H x xs v us Q I rx r h;obtain ⟨z,a,ys,rfl,rfl,ha,hk,q⟩:=h;obtain ⟨t,rfl⟩:=rx;obtain ⟨u,rfl,ru⟩:=jm r;cases ru;obtain ⟨its,rv,p,hz⟩:=I.list ha;exact join_list p.isList (by simpa using YM rv) hk fun t' k=>⟨.str _,H,I.tok k,⟨t',rfl⟩,q⟩
def isi (t T:String):Bool:=t==T||(t=="bool"&&T=="int")
theorem vk {K:Frag} {t T:String} (h1:t∈["NoneType","bool","int","str","list","tuple","dict"]) (h2:T∈["bool","int","str","list","tuple"]):PySem.W.kitOne K (.type t) (.type T)=some (isi t T):=by
 simp only [Av,Bg,or_false] at h1 h2;rcases h1 with rfl | rfl | rfl | rfl | rfl | rfl | rfl <;> rcases h2 with rfl | rfl | rfl | rfl | rfl <;> kernel_rfl
end
theorem zg {c:Bool} {A B:Prop} (e:c=true) (h:A):if c=true then A else B:=by rw [if_pos e];exact h
theorem zn {c:Bool} {A B:Prop} (e:c=false) (h:B):if c=true then A else B:=by rw [if_neg (by rw [e];decide)];exact h
theorem zp:bootBuiltins "len"=some (.builtin "len"):=∅
theorem qde:bootBuiltins "abs"=some (.builtin "abs"):=∅
theorem YD:bootBuiltins "max"=some (.builtin "max"):=∅
theorem Vx:bootBuiltins "all"=some (.builtin "all"):=∅
theorem QC:bootBuiltins "sum"=some (.builtin "sum"):=∅
theorem qz:bootBuiltins "isinstance"=some (.builtin "isinstance"):=∅
theorem Jh:bootBuiltins "str"=some (.type "str"):=∅
theorem YE:bootBuiltins "int"=some (.type "int"):=∅
theorem Xi:bootBuiltins "bool"=some (.type "bool"):=∅
theorem qaw:bootBuiltins "list"=some (.type "list"):=∅
theorem zO:bootBuiltins "tuple"=some (.type "tuple"):=∅
theorem QD:bootBuiltins "set"=some (.type "set"):=∅
section
variable {X:Cx} {x:Str} {pos:Pos} {tg:Expr}
theorem jn {T:String} (hm:X.mg x=none) (hv:bootBuiltins x=some (.type T)) (hg:Gl X x:=by rfl) (hn:x≠"__name__":=by decide) (hd:(x==("__debug__":Str))=false:=by decide):PE X (.Name x pos) (tC (.ty T)):=Q7 hg hm hv rfl hn hd
theorem v5 {v:V} (h:∃ u,X.mg x=some u∧qK v u) (hg:Gl X x:=by rfl) (hd:(x==("__debug__":Str))=false:=by decide):PE X (.Name x pos) (tC v):=by
 obtain ⟨u,m,r⟩:=h;exact YY hg m r hd
def qec:R2:=fun x y H Q=>∃ i j,x= .str i∧y= .str j∧i.length+j.length≤Af∧Q (.str (i++j)) H
def vz:R2:=fun x y H Q=>rI0 (fun i j=> .int (i+j)) x y H Q∨(qec x y H Q∨qeb x y H Q)
theorem qY:OpR X (binaryOp .Add) vz:=qcg.or (Yn.or qcf)
def qe5 (K:Frag) (tl:TE):TI:=fun σ H R=>tl σ H fun x H1=>(∃ a,x= .ref a∧(∃ xs,SqL K H1 a xs)∧R (Itl K a) H1)∨(∃ a,x= .ref a∧(∃ xs,SqT K H1 a xs)∧R (Itt K a) H1)∨∃ z,x= .str z∧R (Its z) H1
theorem qb8 {l:Expr} {tl:TE} (hl:PE X l tl):PI X tg l (qe5 X.K tl):=by
 intro pins s σ H R I h;refine thn (hl pins s σ H _ I h) fun v s1 ⟨x,H1,I1,r1,q1⟩=>?_;have fr:∀ b∈[s1.heap.objs.size],Vj X pins H1 b:=fun b hb=>by
  have e:b=s1.heap.objs.size:=by simpa using hb
  subst e;exact I1.fpOk (Aj _) (I1.hok.fresh (Aj _))
 rcases q1 with ⟨a,e,⟨xs,hq⟩,q⟩ | ⟨a,e,⟨xs,hq⟩,q⟩ | ⟨z,e,q⟩
 ·subst e;cases r1;obtain ⟨its,rv,p,hz⟩:=I1.list hq;refine wpAny_pyIter_list p.isList ?_;exact ⟨s1.heap.objs.size,[s1.heap.objs.size],_,_,H1,rfl,I1.kept (t':=s1.toks) fun b o e=>Ap _ e,Xp a _,⟨_,A6 _ rfl,rfl,rfl⟩,fr,q⟩
 ·subst e;cases r1;obtain ⟨its,rv,p,hz⟩:=I1.tuple hq;refine Ed (show s1.heap.IsTuple a its.toArray from p) ?_;exact ⟨s1.heap.objs.size,[s1.heap.objs.size],_,_,H1,rfl,I1.kept (t':=s1.toks) fun b o e=>Ap _ e,Yf a _,⟨_,A6 _ rfl,rfl,rfl⟩,fr,q⟩
 ·subst e;obtain ⟨t,rfl⟩:=r1;refine wpAny_pyIter_strU ?_;exact ⟨s1.heap.objs.size,[s1.heap.objs.size],_,_,H1,rfl,I1.kept (t':=s1.toks) fun b o e=>Ap _ e,Zg _ z t,⟨_,A6 _ rfl,rfl,rfl⟩,fr,q⟩
def qbx (K:Frag):V→Option Int→Option Int→Hp→VK→Prop:=fun x lo hi H Q=>qd3 K x lo hi H Q∨(qd2 x lo hi H Q∨qd1 K x lo hi H Q)
theorem qbs:SlR X (qbx X.K):=QP.or (qbr.or ZK)
end
section
variable {X:Cx} {K:Frag} {tg:Expr}
theorem ix_k (h:X.K=K):IxR X (rIx K):=h▸qc3
theorem Xv (h:X.K=K):SlR X (qbx K):=h▸qbs
theorem ja (h:X.K=K):jb X (.builtin "len") (fun xs H Q=>∃ x n,xs=[x]∧qdm K x H n∧Q (.int n) H):=h▸Qz
theorem Wp (h:X.K=K) (hc:X.calm=true):jb X (.builtin "all") (fun xs H Q=>∃ (a:Ac) (bs:List Bool),xs=[.ref a]∧SqL K H a (bs.map V.bl)∧Q (.bl (bs.all id)) H):=h▸QA hc
theorem Qi (h:X.K=K):MtR X "str.join" (qa9 K):=h▸qai
theorem Vp {l:Expr} {tl:TE} (h:X.K=K) (hl:PE X l tl):PI X tg l (qe5 K tl):=h▸qb8 hl
theorem vR (h:X.K=K):jb X (.type "tuple") (fun xs H Q=>∃ p ys,xs=[.ref p]∧((SqL K H p ys∧∀ l,H l=none→Q (.ref l) (upd H l (.tup ys)))∨(SqT K H p ys∧Q (.ref p) H))):=h▸wM
theorem YX {es:List Expr} {k:Nat} {t:TGs} {n:Nat} {pos:Pos} (hK:X.K=K) (hc:X.calm=true) (h:PGs X es t) (hn:(assignEach es X.env).length=n:=by rfl) (hst:(assignEach es X.env).findIdx? (·.1)=none:=by rfl):PG X (.Tuple es k pos) (qaq K n t):=hK▸qb9 hc h hn hst
theorem wG {o e:Expr} {es:List Expr} {to:TE} {t:TA} {name:Str} {apos cpos:Pos} {T id:String} {r:V→List V→Hp→VK→Prop} (hK:X.K=K) (pa:PlainAttrs T) (slot:Slot T name id) (hty:typeOf (.builtin id)=pure (.type "method_descriptor")) (hm:MtR X id r) (ho:PE X o to) (ha:PA X (e::es) t)
  (hbase:attributeBase o name X.env (eval o X.env)=eval o X.env:=by rfl)
  (hfew:((backTo cpos (starEach (e::es) X.env)).all (fun x=>!x.1)&&(backToKw cpos (keywordEach [] X.env)).all (fun x=>x.1.isSome)
   &&decide ((e::es).length+([]:List Keyword).length+(if ([]:List Keyword).isEmpty then 0 else 1)<30))=true:=by rfl)
  (hline:(apos.endLine==cpos.line)=true:=by rfl) (hs:starEach (e::es) X.env=(false,eval e X.env)::starEach es X.env:=by rfl) (hplain:(backTo cpos (starEach es X.env)).any (·.1)=false:=by rfl):
  PE X (.Call (.Attribute o name apos) (e::es) [] cpos) (tBM K T r to t):=hK▸qek pa slot hty hm ho ha hbase hfew hline hs hplain
end
def qby (K:Frag):R2:=fun x y H Q=>∃ (a b:Ac) (xs:List V),x= .ref a∧y= .ref b∧SqL K H a xs∧SqL K H b []∧Q (.bl xs.isEmpty) H
theorem qav {X:Cx} {K:Frag} (h:X.K=K) (hu:X.A.units<cLine):OpR X (compareOp .Eq) (qby K):=by
 subst h;intro pins s σ H x y v u Q I rx ry q;obtain ⟨a,b,xs,rfl,rfl,ha,hb,q⟩:=q;cases rx;cases ry;obtain ⟨its,rv,p,_⟩:=I.list ha;obtain ⟨itb,rb,pb,_⟩:=I.list hb;cases rb;cases rv with
 | nil=>exact SeqAt.eq_listAt (e:=fun _=>true) p.isList pb.isList rfl hu (fun j h1 _=>absurd h1 (by simp)) (qO I q rfl)
 | cons r rr=>exact SeqAt.eq_list_lengthsAt p.isList pb.isList (by simp) hu (qO I q rfl)
structure Def (P:Program) (w:World) (K:Frag) (mg:Str→Option Ab) (base:Heap) (k:Nat) (x:Str) (ps:List Str) (sp:Sp):Prop where
 ex:∃ (f:Ac) (fd:FuncData),FnOk P w K mg base CX0 k f fd ps sp∧Js K fd ps []∧PySem.W.keepIn K (.ref f)=true∧mg x=some (.ref f)
theorem qcd {X:Cx} {k:Nat} {x:Str} {ps:List Str} {sp:Sp} {e:Expr} {es:List Expr} {t:TA} {p pos:Pos} (D:Def X.prog X.w X.K X.mg X.base k x ps sp) (hr:Room k X.A) (ha:PA X (e::es) t) (hg:Gl X x:=by rfl)
  (hdb:(x==("__debug__":Str))=false:=by decide) (he:starEach (e::es) X.env=(false,eval e X.env)::starEach es X.env:=by rfl) (hpl:(backTo pos (starEach es X.env)).any (·.1)=false:=by rfl):
  PE X (.Call (.Name x p) (e::es) [] pos) (zB sp [] E0 t):=by
 obtain ⟨f,fd,F,B,kp,m⟩:=D.ex;exact YZ F hr hg m kp B .nil qem ha hdb he hpl
theorem Def.mono {P:Program} {w:World} {K:Frag} {mg:Str→Option Ab} {base:Heap} {j k:Nat} {x:Str} {ps:List Str} {sp:Sp} (D:Def P w K mg base j x ps sp) (h:j≤k):Def P w K mg base k x ps sp:=by
 obtain ⟨f,fd,F,r⟩:=D.ex;exact ⟨f,fd,F.mono h,r⟩
theorem zo.there {P:Program} {w:World} {H:Hp} {h:Heap} {a:Ac} {o:HO} (x:zo P w H h a o):∃ ob,h.get? a=some ob:=by
 cases o with
 | lst xs=>obtain ⟨_,_,_,_,e⟩:=x;exact ⟨_,e⟩
 | tup xs=>obtain ⟨_,_,_,o,e,_⟩:=x;exact ⟨_,e⟩
 | dK kvs=>obtain ⟨_,_,_,_,o,_,_,e,_⟩:=x;exact ⟨_,e⟩
 | dT kvs=>obtain ⟨_,_,_,_,o,_,_,e,_⟩:=x;exact ⟨_,e⟩
 | set S n=>obtain ⟨o,_,_,_,e,_⟩:=x;exact ⟨_,e⟩
 | ins C dx fs=>obtain ⟨_,_,_,e,_⟩:=x;exact ⟨_,e⟩
 | own y=>exact x
 | xd fs=>obtain ⟨_,⟨_,_,_,e,_⟩,_⟩:=x;exact ⟨_,e⟩
 | rng lo hi=>obtain ⟨_,_,_,e⟩:=x;exact ⟨_,e⟩
 | frz ob u=>obtain ⟨e,_⟩:=x;exact ⟨_,e⟩
 | tbl ps=>exact ⟨_,(show h.get? a=some _ from x)⟩
 | met f y=>exact ⟨_,(show h.get? a=some _ from x)⟩
 | ext φ=>obtain ⟨_,e,_⟩:=x;exact e
structure Fly (P:Program) (w:World) (outer:List Env) (H:Hp) (s:Ae) (H':Hp) (ea:Ac) (C:Ab) (s':Ae):Prop where
 os:s'.os=s.os
 bare:AllBare s'.gens
 un:Un (frs outer) [] H H' s.heap s'.heap
 hok:HOk P w H' s'.heap
 frees:∀ b∈frs outer,H' b=none
 fly:∃ B a0,Heap.FlyingW B outer ea C a0 s'.heap∧∀ b o,s'.heap.get? b=some o→(H' b≠none∨∃ o0,s.heap.get? b=some o0)→b∉frs outer→B.get? b=some o
abbrev CX1 (P:Program) (w:World):CXT:=fun outer H s E e s'=>∃ ea C H',e= .ref ea∧Fly P w outer H s H' ea C s'∧E C none H'
section
variable {P:Program} {w:World} {outer l2:List Env} {H H':Hp} {s s':Ae} {ea:Ac} {C:Ab} {h':Heap}
theorem Qs {B:Heap} {a0:Ab} (F:Fly P w outer H s H' ea C s') (hB:∀ b o,s'.heap.get? b=some o→(H' b≠none∨∃ o0,s.heap.get? b=some o0)→b∉frs outer→B.get? b=some o)
  (fl:Heap.FlyingW B outer ea C a0 h') (sm:s'.heap.UpToSlots h') (hd:∀ b∈frs outer,∀ o,s'.heap.get? b=some o→∀ vs,o.data≠ .fields vs):Fly P w outer H s H' ea C {s' with heap:=h'}:=by
 have stay:∀ b o,s'.heap.get? b=some o→(H' b≠none∨∃ o0,s.heap.get? b=some o0)→b∉frs outer→h'.get? b=some o:=fun b o e z n=>fl.1 b o (hB b o e z n);refine ⟨F.os,F.bare,⟨fun b o e n hb hx=>?_,fun b o e n hb hx=>?_,F.un.free,fun b o e hx=>?_,F.un.tups,F.un.frzs,F.un.tbls⟩,fun b u e=>?_,F.frees,B,a0,fl,fun b o e z n=>?_⟩
 ·exact stay b o (F.un.keep b o e n hb hx) (.inr ⟨o,e⟩) hb
 ·obtain ⟨sl,e1⟩:=F.un.slot b o e n hb hx;obtain ⟨sl',e2⟩:=sm b _ e1 (hd b hb _ e1);exact ⟨sl',e2⟩
 ·obtain ⟨o1,e1⟩:=F.un.there b o e hx
  by_cases hb:b∈frs outer
  ·obtain ⟨sl',e2⟩:=sm b _ e1 (hd b hb _ e1);exact ⟨_,e2⟩
  ·exact ⟨o1,stay b o1 e1 (.inr ⟨o,e⟩) hb⟩
 ·have nf:∀ c v,H' c=some v→c∉frs outer:=fun c v q z=>by rw [F.frees c z] at q;cases q
  refine (F.hok b u e).stay (fun c v hc q=>?_) (fun _ q=>q) fun _ _ q=>q;rcases hc with rfl | hc
  ·exact stay c v q (.inl (by rw [e];simp)) (nf c _ e)
  ·exact stay c v q (.inl (by rw [hc];simp)) (nf c _ hc)
 ·have e0:∃ o1,s'.heap.get? b=some o1:=by
   rcases z with z | ⟨o0,z⟩
   ·cases q:H' b with
    | none=>exact absurd q z
    | some u=>exact (F.hok b u q).there
   ·exact F.un.there b o0 z (by simp)
  obtain ⟨o1,e1⟩:=e0;have e2:=hB b o1 e1 z n;have e3:=fl.1 b o1 e2;have e':h'.get? b=some o:=e;rw [e'] at e3;cases e3;exact e2
end
section
variable {P:Program} {w:World} {K:Frag} {mg:Str→Option Ab} {base:Heap} {N:List Str} {qual:Str} {scope:Scope} {f:Ac} {cd:Ab} {A:Around} {outer:List Env} {s₀:Ae} {H₀:Hp} {E:XK}
theorem yT {env:Env} {L:Ac} (h:env.frame=some L) (outer:List Env):frs (env::outer)=L::frs outer:=by
 unfold frs;rw [Do,h]
theorem qat {pins:List (Ac×Obj)} {σ:St} {H H':Hp} {s s':Ae} {ea:Ac} {C:Ab}
  (I:Inv (Vd (CX1 P w) P w K mg base N qual scope f cd A outer s₀ H₀ E) pins σ H s) (F:Fly P w (envOfC qual scope s₀.heap.objs.size f cd::outer) H s H' ea C s'):
  ∀ {Q:Unit→Ae→Prop} {E':Ab→Ae→Prop},(∀ s'',Fly P w outer H₀ s₀ H' ea C s''→Q () s'')→wpAny (model P w) (A.deeper (envOfC qual scope s₀.heap.objs.size f cd)) (leaving (envOfC qual scope s₀.heap.objs.size f cd) (.ref ea)) Q E' s':=by
 intro Q E' hQ;obtain ⟨B,a0,fl,hB⟩:=F.fly;have fc:frs (envOfC qual scope s₀.heap.objs.size f cd::outer)=s₀.heap.objs.size::frs outer:=yT rfl outer;refine wpAny_leaves_onW (L:=s₀.heap.objs.size) I.ok.frames rfl fl fun h' fl' sm=>hQ _ ?_;have U1:Un (frs outer) [] H₀ H s₀.heap s.heap:=I.base;have U2:=F.un;rw [fc] at U2 hB;have nL:∀ b o,s₀.heap.get? b=some o→b≠s₀.heap.objs.size:=fun b o e=>Bf (Ay e);have nf:∀ b o,s₀.heap.get? b=some o→b∉frs outer→b∉s₀.heap.objs.size::frs outer:=fun b o e hb z=>by
  rcases Av.mp z with z | z
  ·exact nL b o e z
  ·exact hb z
 have stay:∀ b o,s'.heap.get? b=some o→(H' b≠none∨∃ o0,s.heap.get? b=some o0)→b∉s₀.heap.objs.size::frs outer→h'.get? b=some o:=fun b o e z n=>fl'.1 b o (hB b o e z n);have hd:∀ b∈frs outer,∀ o,s'.heap.get? b=some o→∀ vs,o.data≠ .fields vs:=fun b hb o e vs=>by
  obtain ⟨_,o1,e1,d1⟩:=fl.2.2.1.mem (b:=b) (by rw [show List.filterMap (fun x=>x.frame) (envOfC qual scope s₀.heap.objs.size f cd::outer)=frs (envOfC qual scope s₀.heap.objs.size f cd::outer) from rfl,fc];exact Au _ hb)
  rw [e] at e1;cases e1;exact d1 vs
 have hfr:∀ b∈frs outer,H' b=none:=fun b hb=>F.frees b (by rw [fc];exact Au _ hb)
 have there2:∀ b o,s₀.heap.get? b=some o→∃ o1,s.heap.get? b=some o1∧∃ o2,s'.heap.get? b=some o2:=fun b o e=>by
  obtain ⟨o1,e1⟩:=U1.there b o e (by simp)
  obtain ⟨o2,e2⟩:=U2.there b o1 e1 (by simp)
  exact ⟨o1,e1,o2,e2⟩
 refine ⟨F.os.trans I.os,F.bare,⟨fun b o e n hb hx=>?_,fun b o e n hb hx=>?_,fun b o e n hx=>?_,fun b o e hx=>?_,fun b xs q=>U2.tups b xs (U1.tups b xs q),fun b o u q=>U2.frzs b o u (U1.frzs b o u q),fun b ps q=>?_⟩,fun b u e=>?_,hfr,B,a0,fl',fun b o e z n=>?_⟩
 ·have e1:=U1.keep b o e n hb (by simp)
  have n1:=U1.free b o e n (by simp)
  exact stay b o (U2.keep b o e1 n1 (nf b o e hb) (by simp)) (.inr ⟨o,e1⟩) (nf b o e hb)
 ·obtain ⟨sl,e1⟩:=U1.slot b o e n hb (by simp)
  have n1:=U1.free b o e n (by simp)
  obtain ⟨sl2,e2⟩:=U2.slot b _ e1 n1 (Au _ hb) (by simp)
  obtain ⟨sl3,e3⟩:=sm b _ e2 (hd b hb _ e2);exact ⟨sl3,e3⟩
 ·obtain ⟨o1,e1⟩:=U1.there b o e (by simp)
  exact U2.free b o1 e1 (U1.free b o e n (by simp)) (by simp)
 ·obtain ⟨o1,e1,o2,e2⟩:=there2 b o e
  by_cases hb:b∈frs outer
  ·obtain ⟨sl3,e3⟩:=sm b _ e2 (hd b hb _ e2);exact ⟨_,e3⟩
  ·exact ⟨o2,stay b o2 e2 (.inr ⟨o1,e1⟩) (nf b o e hb)⟩
 ·obtain ⟨m1,e1⟩:=U1.tbls b ps q;obtain ⟨m2,e2⟩:=U2.tbls b _ e1;exact ⟨m1++m2,by rw [e2,Array.append_assoc]⟩
 ·have nt:∀ c v,H' c=some v→c∉s₀.heap.objs.size::frs outer:=fun c v q z=>by
   rw [F.frees c (by rw [fc];exact z)] at q;cases q
  refine (F.hok b u e).stay (fun c v hc q=>?_) (fun _ q=>q) fun _ _ q=>q;rcases hc with rfl | hc
  ·exact stay c v q (.inl (by rw [e];simp)) (nt c _ e)
  ·exact stay c v q (.inl (by rw [hc];simp)) (nt c _ hc)
 ·have nt:∀ c v,H' c=some v→c∉s₀.heap.objs.size::frs outer:=fun c v q z=>by
   rw [F.frees c (by rw [fc];exact z)] at q;cases q
  have e0:∃ o1,s'.heap.get? b=some o1∧(H' b≠none∨∃ o0,s.heap.get? b=some o0)∧b∉s₀.heap.objs.size::frs outer:=by
   rcases z with z | ⟨o0,z⟩
   ·cases q:H' b with
    | none=>exact absurd q z
    | some u=>
     obtain ⟨o1,e1⟩:=(F.hok b u q).there;exact ⟨o1,e1,.inl (by simp),nt b u q⟩
   ·obtain ⟨o1,e1,o2,e2⟩:=there2 b o0 z;exact ⟨o2,e2,.inr ⟨o1,e1⟩,nf b o0 z n⟩
  obtain ⟨o1,e1,z1,n1⟩:=e0;have e2:=hB b o1 e1 z1 n1;have e3:=fl'.1 b o1 e2;have e':h'.get? b=some o:=e;rw [e'] at e3;cases e3;exact e2
end
section
open PySem.Builtin PySem.Builtin.ObjectAttr PySem.Builtin.Getset_descriptor
variable {prog:Program} {w:World} {A:Around} {K:Frag} {x D:Ac}
def Jr (x D:Ac) (h:Heap):Prop:=∃ o,h.get? x=some o∧o.cls= .ref D
theorem Jr.looks {M:Model} {h:Heap} (p:Jr x D h):PySem.W.Looks M h (typeOf (.ref x)) (.ref D):=by
 obtain ⟨o,e,c⟩:=p;exact c▸(PySem.W.Looks.ld e).andThen .now
structure XK1 (K:Frag) (D:Ac):Prop where
 ga:PySem.W.findIn K (.ref D) "__getattribute__"=some (some (.builtin "BaseException.__getattribute__"))
 gt:PySem.W.findIn K (.ref D) "__getattr__"=some none
 be:PySem.W.mroIn K D (.type "BaseException")=some true
 cl:(PySem.W.clsIn K D).isSome=true
 fd:PySem.W.findIn K (.ref D) "__class__"=some (some (.builtin "object.__class__"))
 sp:PySem.W.specialIn K (.builtin "object.__class__") "__get__"=some (some (.builtin "getset_descriptor.__get__"))
 tk:PySem.W.takesIn K (.builtin "object.__class__")=some true
 ob:PySem.W.mroIn K D (.type "object")=some true
theorem XK1.class_ok {s:Ae} {R:Result→Ae→Prop} {tp:Ab} (c:XK1 K D) (X:K.In s.heap) (p:Jr x D s.heap) (h:R (.ok (.ret (.ref D))) s):
  codeAny (model prog w) A (.call (.builtin "getset_descriptor.__get__") ⟨[.builtin "object.__class__",.ref x,tp],[]⟩) R s:=by
 obtain ⟨hp,gs,dw,tk,os⟩:=s;have L0:=Jr.looks (M:=model prog w) p;have L1:=PySem.W.looks_mroIn (M:=model prog w) X c.ob;refine codeAny_call_builtin PySem.W.KF.slot_gs.plain PySem.W.KF.entry_gs
  (PySem.W.KF.slot_gs.check _ _ _ _ _ _ _ _ PySem.W.KF.type_class (PySem.W.KF.args_gs _ _ _) ?_)
 unfold Builtin.«getset_descriptor.__get__» descrGet;rw [PySem.W.dga_obj];refine Ah (Ar ?_);unfold descrGetter descrCheckInstance descrNameAndClass isInstance;simp only [PySem.W.KF.owner_class];repeat lk
 refine ⟨Code.quiet_builtin _ ∅,Dq PySem.W.KF.entry_class ?_⟩;unfold Builtin.«object.__class__» shownTypeOf;repeat lk
 exact h
theorem XK1.find_ok {M:Model} {h:Heap} (c:XK1 K D) (X:K.In h):PySem.W.Looks M h (find (.ref x) (.ref D) "__class__") (.bind (.builtin "getset_descriptor.__get__") (.builtin "object.__class__")):=by
 have L1:=PySem.W.looks_findIn (M:=M) X c.fd;have L2:=PySem.W.looks_specialIn (M:=M) X c.sp;have L3:=PySem.W.looks_takesIn (M:=M) X c.tk;refine L1.andThen (L2.andThen ?_);exact (show PySem.W.Looks M h (dataDescriptor? (some (.builtin "object.__class__")) (some (.builtin "getset_descriptor.__get__"))) (some (.builtin "getset_descriptor.__get__",.builtin "object.__class__")) from L3.andThen .now).andThen (PySem.W.Looks.tag .now)
theorem XK1.check_ok {E:Ab→Ae→Prop} {s:Ae} {nm:Ab} {Q:Unit→Ae→Prop} (c:XK1 K D) (X:K.In s.heap) (p:Jr x D s.heap) (h:Q () s):
  wpAny (model prog w) A (checkBuiltinCall "BaseException.__getattribute__" ⟨[.ref x,nm],[]⟩) Q E s:=by
 obtain ⟨hp,gs,dw,tk,os⟩:=s;have L0:=Jr.looks (M:=model prog w) p;have L1:=PySem.W.looks_mroIn (M:=model prog w) X c.be;have e1:builtinKind "BaseException.__getattribute__"=some .slot:=∅;have e2:splitId "BaseException.__getattribute__"=some ("BaseException","__getattribute__"):=∅;have e3:=F.args_bexc_ga (.ref x) nm;simp only [checkBuiltinCall,e1,e2];refine Ah ((L0.andThen L1).at ?_)
 repeat (first | exact h | wp_step)
theorem XK1.entry_ok {E:Ab→Ae→Prop} {s:Ae} {tk:Tok} {Q:Fin→Ae→Prop} (c:XK1 K D) (X:K.In s.heap) (p:Jr x D s.heap) (h:Q (.done (.ret (.ref D))) s):
  wpAny (model prog w) A (Builtin.«object.__getattribute__» ⟨[.ref x,.str "__class__" tk],[]⟩) Q E s:=by
 obtain ⟨hp,gs,dw,tk',os⟩:=s;have L0:=Jr.looks (M:=model prog w) p;have L2:=XK1.find_ok (M:=model prog w) (x:=x) c X;unfold Builtin.«object.__getattribute__»;refine Ah (Ar (Ah (Ar (Ah (L0.at (Ah (L2.at ?_)))))));show wpAny _ _ (bindTo _ _ _ _) _ _ _;unfold bindTo;show wpAny _ _ (holding [_] (call _ [_,.ref x,.ref D])>>=ret) _ _ _;exact Ah (B7 (wpAny_call (c.class_ok (s:=⟨hp,gs,dw,tk',os⟩) X p (Ar h))))
theorem XK1.attr_ok {E:Ab→Ae→Prop} {s:Ae} {Q:Option Ab→Ae→Prop} (c:XK1 K D) (X:K.In s.heap) (p:Jr x D s.heap) (h:Q (some (.ref D)) {s with toks:=s.toks+1}):
  wpAny (model prog w) A (getAttr? (.ref x) "__class__") Q E s:=by
 obtain ⟨hp,gs,dw,tk,os⟩:=s;have L0:=Jr.looks (M:=model prog w) p;have L1:=PySem.W.looks_findIn (M:=model prog w) X c.ga;have L3:=PySem.W.looks_findIn (M:=model prog w) X c.gt;have b1:=F.excAttr_ValueError.ga.bind (.ref x);unfold getAttr? getAttrBy? getAttrBy;refine Ah (wpAny_mkText (Ah (wpAny_attempt (B7 (Ah (L0.at (Ah (L1.at ?_))))))));dsimp only;have e2:(Value.builtin "BaseException.__getattribute__"==Value.builtin "object.__getattribute__")=false:=∅;rw [e2,Bool.and_false,if_neg Am];unfold getAttrByItsOwn hookBefore;rw [if_pos (show onTheHeap (.ref D)=true from rfl)];refine Ah (L3.at ?_);refine Ah (wpAny_attempt (B7 ?_));unfold callGetattribute;rw [Cq,if_neg Am];unfold boundAndCalled;rw [b1];refine Ah (Ar (wpAny_call (codeAny_call_builtin F.excAttr_ValueError.ga.plain F.entry_bexc_ga (c.check_ok X p (c.entry_ok X p ?_)))));show wpAny _ _ (handedOut (.ref D)) _ _ _;exact PySem.W.handed_on rfl (Ar h)
theorem XK1.kitx (c:XK1 K D):PySem.W.KitX K (.ref x) (.ref D) (Jr x D):=by
 obtain ⟨cd,hc⟩:=Dn.mp c.cl;have look:∃ a b cd' sl,K.lookup D=some ⟨a,b,.cls cd',sl⟩:=by
  unfold PySem.W.clsIn at hc;split at hc
  ·exact ⟨_,_,_,_,by assumption⟩
  ·cases hc
 obtain ⟨a,b,cd',sl,ho⟩:=look;refine ⟨fun M h _ p=>p.looks,fun M h X _ A' Q' E' s' k q=>?_,fun h tp dd its n sl X htp=>?_,fun X p k=>c.attr_ok X p k⟩
 ·unfold isType loadHead;exact Ah (wpAny_loadPart (k _ _ (X _ _ ho)) (Ar q))
 ·refine Bz.mpr fun q=>?_;have e:D=tp:=Value.ref.inj (Bk.mp q);subst e;have z:=(X _ _ ho).symm.trans htp;cases z
end
def YB (a C:Ac):HO:= .ext (Jr a C)
theorem qau {P:Program} {w:World} {H:Hp} {h:Heap} {a C:Ac} (p:Jr a C h):zo P w H h a (YB a C):=by
 refine ⟨p,?_,fun h1 h2 q k=>?_⟩
 ·obtain ⟨o,e,_⟩:=p;exact ⟨o,e⟩
 ·obtain ⟨o,e,c⟩:=q;exact ⟨o,k o e,c⟩
def X3:V→Option Ab
 | .ref a=>some (.ref a)
 | .ty n=>some (.type n)
 | _=>none
theorem y6 {x:V} {u v:Ab} (e:X3 x=some v) (r:qK x u):u=v:=by
 cases x with
 | ref a=>cases e;exact r
 | ty n=>cases e;exact r
 | _=>cases e
theorem y8:∀ {xs:List V} {us vs:List Ab},xs.mapM X3=some vs→qL xs us→us=vs
 | [],_,_,e,.nil=>by cases e;rfl
 | x::r,_,vs,e,.cons h t=>by
  rw [List.mapM_cons] at e;cases q:X3 x with
  | none=>rw [q] at e;cases e
  | some v=>
   rw [q] at e;cases q2:r.mapM X3 with
   | none=>rw [q2] at e;cases e
   | some vs'=>
    rw [q2] at e;cases e;rw [y6 q h,y8 q2 t]
def qd9 (K:Frag):List V→Hp→VK→Prop:=fun xs H Q=>∃ (a C:Ac) (c:V) (b:Bool),xs=[.ref a,c]∧H a=some (YB a C)∧XK1 K C∧
 ((∃ cv,X3 c=some cv∧PySem.W.kitOne K (.ref C) cv=some b)∨∃ p cs vs,c= .ref p∧H p=some (.tup cs)∧cs.mapM X3=some vs∧PySem.W.kitAny K (.ref C) vs=some b)∧Q (.bl b) H
theorem WZ {X:Cx} {K:Frag} (hK:X.K=K):jb X (.builtin "isinstance") (qd9 K):=by
 subst hK;intro pins s σ H xs us Q I r h;obtain ⟨a,C,c,b,rfl,ha,x1,hc,q⟩:=h;obtain ⟨u,v,rfl,ru,rv⟩:=Zd r;cases (show u=Value.ref a from ru);have p:Jr a C s.heap:=(show zo X.prog X.w H s.heap a (YB a C) from I.hok a _ ha).1;rcases hc with ⟨cv,e1,e2⟩ | ⟨tp,cs,vs,rfl,ht,e1,e2⟩
 ·cases y6 e1 rv;exact Bu x1.kitx I.kIn p e2 (fun z=>nomatch z) fun tk=>⟨.bl b,H,I.tok tk,rfl,q⟩
 ·cases (show v=Value.ref tp from rv);obtain ⟨_,its,rv',⟨o,ho,hcl,n,hd⟩⟩:=(show zo X.prog X.w H s.heap tp (.tup cs) from I.hok tp _ ht);cases y8 e1 rv';obtain ⟨oc,od,oda,osl⟩:=o;cases hcl;cases hd;exact PySem.W.kia_tup x1.kitx I.kIn p ho e2 (fun z=>nomatch z) fun tk=>⟨.bl b,H,I.tok tk,rfl,q⟩
abbrev bmVE:List Ab:=[.type "ValueError",.type "Exception",.type "BaseException",.type "object"]
def qdi (K:Frag) (C:Ac):Prop:=∀ h:Heap,K.In h→∃ bm N nm q bs hdct sn sub ab col dd k0 k1 k2 k3 k5 mN,
 h.get? C=some (excClassObj nm q C N bs bm hdct sn sub ab col dd k0 k1 k2 k3 k5 "ValueError.__new__")∧h.Ns N mN∧mN "__init__"=none∧OwnTail h bmVE bm
def QF (X:Cx) (C:Ab) (R:Hp→Prop):Prop:=∀ (pins:List (Ac×Obj)) (σ:St) (H:Hp) (s:Ae) (h':Heap) (e:Ac) (vs:List Ab),
 Inv X pins σ H s→Heap.MadeExcOf s.heap h' e C vs→R H→X.xe (.ref e) {s with heap:=h'}
def qbt (t:TA) (R:Hp→Prop):TS:=fun _ σ H=>t σ H fun vs H1=>vs.length≤Af∧R H1
theorem ZX {X:Cx} {x:Str} {C:Ac} {R:Hp→Prop} {e:Expr} {es:List Expr} {t:TA} {np cpos pos:Pos} (hr:QF X (.ref C) R) (O:qdi X.K C) (hm:X.mg x=some (.ref C)) (ha:PA X (e::es) t) (hc:X.calm=true:=by rfl)
  (hg:Gl X x:=by rfl) (hdb:(x==("__debug__":Str))=false:=by decide) (he:starEach (e::es) X.env=(false,eval e X.env)::starEach es X.env:=by rfl) (hpl:(backTo cpos (starEach es X.env)).any (·.1)=false:=by rfl):
  PS X (.Raise (some (.Call (.Name x np) (e::es) [] cpos)) none pos) (qbt t R):=by
 intro pins s σ H D I h;obtain ⟨bm,N,nm,q,bs,hdct,sn,sub,ab,col,dd,k0,k1,k2,k3,k5,mN,hC,hN,hni,T⟩:=O X.base I.mod.kin;refine wpAny_Raise_call_subT (C:=C) (nm:=nm) (q:=q) (N:=N) (bs:=bs) (bm:=bm) (hdct:=hdct) (sn:=sn) (sub:=sub) (ab:=ab) (col:=col) (dd:=dd) (k0:=k0) (k1:=k1) (k2:=k2) (k3:=k3) (k5:=k5) F.excBase_ValueError (mN:=mN) (T.hasType F.excBase_ValueError.hasBase) (I.ok.hd hc)
  (by rw [he];show (false||(backTo cpos (starEach es X.env)).any (·.1))=false;rw [hpl];rfl) hni (JN I hg hm ⟨rfl,?_⟩ hdb)
 have h2:=ha cpos pins s σ H _ I h;rw [he] at h2 ⊢;refine D0 (thn h2 fun vs s2 ⟨ws,H2,I2,r,z,q2⟩=>⟨rfl,by rw [← r.length];exact z,I2.bk _ _ hC,hN.keeps I2.bk,T.keeps I2.bk,fun h' e' m=>hr pins σ H2 s2 h' e' _ I2 m q2⟩)
section
variable {P:Program} {w:World} {K:Frag} {mg:Str→Option Ab} {base:Heap} {N:List Str} {qual:Str} {scope:Scope} {f:Ac} {cd:Ab} {A:Around} {outer:List Env} {s₀:Ae} {H₀:Hp} {E:XK}
theorem QS {C:Ab}:QF (Vd (CX1 P w) P w K mg base N qual scope f cd A outer s₀ H₀ E) C (fun H=>E C none H):=by
 intro pins σ H s h' e vs I m q;show wpAny (model P w) (A.deeper (envOfC qual scope s₀.heap.objs.size f cd)) (leaving (envOfC qual scope s₀.heap.objs.size f cd) (.ref e)) (fun _ s''=>CX1 P w outer H₀ s₀ E (.ref e) s'') (fun e' s''=>CX1 P w outer H₀ s₀ E e' s'') {s with heap:=h'}
 have fc:frs (envOfC qual scope s₀.heap.objs.size f cd::outer)=s₀.heap.objs.size::frs outer:=yT rfl outer;have U1:Un (frs outer) [] H₀ H s₀.heap s.heap:=I.base;have stk:s.heap.FunFrames base (envOfC qual scope s₀.heap.objs.size f cd::outer):=I.stack;have fre:∀ b∈frs (envOfC qual scope s₀.heap.objs.size f cd::outer),H b=none:=I.stkFree;have hin:∀ env∈(envOfC qual scope s₀.heap.objs.size f cd::outer),∀ b,env.frame=some b→b∈frs (envOfC qual scope s₀.heap.objs.size f cd::outer):=fun env he b hb=>List.mem_filterMap.mpr ⟨env,he,hb⟩;refine wpAny_leaves_madeW (base:=PySem.W.hideAll s.heap (frs (envOfC qual scope s₀.heap.objs.size f cd::outer))) (h:=s.heap) I.ok.frames rfl (fun b o z=>PySem.W.of_hideAll _ z) (PySem.W.funFrames_hide stk hin) m fun h2 t fl _ _ sm=>?_;refine ⟨e,C,H,rfl,?_,q⟩;have nL:∀ b o,s₀.heap.get? b=some o→b≠s₀.heap.objs.size:=fun b o z=>Bf (Ay z);have nf:∀ b o,s₀.heap.get? b=some o→b∉frs outer→b∉frs (envOfC qual scope s₀.heap.objs.size f cd::outer):=fun b o z hb y=>by
  rw [fc] at y;rcases Av.mp y with y | y
  ·exact nL b o z y
  ·exact hb y
 have nt:∀ c v,H c=some v→c∉frs (envOfC qual scope s₀.heap.objs.size f cd::outer):=fun c v z y=>by
  rw [fre c y] at z;cases z
 have stay:∀ b o,s.heap.get? b=some o→b∉frs (envOfC qual scope s₀.heap.objs.size f cd::outer)→h2.get? b=some o:=fun b o z n=>fl.1 b o (PySem.W.hideAll_get _ z n);have hd:∀ b∈frs outer,∀ o,s.heap.get? b=some o→∀ vs,o.data≠ .fields vs:=fun b hb o z vs=>by
  obtain ⟨_,o1,e1,d1⟩:=stk.mem (b:=b) (show b∈frs (envOfC qual scope s₀.heap.objs.size f cd::outer) by rw [fc];exact Au _ hb)
  rw [z] at e1;cases e1;exact d1 vs
 have slots:∀ b∈frs outer,∀ o,s.heap.get? b=some o→∃ sl,h2.get? b=some {o with slots:=sl}:=fun b hb o z=>sm b o (m.keeps b o z) (hd b hb o z)
 refine ⟨I.os,I.bare,⟨fun b o z n hb hx=>?_,fun b o z n hb hx=>?_,U1.free,fun b o z hx=>?_,U1.tups,U1.frzs,U1.tbls⟩,fun b u z=>?_,fun b hb=>fre b (by rw [fc];exact Au _ hb),_,_,fl,fun b o z y n=>?_⟩
 ·exact stay b o (U1.keep b o z n hb hx) (nf b o z hb)
 ·obtain ⟨sl,e1⟩:=U1.slot b o z n hb hx;obtain ⟨sl2,e2⟩:=slots b hb _ e1;exact ⟨sl2,e2⟩
 ·obtain ⟨o1,e1⟩:=U1.there b o z hx
  by_cases hb:b∈frs outer
  ·obtain ⟨sl2,e2⟩:=slots b hb _ e1;exact ⟨_,e2⟩
  ·exact ⟨o1,stay b o1 e1 (nf b o z hb)⟩
 ·refine (I.hok b u z).stay (fun c v hc y=>?_) (fun _ y=>y) fun _ _ y=>y;rcases hc with rfl | hc
  ·exact stay c v y (nt c _ z)
  ·exact stay c v y (nt c _ hc)
 ·have e0:∃ o1,s.heap.get? b=some o1∧b∉frs (envOfC qual scope s₀.heap.objs.size f cd::outer):=by
   rcases y with y | ⟨o0,y⟩
   ·cases q2:H b with
    | none=>exact absurd q2 y
    | some u=>
     obtain ⟨o1,e1⟩:=(I.hok b u q2).there;exact ⟨o1,e1,nt b u q2⟩
   ·obtain ⟨o1,e1⟩:=U1.there b o0 y (by simp)
    exact ⟨o1,e1,nf b o0 y n⟩
  obtain ⟨o1,e1,n1⟩:=e0;have e2:=stay b o1 e1 n1;have z':h2.get? b=some o:=z;rw [z'] at e2;cases e2;exact PySem.W.hideAll_get _ e1 n1
theorem Z2:vN (CX1 P w) (Vd (CX1 P w) P w K mg base N qual scope f cd A outer s₀ H₀ E) E:=by
 intro pins σ H s e s' I h;obtain ⟨ea,C,H',rfl,F,q⟩:=h;exact qat I F fun s'' F'=>⟨ea,C,H',rfl,F',q⟩
theorem Fun.ok1 {x qual:Str} {st:Stmt} {f:Ac} {fd:FuncData} {N ps:List Str} {k:Nat} {sp:Sp} (F:Fun K x qual st f fd) (S:FnScope N ps (qo st)) (len:∀ vs H Q E,sp vs H Q E→vs.length=ps.length)
  (hbody:∀ (cdv:Ab) (A:Around) (outer:List Env) (s:Ae) (H:Hp) (vs:List V) (Q:VK) (E:XK),Room k (A.deeper (envOfC qual (qo st) s.heap.objs.size f cdv))→sp vs H Q E→
   ∃ t,PSs (Vd (CX1 P w) P w K mg base N qual (qo st) f cdv A outer s H E) (zU st) t∧t {nx:=fun _ H'=>Q .non H',rt:=Q} (zW N vs) H):FnOk P w K mg base (CX1 P w) (k+1) f fd ps sp:=by
 obtain ⟨oc,od,kV,doc,pm,an,cdv,ct,osl,rfl,lk,hcd⟩:=F.ex;exact qbf lk hcd S len fun A outer s H vs Q E hr hsp=>hbody cdv A outer s H vs Q E hr hsp
end
def vd (σ:St):St:=List.replicate σ.length none
theorem Wm {σ:St} {i:Nat} {v:V} (h:(vd σ)[i]?=some (some v)):False:=by
 unfold vd at h;rw [List.getElem?_replicate] at h;split at h <;> cases h
theorem blank_len {σ:St}:(vd σ).length=σ.length:=Dw ..
abbrev Cx.more (X:Cx) (pins:List (Ac×Obj)):Cx:={X with pn:=X.pn++pins}
section
variable {X:Cx} {pins ps2:List (Ac×Obj)} {σ:St} {H:Hp} {s:Ae}
theorem Cx.Ok.more (ok:X.Ok) (pins:List (Ac×Obj)):(X.more pins).Ok:=
 ⟨ok.mod,ok.kind,ok.glob,ok.blt,ok.above,ok.inj,ok.has,ok.cab,ok.hd,ok.frames,ok.stk,ok.exf,ok.bs,ok.bsz,ok.noex,ok.exfs,ok.funs,ok.frf⟩
theorem Cx.Ok.less (ok:(X.more pins).Ok):X.Ok:=
 ⟨ok.mod,ok.kind,ok.glob,ok.blt,ok.above,ok.inj,ok.has,ok.cab,ok.hd,ok.frames,ok.stk,ok.exf,ok.bs,ok.bsz,ok.noex,ok.exfs,ok.funs,ok.frf⟩
theorem Inv.more (I:Inv X pins σ H s):Inv (X.more pins) [] σ H s:=
 ⟨I.ok.more pins,I.os,I.bare,I.base,I.loc,I.cell,I.free,I.freeC,fun p hp=>I.pin p (by simpa [Cx.more] using hp),I.hok,I.len⟩
theorem Inv.less (I:Inv (X.more pins) ps2 σ H s):Inv X pins σ H s:=
 ⟨I.ok.less,I.os,I.bare,I.base,I.loc,I.cell,I.free,I.freeC,fun p hp=>I.pin p (Bt _ hp),I.hok,I.len⟩
theorem SP.less {D:Ends} {f:Flow} {s':Ae} (h:SP (X.more pins) ps2 D f s'):SP X pins D f s':=by
 cases f with
 | next=>obtain ⟨σ',H',I,q⟩:=h;exact ⟨σ',H',I.less,q⟩
 | brk=>obtain ⟨σ',H',I,q⟩:=h;exact ⟨σ',H',I.less,q⟩
 | cont=>obtain ⟨σ',H',I,q⟩:=h;exact ⟨σ',H',I.less,q⟩
 | ret u=>obtain ⟨v,σ',H',I,r,q⟩:=h;exact ⟨v,σ',H',I.less,r,q⟩
abbrev Cx.tryC (X:Cx) (pins:List (Ac×Obj)) (E1:XK):Cx:=(X.more pins).wish fun e s'=>∃ (ps:List (Ac×Obj)) (σ':St) (H0:Hp) (s0:Ae),Inv (X.more pins) ps σ' H0 s0∧CX1 X.prog X.w X.stack H0 s0 E1 e s'
theorem Y0 {E1:XK}:vN (CX1 X.prog X.w) (X.tryC pins E1) E1:=fun ps σ H s _ _ I h=>⟨ps,σ,H,s,I.unwish,h⟩
abbrev Cx.suite (X:Cx) (ea:Ac):Cx:={X with A:=X.A.mark (some (.ref ea)),calm:=false,xe:=fun _ _=>False}
theorem Inv.suite (I:Inv X pins σ H s) (ea:Ac):Inv (X.suite ea) pins σ H s:=
 ⟨⟨I.ok.mod,I.ok.kind,I.ok.glob,I.ok.blt,I.ok.above,I.ok.inj,I.ok.has,I.ok.cab,fun z=>Bool.noConfusion z,I.ok.frames,I.ok.stk,I.ok.exf,I.ok.bs,I.ok.bsz,I.ok.noex,I.ok.exfs,I.ok.funs,I.ok.frf⟩,I.os,I.bare,I.base,I.loc,I.cell,I.free,I.freeC,I.pin,I.hok,I.len⟩
theorem Inv.unsuite (I0:X.Ok) {ea:Ac} (I:Inv (X.suite ea) pins σ H s):Inv X pins σ H s:=
 ⟨I0,I.os,I.bare,I.base,I.loc,I.cell,I.free,I.freeC,I.pin,I.hok,I.len⟩
theorem Inv.lost {h':Heap} {m':Str→Option Ab} {t':Nat} (I:Inv X pins σ H s) (hn:h'.Ns X.env.locals m') (sb:Heap.SameBut X.env.locals s.heap h'):Inv X pins (vd σ) H {s with heap:=h',toks:=t'}:=by
 have ne0:∀ b o,X.s₀.heap.get? b=some o→b≠X.env.locals:=fun b o e=>Bf (Ba (Ay e) I.ok.above);refine ⟨I.ok,I.os,I.bare,⟨fun b o e n hb hx=>(sb.2 b (ne0 b o e)).trans (I.base.keep b o e n hb hx),fun b o e n hb hx=>?_,I.base.free,fun b o e hx=>?_,I.base.tups,I.base.frzs,I.base.tbls⟩,⟨m',hn,fun i x v _ e _=>(Wm e).elim⟩,fun x c e=>?_,I.free,I.freeC,fun p hp=>?_,fun b u e=>?_,by rw [blank_len];exact I.len⟩
 ·obtain ⟨sl,e1⟩:=I.base.slot b o e n hb hx;exact ⟨sl,(sb.2 b (ne0 b o e)).trans e1⟩
 ·obtain ⟨o',e1⟩:=I.base.there b o e hx;exact ⟨o',(sb.2 b (ne0 b o e)).trans e1⟩
 ·obtain ⟨v,z⟩:=I.cell x c e;exact ⟨v,z.sameBut sb (I.cne x c e)⟩
 ·obtain ⟨e,n,ne,nf,d⟩:=I.pin p hp;exact ⟨(sb.2 p.1 ne).trans e,n,ne,nf,d⟩
 ·have nl:∀ c v,H c=some v→c≠X.env.locals:=fun c v q z=>by rw [z,I.free] at q;cases q
  refine (I.hok b u e).stay (fun c v hc q=>(sb.2 c ?_).trans q) (fun _ q=>q) fun _ _ q=>q;rcases hc with rfl | hc
  ·exact nl c _ e
  ·exact nl c _ hc
theorem Inv.trackN {D:Ac} {o:HO} (I:Inv X pins σ H s) (h0:H D=none) (hL:D≠X.env.locals) (hs:X.s₀.heap.get? D=none) (hc:∀ x c,X.env.cells.lookup x=some c→c≠D) (hp:∀ p∈X.pn++pins,p.1≠D)
  (new:zo X.prog X.w (upd H D o) s.heap D o):Inv X pins σ (upd H D o) s:=by
 have nD:∀ b u,H b=some u→b≠D:=fun b u q=>qD q h0;refine ⟨I.ok,I.os,I.bare,⟨I.base.keep,I.base.slot,fun b ob e n hx=>?_,I.base.there,fun b xs e=>?_,fun b ob u e=>?_,fun b ps e=>?_⟩,I.loc,I.cell,by rw [qB (Ne.symm hL)];exact I.free,fun x c e=>by rw [qB (hc x c e)];exact I.freeC x c e,fun p hpp=>?_,fun b u e=>?_,I.len⟩
 ·rw [qB (fun z=>by rw [z,hs] at e;cases e)]
  exact I.base.free b ob e n hx
 ·have q:=I.base.tups b xs e;rw [qB (nD _ _ q)];exact q
 ·have q:=I.base.frzs b ob u e;rw [qB (nD _ _ q)];exact q
 ·obtain ⟨mo,q⟩:=I.base.tbls b ps e;exact ⟨mo,by rw [qB (nD _ _ q)];exact q⟩
 ·obtain ⟨e,n,r⟩:=I.pin p hpp;exact ⟨e,by rw [qB (hp p hpp)];exact n,r⟩
 ·by_cases hb:b=D
  ·subst hb;rw [upd_same] at e;cases e;exact new
  ·rw [qB hb] at e;exact (I.hok b u e).stay (fun c v _ q=>q) (fun c q=>by rw [qB (nD _ _ q)];exact q) fun c xs q=>by rw [qB (nD _ _ q)];exact q
end
def tTry (K:Frag) (CL:Ac) (tb:XK→TS) (i:Nat) (ts:TS):TS:=fun D σ H=>
 tb (fun C _ H'=>∃ Ca,C= .ref Ca∧PySem.W.exmOne K (.ref Ca) (.ref CL)=some true∧∀ ea,H' ea=none→
  ts {nx:=fun σ' H2=>D.nx (vd σ') H2,rt:=D.rt,bk:=fun σ' H2=>D.bk (vd σ') H2,ct:=fun σ' H2=>D.ct (vd σ') H2} ((vd σ).set i (some (.ref ea))) (upd H' ea (YB ea Ca))) D σ H
theorem qb4 {X:Cx} {K:Frag} {CL:Ac} {body suite:List Stmt} {b₀:Stmt} {hx n:Str} {i:Nat} {tb:XK→TS} {ts:TS} {np hpos pos:Pos} (hK:X.K=K)
  (hb:∀ pins E1,PSs (X.tryC pins E1) body (tb E1)) (hs:∀ ea,PSs (X.suite ea) (b₀::suite) ts) (hm:X.mg hx=some (.ref CL)) (nd:X.N.Nodup) (hi:X.N[i]?=some n)
  (hl:X.env.scope.names.lookup n=some .local:=by rfl) (hg:Gl X hx:=by rfl) (hdb:(hx==("__debug__":Str))=false:=by decide) (hstk:X.stack=X.env::X.outer:=by rfl) (hf:X.env.frame=some X.env.locals:=by rfl) (hex0:X.ex=[]:=by rfl)
  (hcls:(X.env.scope.kind== .class||(X.env.scope.kind== .module&&X.env.locals !=X.env.globals))=false:=by rfl):
  PS X (.Try body [.ExceptHandler (some (.Name hx np)) (some n) (b₀::suite) hpos] [] [] pos) (tTry K CL tb i ts):=by
 intro pins s σ H D I h;subst hK;refine wpAny_Try_except (C0 (hb pins _ [] s σ H D (I.more.wish _) h) (fun f s1 sp=>?_) fun e s1 he=>?_)
 ·have sp':SP X pins D f s1:=SP.less (SP.unwish sp);cases f with
  | next=>exact Ar sp'
  | brk=>exact sp'
  | cont=>exact sp'
  | ret u=>exact sp'
 obtain ⟨ps,σ',H0,s0,I0,ea,C,H',rfl,F,q⟩:=he;obtain ⟨Ca,rfl,hex,q⟩:=q;obtain ⟨B,a0,fl,hB⟩:=F.fly;have inF:∀ {h:Heap},Heap.FlyingW B X.stack ea (.ref Ca) a0 h→∀ b∈frs X.stack,∃ o,h.get? b=some o∧∀ vs,o.data≠ .fields vs:=fun {h} fl b hb=>(fl.2.2.1.mem hb).2;have eaF:ea∉frs X.stack:=fun z=>by
  obtain ⟨o,e1,d1⟩:=inF fl ea z;obtain ⟨oe,vs,e2,_,d2,_⟩:=fl.first
  rw [e1] at e2;cases e2;exact d1 vs d2
 have hdF:∀ {h:Heap},Heap.FlyingW B X.stack ea (.ref Ca) a0 h→∀ b∈frs X.stack,∀ o,h.get? b=some o→∀ vs,o.data≠ .fields vs:=fun fl b hb o e vs=>by
  obtain ⟨o1,e1,d1⟩:=inF fl b hb;rw [e] at e1;cases e1;exact d1 vs
 have new0:∀ o,s0.heap.get? ea=some o→False:=fun o e=>by
  obtain ⟨oe,vs,e2,_⟩:=fl.first
  have:=hB ea oe e2 (.inr ⟨o,e⟩) eaF;rw [fl.2.1] at this;cases this
 have newH:H' ea=none:=by
  cases z:H' ea with
  | none=>rfl
  | some u=>
   obtain ⟨oe,vs,e2,_⟩:=fl.first
   have:=hB ea oe e2 (.inl (by rw [z];simp)) eaF
   rw [fl.2.1] at this;cases this
 have again:∀ {h:Heap},Heap.FlyingW B X.stack ea (.ref Ca) a0 h→s1.heap.UpToSlots h→Inv X pins σ' H' {s1 with heap:=h}:=fun {h} fl' sm=>by
  have F':=Qs F hB fl' sm (hdF fl);exact (I0.call' (ch:=[]) F'.os F'.un F'.hok F'.bare fun b z=>absurd z (by simp)).less
 have hfr:X.A.frames=some (X.env::X.outer):=hstk▸I.ok.frames;refine wpAny_looks_onW (base:=B) (a0:=a0) (cls:= .ref Ca) hfr hf (hstk▸fl) fun h4 held4 sm4=>wpAny_landsW held4 fun h5 fl5 sm5=>?_;have fl5':Heap.FlyingW B X.stack ea (.ref Ca) a0 h5:=hstk▸fl5;have I5:=again fl5' (sm4.trans sm5);refine wpAny_handleBy_cons (codeAny_handlers_test (JN (I5.suite ea) hg hm ?_ hdb)) (by intro z;cases z)
 have lk:PySem.W.Looks (model X.prog X.w) h5 (typeOf (.ref ea)) (.ref Ca):=by
  obtain ⟨ob,e1,c1⟩:=fl5'.there;exact c1▸(PySem.W.Looks.ld e1).andThen .now
 refine (PySem.W.exm_one I5.kIn lk hex).here ?_;refine codeAny_handlers_suite_as (lands_againW fl5' fun h6 fl6 sm6=>?_);have I6:=again fl6 ((sm4.trans sm5).trans sm6);have len6:σ'.length=σ.length:=I0.len.trans I.len.symm;have I7:Inv X pins (vd σ) H' {s1 with heap:=h6}:=I6.weak (by rw [blank_len,len6]) fun j v e=>(Wm e).elim
 have at0:∀ b o,X.s₀.heap.get? b=some o→b∉X.ex→∃ o',s0.heap.get? b=some o':=fun b o e hx=>I0.base.there b o e hx;have I8:Inv X pins (vd σ) (upd H' ea (YB ea Ca)) {s1 with heap:=h6}:=by
  refine I7.trackN newH (fun z=>eaF ?_) ?_ (fun x c e z=>?_) (fun p hp z=>?_) (qau ?_)
  ·rw [hstk];unfold frs;rw [Do,hf,z];exact A0
  ·cases z:X.s₀.heap.get? ea with
   | none=>rfl
   | some o=>
    exfalso
    obtain ⟨o',e'⟩:=at0 ea o z (by rw [hex0];simp)
    exact new0 o' e'
  ·obtain ⟨v,o,ho,_⟩:=I0.cell x c e;rw [z] at ho;exact new0 o ho
  ·have:=(I0.pin p (Bt _ hp)).1;rw [z] at this;exact new0 _ this
  ·obtain ⟨ob,e1,c1⟩:=fl6.there;exact ⟨ob,e1,c1⟩
 refine vT I8 nd hi (.inl hl) (v:= .ref ea) rfl (fun s7 I9=>?_) (.inr hl);refine C0 (hs ea pins s7 _ _ _ (I9.suite ea) (q ea newH)) (fun f s8 sp=>?_) fun _ _ z=>z.elim;have fin:∀ {σ9:St} {H9:Hp},Inv (X.suite ea) pins σ9 H9 s8→∀ {g:Flow},(∀ s9,Inv X pins (vd σ9) H9 s9→SP X pins D g s9)→
   wpAny (model X.prog X.w) X.A (do bindName X.env n .none;unbindBehindTheSuite X.env n hpos) (fun _ s9=>SP X pins D g s9) X.xe s8:=fun {σ9 H9} J g k=>by
  obtain ⟨m,hn,_⟩:=J.loc;exact wpAny_nameGoes hl hn hcls fun h' m' hn' sb=>k _ ((J.unsuite I.ok).lost hn' sb)
 cases f with
 | next=>obtain ⟨σ9,H9,J,z⟩:=sp;exact fin J fun s9 J9=>⟨_,_,J9,z⟩
 | brk=>obtain ⟨σ9,H9,J,z⟩:=sp;exact fin J fun s9 J9=>⟨_,_,J9,z⟩
 | cont=>obtain ⟨σ9,H9,J,z⟩:=sp;exact fin J fun s9 J9=>⟨_,_,J9,z⟩
 | ret u=>obtain ⟨v,σ9,H9,J,r,z⟩:=sp;exact fin J fun s9 J9=>⟨v,_,_,J9,r,z⟩
end L2
set_option tactic.hygienic true
namespace L2
open PySem PySem.Spec PyProof.Rows
section
variable {X:Cx} {K:Frag} {e o:Expr} {es:List Expr} {te to:TE} {st:Stmt} {rest:List Stmt} {t u:TS} {pos apos cpos:Pos}
def qa7:R2:=fun x y H Q=>∃ z n,x= .str z∧y= .int n∧MulOk z n∧Q (.str (Txt.mul z n)) H
theorem qaa:OpR X (binaryOp .Mult) qa7:=by
 intro pins s σ H x y v u Q I rx ry h;obtain ⟨z,n,rfl,rfl,hok,q⟩:=h;obtain ⟨t,rfl⟩:=rx;obtain ⟨t',rfl⟩:=ry;exact SB.mul hok fun t2 k=>⟨.str _,H,I.tok k,⟨t2,rfl⟩,q⟩
theorem XQ (hK:X.K=K):OpR X (compareOp .In) (rIn K false):=hK▸XC
theorem qeo (hK:X.K=K):OpR X (compareOp .NotIn) (rIn K true):=hK▸WJ
end
structure DefX (P:Program) (w:World) (K:Frag) (mg:Str→Option Ab) (base:Heap) (k:Nat) (x:Str) (ps:List Str) (sp:Sp):Prop where
 ex:∃ (f:Ac) (fd:FuncData),FnOk P w K mg base (CX1 P w) k f fd ps sp∧Js K fd ps []∧PySem.W.keepIn K (.ref f)=true∧mg x=some (.ref f)
theorem Jo {X:Cx} {k:Nat} {x:Str} {ps:List Str} {sp:Sp} {E:XK} {e:Expr} {es:List Expr} {t:TA} {p pos:Pos} (D:DefX X.prog X.w X.K X.mg X.base k x ps sp) (hr:Room k X.A) (hx:vN (CX1 X.prog X.w) X E) (ha:PA X (e::es) t) (hg:Gl X x:=by rfl)
  (hdb:(x==("__debug__":Str))=false:=by decide) (he:starEach (e::es) X.env=(false,eval e X.env)::starEach es X.env:=by rfl) (hpl:(backTo pos (starEach es X.env)).any (·.1)=false:=by rfl):
  PE X (.Call (.Name x p) (e::es) [] pos) (zB sp [] E t):=by
 obtain ⟨f,fd,F,B,kp,m⟩:=D.ex;exact YZ F hr hg m kp B .nil hx ha hdb he hpl
theorem qel {X:Cx}:vN (CX1 X.prog X.w) X E0:=fun _ _ _ _ _ _ _ h=>by
 obtain ⟨_,_,_,_,_,q⟩:=h;exact q.elim
theorem QI {K:Frag} {C:Ac} (q:PySem.W.excIn K C bmVE "ValueError.__new__"=true):qdi K C:=by
 intro h X;unfold PySem.W.excIn at q;split at q
 case h_2=>cases q
 rename_i dd cd sl ho;split at q
 case h_2=>cases q
 rename_i C' bm k0 k1 k2 k3 n k5 hm hs;simp only [Ao,Bk,Cm] at q;obtain ⟨⟨⟨⟨⟨e1,e2⟩,hdel⟩,ht⟩,hok⟩,hni⟩:=q;subst e1 e2;obtain ⟨nm,bs,mro,ns,qn,hd,sn,sub,ab,col,del⟩:=cd;dsimp only at hm hdel hok hni;subst hm hdel;have e3:sl= #[k0,k1,k2,k3,some (.builtin "ValueError.__new__"),k5]:=Array.ext' (by simpa using hs)
 subst e3;exact ⟨bm,ns,nm,qn,bs,hd,sn,sub,ab,col,dd,k0,k1,k2,k3,k5,_,X _ _ ho,.of_isNs (PySem.W.isNs_of_in X hok),PySem.W.nsMap_none_of_in X hok hni,PySem.W.tail_of_in X ht⟩
theorem wN:bootBuiltins "ValueError"=some (.type "ValueError"):=∅
end L2
set_option tactic.hygienic false
namespace L2
open PySem PySem.Spec PyProof.Rows
inductive EntsAre (p:Params):List DictEntry→List (Str×Ab)→Prop
 | nil:EntsAre p [] []
 | cons {x:Str} {t:Tok} {v:Ab} {es:List DictEntry} {r:List (Str×Ab)}:EntsAre p es r→EntsAre p (⟨PyData.keyHash p x,.str x t,v⟩::es) ((x,v)::r)
def Xl (P:Program) (w:World) (K:Frag) (a:Ac) (kvs:List (Str×Ab)):Prop:=∀ h:Heap,K.In h→h.DictOf (zc P w) a (kvs.map fun e=>((Sum.inr e.1:Key),e.2))
section
variable {P:Program} {w:World} {K:Frag} {a:Ac}
theorem Wf {p:Params}:∀ {es:List DictEntry} {kvs:List (Str×Ab)},EntsAre p es kvs→∀ e∈es,∃ x t,e.key= .str x t∧e.hash=PyData.keyHash p x
 | _,_,.nil,e,he=>by cases he
 | _,_,.cons (x:=x) (t:=t) h,e,he=>by
  rcases Av.mp he with rfl | he
  ·exact ⟨x,t,rfl,rfl⟩
  ·exact Wf h e he
theorem wD {p:Params}:∀ {es:List DictEntry} {kvs:List (Str×Ab)},EntsAre p es kvs→Pairs (zc P w) es (kvs.map fun e=>((Sum.inr e.1:Key),e.2))
 | _,_,.nil=> .nil
 | _,_,.cons (x:=x) (t:=t) h=> .cons (vm x t) rfl (wD h)
theorem wz {es:List DictEntry} {n:Nat} {kvs:List (Str×Ab)} (l:K.lookup a=some {cls:= .type "dict",data:= .dict es.toArray n}) (e:EntsAre w.params es kvs) (nd:(kvs.map (·.1)).Nodup):Xl P w K a kvs:=by
 intro h X;refine ⟨_,es.toArray,n,X _ _ l,⟨rfl,rfl,rfl⟩,rfl,fun en hen=>?_,by simpa using wD e,?_⟩
 ·obtain ⟨x,t,e1,e2⟩:=Wf e en (by simpa using hen)
  refine ⟨Sum.inr x,?_,?_⟩
  ·rw [e1];exact vm x t
  ·rw [e2];rfl
 ·rw [Bp];have:(((·.1):Key×Ab→Key) ∘ fun e:Str×Ab=>((Sum.inr e.1:Key),e.2))=(Sum.inr:Str→Key) ∘ (·.1):=rfl;rw [this,← Bp];exact (List.pairwise_map.mpr (nd.imp fun hne z=>hne (Sum.inr.inj z)))
theorem ya:∀ (kvs:List (Str×Ab)) (x:Str),valueAt (kvs.map fun e=>((Sum.inr e.1:Key),e.2)) (Sum.inr x)=(kvs.find? fun e=>decide (e.1=x)).map (·.2)
 | [],_=>rfl
 | (y,v)::r,x=>by
  have ih:=ya r x;unfold valueAt at ih ⊢;rw [A2,Cd,Cd]
  by_cases h:y=x
  ·subst h;simp
  ·have h1:¬ (Sum.inr y:Key)=Sum.inr x:=fun z=>h (Sum.inr.inj z);simp only [Al h1,Al h];exact ih
end
inductive TabT (K:Frag):List (Str×List Str)→List (Str×Ab)→Prop
 | nil:TabT K [] []
 | cons {x:Str} {l:List Str} {a:Ac} {T:List (Str×List Str)} {r:List (Str×Ab)}:(∀ H:Hp,SqT K H a (l.map V.str))→TabT K T r→TabT K ((x,l)::T) ((x,.ref a)::r)
inductive TabS:List (Str×Str)→List (Str×Ab)→Prop
 | nil:TabS [] []
 | cons {x y:Str} {t:Tok} {T:List (Str×Str)} {r:List (Str×Ab)}:TabS T r→TabS ((x,y)::T) ((x,.str y t)::r)
theorem TabT.get {K:Frag}:∀ {T:List (Str×List Str)} {r:List (Str×Ab)} {x:Str} {l:List Str},TabT K T r→T.lookup x=some l→∃ a,(r.find? fun e=>decide (e.1=x)).map (·.2)=some (.ref a)∧∀ H:Hp,SqT K H a (l.map V.str)
 | _,_,_,_,.nil,e=>by cases e
 | _,_,x,l,.cons (x:=y) (a:=a) h t,e=>by
  rw [Bn] at e
  by_cases hx:y=x
  ·subst hx;simp only [C6] at e;cases e;exact ⟨a,by simp,h⟩
  ·have:(x==y)=false:=by simpa using fun z=>hx z.symm
   rw [this] at e;obtain ⟨b,h1,h2⟩:=TabT.get t e;exact ⟨b,by rw [Cd,Al hx];exact h1,h2⟩
theorem TabS.get:∀ {T:List (Str×Str)} {r:List (Str×Ab)} {x y:Str},TabS T r→T.lookup x=some y→∃ t,(r.find? fun e=>decide (e.1=x)).map (·.2)=some (.str y t)
 | _,_,_,_,.nil,e=>by cases e
 | _,_,x,y,.cons (x:=z) (t:=t) h,e=>by
  rw [Bn] at e
  by_cases hx:z=x
  ·subst hx;simp only [C6] at e;cases e;exact ⟨t,by simp⟩
  ·have:(x==z)=false:=by simpa using fun q=>hx q.symm
   rw [this] at e;obtain ⟨u,h1⟩:=TabS.get h e;exact ⟨u,by rw [Cd,Al hx];exact h1⟩
def qdo (K:Frag) (T:List (Str×List Str)) (ti:TE):TE:=fun σ H Q=>ti σ H fun y H1=>∃ x l,y= .str x∧T.lookup x=some l∧∀ a,(∀ H:Hp,SqT K H a (l.map V.str))→Q (.ref a) H1
def qdp (T:List (Str×Str)) (ti:TE):TE:=fun σ H Q=>ti σ H fun y H1=>∃ x z,y= .str x∧T.lookup x=some z∧Q (.str z) H1
structure KTabT (P:Program) (w:World) (K:Frag) (mg:Str→Option Ab) (nm:Str) (T:List (Str×List Str)):Prop where
 ex:∃ (a:Ac) (kvs:List (Str×Ab)),mg nm=some (.ref a)∧Xl P w K a kvs∧TabT K T kvs
structure KTabS (P:Program) (w:World) (K:Frag) (mg:Str→Option Ab) (nm:Str) (T:List (Str×Str)):Prop where
 ex:∃ (a:Ac) (kvs:List (Str×Ab)),mg nm=some (.ref a)∧Xl P w K a kvs∧TabS T kvs
section
variable {X:Cx} {K:Frag} {nm:Str} {np pos:Pos} {i:Expr} {ti:TE}
theorem yc {pins:List (Ac×Obj)} {σ:St} {H:Hp} {s:Ae} {a:Ac} {kvs:List (Str×Ab)} {x:Str} {v u:Ab} {Q:Ab→Ae→Prop} {A:Around} {E:Ab→Ae→Prop} (I:Inv X pins σ H s) (D:Xl X.prog X.w X.K a kvs) (r:qK (.str x) u)
  (hv:(kvs.find? fun e=>decide (e.1=x)).map (·.2)=some v) (h:Q v {s with toks:=s.toks+1}):wpAny (model X.prog X.w) A (getItem (.ref a) u) Q E s:=by
 obtain ⟨t,rfl⟩:=r;exact wpAny_getItem_of (knd:=zc X.prog X.w) (k:=Sum.inr x) (vm x t) (D _ I.kIn).mapOf ((ya kvs x).trans hv) h
theorem WF {T:List (Str×List Str)} (hK:X.K=K) (D:KTabT X.prog X.w X.K X.mg nm T) (hi:PE X i ti) (hs:qay i) (hg:Gl X nm:=by rfl) (hd:(nm==("__debug__":Str))=false:=by decide):PE X (.Subscript (.Name nm np) i pos) (qdo K T ti):=by
 subst hK;obtain ⟨a,kvs,hm,kd,tb⟩:=D.ex;intro pins s σ H Q I h;refine Wt PySem.F.slot_dict_getitem.lookup hs (JN I hg hm (thn (hi pins s σ H _ I h) fun u s1 ⟨y,H1,I1,r1,x,l,e,hl,q1⟩=>?_) hd);subst e;obtain ⟨b,h1,h2⟩:=tb.get hl;exact ⟨(kd _ I1.kIn).mapOf.typeIs,yc I1 kd r1 h1 ⟨.ref b,H1,I1.tok _,rfl,q1 b h2⟩⟩
theorem Q3 {T:List (Str×Str)} (D:KTabS X.prog X.w X.K X.mg nm T) (hi:PE X i ti) (hs:qay i) (hg:Gl X nm:=by rfl) (hd:(nm==("__debug__":Str))=false:=by decide):PE X (.Subscript (.Name nm np) i pos) (qdp T ti):=by
 obtain ⟨a,kvs,hm,kd,tb⟩:=D.ex;intro pins s σ H Q I h;refine Wt PySem.F.slot_dict_getitem.lookup hs (JN I hg hm (thn (hi pins s σ H _ I h) fun u s1 ⟨y,H1,I1,r1,x,z,e,hl,q1⟩=>?_) hd);subst e;obtain ⟨t,h1⟩:=tb.get hl;exact ⟨(kd _ I1.kIn).mapOf.typeIs,yc I1 kd r1 h1 ⟨.str z,H1,I1.tok _,⟨t,rfl⟩,q1⟩⟩
end
theorem zz {K:Frag} {a:Ac} {its:List Ab} {n:Nat} {l:List Str} (h:K.lookup a=some {cls:= .type "tuple",data:= .seq its.toArray n}) (v:qL (l.map V.str) its) (hz:its.length≤1000):∀ H:Hp,SqT K H a (l.map V.str):=
 fun _=> .inr ⟨_,its.toArray,n,h,rfl,rfl,by rw [Ax];exact As hz O0,by simpa using v⟩
section
variable {prog:Program} {w:World} {A:Around} {E:Ab→Ae→Prop} {s:Ae}
theorem vK {it t:Ac} {i:Nat} {items:Array Ab} {x:Ab} {Q:Ab→Ae→Prop} (hit:s.heap.IsTupleIter it t i) (ht:s.heap.IsTuple t items) (hx:items[i]?=some x)
  (hQ:∀ h',h'.IsTupleIter it t (i+1)→Heap.SameBut it s.heap h'→Q x {s with heap:=h'}):wpAny (model prog w) A (Builtin.SmallTypes.nextOf (.ref it)) Q E s:=by
 obtain ⟨o,ho,hc,hd⟩:=id hit;obtain ⟨ol,hol,_,nl,hdl⟩:=ht;unfold Builtin.SmallTypes.nextOf;refine Ah (Ck (name:=Str.ofString "__next__") hit.typeIs Di (Dm Di hit.typeIs F.entry_tuple_iterator_next ?_ (F.args_tuple_iterator_next_1 _)));show wpAny _ _ (field (.ref it) 0>>=_) _ _ s;refine Ah (B4 ho hd (x:= .ref t) rfl ?_);show wpAny _ _ (if (Value.ref t==Value.none)=true then _ else _) _ _ s;rw [if_neg (show ¬ ((Value.ref t==Value.none)=true) from Am)]
 show wpAny _ _ (field (.ref it) 1>>=_) _ _ s;refine Ah (B4 ho hd (x:= .int i 0) rfl ?_);show wpAny _ _ (seqItems? (.ref t)>>=_) _ _ s;refine Ah (Cj hol hdl ?_);simp only [Eh,hx];refine Ah (wpAny_setField ho hd (by simp) (Ar ⟨x,rfl,Ar (hQ _ ⟨_,Dy _ ho (Obj.isFreed_of_fields (Obj.data_mapFields hd _)),(Obj.cls_mapFields ..).trans hc,?_⟩ (Heap.SameBut.update ..))⟩))
 rw [Obj.data_mapFields hd];simp [rawInt]
theorem wX {it t:Ac} {i:Nat} {items:Array Ab} {Q:Ab→Ae→Prop} (hh:A.handled=none) (hit:s.heap.IsTupleIter it t i) (ht:s.heap.IsTuple t items) (hx:items[i]?=none)
  (hE:∀ h' e,Heap.ExtBut it s.heap h'→(∃ o,h'.get? e=some o∧o.cls= .type "StopIteration")→E (.ref e) {s with heap:=h'}):wpAny (model prog w) A (Builtin.SmallTypes.nextOf (.ref it)) Q E s:=by
 obtain ⟨o,ho,hc,hd⟩:=id hit;obtain ⟨ol,hol,_,nl,hdl⟩:=ht;unfold Builtin.SmallTypes.nextOf;refine Ah (Ck (name:=Str.ofString "__next__") hit.typeIs Di (Dm Di hit.typeIs F.entry_tuple_iterator_next ?_ (F.args_tuple_iterator_next_1 _)));show wpAny _ _ (field (.ref it) 0>>=_) _ _ s;refine Ah (B4 ho hd (x:= .ref t) rfl ?_);show wpAny _ _ (if (Value.ref t==Value.none)=true then _ else _) _ _ s;rw [if_neg (show ¬ ((Value.ref t==Value.none)=true) from Am)]
 show wpAny _ _ (field (.ref it) 1>>=_) _ _ s;refine Ah (B4 ho hd (x:= .int i 0) rfl ?_);show wpAny _ _ (seqItems? (.ref t)>>=_) _ _ s;refine Ah (Cj hol hdl ?_);simp only [Eh,hx];refine Ah (wpAny_rule (Ah (wpAny_setField ho hd (by simp) ?_)));show wpAny _ _ (newExc (.type "StopIteration") []>>=_) _ _ _
 refine Ah ?_;simp only [newExc,newTuple];refine Ah (C3 ?_ (by size_fits))
 refine Ah (m:=firstArgMember _ _) (wpAny_of_eq (a:=Value.none) (by first | rfl | (simp only [firstArgMember];rfl)) ?_);refine C3 ?_ (by size_fits)
 simp only [raiseNew];refine Ah (wpAny_handled ?_);first | rw [show A.in1.handled=none from hh] | rw [hh]
 refine Ah (Ar (wpAny_throw (hE _ _ (((Heap.SameBut.update ..).extBut.push _).push _) ⟨_,A6 _ rfl,rfl⟩)))
structure ZipAt (z TI TO i1 i2 l1 l2:Ac) (i:Nat) (h:Heap):Prop where
 hz:IsZip h z TI TO .none
 hTI:IsPair h TI (.ref i1) (.ref i2)
 hTO:∃ a b,IsPair h TO a b
 h1:h.IsTupleIter i1 l1 i
 h2:h.IsTupleIter i2 l2 i
theorem Xm {z TI TO i1 i2 l1 l2:Ac} {i:Nat} {xs ys:Array Ab} {x y:Ab} {Q:Option Ab→Ae→Prop} (D:ZipApart z TI TO i1 i2 l1 l2) (Z:ZipAt z TI TO i1 i2 l1 l2 i s.heap)
  (hl1:s.heap.IsTuple l1 xs) (hl2:s.heap.IsTuple l2 ys) (hx:xs[i]?=some x) (hy:ys[i]?=some y)
  (hQ:∀ h',IsZip h' z TI TO (rawInt s.heap.objs.size)→IsPair h' TO x y→h'.IsTupleIter i1 l1 (i+1)→h'.IsTupleIter i2 l2 (i+1)→IsPair h' s.heap.objs.size x y→h'.objs.size=s.heap.objs.size+1→
   (∀ c o,c≠z→c≠TO→c≠i1→c≠i2→s.heap.get? c=some o→h'.get? c=some o)→Q (some (.ref s.heap.objs.size)) {s with heap:=h'}):
  wpAny (model prog w) A (pyNext (.ref z)) Q E s:=by
 obtain ⟨hz,hTI,⟨a,b,hTO⟩,h1,h2⟩:=Z;have hT:s.TypeIs (.ref z) "zip":=⟨_,hz,rfl⟩;unfold pyNext;refine Ah (wpAny_attempt (Ck (name:=Str.ofString "__next__") hT F.slot_zip_next (Dm F.slot_zip_next hT F.entry_zip_next ?_ (F.args_zip_next_1 _))));show wpAny _ _ (field (.ref z) 2>>=_) _ _ _;refine Ah (B4 hz rfl (x:= .bool false) rfl ?_);show wpAny _ _ (field (.ref z) 3>>=_) _ _ _;refine Ah (B4 hz rfl (x:= .ref TI) rfl ?_);refine Ah (Cj hTI rfl ?_);show wpAny _ _ (Builtin.SmallTypes.ownedTupleIsFree (.ref z)>>=_) _ _ _;refine Ah ?_;unfold Builtin.SmallTypes.ownedTupleIsFree;refine Ah (B4 hz rfl (x:= .none) rfl (Ar ?_));simp only [if_true];refine Ah (wpAny_rule ?_);refine Ah (B4 hz rfl (x:= .ref TO) rfl ?_);refine Ah (De hz (by simp) fun g1 hz1 s1=>?_)
 replace hz1:IsZip g1 z TI TO .ellipsis:=hz1
 refine Ah ?_;simp only [List.zipIdx_cons,List.zipIdx_nil,Ea,List.forIn_nil];refine Ah (Ah (wpAny_onRaise ?_));show wpAny _ _ (Builtin.SmallTypes.nextOf (.ref i1)>>=_) _ _ _;refine Ah (vK (h1.extBut s1.extBut D.i1z) (hl1.extBut s1.extBut D.l1z) hx fun g2 k2 s2=>Ar ?_);have hTO2:IsPair g2 TO a b:=s2.extBut _ _ D.TOi1 (s1.extBut _ _ D.TOz hTO);refine Ah (Cj hTO2 rfl ?_);refine Ah (wpAny_updateSeq_pair hTO2 fun g3 hTO3 s3=>?_)
 replace hTO3:IsPair g3 TO x b:=hTO3
 refine Ah (D9 (Ar ?_));refine Ah (Ah (wpAny_onRaise ?_));show wpAny _ _ (Builtin.SmallTypes.nextOf (.ref i2)>>=_) _ _ _;refine Ah (vK (((h2.extBut s1.extBut D.i2z).extBut s2.extBut D.i12.symm).extBut s3.extBut D.TOi2.symm) (((hl2.extBut s1.extBut D.l2z).extBut s2.extBut D.l2i1).extBut s3.extBut D.l2TO) hy fun g4 k4 s4=>Ar ?_);have hTO4:IsPair g4 TO x b:=s4.extBut _ _ D.TOi2 hTO3;refine Ah (Cj hTO4 rfl ?_);refine Ah (wpAny_updateSeq_pair hTO4 fun g5 hTO5 s5=>?_)
 replace hTO5:IsPair g5 TO x y:=hTO5
 refine Ah (D9 (Ar (Ar ?_)));refine Ah (Cj hTO5 rfl ?_);refine Ah (wpAny_newTuple ?_);have e5:g5.objs.size=s.heap.objs.size:=by rw [s5.1,s4.1,s3.1,s2.1,s1.1]
 have z5:IsZip g5 z TI TO .ellipsis:=s5.extBut _ _ D.TOz.symm (s4.extBut _ _ D.i2z.symm (s3.extBut _ _ D.TOz.symm (s2.extBut _ _ D.i1z.symm hz1)));have k5:∀ c o,c≠z→c≠TO→c≠i1→c≠i2→s.heap.get? c=some o→g5.get? c=some o:=fun c o c1 c2 c3 c4 e=>s5.extBut _ _ c2 (s4.extBut _ _ c4 (s3.extBut _ _ c2 (s2.extBut _ _ c3 (s1.extBut _ _ c1 e))));have m1:g5.IsTupleIter i1 l1 (i+1):=((k2.extBut s3.extBut D.TOi1.symm).extBut s4.extBut D.i12).extBut s5.extBut D.TOi1.symm;have m2:g5.IsTupleIter i2 l2 (i+1):=k4.extBut s5.extBut D.TOi2.symm;have zlt:z<g5.objs.size:=Ay z5;show wpAny _ _ (Builtin.SmallTypes.ownedTupleHandOut (.ref z) (.ref g5.objs.size)>>=_) _ _ _;refine Ah ?_;unfold Builtin.SmallTypes.ownedTupleHandOut;have z6:IsZip (g5.push {cls:= .type "tuple",data:= .seq #[x,y]}) z TI TO .ellipsis:=Ap _ z5;refine Ah (De z6 (by simp) fun g7 z7 s7=>?_)
 replace z7:IsZip g7 z TI TO (rawInt g5.objs.size):=z7
 refine De z7 (by simp) fun g8 z8 s8=>?_
 replace z8:IsZip g8 z TI TO (rawInt g5.objs.size):=z8
 have up:∀ c o,c≠z→g5.get? c=some o→g8.get? c=some o:=fun c o c1 e=>s8.extBut _ _ c1 (s7.extBut _ _ c1 (Ap _ e));have t8:IsPair g8 g5.objs.size x y:=s8.extBut _ _ (Em zlt) (s7.extBut _ _ (Em zlt) (A6 _ rfl));have n8:g8.objs.size=g5.objs.size+1:=by rw [s8.1,s7.1,C7]
 rw [e5] at z8 t8 n8;refine Ar ⟨_,rfl,?_⟩;refine Ar ?_;show Q (some (.ref g5.objs.size)) _;rw [e5];exact hQ g8 z8 (up _ _ D.TOz hTO5) (m1.at fun o e=>up _ o D.i1z e) (m2.at fun o e=>up _ o D.i2z e) t8 n8 fun c o c1 c2 c3 c4 e=>up c o c1 (k5 c o c1 c2 c3 c4 e)
theorem Zb {z TI TO i1 i2 l1 l2:Ac} {i:Nat} {xs ys:Array Ab} {Q:Option Ab→Ae→Prop} (hh:A.handled=none) (D:ZipApart z TI TO i1 i2 l1 l2) (Z:ZipAt z TI TO i1 i2 l1 l2 i s.heap)
  (hl1:s.heap.IsTuple l1 xs) (hl2:s.heap.IsTuple l2 ys) (hend:xs[i]?=none∨ys[i]?=none)
  (hQ:∀ h',(∀ c o,c≠z→c≠TO→c≠i1→c≠i2→s.heap.get? c=some o→h'.get? c=some o)→Q none {s with heap:=h'}):wpAny (model prog w) A (pyNext (.ref z)) Q E s:=by
 obtain ⟨hz,hTI,⟨a,b,hTO⟩,h1,h2⟩:=Z;have hT:s.TypeIs (.ref z) "zip":=⟨_,hz,rfl⟩;unfold pyNext;have fin:∀ h' e,(∀ c o,c≠z→c≠TO→c≠i1→c≠i2→s.heap.get? c=some o→h'.get? c=some o)→(∃ o,h'.get? e=some o∧o.cls= .type "StopIteration")→
   wpAny (model prog w) A (do if ← isInstance (.ref e) (.type "StopIteration") then pure none else throw (.ref e)) Q E {s with heap:=h'}:=fun h' e hk ⟨o,ho,hc⟩=>
  Ah (wpAny_isInstance (T:="StopIteration") (b:=true) ⟨o,ho,hc⟩ isSubtype_stop (Ar (hQ _ hk)))
 refine Ah (wpAny_attempt (Ck (name:=Str.ofString "__next__") hT F.slot_zip_next (Dm F.slot_zip_next hT F.entry_zip_next ?_ (F.args_zip_next_1 _))));show wpAny _ _ (field (.ref z) 2>>=_) _ _ _;refine Ah (B4 hz rfl (x:= .bool false) rfl ?_);show wpAny _ _ (field (.ref z) 3>>=_) _ _ _;refine Ah (B4 hz rfl (x:= .ref TI) rfl ?_);refine Ah (Cj hTI rfl ?_);show wpAny _ _ (Builtin.SmallTypes.ownedTupleIsFree (.ref z)>>=_) _ _ _;refine Ah ?_;unfold Builtin.SmallTypes.ownedTupleIsFree;refine Ah (B4 hz rfl (x:= .none) rfl (Ar ?_));simp only [if_true];refine Ah (wpAny_rule ?_);refine Ah (B4 hz rfl (x:= .ref TO) rfl ?_);refine Ah (De hz (by simp) fun g1 hz1 s1=>?_)
 replace hz1:IsZip g1 z TI TO .ellipsis:=hz1
 refine Ah ?_;simp only [List.zipIdx_cons,List.zipIdx_nil,Ea,List.forIn_nil];refine Ah (Ah (wpAny_onRaise ?_));show wpAny _ _ (Builtin.SmallTypes.nextOf (.ref i1)>>=_) _ _ _;cases hx:xs[i]? with
 | none=>
  refine Ah (wX hh (h1.extBut s1.extBut D.i1z) (hl1.extBut s1.extBut D.l1z) hx fun g2 e s2 he=>?_);obtain ⟨oe,hoe,hce⟩:=he;have z2:IsZip g2 z TI TO .ellipsis:=s2 _ _ D.i1z.symm hz1;have ez:e≠z:=fun q=>by subst q;rw [z2] at hoe;cases hoe;simp at hce
  exact De z2 (by simp) fun g3 _ s3=>fin g3 e (fun c o c1 _ c3 _ q=>s3.extBut _ _ c1 (s2 _ _ c3 (s1.extBut _ _ c1 q))) ⟨oe,s3.extBut _ _ ez hoe,hce⟩
 | some x=>
  have hy:ys[i]?=none:=by rcases hend with h | h;rw [hx] at h;cases h;exact h
  refine Ah (vK (h1.extBut s1.extBut D.i1z) (hl1.extBut s1.extBut D.l1z) hx fun g2 k2 s2=>Ar ?_);have hTO2:IsPair g2 TO a b:=s2.extBut _ _ D.TOi1 (s1.extBut _ _ D.TOz hTO);refine Ah (Cj hTO2 rfl ?_);refine Ah (wpAny_updateSeq_pair hTO2 fun g3 hTO3 s3=>?_);refine Ah (D9 (Ar ?_));refine Ah (Ah (wpAny_onRaise ?_));show wpAny _ _ (Builtin.SmallTypes.nextOf (.ref i2)>>=_) _ _ _;refine Ah (wX hh (((h2.extBut s1.extBut D.i2z).extBut s2.extBut D.i12.symm).extBut s3.extBut D.TOi2.symm) (((hl2.extBut s1.extBut D.l2z).extBut s2.extBut D.l2i1).extBut s3.extBut D.l2TO) hy fun g4 e s4 he=>?_);obtain ⟨oe,hoe,hce⟩:=he;have z4:IsZip g4 z TI TO .ellipsis:=s4 _ _ D.i2z.symm (s3.extBut _ _ D.TOz.symm (s2.extBut _ _ D.i1z.symm hz1));have ez:e≠z:=fun q=>by subst q;rw [z4] at hoe;cases hoe;simp at hce
  exact De z4 (by simp) fun g5 _ s5=>fin g5 e (fun c o c1 c2 c3 c4 q=>s5.extBut _ _ c1 (s4 _ _ c4 (s3.extBut _ _ c2 (s2.extBut _ _ c3 (s1.extBut _ _ c1 q))))) ⟨oe,s5.extBut _ _ ez hoe,hce⟩
end
section
variable {X:Cx} {pins:List (Ac×Obj)} {σ:St} {H:Hp} {s:Ae} {h':Heap}
theorem Inv.turns {t':Nat} {ch:List Ac} (I:Inv X pins σ H s) (hf:∀ b∈ch,Vj X pins H b) (k:∀ b o,b∉ch→s.heap.get? b=some o→h'.get? b=some o):Inv X pins σ H {s with heap:=h',toks:=t'}:=by
 have nit:∀ b u,H b=some u→b∉ch:=fun b u e z=>by rw [(hf b z).1] at e;cases e
 refine I.step (g':=s.gens) (d':=s.drawn) (ch:=ch) (fun b hb=>?_) (fun b o _ _ hc e _=>k b o hc e) (fun b o _ _ hc e _=>⟨o.slots,k b o hc e⟩) (fun _ _ _ _ n=>n)
  (fun b o hc e=>⟨o,k b o hc e⟩) (fun _ _ e=>e) (fun _ _ _ e=>e) (fun b ps e=>⟨#[],by rw [e];simp⟩) (fun m hm=>?_) (fun b u e=>?_) I.bare
 ·obtain ⟨_,f1,_,f3,f4,f5⟩:=hf b hb;exact ⟨f3,f1,f4,f5⟩
 ·obtain ⟨o,es,ep,ho,r⟩:=hm;exact ⟨o,es,ep,k _ o (fun z=>(hf _ z).2.1 rfl) ho,r⟩
 ·refine (I.hok b u e).stay (fun c v hc q=>k c v ?_ q) (fun _ q=>q) fun _ _ q=>q;rcases hc with z | z
  ·rw [z];exact nit b u e
  ·exact nit c _ z
end
def Itz (K:Frag) (a b:Ac):It:=
 ⟨fun i H=>∃ xs ys x y,SqT K H a xs∧SqT K H b ys∧xs[i]?=some x∧ys[i]?=some y,
  fun i H v H'=>∃ p x y,H p=none∧v= .ref p∧(∀ xs,SqT K H a xs→xs[i]?=some x)∧(∀ ys,SqT K H b ys→ys[i]?=some y)∧H'=upd H p (.tup [x,y]),
  fun i H=>∃ xs ys,SqT K H a xs∧SqT K H b ys∧(xs.length≤i∨ys.length≤i)⟩
theorem Zf {P:Program} {w:World} {K:Frag} {elts:List Expr} {c:Nat} {pos:Pos} {z TI TO i1 i2 a b:Ac} (D:ZipApart z TI TO i1 i2 a b):
  Turn P w K (.Tuple elts c pos) (Itz K a b) [z,TI,TO,i1,i2] z (fun i h=>ZipAt z TI TO i1 i2 a b i h) where
 mem:=by simp
 obj:=fun i h st x hx=>by
  obtain ⟨hz,hTI,⟨p,q,hTO⟩,⟨o1,e1,c1,d1⟩,⟨o2,e2,c2,d2⟩⟩:=st;simp only [Av,Bg,or_false] at hx;rcases hx with rfl | rfl | rfl | rfl | rfl
  ·exact ⟨_,hz,fun v e=>by cases e⟩
  ·exact ⟨_,hTI,fun v e=>by cases e⟩
  ·exact ⟨_,hTO,fun v e=>by cases e⟩
  ·exact ⟨o1,e1,fun v e=>by rw [d1] at e;cases e⟩
  ·exact ⟨o2,e2,fun v e=>by rw [d2] at e;cases e⟩
 keep:=fun i h h' st k=>by
  obtain ⟨hz,hTI,⟨p,q,hTO⟩,h1,h2⟩:=st;exact ⟨k z (by simp) _ hz,k TI (by simp) _ hTI,⟨p,q,k TO (by simp) _ hTO⟩,h1.at fun o e=>k i1 (by simp) o e,h2.at fun o e=>k i2 (by simp) o e⟩
 item:=by
  intro X hP hw hK hc i pins s σ H E I hf st hg;subst hP hw hK;obtain ⟨xs,ys,x,y,hq1,hq2,hx,hy⟩:=hg;obtain ⟨its,rv,p,hz⟩:=I.tuple hq1;obtain ⟨jts,rw',q,hz'⟩:=I.tuple hq2;obtain ⟨u,hu,ru⟩:=rv.get hx;obtain ⟨v,hv,rr⟩:=rw'.get hy;refine Xm D st (show s.heap.IsTuple a its.toArray from p) (show s.heap.IsTuple b jts.toArray from q) (x:=u) (y:=v) (by simpa using hu) (by simpa using hv) fun h1 z1 t1 k1 k2 pr sz kk=>?_
  refine ⟨_,rfl,wpAny_letOwnedTupleGo_zip z1 fun h2 z2 sb=>?_⟩;have kk2:∀ c o,c∉[z,TO,i1,i2]→s.heap.get? c=some o→h2.get? c=some o:=fun c o hc e=>by
   simp only [Av,Bg,or_false,not_or] at hc;exact sb.extBut _ _ hc.1 (kk c o hc.1 hc.2.1 hc.2.2.1 hc.2.2.2 e)
  have I1:Inv X pins σ H {s with heap:=h2}:=I.turns (t':=s.toks) (ch:=[z,TO,i1,i2]) (fun b hb=>hf b (by simp only [Av,Bg,or_false] at hb ⊢;rcases hb with rfl | rfl | rfl | rfl <;> simp)) kk2
  have hzlt:z<s.heap.objs.size:=Ay st.hz;have pr2:IsPair h2 s.heap.objs.size u v:=sb.extBut _ _ (Em hzlt) pr;have f:=I.fpOk (b:=s.heap.objs.size) (H':=H) (Aj _) (I.hok.fresh (Aj _));have I2:Inv X pins σ (upd H s.heap.objs.size (.tup [x,y])) {s with heap:=h2}:=I1.trackN f.1 f.2.1 (Heap.get?_none_of_le I.sz) f.2.2.2.2.1 f.2.2.2.2.2 ⟨by simp [Af],[u,v],.cons ru (.cons rr .nil),⟨_,pr2,rfl,_,rfl⟩⟩
  refine ⟨.ref s.heap.objs.size,_,I2,rfl,⟨s.heap.objs.size,x,y,f.1,rfl,fun zs hzs=>by rw [I.tuple_inj hzs hq1];exact hx,fun zs hzs=>by rw [I.tuple_inj hzs hq2];exact hy,rfl⟩,?_,fun b hb=>?_⟩
  ·exact ⟨z2,sb.extBut _ _ D.TIz (kk _ _ D.TIz D.TITO D.TIi1 D.TIi2 st.hTI),⟨u,v,sb.extBut _ _ D.TOz t1⟩,k1.extBut sb.extBut D.i1z,k2.extBut sb.extBut D.i2z⟩
  ·rw [qB (fun e=>?_)]
   ·exact (hf b hb).1
   ·have lt:b<s.heap.objs.size:=by
     obtain ⟨hz,hTI,⟨p,q,hTO⟩,⟨o1,e1,c1,d1⟩,⟨o2,e2,c2,d2⟩⟩:=st;simp only [Av,Bg,or_false] at hb;rcases hb with rfl | rfl | rfl | rfl | rfl
     ·exact Ay hz
     ·exact Ay hTI
     ·exact Ay hTO
     ·exact Ay e1
     ·exact Ay e2
    exact Bf lt e
 done:=by
  intro X hP hw hK hc i pins s σ H E I hf st hg;subst hP hw hK;obtain ⟨xs,ys,hq1,hq2,hl⟩:=hg;obtain ⟨its,rv,p,hz⟩:=I.tuple hq1;obtain ⟨jts,rw',q,hz'⟩:=I.tuple hq2;have l1:=rv.length;have l2:=rw'.length;refine Zb (I.ok.hd hc) D st (show s.heap.IsTuple a its.toArray from p) (show s.heap.IsTuple b jts.toArray from q) (by simp;omega) fun h1 kk=>⟨rfl,?_⟩
  refine I.turns (t':=s.toks) (ch:=[z,TO,i1,i2]) (fun b hb=>hf b (by simp only [Av,Bg,or_false] at hb ⊢;rcases hb with rfl | rfl | rfl | rfl <;> simp)) fun c o hc e=>?_
  simp only [Av,Bg,or_false,not_or] at hc;exact kk c o hc.1 hc.2.1 hc.2.2.1 hc.2.2.2 e
 self:=fun _ _ _ _ _ st h=>wpAny_pyIter_zip st.hz h
abbrev tzA (h:Heap) (l:Ac):Heap:=h.push {cls:= .type "tuple_iterator",data:= .fields #[.ref l,.int 0 0]}
abbrev tzP (h:Heap) (u v:Ab):Heap:=h.push {cls:= .type "tuple",data:= .seq #[u,v]}
abbrev tz2 (h:Heap) (l m:Ac):Heap:=tzA (tzA h l) m
abbrev tz4 (h:Heap) (l m:Ac):Heap:=tzP (tzP (tz2 h l m) (.ref h.objs.size) (.ref (tzA h l).objs.size)) .none .none
abbrev tz5 (h:Heap) (l m:Ac):Heap:=(tz4 h l m).push {cls:= .type "zip",data:= .fields #[.none,.bool false,.bool false,.ref (tz2 h l m).objs.size,.ref (tzP (tz2 h l m) (.ref h.objs.size) (.ref (tzA h l).objs.size)).objs.size]}
theorem Ys (l m:Ac) (xs ys:Array Ab):
  Meets (Builtin.«zip.__new__» ⟨[.type "zip",.ref l,.ref m],[]⟩) (fun _ R s=>s.heap.IsTuple l xs∧s.heap.IsTuple m ys∧R (.ok (.ret (.ref (tz4 s.heap l m).objs.size))) {s with heap:=tz5 s.heap l m}):=
 .of_wp fun prog w A R s h=>by
  obtain ⟨hp,g,d,tk,os⟩:=s;obtain ⟨hl,hm,h⟩:=h;have hsub:=sub_zip;have h1:Heap.IsTuple (Shared.heap ⟨hp,g,d,tk,os⟩) l xs:=hl;have h2:Heap.IsTuple (Shared.heap ⟨tzA hp l,g,d,tk,os⟩) m ys:=by
   obtain ⟨o,e,c,n,q⟩:=hm;exact ⟨o,Ap _ e,c,n,q⟩
  wp_walk using Ed h1,Ed h2
  exact ⟨_,rfl,h⟩
section
variable {prog:Program} {w:World} {A:Around} {E:Ab→Ae→Prop} {s:Ae}
theorem X4 {l m:Ac} {xs ys:Array Ab} {Q:Ab→Ae→Prop} (hl:s.heap.IsTuple l xs) (hm:s.heap.IsTuple m ys)
  (h:∀ h',ZipAt (s.heap.objs.size+4) (s.heap.objs.size+2) (s.heap.objs.size+3) s.heap.objs.size (s.heap.objs.size+1) l m 0 h'→(∀ c o,s.heap.get? c=some o→h'.get? c=some o)→Q (.ref (s.heap.objs.size+4)) {s with heap:=h'}):
  wpAny (model prog w) A (call (.type "zip") [.ref l,.ref m]) Q E s:=by
 refine callType_new F.called_zip O0 (F.typeCall_zip_2 _ _) (F.newCall_zip_2 _ _) (fun obj=>F.args_object_init_3 obj _ _) F.entry_zip_new (Ys l m xs ys) ⟨hl,hm,?_⟩;have n1:(tzA s.heap l).objs.size=s.heap.objs.size+1:=C7 ..;have n2:(tz2 s.heap l m).objs.size=s.heap.objs.size+2:=by rw [C7,n1]
 have n3:(tzP (tz2 s.heap l m) (.ref s.heap.objs.size) (.ref (tzA s.heap l).objs.size)).objs.size=s.heap.objs.size+3:=by rw [C7,n2]
 have n4:(tz4 s.heap l m).objs.size=s.heap.objs.size+4:=by rw [C7,n3]
 have g5:(tz5 s.heap l m).get? (tz4 s.heap l m).objs.size=some _:=A6 _ rfl;have up4:∀ c o,(tz4 s.heap l m).get? c=some o→(tz5 s.heap l m).get? c=some o:=fun c o e=>Ap _ e;have up3:∀ c o,(tzP (tz2 s.heap l m) (.ref s.heap.objs.size) (.ref (tzA s.heap l).objs.size)).get? c=some o→(tz5 s.heap l m).get? c=some o:=fun c o e=>up4 c o (Ap _ e);have up2:∀ c o,(tz2 s.heap l m).get? c=some o→(tz5 s.heap l m).get? c=some o:=fun c o e=>up3 c o (Ap _ e);have up1:∀ c o,(tzA s.heap l).get? c=some o→(tz5 s.heap l m).get? c=some o:=fun c o e=>up2 c o (Ap _ e);have g4:=up4 _ _ (A6 _ (o:={cls:= .type "tuple",data:= .seq #[.none,.none]}) rfl);have g3:=up3 _ _ (A6 _ (o:={cls:= .type "tuple",data:= .seq #[.ref s.heap.objs.size,.ref (tzA s.heap l).objs.size]}) rfl);have g2:=up2 _ _ (A6 _ (o:={cls:= .type "tuple_iterator",data:= .fields #[.ref m,.int 0 0]}) rfl);have g1:=up1 _ _ (A6 _ (o:={cls:= .type "tuple_iterator",data:= .fields #[.ref l,.int 0 0]}) rfl);show _∧_;rw [n2,n3,n4] at g5;rw [n1,n2] at g3;rw [n3] at g4;rw [n1] at g2;rw [n4];exact ⟨⟨_,g5,rfl⟩,h _ ⟨g5,g3,⟨_,_,g4⟩,⟨_,g1,rfl,rfl⟩,⟨_,g2,rfl,rfl⟩⟩ fun c o e=>up1 c o (Ap _ e)⟩
end
theorem qdd:bootBuiltins "zip"=some (.type "zip"):=∅
def iZip (K:Frag) (ta:TA):TI:=fun σ H R=>ta σ H fun vs H1=>∃ a b:Ac,vs=[.ref a,.ref b]∧(∃ xs,SqT K H1 a xs)∧(∃ ys,SqT K H1 b ys)∧R (Itz K a b) H1
theorem Z0 {X:Cx} {K:Frag} {elts:List Expr} {c:Nat} {tpos:Pos} {a b:Expr} {ta:TA} {p pos:Pos} (hK:X.K=K) (hm:X.mg "zip"=none) (ha:PA X [a,b] ta) (hg:Gl X "zip":=by rfl)
  (hs:starEach [a,b] X.env=[(false,eval a X.env),(false,eval b X.env)]:=by rfl) (hs2:starEach [b] X.env=[(false,eval b X.env)]:=by rfl):PI X (.Tuple elts c tpos) (.Call (.Name "zip" p) [a,b] [] pos) (iZip K ta):=by
 intro pins s σ H R I h;subst hK;refine Call_ (Vv I hg hm qdd (PyProof.Rows.callWith_type1 (thn (ha pos pins s σ H _ I h) fun us s1 ⟨vs,H1,I1,r1,q1⟩=>?_) (by rw [hs,hs2]) (by rw [hs2];rfl)))
 obtain ⟨l,m,e,⟨xs,hx⟩,⟨ys,hy⟩,q⟩:=q1;subst e;cases r1 with
 | cons r rr=>
  cases rr with
  | cons r' rr=>
   cases rr;cases r;cases r';obtain ⟨its,rv,pl,hz⟩:=I1.tuple hx;obtain ⟨jts,rw',pm,hz'⟩:=I1.tuple hy;refine X4 (show s1.heap.IsTuple l its.toArray from pl) (show s1.heap.IsTuple m jts.toArray from pm) fun h' Z k=>?_;have ll:l<s1.heap.objs.size:=by obtain ⟨o,e,_⟩:=pl;exact Ay e
   have lm:m<s1.heap.objs.size:=by obtain ⟨o,e,_⟩:=pm;exact Ay e
   have D:ZipApart (s1.heap.objs.size+4) (s1.heap.objs.size+2) (s1.heap.objs.size+3) s1.heap.objs.size (s1.heap.objs.size+1) l m:=by
    have na:∀ (n i j:Nat),i≠j→n+i≠n+j:=fun n i j h=>⋯;have nl:∀ (n k i:Nat),k<n→k≠n+i:=fun n k i h=>⋯;exact ⟨na _ 2 4 O0,na _ 3 4 O0,na _ 0 4 O0,na _ 1 4 O0,na _ 2 3 O0,na _ 2 0 O0,na _ 2 1 O0,na _ 3 0 O0,na _ 3 1 O0,na _ 0 1 O0,
     nl _ _ 4 ll,nl _ _ 3 ll,nl _ _ 0 ll,nl _ _ 1 ll,nl _ _ 4 lm,nl _ _ 3 lm,nl _ _ 0 lm,nl _ _ 1 lm⟩
   refine wpAny_pyIter_zip Z.hz ⟨_,_,_,_,H1,rfl,I1.kept (t':=s1.toks) k,Zf D,Z,fun b hb=>?_,q⟩;have hb':s1.heap.objs.size≤b:=by
    simp only [Av,Bg,or_false] at hb;rcases hb with e | e | e | e | e <;> rw [e] <;> first | exact Nat.le_add_right _ _ | exact Aj _
   exact I1.fpOk hb' (I1.hok.fresh hb')
section
variable {κ:Type} [DecidableEq κ]
def JQ (l:List κ) (k:κ):List κ:=if k∈l then l else l++[k]
def JS (ks:List κ):List κ:=ks.foldl JQ []
theorem Xo (ks:List κ) (k:κ):JS (ks++[k])=JQ (JS ks) k:=by unfold JS;rw [List.foldl_append];rfl
set_option tactic.hygienic true in
theorem Va {l:List κ} {k x:κ}:x∈JQ l k↔x∈l∨x=k:=by
 unfold JQ;split
 ·rename_i h;exact ⟨.inl,fun q=>q.elim id fun e=>e▸h⟩
 ·simp
theorem addU_len (l:List κ) (k:κ):(JQ l k).length=if k∈l then l.length else l.length+1:=by
 unfold JQ;split <;> simp
theorem wC:∀ (ks l:List κ),(ks.foldl JQ l).length≤l.length+ks.length
 | [],l=>Aj _
 | k::r,l=>by
  have h:=wC r (JQ l k);have e:=addU_len l k;rw [Cc,A5];split at e <;> omega
theorem YI (ks:List κ):(JS ks).length≤ks.length:=by have:=wC ks [];simpa [JS] using this
theorem yU:∀ (ks l:List κ),(∃ k∈ks,k∈l)∨¬ ks.Nodup→(ks.foldl JQ l).length<l.length+ks.length
 | [],l,h=>by rcases h with ⟨k,hk,_⟩ | h;cases hk;exact absurd List.nodup_nil h
 | k::r,l,h=>by
  rw [Cc,A5]
  by_cases hk:k∈l
  ·have e:(JQ l k).length=l.length:=by rw [addU_len,if_pos hk]
   have:=wC r (JQ l k);omega
  ·have e:(JQ l k).length=l.length+1:=by rw [addU_len,if_neg hk]
   have:=yU r (JQ l k) (by
    rcases h with ⟨x,hx,hl⟩ | h
    ·rcases Av.mp hx with rfl | hx
     ·exact absurd hl hk
     ·exact .inl ⟨x,hx,Va.mpr (.inl hl)⟩
    ·rw [Cy] at h
     by_cases hr:k∈r
     ·exact .inl ⟨k,hr,Va.mpr (.inr rfl)⟩
     ·exact .inr fun q=>h ⟨hr,q⟩)
   omega
theorem yV:∀ (ks l:List κ),ks.Nodup→(∀ k∈ks,k∉l)→(ks.foldl JQ l).length=l.length+ks.length
 | [],l,_,_=>rfl
 | k::r,l,h,hd=>by
  rw [Cc,A5];have hk:k∉l:=hd k A0;have e:(JQ l k).length=l.length+1:=by rw [addU_len,if_neg hk]
  rw [Cy] at h;have:=yV r (JQ l k) h.2 fun x hx q=>(Va.mp q).elim (hd x (Au _ hx)) fun e=>h.1 (e▸hx);omega
theorem yb (ks:List κ):((JS ks).length=ks.length)↔ks.Nodup:=by
 constructor
 ·intro h
  by_cases q:ks.Nodup
  ·exact q
  ·have:=yU ks [] (.inr q);unfold JS at h;simp at this;omega
 ·intro h;have:=yV ks [] h fun _ _ q=>nomatch q;simpa [JS] using this
end
section
variable {prog:Program} {w:World} {κ:Type} [DecidableEq κ] {knd:PySem.KeyKind prog w κ} {A:Around}
abbrev ve (knd:PySem.KeyKind prog w κ) (h:Heap) (a:Ac) (ks:List κ):Prop:=h.SetOf knd a (fun k=>decide (k∈JS ks)) (JS ks).length
theorem ve.at' {h h':Heap} {a:Ac} {ks:List κ} (q:ve knd h a ks) (k:∀ o,h.get? a=some o→h'.get? a=some o):ve knd h' a ks:=by
 obtain ⟨o,es,ep,t,ho,r⟩:=q;exact ⟨o,es,ep,t,k o ho,r⟩
theorem ZM {R:Result→Ae→Prop} {it D:Ac} {fp wr:List Ac} {G:Array GenState→Array GenState→Prop} {ks:List κ} {P:Nat→Ab→Prop} {St:Nat→Ae→Prop}
  (W:WalksS prog w A.in1 it fp wr G ks.length P St) (hD:D∉fp) (hP:∀ i v,P i v→∃ k,ks[i]?=some k∧knd.is k v=true∧v.scannable=true) (hb:ks.length+1<scanBound):
  ∀ (m i:Nat) (s:Ae),ks.length - i=m→i≤ks.length→St i s→ve knd s.heap D (ks.take i)→
   (∀ s',Moved (D::wr) G s s'→ve knd s'.heap D ks→R (.ok (.ret .none)) s')→codeAny (model prog w) A (.builtin "set.update.loop" ⟨[.ref D,.ref it],[]⟩) R s:=by
 have hDw:D∉wr:=fun q=>hD (W.sub _ q);have hin:∀ b∈wr,b∈D::wr:=fun b q=>Au _ q;intro m
 induction m with
 | zero=>
  intro i s hm hi st hS hR;have e:i=ks.length:=⋯;subst e;rw [Bv] at hS;refine Dq PyProof.Rows.F.entry_set_update_loop ?_;rw [D5 Dd _];show wpAny (model prog w) A.in1 (pyNext (.ref it)>>=_) _ _ s;exact Ah (W.done s _ _ st fun s' mv=>Ar (hR s' (mv.mono hin) (hS.at' fun o q=>mv.heap D o hDw q)))
 | succ m ih=>
  intro i s hm hi st hS hR;have lt:i<ks.length:=⋯;refine Dq PyProof.Rows.F.entry_set_update_loop ?_;rw [D5 Dd _];show wpAny (model prog w) A.in1 (pyNext (.ref it)>>=_) _ _ s;refine Ah (W.item i s _ _ lt st fun v s1 pv st1 mv=>?_);obtain ⟨k,hk,hkv,hsc⟩:=hP i v pv;have hS1:ve knd s1.heap D (ks.take i):=hS.at' fun o q=>mv.heap D o hDw q;show wpAny (model prog w) A.in1 (holding [v] (setAdd D v)>>=_) _ _ s1;refine Ah (B7 ?_);unfold setAdd;refine B7 (Ah (knd.pyHash hkv ?_));have few:(JS (ks.take i)).length+1<scanBound:=by
   have h1:=YI (ks.take i);rw [Bq] at h1;omega
  refine wpAny_setAddHashed_of (knd:=knd) (s:={s1 with toks:=s1.toks+1}) hkv hsc hS1 few fun h2 sb hS2=>?_
  have hS3:ve knd h2 D (ks.take (i+1)):=by
   have e:ks.take (i+1)=ks.take i++[k]:=by rw [Br,hk];rfl
   unfold ve;rw [e,Xo];refine SetOf_congr hS2 (fun x=>?_) ?_
   ·rw [Cb,Cu,Bs,Bs,Bs,Va]
   ·rw [addU_len]
    by_cases q:k∈JS (ks.take i) <;> simp [q]
  refine Ar ⟨Ej Dd _,ih (i+1) _ ⋯ lt (W.frame _ s1 _ _ st1 (Nat.le_succ _) fun b q o e=>?_) hS3 fun s3 mv3 hS4=>?_⟩
  ·rw [sb.2 b fun z=>hD (z▸q)];exact e
  ·refine hR s3 (Moved.trans W.gtrans ((mv.mono hin).then_heap (Nat.le_succ _) fun b o q e=>?_) mv3) hS4;rw [sb.2 b fun z=>q (z▸A0)];exact e
end
section
variable {prog:Program} {w:World} {κ:Type} [DecidableEq κ] {knd:PySem.KeyKind prog w κ} {A:Around} {E:Ab→Ae→Prop} {s:Ae}
abbrev JH (led:Bool):Obj:={cls:= .type "set",dict:=none,data:= .set #[] 0 (.fresh 0 0 led)}
theorem X5 {t:Ac} {items:Array Ab} {ks:List κ} {Q:Ab→Ae→Prop} (nh:A.handled=none) (ht:s.heap.IsTuple t items) (hlen:items.size=ks.length)
  (hk:∀ (i:Nat) (v:Ab),items[i]?=some v→∃ k,ks[i]?=some k∧knd.is k v=true∧v.scannable=true) (few:ks.length+1<scanBound)
  (h:∀ (h':Heap) (tk:Nat),ve knd h' s.heap.objs.size ks→(∀ b o,s.heap.get? b=some o→h'.get? b=some o)→Q (.ref s.heap.objs.size) {s with heap:=h',toks:=tk}):
  wpAny (model prog w) A (call (.type "set") [.ref t]) Q E s:=by
 obtain ⟨c1,c2,mro⟩:=F.called_set.mro;have made:=F.called_set.made;have sub:=F.called_set.sub;refine wpAny_call (codeAny_of_tree ?_);show wpAny (model prog w) _ (callAny (.type "set") _) _ _ _;refine Ar ⟨Code.quiet_builtin _ ∅,Dq F.entry_type_call ?_⟩;rw [Around.under_plain (weight_type_call_type "set" [.ref t] []) rfl];have n1:=F.called_set.notType;have n2:=F.called_set.canCreate;have n3:=F.typeCall_set_1 (.ref t)
 repeat (any_goals (first | assumption | wp_step))
 refine Ec (code_set_new_1 (.ref t) (E:=E) (Q₁:=fun ob s1=>∃ led:Bool,ob= .ref s.heap.objs.size∧s1={s with heap:=s.heap.push (JH led)}) fun led=>⟨led,rfl,rfl⟩) fun r s1 q=>?_
 cases r with
 | error e=>exact q
 | ok f1=>
  cases f1 with
  | ret ob=>
   obtain ⟨led,rfl,rfl⟩:=q;have new:(s.heap.push (JH led)).get? s.heap.objs.size=some (JH led):=A6 _ rfl;have hty:Shared.TypeIs {s with heap:=s.heap.push (JH led)} (.ref s.heap.objs.size) "set":=⟨_,new,rfl⟩
   have i1:=F.called_set.init.lookup;have i2:=F.called_set.init.bind (.ref s.heap.objs.size)
   repeat (any_goals (first | assumption | wp_step))
   refine Ec (codeAny_call_builtin (R:=wants (fun r s2=>r= .none∧∃ h' tk,s2={s with heap:=h',toks:=tk}∧ve knd h' s.heap.objs.size ks∧∀ b o,s.heap.get? b=some o→h'.get? b=some o) E)
    F.called_set.init.plain F.entry_set_init (check_set_init_1 hty ?_)) fun r2 s2 q2=>?_
   ·obtain ⟨⟨oc,od,odt,osl⟩,ho,hc,n,hd⟩:=ht;simp only at hc hd;subst hc;subst hd;have ho1:(s.heap.push (JH led)).get? t=some {cls:= .type "tuple",dict:=od,data:= .seq items n,slots:=osl}:=Ap _ ho;have j1:=F.sub_tuple_set;have j2:=F.sub_tuple_frozenset;have j3:(Value.type "tuple"==Value.type "dict")=false:=O0;have ht1:(s.heap.push (JH led)).IsTuple t items:=⟨_,ho1,rfl,n,rfl⟩;unfold Builtin.«set.__init__» noKeywords Builtin.Frozenset.updateFrom;generalize hPI:pyIter=PI
    wp_walk
    subst hPI;refine Ed ht1 (Ah (wpAny_runValue ?_));have lt:t<s.heap.objs.size:=Ay ho;have nh3:A.in1.in1.in1.handled=none:=by simp [nh]
    have zs:(s.heap.push (JH led)).objs.size=s.heap.objs.size+1:=C7 ..;have ne1:t≠(s.heap.push (JH led)).objs.size:=by rw [zs];exact Bf (Nat.lt_succ_of_lt lt)
    have out:s.heap.objs.size∉[(s.heap.push (JH led)).objs.size,t]:=by
     rw [zs,Av,B5,not_or];exact ⟨Bf (Nat.lt_succ_self _),Em lt⟩
    have Wk:=(Walks.tuple (prog:=prog) (w:=w) nh3 _ t ne1 items).toS;rw [hlen] at Wk;refine ZM (knd:=knd) (ks:=ks) Wk out hk few (ks.length - 0) 0 _ rfl (A7 _) ⟨⟨_,A6 _ rfl,rfl,rfl⟩,?tup⟩ ?zW ?fin
    case tup=>
     exact ⟨_,Ap _ ho1,rfl,n,rfl⟩
    case zW=>
     exact SetOf_congr ((setObjOf_fresh (knd:=knd) led).setOf (Ap _ new) (by unfold scanBound;omega)) (fun _=>rfl) rfl
    case fin=>
     intro s' mv hS;obtain ⟨h',g',d',tk',os'⟩:=s';have e1:g'=s.gens:=mv.gens;have e2:d'=s.drawn:=mv.drawn;have e3:os'=s.os:=mv.os;subst e1;subst e2;subst e3;refine Ar (Ar ⟨rfl,h',tk',rfl,hS,fun b o e=>?_⟩);have lb:=Ay e;refine mv.heap b o ?_ (Ap _ (Ap _ e));rw [Av,B5,not_or,zs];exact ⟨Bf lb,Bf (Nat.lt_succ_of_lt lb)⟩
   ·cases r2 with
    | error e=>exact q2
    | ok f2=>
     cases f2 with
     | ret r=>
      obtain ⟨rfl,h',tk,rfl,hS,kk⟩:=q2
      repeat (any_goals (first | assumption | wp_step))
      exact h _ _ hS kk
     | _=>exact q2.elim
  | _=>exact q.elim
end
def ZO (P:Program) (w:World) (a:Ac) (ks:List Str):HO:= .ext fun h=>ve (zc P w) h a (ks.map fun k=>(Sum.inr k:Key))
section
variable {X:Cx}
theorem Wj {K:Frag} (hK:X.K=K) (hc:X.calm=true):jb X (.type "set") (fun xs H Q=>∃ (a:Ac) (ks:List Str),xs=[.ref a]∧SqT K H a (ks.map V.str)∧ks.length≤100∧∀ p,H p=none→Q (.ref p) (upd H p (ZO X.prog X.w p ks))):=by
 intro pins s σ H xs us Q I r h;subst hK;obtain ⟨a,ks,rfl,hq,hl,q⟩:=h;obtain ⟨u,rfl,ru⟩:=jm r;cases ru;obtain ⟨its,rv,p,hz⟩:=I.tuple hq;have e:=rv.length;rw [An] at e;refine X5 (knd:=zc X.prog X.w) (ks:=ks.map fun k=>(Sum.inr k:Key)) (I.ok.hd hc) (show s.heap.IsTuple a its.toArray from p) (by simp [e]) (fun i v hv=>?_) (by simp [scanBound];omega) fun h' tk hS kk=>?_
 ·have hv':its[i]?=some v:=by simpa using hv
  cases hx:ks[i]? with
  | none=>
   have:its[i]?=none:=rv.none_of (by rw [Bm,hx];rfl)
   rw [this] at hv';cases hv'
  | some x=>
   obtain ⟨v',e1,r1⟩:=rv.get (i:=i) (x:= .str x) (by rw [Bm,hx];rfl)
   rw [hv'] at e1;cases e1;obtain ⟨t,rfl⟩:=r1;exact ⟨Sum.inr x,by rw [Bm,hx];rfl,VJ _ _ _ _,rfl⟩
 ·have fr:H s.heap.objs.size=none:=I.hok.fresh (Aj _);refine ⟨.ref s.heap.objs.size,_,I.laid (o:=ZO X.prog X.w s.heap.objs.size ks) (t':=tk) kk (Aj _) ⟨hS,?_,fun h1 h2 q1 k=>q1.at' k⟩,rfl,q _ fr⟩;obtain ⟨o,_,_,_,ho,_⟩:=hS;exact ⟨o,ho⟩
theorem Wl:jb X (.builtin "len") (fun xs H Q=>∃ (a:Ac) (ks:List Str),xs=[.ref a]∧H a=some (ZO X.prog X.w a ks)∧ks.length≤100∧Q (.int ((JS ks).length:Nat)) H):=by
 intro pins s σ H xs us Q I r h;obtain ⟨a,ks,rfl,ha,hl,q⟩:=h;obtain ⟨u,rfl,ru⟩:=jm r;cases ru;obtain ⟨⟨o,es,ep,t,ho,hex,hd,_,_,hb,hf,hn⟩,_⟩:=I.hok a _ ha;have inj:∀ ks:List Str,(JS (ks.map fun k=>(Sum.inr k:Key))).length=(JS ks).length:=fun ks=>by
  have gen:∀ (ks l:List Str),((ks.map fun k=>(Sum.inr k:Key)).foldl JQ (l.map fun k=>(Sum.inr k:Key)))=(ks.foldl JQ l).map fun k=>(Sum.inr k:Key):=by
   intro ks
   induction ks with
   | nil=>intro l;rfl
   | cons k r ih=>
    intro l;rw [A2,Cc,Cc,← ih]
    congr 1
    unfold JQ
    by_cases h:k∈l <;> simp [h]
  have g:=gen ks [];unfold JS;rw [Dl] at g;rw [g,An]
 rw [inj] at hn;have hle:=YI ks;refine call_len_set ho hex hd hf ⋯ ⟨.int es.size,H,I.tok _,⟨_,rfl⟩,?_⟩;rw [hn];exact q
end
section
variable {X:Cx} {K:Frag} {x:Str} {pos:Pos}
theorem pt_k {a:Expr} {ta:TE} (hK:X.K=K) (ha:PE X a ta) (he:∀ whole,isTrue a X.env whole=(do let v ← whole;standAt a.pos;holding [v] (truthy v)):=by intro _;rfl):
  PT X a (fun σ H Q=>ta σ H fun x H'=>∃ k,qdj K x H' k∧Q k H'):=hK▸ZU ha he
def tGT (K:Frag) (l:List Str):TE:=fun _ H Q=>∀ a,(∀ H:Hp,SqT K H a (l.map V.str))→Q (.ref a) H
theorem qej {l:List Str} (h:∃ a,X.mg x=some (.ref a)∧∀ H:Hp,SqT K H a (l.map V.str)) (hg:Gl X x:=by rfl) (hd:(x==("__debug__":Str))=false:=by decide):PE X (.Name x pos) (tGT K l):=by
 obtain ⟨a,m,q⟩:=h;intro pins s σ H Q I h;exact YY (v:= .ref a) hg m rfl hd pins s σ H Q I (h a q)
theorem V4:∀ {ns:List Int} {vs:List Ab},qL (ns.map V.int) vs→IntsAre vs ns
 | [],_,.nil=> .nil
 | n::r,_,.cons h t=>by
  obtain ⟨k,rfl⟩:=h;exact .cons n k (V4 t)
theorem qa0 (hK:X.K=K) (hc:X.calm=true):jb X (.builtin "sum") (fun xs H Q=>∃ (a:Ac) (ns:List Int),xs=[.ref a]∧SqL K H a (ns.map V.int)∧Q (.int ns.sum) H):=by
 intro pins s σ H xs us Q I r h;subst hK;obtain ⟨a,ns,rfl,hq,q⟩:=h;obtain ⟨u,rfl,ru⟩:=jm r;cases ru;obtain ⟨its,rv,p,hz⟩:=I.list hq;have hi:=V4 rv;obtain ⟨zs,e⟩:=hi.allInts.items;have hl:s.heap.IsList a (intItems zs):=e▸p.isList;refine sum_intListG (I.ok.hd hc) hl fun h' tk t' kk=>⟨.int ns.sum,H,I.kept kk,⟨t',?_⟩,q⟩;have e1:numsOf its=ns:=hi.numsOf;have e2:numsOf (intItems zs).toList=ns:=by rw [← e];exact e1
 rw [nums_intItems] at e2;rw [preSum_eq,Du (by simp),e2]
theorem qa2 (hK:X.K=K) (hg:X.A.guards=some []) (hu:X.A.units+80<cLine):jb X (.type "str") (fun xs H Q=>∃ (a:Ac) (d:Aa),xs=[.ref a]∧Rep K H (.ref a) d∧d.showable=true∧d.hasDict=false∧d.depth≤64∧d.shown.length≤Af∧Q (.str d.shown) H):=by
 intro pins s σ H xs us Q I r h;subst hK;obtain ⟨a,d,rfl,hr,hs,hd,hdp,hz,q⟩:=h;obtain ⟨u,rfl,ru⟩:=jm r;obtain ⟨as,rd⟩:=hr.reads I ru;cases ru;exact str_of_reads rd hs (fun z=>by rw [hd] at z;cases z) hg ⋯ (fun _ _ e=>e) (fun h' u tk kk=>⟨.str d.shown,H,I.kept kk,⟨u,rfl⟩,q⟩) hz
def tyD:Aa→String
 | .none=>"NoneType"
 | .bool _=>"bool"
 | .int _=>"int"
 | .str _=>"str"
 | .list _=>"list"
 | .tuple _=>"tuple"
 | .dict _=>"dict"
theorem zK (hK:X.K=K):jb X (.builtin "isinstance") (fun xs H Q=>∃ x d T,xs=[x,.ty T]∧Rep K H x d∧T∈["bool","int","str","list","tuple"]∧Q (.bl (isi (tyD d) T)) H):=by
 intro pins s σ H xs us Q I r h;subst hK;obtain ⟨x,d,T,rfl,hr,hT,q⟩:=h;obtain ⟨u,w',rfl,ru,rw'⟩:=Zd r;cases (show w'=Value.type T from rw');have fin:∀ tk b,b=isi (tyD d) T→EP X pins σ Q (.bool b) {s with toks:=tk}:=fun tk b e=>⟨.bl _,H,I.tok tk,rfl,e▸q⟩
 cases hr with
 | non=>exact vn I ru .non (vk O0 hT) fun tk=>fin tk _ rfl
 | bl b=>exact vn I ru (.bl b) (vk O0 hT) fun tk=>fin tk _ rfl
 | int i=>exact vn I ru (.int i) (vk O0 hT) fun tk=>fin tk _ rfl
 | str y=>exact vn I ru (.str y) (vk O0 hT) fun tk=>fin tk _ rfl
 | @lst a xs ds hq _=>
  cases (show u=Value.ref a from ru);obtain ⟨its,_,⟨o,n,e,hc,_⟩,_⟩:=I.list hq;exact Bu PySem.W.kitx_list I.kIn ⟨o,e,hc⟩ (vk (t:="list") O0 hT) (fun z=>nomatch z) fun tk=>fin tk _ rfl
 | @tup a xs ds hq _=>
  cases (show u=Value.ref a from ru);obtain ⟨its,_,⟨o,e,hc,_⟩,_⟩:=I.tuple hq;exact Bu PySem.W.kitx_tuple I.kIn ⟨o,e,hc⟩ (vk (t:="tuple") O0 hT) (fun z=>nomatch z) fun tk=>fin tk _ rfl
end
structure Stay (st:Ac) (H H':Hp):Prop where
 at0:∃ kvs,H st=some (.dK kvs)
 at1:∃ kvs,H' st=some (.dK kvs)
 rest:∀ b o,b≠st→H b=some o→H' b=some o
section
variable {K:Frag} {st:Ac} {H H' H2:Hp}
theorem Stay.put {kvs ks:List (Key×V)} (h:H st=some (.dK kvs)):Stay st H (upd H st (.dK ks)):=⟨⟨kvs,h⟩,⟨ks,upd_same⟩,fun b o n e=>by rw [qB n];exact e⟩
theorem Stay.trans (a:Stay st H H') (b:Stay st H' H2):Stay st H H2:=⟨a.at0,b.at1,fun c o n e=>b.rest c o n (a.rest c o n e)⟩
theorem Stay.then (a:Stay st H H') (g:qp H' H2):Stay st H H2:=⟨a.at0,let ⟨k,e⟩:=a.at1;⟨k,g _ _ e⟩,fun c o n e=>g c o (a.rest c o n e)⟩
theorem Stay.ne (a:Stay st H H') {b:Ac} {o:HO} (e:H b=some o) (hd:∀ kvs,o≠ .dK kvs):b≠st:=fun z=>by
 obtain ⟨k,q⟩:=a.at0;rw [z,q] at e;exact hd k (Bj e).symm
theorem Stay.rd (a:Stay st H H') {b:Ac} {o:HO} (hd:∀ kvs,o≠ .dK kvs) (h:Rd H b o):Rd H' b o:=by
 rcases h with h | ⟨ob,h⟩
 ·exact .inl (a.rest _ _ (a.ne h hd) h)
 ·exact .inr ⟨ob,a.rest _ _ (a.ne h (fun kvs z=>by cases z)) h⟩
theorem Stay.sqL (a:Stay st H H') {b:Ac} {xs:List V} (h:SqL K H b xs):SqL K H' b xs:=by
 rcases h with h | h
 ·exact .inl (a.rd (fun kvs z=>by cases z) h)
 ·exact .inr h
theorem Stay.sqT (a:Stay st H H') {b:Ac} {xs:List V} (h:SqT K H b xs):SqT K H' b xs:=by
 rcases h with h | h
 ·exact .inl (a.rd (fun kvs z=>by cases z) h)
 ·exact .inr h
theorem Rep.stay (a:Stay st H H') {x:V} {d:Aa} (h:Rep K H x d):Rep K H' x d:=h.mono a.sqL a.sqT
theorem Reps.stay (a:Stay st H H') {xs:List V} {ds:List Aa} (h:Reps K H xs ds):Reps K H' xs ds:=h.mono a.sqL a.sqT
end
structure FnOkG (P:Program) (w:World) (K:Frag) (mg:Str→Option Ab) (base:Heap) (CX:CXT) (k:Nat) (f:Ac) (fd:FuncData) (ps:List Str) (sp:Sp):Prop where
 len:∀ vs H Q E,sp vs H Q E→vs.length=ps.length
 run:∀ (A:Around) (outer:List Env) (s:Ae) (H:Hp) (args:Args) (us:List Ab) (vs:List V) (Q:VK) (E:XK),Room k A→A.guards=some []→Env0 P w K mg base A outer s H→BindsTo s fd args (ps.zip us)→qL vs us→sp vs H Q E→
  codeAny (model P w) A (.call (.ref f) args) (CR CX outer P w H s Q E) s
theorem qc9 {CX:CXT} {P:Program} {w:World} {K:Frag} {mg:Str→Option Ab} {base:Heap} {k:Nat} {f:Ac} {name qual:Str} {params:Arguments} {body:List Stmt} {scope:Scope} {dV kV doc pm cdv ct oc:Ab} {an od:Option Ac}
  {osl:Array (Option Ab)} {N ps:List Str} {sp:Sp} (lk:K.lookup f=some ⟨oc,od,.func (PySem.W.fnOf name qual params body scope dV kV doc pm an cdv ct),osl⟩) (hcd:PySem.W.codeIn K cdv qual=true) (S:FnScope N ps scope)
  (len:∀ vs H Q E,sp vs H Q E→vs.length=ps.length)
  (hbody:∀ (A:Around) (outer:List Env) (s:Ae) (H:Hp) (vs:List V) (Q:VK) (E:XK),A.guards=some []→Room k (A.deeper (envOfC qual scope s.heap.objs.size f cdv))→sp vs H Q E→
   ∃ t,PSs (Vd CX P w K mg base N qual scope f cdv A outer s H E) body t∧t {nx:=fun _ H'=>Q .non H',rt:=Q} (zW N vs) H):
  FnOkG P w K mg base CX (k+1) f (PySem.W.fnOf name qual params body scope dV kV doc pm an cdv ct) ps sp:=by
 refine ⟨len,fun A outer s H args us vs Q E hr hgd e0 hb r hsp=>?_⟩;have hl:=len _ _ _ _ hsp;have KX:K.In s.heap:=e0.mod.kin.keeps fun b o e=>(e0.bs b o e).1;have lim:s.heap.NoLimit:=e0.mod.nolimit.keeps fun b o e=>(e0.bs b o e).1;have hkind:∀ y∈ps.zip us,scope.names.lookup y.1=some .local∨(scope.names.lookup y.1=some .cell∧((cellsFrom (s.heap.objs.size+1) scope.names []).lookup y.1).isSome=true):=fun ⟨n,v⟩ hy=>by
  rcases S.par n (Cw hy).1 with q | q
  ·exact .inl q
  ·exact .inr ⟨q,Dt _ _ _ (.inl q)⟩
 refine codeAny_call_function hr.depth (KX _ _ lk) rfl S.co S.gen rfl (PySem.W.codeRec_of KX hcd) (hb _ _ _ _ ?_);refine wpAny_newFunctionEnv_cells S.kind hkind fun env he s1 x=>?_;subst he;refine ⟨lim.keeps x.toInCall.keep,codeAny_func ?_⟩;obtain ⟨t,ht,hq⟩:=hbody A outer s H vs Q E hgd (hr.deeper _) hsp;have I:Inv (Vd CX P w K mg base N qual scope f cdv A outer s H E) [] (zW N vs) H s1:=Wb S hr.hd e0 hl r x;refine C0 (ht [] s1 (zW N vs) H _ I hq) (fun fl s' hs=>?_) fun e s' hs=>hs;have fin:∀ {σ':St} {H':Hp} {v:V} {u:Ab},Inv (Vd CX P w K mg base N qual scope f cdv A outer s H E) [] σ' H' s'→qK v u→Q v H'→CE outer P w H s Q u s':=
  fun {σ' H' v u} J rv q=>⟨v,H',J.os,J.bare,J.base,J.hok,rv,q⟩
 cases fl with
 | ret u=>
  obtain ⟨v,σ',H',J,rv,q⟩:=hs;exact fin J rv q
 | next=>
  obtain ⟨σ',H',J,q⟩:=hs;exact fin (v:=V.non) (u:=Value.none) J rfl q
 | brk=>
  obtain ⟨_,_,_,q⟩:=hs;exact False.elim q
 | cont=>
  obtain ⟨_,_,_,q⟩:=hs;exact False.elim q
theorem XM {P:Program} {w:World} {K:Frag} {mg mb:Str→Option Ab} {CX:CXT} {k:Nat} {fa a:Ac} {fd:FuncData} {x:Str} {sp:Sp} {s₁:Ae} {vs:List Ab} {ns:List Int}
  (KX:K.In s₁.heap) (hns:s₁.heap.Ns Ak mg) (hb:s₁.heap.Ns builtinsNs mb) (hbb:∀ x:Str,x≠"__name__"→mb x=bootBuiltins x) (hlim:s₁.heap.NoLimit) (hg:s₁.gens= #[])
  (ha:s₁.heap.get? a=some {cls:= .type "list",data:= .seq vs.toArray}) (hi:IntsAre vs ns) (hl:ns.length≤Af) (hr:Room k callerA)
  (F:∀ base:Heap,K.In base→base.Ns Ak mg→FnOkG P w K mg base CX k fa fd [x] sp) (hbind:∀ (s:Ae) (u:Ab),BindsTo s fd ⟨[u],[]⟩ [(x,u)])
  (hsp:∀ H:Hp,qdl H→SqL K H a (ns.map V.int)→sp [.ref a] H (fun v _=>v= .bl true) fun _ _ _=>False)
  (hCX:∀ H e s',CX [] H s₁ (fun _ _ _=>False) e s'→False):
  codeAny (model P w) callerA (.call (.ref fa) ⟨[.ref a],[]⟩) (fun r s'=>r= .ok (.ret (.bool true))∧OldK s₁.heap s'.heap∧s'.os=s₁.os∧AllBare s'.gens) s₁:=by
 have rv:=wQ hi;have lenV:=hi.length;have core:∀ H:Hp,qdl H→SqL K H a (ns.map V.int)→HOk P w H s₁.heap→(∀ b,H b≠none→b=a)→(H a≠none→K.lookup a=none)→
   codeAny (model P w) callerA (.call (.ref fa) ⟨[.ref a],[]⟩) (fun r s'=>r= .ok (.ret (.bool true))∧OldK s₁.heap s'.heap∧s'.os=s₁.os∧AllBare s'.gens) s₁:=by
  intro H hO hS hok hA hK;have base_of:∀ {b:Ac} {o:Obj},s₁.heap.get? b=some o→H b=none→(W2 s₁.heap H).get? b=some o:=fun e n=>Qo e n;have noA:∀ {b:Ac} {o:Obj} {es:Array DictEntry} {ep:Nat},s₁.heap.get? b=some o→o.data= .dict es ep→H b=none:=fun {b o es ep} e d=>by
   cases q:H b with
   | none=>rfl
   | some u=>
    have e':b=a:=hA b (by rw [q];simp)
    subst e';rw [ha] at e;cases e;have d':Data.seq vs.toArray _=Data.dict es ep:=d;cases d'
  have nsK:∀ {b:Ac} {m:Str→Option Ab},s₁.heap.Ns b m→(W2 s₁.heap H).Ns b m:=fun {b m} ⟨o,es,ep,e,d,r⟩=>⟨o,es,ep,base_of e (noA e d),d,r⟩;have hKb:K.In (W2 s₁.heap H):=fun b o e=>base_of (KX b o e) (by
   cases q:H b with
   | none=>rfl
   | some u=>
    have e':b=a:=hA b (by rw [q];simp)
    subst e';rw [hK (by rw [q];simp)] at e;cases e)
  have hM:Mod K mg (W2 s₁.heap H):=⟨hKb,nsK hns,⟨mb,nsK hb,hbb⟩,let ⟨mc,h1,h2⟩:=hlim;⟨mc,nsK h1,h2⟩⟩;have e0:Env0 P w K mg (W2 s₁.heap H) callerA [] s₁ H:=⟨rfl,hM,fun b o e=>qae e,Nat.le_of_eq (XR _ _),trivial,fun b hb=>absurd (show b∈([]:List Ac) from hb) (by simp),hok,.of_eq hg⟩
  refine Ec ((F _ hKb (nsK hns)).run callerA [] s₁ H ⟨[.ref a],[]⟩ [.ref a] [.ref a] _ _ hr rfl e0 (hbind s₁ (.ref a)) (.cons rfl .nil) (hsp H hO hS)) fun r s' h=>?_;cases r with
  | error e=>exact (hCX H e s' h).elim
  | ok fl=>
   cases fl with
   | next=>exact False.elim h
   | brk=>exact False.elim h
   | cont=>exact False.elim h
   | ret u=>
    obtain ⟨v,H',os,bare,un,hok',r',q⟩:=h;have q':v= .bl true:=q;subst q';obtain rfl:u=Value.bool true:=r';refine ⟨rfl,OldK.of_keep fun b o e=>?_,os,bare⟩;cases q:H b with
    | none=>exact un.keep b o e q (by intro z;exact absurd (show b∈([]:List Ac) from z) (by simp)) (by simp)
    | some u=>
     rcases hO b with z | ⟨ob,xs,z⟩
     ·rw [q] at z;cases z
     ·have z2:=un.frzs b ob _ z;obtain ⟨e1,_⟩:=hok b _ z;obtain ⟨e2,_⟩:=hok' b _ z2;rw [e] at e1;cases e1;exact e2
 cases hk:K.lookup a with
 | some o=>
  have e:=KX a o hk;rw [ha] at e;cases e;refine core (fun _=>none) (fun _=> .inl rfl) (.inr ⟨_,vs.toArray,_,hk,rfl,rfl,rfl,by rw [Ax,lenV];exact hl,by simpa using rv⟩) (fun b u z=>by have z':(none:Option HO)=some u:=z;cases z') (fun b z=>absurd rfl z) fun z=>absurd rfl z
 | none=>
  refine core (fun b=>if b=a then some (.frz {cls:= .type "list",data:= .seq vs.toArray} (.lst (ns.map V.int))) else none) (fun b=>?_) (.inl (.inr ⟨{cls:= .type "list",data:= .seq vs.toArray},if_pos rfl⟩)) (fun b u z=>?_) (fun b z=>?_) fun _=>hk
  ·by_cases hb:b=a
   ·exact .inr ⟨_,_,if_pos hb⟩
   ·exact .inl (if_neg hb)
  ·by_cases hb:b=a
   ·have z':=(if_pos hb).symm.trans z;cases z';subst hb;exact ⟨ha,by rw [An];exact hl,vs,_,rv,ha⟩
   ·have z':=(if_neg hb).symm.trans z;cases z'
  ·by_cases hb:b=a
   ·exact hb
   ·exact absurd (if_neg hb) z
theorem Zc {l:PySem.W.OpenLaw} {n k:Nat} {q:Program} {loose:List Str} {XP:(Str→Option Ab)→Heap→Prop} {YP:World→Heap→Prop} {d:DefRec} {K:Params→Frag} {CX:World→CXT} {sp:World→Sp} {x:Str}
  (hn:l.most=some n) (hn2:n≤Af) (hdf:d.params.defaults=[]) (hr:Room k callerA)
  (hY:∀ (w:World) (h:Heap),YP w h→(K w.params).In h)
  (F:∀ (w:World) (mg:Str→Option Ab) (fa:Ac) (h:Heap),(K w.params).In h→h.Ns Ak mg→mg d.name=some (.ref fa)→
   ∃ fd:FuncData,(∀ (s:Ae) (u:Ab),BindsTo s fd ⟨[u],[]⟩ [(x,u)])∧
    ∀ base:Heap,(K w.params).In base→base.Ns Ak mg→FnOkG l.prog w (K w.params) mg base (CX w) k fa fd [x] (sp w))
  (hsp:∀ (w:World) (H:Hp) (a:Ac) (ns:List Int),ns.length≤n→qdl H→SqL (K w.params) H a (ns.map V.int)→sp w [.ref a] H (fun v _=>v= .bl true) fun _ _ _=>False)
  (hCX:∀ (w:World) (H:Hp) (s:Ae) (e:Ab) (s':Ae),CX w [] H s (fun _ _ _=>False) e s'→False):
  PySem.W.WalkO q loose XP YP l.row.toRowW d [] (fun f vs=>PySem.call f vs):=by
 refine Att.attach_call hn hdf fun w s₀ s₁ mg mb fa o pm cd doc a vs ns G Y ho hd hcd hmg hobj hints hlen hg=>?_;have KX:=hY w _ Y;obtain ⟨fd,hb,hF⟩:=F w mg fa _ KX G.T.g hmg;exact XM KX G.T.g G.T.b G.T.builtins G.T.nolimit hg hobj hints (As hlen hn2) hr hF hb (fun H hO hS=>hsp w H a ns hlen hO hS) fun H e s'=>hCX w H s₁ e s'
section
variable {P:Program} {w:World} {K:Frag} {mg:Str→Option Ab} {base:Heap}
theorem Fun.okG {x qual:Str} {st:Stmt} {f:Ac} {fd:FuncData} {N ps:List Str} {k:Nat} {sp:Sp} (F:Fun K x qual st f fd) (S:FnScope N ps (qo st)) (len:∀ vs H Q E,sp vs H Q E→vs.length=ps.length)
  (hbody:∀ (cdv:Ab) (A:Around) (outer:List Env) (s:Ae) (H:Hp) (vs:List V) (Q:VK) (E:XK),(A.deeper (envOfC qual (qo st) s.heap.objs.size f cdv)).guards=some []→Room k (A.deeper (envOfC qual (qo st) s.heap.objs.size f cdv))→sp vs H Q E→
   ∃ t,PSs (Vd CX0 P w K mg base N qual (qo st) f cdv A outer s H E).nox (zU st) t∧t {nx:=fun _ H'=>Q .non H',rt:=Q} (zW N vs) H):FnOkG P w K mg base CX0 (k+1) f fd ps sp:=by
 obtain ⟨oc,od,kV,doc,pm,an,cdv,ct,osl,rfl,lk,hcd⟩:=F.ex;refine qc9 lk hcd S len fun A outer s H vs Q E hg hr hsp=>?_;obtain ⟨t,h,q⟩:=hbody cdv A outer s H vs Q E hg hr hsp;exact ⟨t,h.nox,q⟩
end
section
variable {X:Cx} {sc scope:Scope} {NX N:List Str} {js:List (Option Nat)} {tg iter elt:Expr} {ifs:List Expr} {wi:TI} {g:TG} {tt:TT} {te:TE} {pos:Pos}
theorem V2 {i:Nat} {y:Str} {py spos:Pos} (hN:X.N.Nodup) (hy:X.N[i]?=some y) (hL:Loc X.env.scope y) (hi:PI X tg iter wi) (hg:∀ cl C fp s H,PG (cxC X scope cl C N fp s H) tg g) (ht:∀ cl C fp s H,PF (cxC X scope cl C N fp s H) ifs tt)
  (he:∀ cl C fp s H,PE (cxC X scope cl C N fp s H) elt te) (own:QG js g) (ok:CompScope sc scope NX N js) (hsc:X.env.scope=sc:=by rfl) (hNX:X.N=NX:=by rfl) (hc:X.calm=true:=by rfl) (hs:∀ x,foldedSetIterable iter X.env x=pure x:=by intro _;rfl)
  (hsw:swapsWith (.ListComp elt [⟨tg,iter,ifs,0⟩] scope pos) (some (.Name y py)) spos.line X.env=pure true:=by rfl) (hf:X.fn y=true∨X.env.scope.names.lookup y=some .local:=by first | exact .inl rfl | exact .inr rfl | assumption):
  PS X (.Assign [.Name y py] (.ListComp elt [⟨tg,iter,ifs,0⟩] scope pos) spos) (vD (YL wi js g tt te) (zC i)):=by
 intro pins s σ H D I h;rw [exec_Assign_Name_used _ _ _ _ hsw];refine Ah (wpAny_standAt (Ah ?_));show wpAny _ X.A (do let _ ← comprehension (.ListComp elt [⟨tg,iter,ifs,0⟩] scope pos) scope X.env _ (newList []) false (eval iter X.env) (some (assign (.Name y py) X.env))) _ _ s
 obtain ⟨cl,hclos,cl1,cl2⟩:=wE (scope:=scope) (env:=X.env) fun z hz hf=>I.ok.has z.1 (by
  have q:=ok.free z hz hf;rw [← hsc] at q;exact q)
 refine Ah (C0 (wpAny_comprehension_free (use:=some (assign (.Name y py) X.env)) (Q:=fun _ s'=>SP X pins D .next s') rfl hs hclos ok.kind ok.names
  (thn (hi pins s σ H _ I h) fun xv s1 h1=>thn h1 fun itv s2 h2=>?_)) (fun _ s' hq=>Ar (Ar hq)) fun _ _ e=>e)
 obtain ⟨it,fp,tn,J,H2,rfl,I2,T,st2,f2,W,⟨m0,w0⟩,turn⟩:=h2;refine Wi (Q:=fun x H1=>zC i x σ H1 D.nx) (RR:=fun acc C=>compPost (model X.prog X.w) X.A X.xe (some (assign (.Name y py) X.env)) (fun _ s'=>SP X pins D .next s') acc C) hsc hNX ok hc I2 cl1 cl2 T st2 f2 (fun C=>hg cl C fp s2 H2) (fun C=>ht cl C fp s2 H2) (fun C=>he cl C fp s2 H2) own w0 turn fun L C m s' Hf I' hn f q=>?_
 obtain ⟨g0,g1,g2,g3,g4,g5⟩:=f;show wpAny _ X.A (assign (.Name y py) X.env (.ref L)) _ _ _;refine wpAny_assign_Name (wR I' hN hy hL (show qK (.ref L) (.ref L) from rfl) (fun s3 I3 hb=>?_) hf);obtain ⟨a,sb,ha⟩:=hb;have hCa:C≠a:=by
  rcases ha with rfl | ha
  ·exact g1
  ·exact fun z=>g4 _ _ ha z.symm
 exact ⟨m,hn.sameBut sb hCa,fun h' hs'=>⟨_,Hf,I3.turned (t':=s3.toks) (fun b o hb e=>(hs'.2 b hb).trans e) g0 g1 g3 g4 g5,q⟩⟩
end
structure RoomS (k:Nat) (A:Around):Prop where
 dep:A.depth+3*k+5<recursionLimit
 uni:A.units+16*k+200<cLine
theorem RoomS.deeper {k:Nat} {A:Around} (r:RoomS (k+1) A) (env:Env):RoomS k (A.deeper env):=
 ⟨by have z:=r.dep;show A.depth+1+3*k+5<_;omega,by have z:=r.uni;show A.units+3+16*k+200<_;omega⟩
theorem RoomS.depth {k:Nat} {A:Around} (r:RoomS k A):A.depth<recursionLimit:=by have z:=r.dep;omega
structure FnOkS (P:Program) (w:World) (K:Frag) (mg:Str→Option Ab) (base:Heap) (CX:CXT) (k:Nat) (f:Ac) (fd:FuncData) (ps:List Str) (sp:Sp):Prop where
 len:∀ vs H Q E,sp vs H Q E→vs.length=ps.length
 run:∀ (A:Around) (outer:List Env) (s:Ae) (H:Hp) (args:Args) (us:List Ab) (vs:List V) (Q:VK) (E:XK),RoomS k A→Env0 P w K mg base A outer s H→BindsTo s fd args (ps.zip us)→qL vs us→sp vs H Q E→
  codeAny (model P w) A (.call (.ref f) args) (CR CX outer P w H s Q E) s
def Wg (CX:CXT) (P:Program) (w:World) (K:Frag) (mg:Str→Option Ab) (base:Heap) (N:List Str) (qual:Str) (scope:Scope) (f:Ac) (cd:Ab) (A:Around) (outer:List Env) (s:Ae) (H:Hp) (E:XK):Cx where
 prog:=P
 w:=w
 K:=K
 mg:=mg
 base:=base
 A:=A.deeper (envOfC qual scope s.heap.objs.size f cd)
 N:=N
 s₀:=s
 H₀:=H
 env:=envOfC qual scope s.heap.objs.size f cd
 outer:=outer
 stack:=envOfC qual scope s.heap.objs.size f cd::outer
 ex:=[]
 calm:=false
 fn:=fun _=>true
 pn:=[]
 xe:=fun e s'=>wpAny (model P w) (A.deeper (envOfC qual scope s.heap.objs.size f cd)) (leaving (envOfC qual scope s.heap.objs.size f cd) e) (fun _ s''=>CX outer H s E e s'') (fun e' s''=>CX outer H s E e' s'') s'
theorem Yw {CX:CXT} {P:Program} {w:World} {K:Frag} {mg:Str→Option Ab} {base:Heap} {N ps:List Str} {qual:Str} {scope:Scope} {f:Ac} {cd:Ab} {A:Around} {outer:List Env} {s s1:Ae} {H:Hp} {E:XK} {us:List Ab} {vs:List V}
  (S:FnScope N ps scope) (e0:Env0 P w K mg base A outer s H) (hl:vs.length=ps.length) (r:qL vs us)
  (x:InCallC s s.heap.objs.size (bindL (envOfC qual scope s.heap.objs.size f cd).kindOf (ps.zip us) fun _=>none) (cellsFrom (s.heap.objs.size+1) scope.names []) (bindC (envOfC qual scope s.heap.objs.size f cd).kindOf (ps.zip us) fun _=>none) s1):
  Inv (Wg CX P w K mg base N qual scope f cd A outer s H E) [] (zW N vs) H s1:=by
 have hpl:ps.length≤N.length:=by have:=congrArg List.length S.pre;rw [Bq] at this;omega
 obtain ⟨h1,tk,rfl,hk⟩:=x.done;have noA:∀ b:Ac,b∉(Wg CX P w K mg base N qual scope f cd A outer s H E).ex:=fun b z=>absurd (show b∈([]:List Ac) from z) (by simp)
 refine ⟨⟨e0.mod,S.kind,rfl,rfl,Aj _,fun y z c h1 h2=>?_,fun y hy=>?_,fun y c _ h=>?_,fun z=>Bool.noConfusion z,Around.frames_deeper e0.frames,.inr ⟨rfl,rfl⟩,fun b z=>absurd z (noA b),e0.bs,e0.bsz,fun b _ _=>noA b,fun b z=>absurd z (noA b),e0.funs,e0.frf⟩,
  rfl,e0.bare,Un.kept hk,⟨_,x.toInCall.ns,fun i y v h1 h2 h3=>?_⟩,fun y c h=>⟨_,x.cell y c h⟩,e0.hok.fresh (Aj _),fun y c h=>?_,fun p hp=>absurd (show p∈([]:List (Ac×Obj)) from hp) (by simp),e0.hok.kept hk,?_⟩
 ·exact name_of_addr x.apart (Bb h1) (Bb h2)
 ·have hy:scope.names.lookup y=some .cell∨scope.names.lookup y=some .free:=hy;rcases hy with hy | hy
  ·exact Vg hy
  ·exact absurd rfl (S.nofree _ (Bb hy))
 ·exact Eb (x.above y c (Bb h))
 ·have hi:i<vs.length:=by
   unfold zW at h2
   by_cases hi:i<vs.length
   ·exact hi
   ·rw [List.getElem?_append_right (by simpa using hi)] at h2
    rw [List.getElem?_replicate] at h2;split at h2 <;> cases h2
  have ha:vs[i]?=some v:=by
   unfold zW at h2;rw [List.getElem?_append_left (by simpa using hi),Bm] at h2
   cases e:vs[i]? with
   | none=>rw [e] at h2;cases h2
   | some a=>rw [e] at h2;cases h2;rfl
  obtain ⟨u,hu,rv⟩:=r.get ha;have hp:ps[i]?=some y:=by
   rw [← S.pre,List.getElem?_take_of_lt ⋯];exact h1
  have ndP:ps.Nodup:=by rw [← S.pre];exact S.nd.sublist (List.take_sublist _ _)
  refine ⟨u,rv,?_⟩;rcases S.par y (Bi hp) with k | k
  ·exact .inl ⟨k,Vy ndP hp hu k⟩
  ·obtain ⟨c,e⟩:=Vg (n:=s.heap.objs.size+1) k;refine .inr ⟨.inl k,c,e,?_⟩;have q:=x.cell y c e;rw [Vz ndP hp hu (by show scope.names.lookup y≠_;rw [k];decide)] at q
   exact q
 ·exact e0.hok.fresh (Eb (x.above y c (Bb h)))
 ·unfold zW;show _=N.length;rw [A8,An,Dw];omega
theorem qc8 {CX:CXT} {P:Program} {w:World} {K:Frag} {mg:Str→Option Ab} {base:Heap} {k:Nat} {f:Ac} {name qual:Str} {params:Arguments} {body:List Stmt} {scope:Scope} {dV kV doc pm cdv ct oc:Ab} {an od:Option Ac}
  {osl:Array (Option Ab)} {N ps:List Str} {sp:Sp} (lk:K.lookup f=some ⟨oc,od,.func (PySem.W.fnOf name qual params body scope dV kV doc pm an cdv ct),osl⟩) (hcd:PySem.W.codeIn K cdv qual=true) (S:FnScope N ps scope)
  (len:∀ vs H Q E,sp vs H Q E→vs.length=ps.length)
  (hbody:∀ (A:Around) (outer:List Env) (s:Ae) (H:Hp) (vs:List V) (Q:VK) (E:XK),RoomS k (A.deeper (envOfC qual scope s.heap.objs.size f cdv))→sp vs H Q E→
   ∃ t,PSs (Wg CX P w K mg base N qual scope f cdv A outer s H E) body t∧t {nx:=fun _ H'=>Q .non H',rt:=Q} (zW N vs) H):
  FnOkS P w K mg base CX (k+1) f (PySem.W.fnOf name qual params body scope dV kV doc pm an cdv ct) ps sp:=by
 refine ⟨len,fun A outer s H args us vs Q E hr e0 hb r hsp=>?_⟩;have hl:=len _ _ _ _ hsp;have KX:K.In s.heap:=e0.mod.kin.keeps fun b o e=>(e0.bs b o e).1;have lim:s.heap.NoLimit:=e0.mod.nolimit.keeps fun b o e=>(e0.bs b o e).1;have hkind:∀ y∈ps.zip us,scope.names.lookup y.1=some .local∨(scope.names.lookup y.1=some .cell∧((cellsFrom (s.heap.objs.size+1) scope.names []).lookup y.1).isSome=true):=fun ⟨n,v⟩ hy=>by
  rcases S.par n (Cw hy).1 with q | q
  ·exact .inl q
  ·exact .inr ⟨q,Dt _ _ _ (.inl q)⟩
 refine codeAny_call_function hr.depth (KX _ _ lk) rfl S.co S.gen rfl (PySem.W.codeRec_of KX hcd) (hb _ _ _ _ ?_);refine wpAny_newFunctionEnv_cells S.kind hkind fun env he s1 x=>?_;subst he;refine ⟨lim.keeps x.toInCall.keep,codeAny_func ?_⟩;obtain ⟨t,ht,hq⟩:=hbody A outer s H vs Q E (hr.deeper _) hsp;have I:Inv (Wg CX P w K mg base N qual scope f cdv A outer s H E) [] (zW N vs) H s1:=Yw S e0 hl r x;refine C0 (ht [] s1 (zW N vs) H _ I hq) (fun fl s' hs=>?_) fun e s' hs=>hs;have fin:∀ {σ':St} {H':Hp} {v:V} {u:Ab},Inv (Wg CX P w K mg base N qual scope f cdv A outer s H E) [] σ' H' s'→qK v u→Q v H'→CE outer P w H s Q u s':=
  fun {σ' H' v u} J rv q=>⟨v,H',J.os,J.bare,J.base,J.hok,rv,q⟩
 cases fl with
 | ret u=>
  obtain ⟨v,σ',H',J,rv,q⟩:=hs;exact fin J rv q
 | next=>
  obtain ⟨σ',H',J,q⟩:=hs;exact fin (v:=V.non) (u:=Value.none) J rfl q
 | brk=>
  obtain ⟨_,_,_,q⟩:=hs;exact False.elim q
 | cont=>
  obtain ⟨_,_,_,q⟩:=hs;exact False.elim q
section
variable {X:Cx} {C:Ac} {k:Nat} {m x:Str} {ps:List Str} {sp:Sp} {E:XK} {o e:Expr} {es:List Expr} {ta:TE} {t:TA} {p pos apos:Pos} {pl:Sem Bool}
end
structure DefS (P:Program) (w:World) (K:Frag) (mg:Str→Option Ab) (base:Heap) (k:Nat) (x:Str) (ps:List Str) (sp:Sp):Prop where
 ex:∃ (f:Ac) (fd:FuncData),FnOkS P w K mg base CX0 k f fd ps sp∧Js K fd ps []∧PySem.W.keepIn K (.ref f)=true∧mg x=some (.ref f)
theorem QR {X:Cx} {k:Nat} {f:Ac} {fd:FuncData} {ps:List Str} {sp:Sp} {pins:List (Ac×Obj)} {σ:St} {H:Hp} {s:Ae} {Q:VK} {us:List Ab} {vs:List V} (F:FnOkS X.prog X.w X.K X.mg X.base CX0 k f fd ps sp) (hr:RoomS k X.A) (hb:Js X.K fd ps [])
  (I:Inv X pins σ H s) (r:qL vs us) (h:sp (vs++[]) H Q E0):wpAny (model X.prog X.w) X.A (call (.ref f) us) (EP X pins σ Q) X.xe s:=by
 have r2:qL (vs++[]) (us++[]):=by rw [By,By];exact r
 have hl:(us++[]).length=ps.length:=by have z:=F.len _ _ _ _ h;rw [← z,← r2.length]
 refine wpAny_call (Ec (F.run X.A X.stack s H ⟨us,[]⟩ (us++[]) (vs++[]) Q E0 hr I.env0 (hb s us I.kIn hl) r2 h) fun r s' hq=>?_);rcases r with e | fl
 ·exact False.elim hq
 ·cases fl <;> first | exact I.after hq | exact False.elim hq
theorem Q6 {X:Cx} {k:Nat} {x:Str} {ps:List Str} {sp:Sp} {e:Expr} {es:List Expr} {t:TA} {p pos:Pos} (D:DefS X.prog X.w X.K X.mg X.base k x ps sp) (hr:RoomS k X.A) (ha:PA X (e::es) t) (hg:Gl X x:=by rfl)
  (hdb:(x==("__debug__":Str))=false:=by decide) (he:starEach (e::es) X.env=(false,eval e X.env)::starEach es X.env:=by rfl) (hpl:(backTo pos (starEach es X.env)).any (·.1)=false:=by rfl):
  PE X (.Call (.Name x p) (e::es) [] pos) (zB sp [] E0 t):=by
 obtain ⟨f,fd,F,B,kp,m⟩:=D.ex;intro pins s σ H Q I h;refine Dr (JN I hg m ?_ hdb);exact PySem.W.callWith_K (h₀:=X.base) I.ok.mod.kin kp (thn (ha pos pins s σ H _ I h) fun us s1 ⟨vs,H1,I1,r,q⟩=>⟨I1.kIn,QR F hr B I1 r q⟩) he hpl
theorem Room.suite {k:Nat} {A:Around} (r:Room k A) (v:Option Ab):RoomS k (A.mark v):=⟨r.dp,r.un⟩
theorem RoomS.mono {j k:Nat} {A:Around} (r:RoomS k A) (h:j≤k):RoomS j A:=⟨by have z:=r.dep;omega,by have z:=r.uni;omega⟩
section
variable {P:Program} {w:World} {K:Frag} {mg:Str→Option Ab} {base:Heap}
theorem Fun.okS {x qual:Str} {st:Stmt} {f:Ac} {fd:FuncData} {N ps:List Str} {k:Nat} {sp:Sp} (F:Fun K x qual st f fd) (S:FnScope N ps (qo st)) (len:∀ vs H Q E,sp vs H Q E→vs.length=ps.length)
  (hbody:∀ (cdv:Ab) (A:Around) (outer:List Env) (s:Ae) (H:Hp) (vs:List V) (Q:VK) (E:XK),RoomS k (A.deeper (envOfC qual (qo st) s.heap.objs.size f cdv))→sp vs H Q E→
   ∃ t,PSs (Wg CX0 P w K mg base N qual (qo st) f cdv A outer s H E).nox (zU st) t∧t {nx:=fun _ H'=>Q .non H',rt:=Q} (zW N vs) H):FnOkS P w K mg base CX0 (k+1) f fd ps sp:=by
 obtain ⟨oc,od,kV,doc,pm,an,cdv,ct,osl,rfl,lk,hcd⟩:=F.ex;refine qc8 lk hcd S len fun A outer s H vs Q E hr hsp=>?_;obtain ⟨t,h,q⟩:=hbody cdv A outer s H vs Q E hr hsp;exact ⟨t,h.nox,q⟩
end
section
variable {K:Frag} {H:Hp} {a b:Ac} {xs zs:List V} {i:Int} {v:V} {Q:VK}
theorem qe9 (h:H a=some (.lst xs)) (h':H b=some (.lst zs)) (z:xs.length+zs.length≤Af) (q:∀ p,H p=none→Q (.ref p) (upd H p (.lst (xs++zs)))):vz (.ref a) (.ref b) H Q:= .inr (.inr ⟨a,b,xs,zs,rfl,rfl,h,h',z,q⟩)
end
section
variable {X:Cx} {x:Str} {e a b o:Expr} {es:List Expr} {te ta tb to:TE} {t:TA} {p pos pos' apos cpos:Pos}
theorem pst (i:Nat) (hN:X.N.Nodup) (he:PE X e te) (hi:X.N[i]?=some x:=by rfl) (hx:Loc X.env.scope x:=by first | exact Or.inl rfl | exact Or.inr rfl) (hs:swapsWith e (some (.Name x pos')) pos.line X.env=pure false:=by rfl)
  (hf:X.fn x=true∨X.env.scope.names.lookup x=some .local:=by first | exact .inl rfl | exact .inr rfl | assumption):PS X (.Assign [.Name x pos'] e pos) (vD te (zC i)):=qb5 hN hi hx he hs hf
theorem pgn (i:Nat) (hN:X.N.Nodup) (hi:X.N[i]?=some x:=by rfl) (hx:Loc X.env.scope x:=by first | exact Or.inl rfl | exact Or.inr rfl) (hf:X.fn x=true∨X.env.scope.names.lookup x=some .local:=by first | exact .inl rfl | exact .inr rfl | assumption):PG X (.Name x pos) (zC i):=zb hN hi hx hf
theorem pix (K:Frag) (ha:PE X a ta) (hb:PE X b tb) (hK:X.K=K:=by rfl) (hs:Xj b:=by intro _ _;rfl):PE X (.Subscript a b pos) (tOp (rIx K) ta tb):=qei (ix_k hK) ha hb hs
theorem pdf {k:Nat} {ps:List Str} {sp:Sp} (D:Def X.prog X.w X.K X.mg X.base k x ps sp) (ha:PA X (e::es) t) (hr:Room k X.A:=by first | assumption | exact Room.mono (by assumption) (by first | decide | omega)) (hg:Gl X x:=by rfl)
  (hdb:(x==("__debug__":Str))=false:=by decide) (he:starEach (e::es) X.env=(false,eval e X.env)::starEach es X.env:=by rfl) (hpl:(backTo pos (starEach es X.env)).any (·.1)=false:=by rfl):PE X (.Call (.Name x p) (e::es) [] pos) (zB sp [] E0 t):=qcd D hr ha hg hdb he hpl
end
def FA (K:Frag) (f:Ac) (x q:Str) (st:Stmt):Prop:=∃ (od:Option Ac) (kV dc pm:Ab) (an:Option Ac) (cd ct:Ab) (sl:Array (Option Ab)),K.lookup f=some ⟨.type "function",od,.func (PySem.W.fnOf x q (jL st) (zU st) (qo st) .none kV dc pm an cd ct),sl⟩∧PySem.W.codeIn K cd q=true∧PySem.W.keepIn K (.ref f)=true
theorem FA.fn {K:Frag} {f:Ac} {x q:Str} {st:Stmt} (h:FA K f x q st):∃ fd,Fun K x q st f fd∧PySem.W.keepIn K (.ref f)=true:=by
 obtain ⟨_,_,_,_,_,_,_,_,l,c,k⟩:=h;exact ⟨_,Qp l c k,k⟩
section
variable {K:Frag} {H:Hp} {v:V} {G:Prop} {s:Str} {d d1 d2 d3 d4 d5:Aa} {ds:List Aa} {ys:List V}
theorem Reps.ct (h:Reps K H ys (d::ds)) (k:∀ y ys',ys=y::ys'→Rep K H y d→Reps K H ys' ds→G):G:=by
 cases h with
 | cons h t=>exact k _ _ rfl h t
end
theorem big:(2000:Nat)<Af:=O0
theorem small {n:Nat} (h:n≤2000):n≤Af:=As h (Eb big)
theorem zq {s r:TS} {D:Ends} {σ:St} {H:Hp} (h:∀ D':Ends,(∀ σ H,r D σ H→D'.nx σ H)→(∀ v H,D.rt v H→D'.rt v H)→s D' σ H):jA s r D σ H:=h _ (fun _ _ q=>q) fun _ _ q=>q
theorem vv {c:TT} {t u:TS} {D:Ends} {σ:St} {H:Hp} (h:∀ B:Bool→Hp→Prop,(∀ H,t D σ H→B true H)→(∀ H,u D σ H→B false H)→c σ H B):JU c t u D σ H:=h _ (fun _ q=>zg rfl q) fun _ q=>zn rfl q
theorem bP {B:Bool→Hp→Prop} {b:Bool} {H:Hp} (e:b=true) (h:B true H):B b H:=e▸h
theorem bN {B:Bool→Hp→Prop} {b:Bool} {H:Hp} (e:b=false) (h:B false H):B b H:=e▸h
theorem Vw {α:Type} {l:List α} {i:Nat} (h:i<l.length):∃ x,l[i]?=some x:=⟨_,A4 h⟩
theorem Qu {α:Type} {l:List α} {i:Nat} {x:α} (h:l[i]?=some x):l.drop i=x::l.drop (i+1):=by
 obtain ⟨hi,rfl⟩:=B3.mp h;exact List.drop_eq_getElem_cons hi
theorem wh_g {X:(St→Hp→Prop)→Prop} {Z:St→Hp→Prop} (h:∀ N:St→Hp→Prop,(∀ σ H,Z σ H→N σ H)→X N):∃ N:St→Hp→Prop,(∀ σ H,N σ H→Z σ H)∧X N:=⟨Z,fun _ _ q=>q,h Z fun _ _ q=>q⟩
theorem gD {s:TS} {D:Ends} {σ:St} {H:Hp} (h:∀ D':Ends,(∀ σ H,D.nx σ H→D'.nx σ H)→(∀ v H,D.rt v H→D'.rt v H)→s D' σ H):s D σ H:=h D (fun _ _ q=>q) fun _ _ q=>q
def tNo:TS:=fun _ _ _=>False
section
variable {K:Frag} {x qual:Str} {st:Stmt} {f:Ac} {fd:FuncData}
theorem Fun.b1 (F:Fun K x qual st f fd) (p:Str) (h:∀ (kV doc pm:Ab) (an:Option Ac) (cdv ct a:Ab),bindArgs (PySem.W.fnOf x qual (jL st) (zU st) (qo st) .none kV doc pm an cdv ct) ⟨[a],[]⟩=pure [(p,a)]):Js K fd [p] []:=
 F.binds fun _ _ _ _ _ _ us hl=>match us,hl with | [_],_=>h ..
theorem Fun.b2 (F:Fun K x qual st f fd) (p q:Str) (h:∀ (kV doc pm:Ab) (an:Option Ac) (cdv ct a b:Ab),bindArgs (PySem.W.fnOf x qual (jL st) (zU st) (qo st) .none kV doc pm an cdv ct) ⟨[a,b],[]⟩=pure [(p,a),(q,b)]):Js K fd [p,q] []:=
 F.binds fun _ _ _ _ _ _ us hl=>match us,hl with | [_,_],_=>h ..
theorem Fun.b3 (F:Fun K x qual st f fd) (p q r:Str) (h:∀ (kV doc pm:Ab) (an:Option Ac) (cdv ct a b c:Ab),bindArgs (PySem.W.fnOf x qual (jL st) (zU st) (qo st) .none kV doc pm an cdv ct) ⟨[a,b,c],[]⟩=pure [(p,a),(q,b),(r,c)]):Js K fd [p,q,r] []:=
 F.binds fun _ _ _ _ _ _ us hl=>match us,hl with | [_,_,_],_=>h ..
theorem Fun.b4 (F:Fun K x qual st f fd) (p q r t:Str) (h:∀ (kV doc pm:Ab) (an:Option Ac) (cdv ct a b c d:Ab),bindArgs (PySem.W.fnOf x qual (jL st) (zU st) (qo st) .none kV doc pm an cdv ct) ⟨[a,b,c,d],[]⟩=pure [(p,a),(q,b),(r,c),(t,d)]):Js K fd [p,q,r,t] []:=
 F.binds fun _ _ _ _ _ _ us hl=>match us,hl with | [_,_,_,_],_=>h ..
end
section
variable {X:Cx}
theorem qa1:jb X (.type "str") (fun xs H Q=>(∃ x,xs=[.str x]∧Q (.str x) H)∨∃ i:Int,xs=[.int i]∧i.natAbs.log2<1920∧Q (.str (Str.ofString (toString i))) H):=by
 intro pins s σ H xs us Q I r h;rcases h with ⟨x,rfl,q⟩ | ⟨i,rfl,hi,q⟩
 ·obtain ⟨u,rfl,ru⟩:=jm r;obtain ⟨t,rfl⟩:=(show ∃ t,u=Value.str x t from ru);exact P.str_of_str ⟨.str x,H,I,⟨t,rfl⟩,q⟩
 ·obtain ⟨u,rfl,ru⟩:=jm r;obtain ⟨t,rfl⟩:=(show ∃ t,u=Value.int i t from ru);exact P.str_of_int hi ⟨.str _,H,I.tok _,⟨_,rfl⟩,q⟩
end
end L2
namespace L2
open PySem PySem.Spec PyProof.Rows
open Sem (wp)
open Builtin
theorem QK (l:Ac) (items:Array Ab) (n:Nat) (d:Option Ac) (sl:Array (Option Ab)) (x:Int) (u:Tok) (hc0:¬ (decide (x< -(2 ^ 63))||decide (x ≥ 2 ^ 63))=true) (hc1:¬ (items.isEmpty||x==1)=true) (hc2:¬ (decide (x≤0)||items.isEmpty)=true) (hc3:¬ (items.size:Int)*x>(2 ^ 63 - 1) / 8) (hc4:¬ Tuple.tupleTooMany ((items.size:Int)*x)=true)
  (hc5:(List.foldl (fun x1 x2=>x1++x2) #[] (List.replicate x.toNat items)).size≤Af):
  Meets (Builtin.«tuple.__mul__» ⟨[.ref l,.int x u],[]⟩) (fun _ R s=>s.heap.get? l=some {cls:= .type "tuple",dict:=d,data:= .seq items n,slots:=sl}∧R (.ok (.ret (Value.ref s.heap.objs.size))) {s with heap:=s.heap.push {cls:=Value.type "tuple",data:=Data.seq (List.foldl (fun x1 x2=>x1++x2) #[] (List.replicate x.toNat items))},toks:=s.toks}):=
 .of_wp fun prog w A R s h=>by
  obtain ⟨hp,g,d,tk,os⟩:=s;obtain ⟨hl,h⟩:=h;have f1:=AutoSeq1.idx_int;have f2:=AutoSeq1.sub_tuple_tuple
  wp_walk using Cv hl
  refine wpAny_ite_false (Al hc0) ?_
  wp_walk using Cv hl
  refine wpAny_ite_false (Al hc3) ?_
  wp_walk using Cv hl
  exact ⟨_,rfl,h⟩
theorem wy:fillsNumberSlot (.type "tuple") "mul"=pure false:=PySem.fillsNumberSlot_seq (id:="tuple.__mul__") (r:=some (.builtin "tuple.__rmul__")) F.slot_tuple_mul.lookup ∅ F.slot_tuple_rmul.lookup ∅
theorem VZ:seqRepeat? (.type "tuple")=pure (some (.builtin "tuple.__mul__")):=by
 unfold seqRepeat?;rw [PySem.seqSlot_of (T:="tuple") (name:="__mul__") (id:="tuple.__mul__") F.slot_tuple_mul.lookup ∅,PySem.seqSlot_of (T:="tuple") (name:="__rmul__") (id:="tuple.__rmul__") F.slot_tuple_rmul.lookup ∅];rfl
theorem yj (a:Int) (t:Tok) (l:Ac) (items:Array Ab) (n:Nat) (d:Option Ac) (sl:Array (Option Ab)):
  Meets (Builtin.«int.__rmul__» ⟨[.int a t,.ref l],[]⟩) (fun _ R s=>s.heap.get? l=some {cls:= .type "tuple",dict:=d,data:= .seq items n,slots:=sl}∧R (.ok (.ret Value.notImplemented)) s):=
 .of_wp fun prog w A R s h=>by obtain ⟨hp,g,d,tk,os⟩:=s;obtain ⟨hl,h⟩:=h;wp_walk using Cv hl;exact ⟨_,rfl,h⟩
def qd5 (K:Frag):R2:=fun x y H Q=>∃ a k xs,x= .ref a∧y= .int k∧SqT K H a xs∧xs≠[]∧2≤k∧k≤100∧xs.length≤100∧∀ p,H p=none→Q (.ref p) (upd H p (.tup (List.replicate k.toNat xs).flatten))
theorem Q9 {X:Cx}:OpR X (binaryOp .Mult) (qd5 X.K):=by
 intro pins s σ H x y v u Q I rx ry h;obtain ⟨a,k,xs,rfl,rfl,ha,hne,h1,h2,h3,q⟩:=h;cases rx;obtain ⟨t,rfl⟩:=ry;obtain ⟨its,r,⟨⟨oc,od,oda,osl⟩,e,hcl,n,hdd⟩,_⟩:=I.tuple ha;cases hcl;cases hdd;have hl:=r.length;have hni:its≠[]:=fun z=>hne (r.nil_iff.mp z);have hnew:List.foldl (fun x1 x2=>x1++x2) #[] (List.replicate k.toNat its.toArray)=(List.replicate k.toNat its).flatten.toArray:=by
  have z:=We its k.toNat [];rw [List.nil_append] at z;exact z
 have hk:k.toNat≤100:=⋯;have hm:k.toNat*its.length≤10000:=As (Nat.mul_le_mul hk (show its.length≤100 from ⋯)) O0;have hmi:(its.toArray.size:Int)*k≤10000:=by
  have e1:(its.toArray.size:Int)=(its.length:Int):=by rw [Ax]
  have e2:k=(k.toNat:Int):=⋯;rw [e1,e2,Int.mul_comm]
  exact_mod_cast hm
 have c0:¬ (decide (k< -(2 ^ 63))||decide (k ≥ 2 ^ 63))=true:=by
  rw [Al ⋯,Al ⋯];exact Am
 have ne:its.toArray.isEmpty=false:=by
  cases its with
  | nil=>exact absurd rfl hni
  | cons _ _=>rfl
 have c1:¬ (its.toArray.isEmpty||k==1)=true:=by
  rw [ne,show (k==1)=false from by rw [Bh];omega]
  exact Am
 have c2:¬ (decide (k≤0)||its.toArray.isEmpty)=true:=by
  rw [ne,Al ⋯];exact Am
 have c3:¬ (its.toArray.size:Int)*k>(2 ^ 63 - 1) / 8:=by
  have:(10000:Int)≤(2 ^ 63 - 1) / 8:=O0;omega
 have c4:¬ Tuple.tupleTooMany ((its.toArray.size:Int)*k)=true:=by
  unfold Tuple.tupleTooMany;have:(10000:Int)≤((Af:Nat):Int):=O0;rw [Bs];omega
 have hlen:(List.replicate k.toNat its).flatten.length≤10000:=by
  rw [WW];exact hm
 have c5:(List.foldl (fun x1 x2=>x1++x2) #[] (List.replicate k.toNat its.toArray)).size≤Af:=by
  rw [hnew,Ax];exact As hlen O0
 refine wpAny_binaryOp_repeat_ref (T:="tuple") (U:="int") O0 ⟨_,e,rfl⟩ (fun s'=>Ee s' k t) wy F.fills_int_mul F.slot_int_rmul VZ F.slot_int_index.lookup
  (En F.slot_int_rmul (Ee s k t) F.entry_int_rmul (F.args_int_rmul_2 _ _) (yj k t a its.toArray n od osl)
   ⟨e,rfl,⟨_,e,rfl⟩,En F.slot_tuple_mul ⟨_,e,rfl⟩ F.entry_tuple_mul (F.args_tuple_mul_2 _ _) (QK a its.toArray n od osl k t c0 c1 c2 c3 c4 c5) ⟨e,?_⟩⟩)
 rw [hnew];refine ⟨.ref s.heap.objs.size,_,I.laid (t':=s.toks) (o:= .tup (List.replicate k.toNat xs).flatten) (fun b ob z=>Ap _ z) (Aj _) ?_,rfl,q _ (I.hok.fresh (Aj _))⟩;refine ⟨?_,_,r.rep k.toNat,IsTup.new _ _⟩;rw [WW,hl];exact As hm O0
end L2
set_option tactic.hygienic true
namespace L2
open PySem PySem.Spec PyProof.Rows
section
variable {X:Cx} {K:Frag}
theorem Yk {sts:List Stmt}:PSs X sts tNo:=fun _ _ _ _ _ _ h=>h.elim
def teNo:TE:=fun _ _ _=>False
theorem qeh {e:Expr}:PE X e teNo:=fun _ _ _ _ _ _ h=>h.elim
def ZS (kvs more:List (Key×V)):List (Key×V):=more.foldl (fun acc p=>jx acc p.1 p.2) kvs
theorem KV.puts:∀ {more:List (Key×V)} {ms:List (Key×Ab)} {kvs:List (Key×V)} {vs:List (Key×Ab)},KV more ms→KV kvs vs→KV (ZS kvs more) (merged vs ms)
 | _,_,_,_,.nil,r=>r
 | p::more,q::ms,kvs,vs,.cons h t,r=>by
  obtain ⟨k,v⟩:=p;obtain ⟨k',u⟩:=q;obtain ⟨e,ru⟩:=h;cases e;exact KV.puts (more:=more) (ms:=ms) t (r.put k ru)
def qdt (td te:TE):TE:=fun σ H Q=>td σ H fun x H1=>∃ a,x= .ref a∧IsD H1 a∧te σ H1 fun y H2=>∃ b kvs more,y= .ref b∧a≠b∧H2 a=some (.dK kvs)∧H2 b=some (.dK more)∧kvs.length+more.length≤Af∧Q .non (upd H2 a (.dK (ZS kvs more)))
theorem Q5 {o e:Expr} {apos cpos:Pos} {td te:TE} (ho:PE X o td) (he:PE X e te) (m:M1 X o "update" apos e cpos):PE X (.Call (.Attribute o "update" apos) [e] [] cpos) (qdt td te):=by
 intro pins s σ H Q I h;refine wpAny_Call_method m.base m.few m.line PySem.F.plainAttrs_dict PySem.F.slot_dict_update PySem.F.type_dict_update (thn (ho pins s σ H _ I h) fun u s1 ⟨x,H1,I1,rx,a,ex,d,q1⟩=>?_);subst ex;obtain rfl:u=Value.ref a:=rx;obtain ⟨t1,t2,_⟩:=Qj I1 d;refine ⟨t1,t2,?_⟩;rw [m.trees];refine Calls.callWith_builtin rfl (D0 (Calls.spliced_cons (thn (he pins s1 σ H1 _ I1 q1) fun iv s2 ⟨y,H2,I2,ry,b,kvs,more,ey,ne,ha,hb,hz,q2⟩=>Calls.spliced_nil ?_)));subst ey;obtain rfl:iv=Value.ref b:=ry;obtain ⟨z,hd,vs,rel,dd⟩:=Xc I2.hok ha;obtain ⟨z',hd',ms,rel',dd'⟩:=Xc I2.hok hb;refine call_meetsIn PySem.F.slot_dict_update dd.typeIs PySem.F.entry_dict_update (PySem.F.args_dict_update_2 _ _) (meets_dict_update (zc X.prog X.w) a b ne hd')
  ⟨vs,ms,dd,dd',by rw [← rel.length,← rel'.length];exact hz,fun h' e1 _ hs=>⟨.non,_,?_,rfl,q2⟩⟩
 have hex:∃ q,h'.get? a=some q:=let ⟨q,_,_,hq,_⟩:=e1;⟨q,hq⟩;have hl:=merged_length_le vs ms;have rl:=KV.puts rel' rel;refine V7 (t':=s2.toks) I2 (by rw [ha];exact True.intro) hs hex (YC ?_ hd rl e1)
 rw [rl.length];rw [← rel.length,← rel'.length] at hl;omega
def yB:Ab→Bool
 | .none=>true
 | _=>false
def Z5:V→Bool
 | .non=>true
 | _=>false
def NoT (K:Frag) (H:Hp) (x:V):Prop:=x= .non∨∃ a ys,x= .ref a∧SqT K H a ys
theorem qbe (hK:X.K=K) (hu:X.A.units+64<cLine):OpR X (compareOp .In) (fun x y H Q=>∃ p xs,x= .non∧y= .ref p∧SqL K H p xs∧(∀ z∈xs,NoT K H z)∧Q (.bl (xs.any Z5)) H):=by
 subst hK;intro pins s σ H x y v u Q I rx ry h;obtain ⟨p,xs,rfl,rfl,hq,hx,q⟩:=h;cases ry;cases rx;obtain ⟨its,r,pl,hz⟩:=I.list hq;have key:∀ {xs:List V} {its:List Ab},qL xs its→(∀ z∈xs,NoT X.K H z)→its.any yB=xs.any Z5∧∀ y∈its,SeqAt.EqAt X.A.in1 s y .none (yB y):=by
  intro xs its r
  induction r with
  | nil=>exact fun _=>⟨rfl,fun y hy=>nomatch hy⟩
  | @cons z w zs ws h t ih=>
   intro hx;obtain ⟨e1,e2⟩:=ih fun a ha=>hx a (Au _ ha);rw [Co,Co,e1];rcases hx z A0 with rfl | ⟨a,ys,rfl,sq⟩
   ·cases h;refine ⟨rfl,fun y hy=>?_⟩;rcases Av.mp hy with rfl | hy
    ·intro prog w' E' Q' hq';show wpAny (model prog w') _ (pure true) Q' E' s;exact Ar hq'
    ·exact e2 y hy
   ·cases h;obtain ⟨its',_,pt,_⟩:=I.tuple sq;refine ⟨rfl,fun y hy=>?_⟩;rcases Av.mp hy with rfl | hy
    ·exact SeqAt.EqAt.tuple_none pt (by have:X.A.in1.units≤X.A.units+1:=(by first | exact Aj _ | simp [Around.in1,Around.units]);omega)
    ·exact e2 y hy
 obtain ⟨e1,e2⟩:=key r hx;refine SeqAt.in_listAt yB pl.isList (fun w hw=>e2 w (by simpa using hw)) ⟨.bl _,H,I,rfl,?_⟩
 rw [show its.toArray.any yB=its.any yB by simp,e1]
 exact q
def Mx (ns:List Int) (m:Int):Prop:=m∈ns∧∀ x∈ns,x≤m
theorem qcr (hK:X.K=K) (hc:X.calm=true):jb X (.builtin "max") (fun xs H Q=>∃ (a:Ac) (ns:List Int),xs=[.ref a]∧SqL K H a (ns.map V.int)∧ns≠[]∧∀ m,Mx ns m→Q (.int m) H):=by
 intro pins s σ H xs us Q I r h;subst hK;obtain ⟨a,ns,rfl,hq,hne,q⟩:=h;obtain ⟨u,rfl,ru⟩:=jm r;cases ru;obtain ⟨its,rv,p,hz⟩:=I.list hq;have hi:=V4 rv;obtain ⟨zs,e⟩:=hi.allInts.items;have hl:s.heap.IsList a (intItems zs):=e▸p.isList;have e2:zs.toList.map (·.1)=ns:=by rw [← nums_intItems,← e];exact hi.numsOf
 have hn:zs.size=ns.length:=by rw [← e2];simp
 have h0:0<ns.length:=List.length_pos_iff.mpr hne;have at_:∀ i (h:i<ns.length),numAt zs i=ns[i]:=fun i h=>by
  unfold numAt;have hz':i<zs.size:=hn▸h;rw [Array.getElem?_eq_getElem hz'];subst e2;simp
 refine max_intList (I.ok.hd hc) hl (hn▸h0) fun v h' tk hv kk=>?_;obtain ⟨h1,h2⟩:=argBest_gt (numAt zs) (zs.size - 1);obtain ⟨t,rfl⟩:=intItems_at hv;generalize argBest (fun i j=>decide (numAt zs i>numAt zs j)) (zs.size - 1)=b at h1 h2;have hb:b<ns.length:=⋯;refine ⟨.int ns[b],H,I.kept kk,⟨t,by rw [at_ b hb]⟩,q _ ⟨Dz hb,fun x hx=>?_⟩⟩
 obtain ⟨j,hj,rfl⟩:=List.mem_iff_getElem.mp hx;have:=h2 j ⋯
 rwa [at_ j hj,at_ b hb] at this
end
section
variable {P:Program} {w:World} {A:Around} {R:Result→Ae→Prop} {I:Ac} {fp wr:List Ac} {n:Nat} {Pv:Nat→Ab→Prop} {St:Nat→Heap→Prop}
def Best (num:Nat→Int) (j:Nat) (vs:Array Ab):Prop:=(j=0∧vs= #[])∨∃ m t,vs= #[.int m t,.int m t]∧(∃ i,i<j∧num i=m)∧∀ i,i<j→num i≤m
theorem Z8 (W:Walks P w A.in1 I fp wr n Pv St) (num:Nat→Int) (hv:∀ i v,Pv i v→∃ t,v= .int (num i) t) (S:Ac) (hSf:S∉fp) (d:Ab):
  ∀ (k j:Nat) (s:Ae) (vs:Array Ab) (c:Nat),n - j=k→j≤n→St j s.heap→Best num j vs→s.heap.get? S=some {cls:= .type "list",dict:=none,data:= .seq vs c,slots:= #[]}→
  (∀ v h' tk,(n=0∧v=d)∨(∃ m t,v= .int m t∧(∃ i,i<n∧num i=m)∧∀ i,i<n→num i≤m)→(∀ b o,b∉wr→b≠S→s.heap.get? b=some o→h'.get? b=some o)→R (.ok (.ret v)) {s with heap:=h',toks:=tk})→
  codeAny (model P w) A (.builtin "max.loop" ⟨[.ref I,.none,.ref S],[(Str.ofString "default",d)]⟩) R s:=by
 have hSw:S∉wr:=fun h=>hSf (W.sub _ h);have nm:(toString "max"++toString ".loop":String)="max.loop":=O0;intro k
 induction k with
 | zero=>
  intro j s vs c hk hj hst hb hS hR;obtain rfl:j=n:=⋯;refine Dq PySem.F.entry_max_loop ?_;rw [D5 Cn _];refine Ah (Cj hS rfl ?_);show wpAny _ A.in1 (tryCatch (pyNext (.ref I)) _>>=_) _ _ s;refine Ah (wpAny_tryCatch (W.done s _ _ hst fun h' tk hk'=>?_));have hS':=hk' S _ hSw hS;rcases hb with ⟨h0,rfl⟩ | ⟨m,t,rfl,hi,hm⟩
  ·refine Ah (wpAny_rule (Ar ?_));exact hR d h' tk (.inl ⟨h0,rfl⟩) fun b o hbw _ e=>hk' b o hbw e
  ·show wpAny _ A.in1 (updateSeq S (fun _=> #[])>>=_) _ _ _;refine Ah (wpAny_updateSeq hS' rfl (Ah (D9 (Ar ?_))));exact hR _ _ tk (.inr ⟨m,t,rfl,hi,hm⟩) fun b o hbw hbS e=>(B8 _ _ (Ne.symm hbS)).trans (hk' b o hbw e)
 | succ k ih=>
  intro j s vs c hk hj hst hb hS hR;have hlt:j<n:=⋯;refine Dq PySem.F.entry_max_loop ?_;rw [D5 Cn _];refine Ah (Cj hS rfl ?_);show wpAny _ A.in1 (tryCatch (pyNext (.ref I)) _>>=_) _ _ s;refine Ah (wpAny_tryCatch (W.item j s _ _ hlt hst fun v h' tk hP hst' hk'=>?_));have hS':=hk' S _ hSw hS;obtain ⟨t',rfl⟩:=hv j v hP;rcases hb with ⟨h0,rfl⟩ | ⟨m,t,rfl,⟨i,hi,em⟩,hm⟩
  ·subst h0;show wpAny _ A.in1 (updateSeq S (fun _=> #[.int (num 0) t',.int (num 0) t'])>>=_) _ _ _;refine Ah (wpAny_updateSeq hS' rfl ?_);rw [nm];refine Ar ⟨Ej Cn _,ih 1 _ _ _ ⋯ hlt (W.frame _ _ _ hst' fun b hbf o e=>?_) (.inr ⟨num 0,t',rfl,⟨0,⋯,rfl⟩,fun i hi=>?_⟩) (Dy _ hS' rfl) fun v' h2 tk2 hq hk2=>?_⟩
   ·exact (B8 _ _ (fun h:S=b=>hSf (by rw [h];exact hbf))).trans e
   ·obtain rfl:i=0:=⋯;exact Ei _
   ·exact hR v' h2 tk2 hq fun b o hbw hbS e=>hk2 b o hbw hbS ((B8 _ _ (Ne.symm hbS)).trans (hk' b o hbw e))
  ·show wpAny _ A.in1 (tryCatch (holding [.int (num j) t',.int (num j) t'] (richCompare .Gt (.int (num j) t') (.int m t)>>=_)) _>>=_) _ _ _;refine Ah (wpAny_tryCatch (B7 (Ah (richCompare_gives (op:= .Gt) (Ee _ _ t') (Ee _ _ t) PySem.F.slot_int_gt PySem.F.entry_int_gt (PySem.F.args_int_gt_2 _ _) (gives_int_gt _ _ t' t) (fun x=>nomatch x) ?_))));refine Ah (B7 (B0 ?_));refine Ah (D9 (Ar ?_));cases hb:decide (num j>m) with
   | true=>
    have hgt:=A1 hb;simp only [if_true];refine Ah (wpAny_updateSeq hS' rfl (Ah (D9 ?_)));rw [nm];refine Ar ⟨Ej Cn _,ih (j+1) _ _ _ ⋯ hlt (W.frame _ _ _ hst' fun b hbf o e=>?_) (.inr ⟨num j,t',rfl,⟨j,⋯,rfl⟩,fun i' hi'=>?_⟩) (Dy _ hS' rfl) fun v' h2 tk2 hq hk2=>?_⟩
    ·exact (B8 _ _ (fun h:S=b=>hSf (by rw [h];exact hbf))).trans e
    ·rcases Nat.lt_or_ge i' j with q | q
     ·have:=hm i' q;omega
     ·obtain rfl:i'=j:=⋯;exact Ei _
    ·exact hR v' h2 tk2 hq fun b o hbw hbS e=>hk2 b o hbw hbS ((B8 _ _ (Ne.symm hbS)).trans (hk' b o hbw e))
   | false=>
    have hle:=of_decide_eq_false hb;simp only [Bool.false_eq_true,if_false];refine Ah (D9 ?_);rw [nm];refine Ar ⟨Ej Cn _,ih (j+1) _ _ _ ⋯ hlt hst' (.inr ⟨m,t,rfl,⟨i,⋯,em⟩,fun i' hi'=>?_⟩) hS' fun v' h2 tk2 hq hk2=>?_⟩
    ·rcases Nat.lt_or_ge i' j with q | q
     ·exact hm i' q
     ·obtain rfl:i'=j:=⋯;omega
    ·exact hR v' h2 tk2 hq fun b o hbw hbS e=>hk2 b o hbw hbS (hk' b o hbw e)
end
section
variable {X:Cx} {K:Frag}
theorem X8 (a v:Ab):argsOk "max" ⟨[a],[(Str.ofString "default",v)]⟩:=by unfold argsOk;kernel_rfl
def qdr (K:Frag) (t tk:TA):TE:=fun σ H Q=>t σ H fun xs H1=>tk σ H1 fun ys H2=>∃ (a:Ac) (ns:List Int) (y:V),xs=[.ref a]∧ys=[y]∧SqL K H2 a (ns.map V.int)∧(ns=[]→Q y H2)∧∀ m,Mx ns m→Q (.int m) H2
theorem Q4 {e d:Expr} {p pos kpos:Pos} {t tk:TA} (hK:X.K=K) (hc:X.calm=true) (hm:X.mg "max"=none) (ha:PA X [e] t) (hd:PK X [⟨some "default",d,kpos⟩] tk) (hg:Gl X "max":=by rfl)
  (he:backTo pos (starEach [e] X.env)=(false,eval e X.env)::backTo pos (starEach [] X.env):=by rfl) (hp:(backTo pos (starEach [e] X.env)).any (·.1)=false:=by rfl)
  (h1:(backToKw pos (keywordEach [⟨some "default",d,kpos⟩] X.env)).all (·.1.isSome)=true:=by rfl) (h2:(backToKw pos (keywordEach [⟨some "default",d,kpos⟩] X.env)).any (·.1.isNone)=false:=by rfl)
  (h3:(backToKw pos (keywordEach [⟨some "default",d,kpos⟩] X.env)).filterMap (·.1)=[Str.ofString "default"]:=by rfl):
  PE X (.Call (.Name "max" p) [e] [⟨some "default",d,kpos⟩] pos) (qdr K t tk):=by
 subst hK;intro pins s σ H Q I h;refine Dr (Vv I hg hm YD ?_ O0 O0);refine PyProof.Rows.callWith_kw (thn (ha pos pins s σ H _ I h) fun us s1 ⟨vs,H1,I1,r,q⟩=>thn (hd pos pins s1 σ H1 _ I1 q) fun ws s2 ⟨zs,H2,I2,rz,a,ns,y,e1,e2,hq,q1,q2⟩=>?_) he hp h1 h2;subst e1 e2;rw [h3];obtain ⟨u,rfl,ru⟩:=jm r;obtain ⟨v,rfl,rv⟩:=jm rz;cases ru;obtain ⟨its,rvs,pl,hz⟩:=I2.list hq;have hi:=V4 rvs;obtain ⟨xs,e⟩:=hi.allInts.items;have hl:s2.heap.IsList a (intItems xs):=e▸pl.isList;have e2:xs.toList.map (·.1)=ns:=by rw [← nums_intItems,← e];exact hi.numsOf
 have hn:xs.size=ns.length:=by rw [← e2];simp
 have at_:∀ i (h:i<ns.length),numAt xs i=ns[i]:=fun i h=>by
  unfold numAt;have hz':i<xs.size:=hn▸h;rw [Array.getElem?_eq_getElem hz'];subst e2;simp
 have hlt:a<s2.heap.objs.size:=by obtain ⟨_,e,_⟩:=hl;exact Ay e
 refine kmk_tree PySem.F.kind_max PySem.F.plain_max PySem.F.entry_max (X8 _ _) ?_;show wpAny _ X.A.in1 (Builtin.Builtins.bindParams "max" ["key","default"] 0 ⟨[],[(Str.ofString "default",v)]⟩>>=_) _ _ s2;refine Ah (wpAny_of_eq (show Builtin.Builtins.bindParams "max" ["key","default"] 0 ⟨[],[(Str.ofString "default",v)]⟩=pure [none,some v] from rfl) (Ah (Ar ?_)));refine Ah (wpAny_pyIter_list hl ?_);refine Ah (wpAny_newList ?_ (A7 _));rw [show (toString "max"++toString ".loop":String)="max.loop" from O0];have hS:(s2.heap.push {cls:= .type "list_iterator",data:= .fields #[.ref a,.int 0 0]}).objs.size=s2.heap.objs.size+1:=C7 ..;have hne:a≠s2.heap.objs.size:=Bf hlt;refine Ar ⟨Ej Cn _,Z8 (Walks.list (A:=X.A.in1) (I2.ok.hd hc) _ a hne (intItems xs)) (numAt xs) (fun _ _=>intItems_at) _ (fun hm=>?_) v _ 0 _ #[] _ rfl (A7 _)
  ⟨⟨_,Ap _ (A6 _ rfl),rfl,rfl⟩,(hl.push _).push _⟩ (.inl ⟨rfl,rfl⟩) (A6 _ rfl) fun v' h' tk hv kk=>?_⟩
 ·rw [hS] at hm;rcases Av.mp hm with z | hm
  ·exact absurd z (Nat.succ_ne_self _)
  ·rcases Av.mp hm with z | hm
   ·exact absurd hlt (by rw [← z];exact Nat.not_lt.mpr (Nat.le_succ _))
   ·cases hm
 ·have hsz:(intItems xs).size=ns.length:=by rw [← hn];simp [intItems]
  rw [hsz] at hv;have kp:∀ b o,s2.heap.get? b=some o→h'.get? b=some o:=fun b o eb=>by
   have lb:b<s2.heap.objs.size:=Ay eb;refine kk b o (fun hm=>?_) (by rw [hS];exact Bf (Nat.lt_succ_of_lt lb)) (Ap _ (Ap _ eb))
   rcases Av.mp hm with z | hm
   ·exact absurd lb (by rw [z];exact C4 _)
   ·cases hm
  rcases hv with ⟨h0,rfl⟩ | ⟨m,t',rfl,⟨i,hi',em⟩,hm⟩
  ·exact ⟨y,H2,I2.kept kp,rv,q1 (List.length_eq_zero_iff.mp h0)⟩
  ·refine ⟨.int m,H2,I2.kept kp,⟨t',rfl⟩,q2 m ⟨?_,fun x hx=>?_⟩⟩
   ·rw [← em,at_ i hi'];exact Dz hi'
   ·obtain ⟨j,hj,rfl⟩:=List.mem_iff_getElem.mp hx;rw [← at_ j hj];exact hm j hj
theorem XG:MtR X "str.index" (fun x xs H Q=>∃ (a b:Str) (i:Nat) (rest:List Nat),x= .str a∧xs=[.str b]∧Builtin.Str.occurrences a b 0 a.length 1=i::rest∧Q (.int i) H):=by
 intro pins s σ H x xs v us Q I rx r h;obtain ⟨a,b,i,rest,rfl,rfl,ho,q⟩:=h;obtain ⟨u,rfl,ru⟩:=jm r;obtain ⟨t,rfl⟩:=rx;obtain ⟨t',rfl⟩:=ru;exact PySem.SC.index ho ⟨.int i,H,I.tok _,⟨_,rfl⟩,q⟩
end
def QU (K:Frag):R2:=fun x y H Q=>∃ (a b:Ac) (xs:List V),x= .ref a∧y= .ref b∧SqT K H a xs∧SqT K H b []∧Q (.bl xs.isEmpty) H
theorem yW {X:Cx} {K:Frag} (h:X.K=K) (hu:X.A.units+64<cLine):OpR X (compareOp .Eq) (QU K):=by
 subst h;intro pins s σ H x y v u Q I rx ry q;obtain ⟨a,b,xs,rfl,rfl,ha,hb,q⟩:=q;cases rx;cases ry;obtain ⟨its,rv,p,_⟩:=I.tuple ha;obtain ⟨itb,rb,pb,_⟩:=I.tuple hb;cases rb;have hu':X.A.units<cLine:=Bx (Nat.le_add_right _ _) hu;cases rv with
 | nil=>exact SeqAt.eq_tupleAt (e:=fun _=>true) p pb hu' (fun j h1 _=>absurd h1 (by simp)) (qO I q rfl)
 | cons r rr=>exact SeqAt.eq_tupleAt (e:=fun _=>true) p pb hu' (fun j _ h1=>absurd h1 (by simp)) (qO I q rfl)
end L2
namespace HT
open PySem PyProof.Rows
section
variable {prog:Program} {w:World} {A:Around} {E:Ab→Ae→Prop} {s:Ae}
theorem whole_cut {t sl:Ac} {its:Array Ab} {vl vu:Ab} {lo hi:Option Int} {Q:Ab→Ae→Prop} (ht:IsTup s.heap t its) (hs:s.heap.IsSliceOf sl vl vu .none) (pl:IsPart vl lo) (pu:IsPart vu hi)
  (h0:sIx its.size 0 lo=0) (h1:sIx its.size its.size hi=its.size) (h:Q (.ref t) s):wpAny (model prog w) A (getItem (.ref t) (.ref sl)) Q E s:=by
 obtain ⟨os,hos,hcs,hds⟩:=id hs;have hS:s.TypeIs (.ref sl) "slice":=⟨os,hos,hcs⟩;have hT:=ht.typeIs;unfold getItem
 try with_reducible refine B7 ?_
 first | refine Ah (Ar ?_) | skip
 refine Ah (wpAny_sequenceKey hT O0 (Ah (Ck (name:=Str.ofString "__getitem__") hT slot_tuple_getitem (Dm slot_tuple_getitem hT entry_tuple_getitem ?_ (args_tuple_getitem _ _)))));refine show wpAny _ _ (Builtin.Tuple.tupleItemsOf (.ref t)>>=_) _ _ s from Ah (tupleItemsOf_ ht (Ah (wpAny_typeOf hS ?_)));rw [if_pos O0];refine Ah (JB hs pl pu ?_);have yes:(((sIx its.size 0 lo:Nat):Int)==0&&(1:Int)==1&&(sIx its.size its.size hi - sIx its.size 0 lo)==its.size)=true:=by
  rw [h0,h1,Nat.sub_zero,Ao,Ao];exact ⟨⟨rfl,rfl⟩,C6 _⟩
 refine show wpAny _ _ (if (((sIx its.size 0 lo:Nat):Int)==0&&(1:Int)==1&&(sIx its.size its.size hi - sIx its.size 0 lo)==its.size)=true then _ else _) _ _ s from ?_
 rw [if_pos yes];obtain ⟨o,ho,hc,hd⟩:=id ht;refine Ah ?_;unfold Builtin.Tuple.tupleIsExact;refine Ah (wpAny_typeOf hT ?_);refine Ar ?_;rw [if_pos (C6 _)];exact Ah (wpAny_rule (Ar ⟨_,rfl,Ar h⟩))
end
end HT
namespace L2
open PySem PySem.Spec PyProof.Rows
open Sem (wp)
open Builtin
section
variable {X:Cx} {K:Frag}
theorem vX {H:Hp} {p:Ac} (h:H p=none) (o:HO):qp H (upd H p o):=fun b u q=>by rw [qB fun z=>by rw [z,h] at q;cases q];exact q
def qdn:Aa→Str
 | .str x=>x
 | d=>d.shown
theorem Zp (hK:X.K=K) (hg:X.A.guards=some []) (hu:X.A.units+80<cLine):jb X (.type "str") (fun xs H Q=>∃ (x:V) (d:Aa),xs=[x]∧Rep K H x d∧d.showable=true∧d.hasDict=false∧d.depth≤64∧d.shown.length≤Af∧Q (.str (qdn d)) H):=by
 intro pins s σ H xs us Q I r h;obtain ⟨x,d,rfl,hr,hs,hd,hdp,hz,q⟩:=h;cases hr with
 | non=>
  obtain ⟨u,rfl,ru⟩:=jm r;cases ru;exact P.str_of_none ⟨.str _,H,I.tok _,⟨_,rfl⟩,q⟩
 | bl b=>
  obtain ⟨u,rfl,ru⟩:=jm r;cases ru;refine P.str_of_bool ⟨.str _,H,I.tok _,⟨_,rfl⟩,?_⟩;cases b <;> exact q
 | int i=>
  refine qa1 pins s σ H _ us Q I r (.inr ⟨i,rfl,?_,q⟩);rw [PyData.showable] at hs;exact A1 hs
 | str y=>exact qa1 pins s σ H _ us Q I r (.inl ⟨y,rfl,q⟩)
 | lst a b=>exact qa2 hK hg hu pins s σ H _ us Q I r ⟨_,_,rfl,.lst a b,hs,hd,hdp,hz,q⟩
 | tup a b=>exact qa2 hK hg hu pins s σ H _ us Q I r ⟨_,_,rfl,.tup a b,hs,hd,hdp,hz,q⟩
def wT (K:Frag):R2:=fun x y H Q=>∃ a b xs ys,x= .ref a∧y= .ref b∧SqT K H a xs∧SqT K H b ys∧xs.length+ys.length≤Af∧∀ c H',qp H H'→SqT K H' c (xs++ys)→Q (.ref c) H'
theorem qac:OpR X (binaryOp .Add) (wT X.K):=by
 intro pins s σ H x y v u Q I rx ry h;obtain ⟨a,b,xs,ys,rfl,rfl,ha,hb,hz,q⟩:=h
 by_cases hx:xs=[]
 ·subst hx;cases rx;cases ry;obtain ⟨its,r1,p1,_⟩:=I.tuple ha;obtain ⟨its2,r2,p2,_⟩:=I.tuple hb;obtain ⟨⟨cls,dd,data,sl⟩,ho,hc,n,hd⟩:=id p1;obtain ⟨⟨cls2,dd2,data2,sl2⟩,ho2,hc2,n2,hd2⟩:=id p2;simp only at hc hd hc2 hd2;subst hc hd hc2 hd2;have e0:its=[]:=r1.nil_iff.mpr rfl;subst e0;exact concat_meets ⟨_,ho,rfl⟩ ⟨_,ho2,rfl⟩ PySem.noFill_tuple_add PySem.seq_tuple_add PySem.F.slot_tuple_add PySem.F.entry_tuple_add (PySem.F.args_tuple_add_2 _ _)
   (tuple_addW0 a b #[] its2.toArray n n2 dd dd2 sl sl2 rfl) ⟨ho,ho2,⟨.ref b,H,I,rfl,q b H (qp.refl _) hb⟩⟩
 ·refine qab pins s σ H _ _ v u Q I rx ry ⟨a,b,xs,ys,rfl,rfl,ha,hb,hx,hz,fun e=>?_,fun e p hp=>q p _ (vX hp _) (SqT.of upd_same)⟩;subst e;rw [By] at q;exact q a H (qp.refl _) ha
theorem zS (hK:X.K=K):OpR X (binaryOp .Add) (fun x y H Q=>vz x y H Q∨wT K x y H Q):=hK▸qY.or qac
theorem Qe (hK:X.K=K):jb X (.type "list") (fun xs H Q=>∃ p ys,xs=[.ref p]∧(SqL K H p ys∨SqT K H p ys)∧∀ l,H l=none→Q (.ref l) (upd H l (.lst ys))):=hK▸W7
def qd0 (K:Frag):V→Option Int→Option Int→Hp→VK→Prop:=fun x lo hi H Q=>∃ a xs,x= .ref a∧SqT K H a xs∧∀ c H',qp H H'→SqT K H' c (JP xs lo hi)→Q (.ref c) H'
theorem ZJ (hK:X.K=K):SlR X (qd0 K):=by
 subst hK;intro pins s σ H x v vl vu lo hi sl Q I rx hs pl pu h;obtain ⟨a,xs,rfl,hx,q⟩:=h
 by_cases hw:HT.sIx xs.length 0 lo=0∧HT.sIx xs.length xs.length hi=xs.length
 ·cases rx;obtain ⟨its,r,ht,hz⟩:=I.tuple hx;have hlen:its.toArray.size=xs.length:=by rw [Ax];exact r.length.symm
  refine ⟨"tuple",_,slot_tuple_getitem.lookup,ht.typeIs,HT.whole_cut ht hs pl pu (by rw [hlen];exact hw.1) (by rw [hlen];exact hw.2) ⟨.ref a,H,I,rfl,q a H (qp.refl _) ?_⟩⟩
  have e:JP xs lo hi=xs:=by
   unfold JP;rw [hw.1,hw.2,Dx,Nat.sub_zero,Bv]
  rw [e];exact hx
 ·exact ZK pins s σ H _ v vl vu lo hi sl Q I rx hs pl pu ⟨a,xs,rfl,hx,hw,fun p hp=>q p _ (vX hp _) (SqT.of upd_same)⟩
end
theorem Zh (l:Ac) (items:Array Ab) (n:Nat) (d:Option Ac) (sl:Array (Option Ab)) (u:Tok):
  Meets (Builtin.«tuple.__mul__» ⟨[.ref l,.int 1 u],[]⟩) (fun _ R s=>s.heap.get? l=some {cls:= .type "tuple",dict:=d,data:= .seq items n,slots:=sl}∧R (.ok (.ret (.ref l))) s):=
 .of_wp fun prog w A R s h=>by
  obtain ⟨hp,g,d,tk,os⟩:=s;obtain ⟨hl,h⟩:=h;have hc:(items.isEmpty||(1:Int)==1)=true:=by rw [C6,Bool.or_true]
  have f1:=AutoSeq1.idx_int;have f2:=AutoSeq1.sub_tuple_tuple
  wp_walk using Cv hl
  exact ⟨_,rfl,h⟩
theorem Zi (l:Ac) (items:Array Ab) (n:Nat) (d:Option Ac) (sl:Array (Option Ab)) (x:Int) (u:Tok) (hc0:¬ (decide (x< -(2 ^ 63))||decide (x ≥ 2 ^ 63))=true) (hc1:¬ (items.isEmpty||x==1)=true) (hc2:(decide (x≤0)||items.isEmpty)=true):
  Meets (Builtin.«tuple.__mul__» ⟨[.ref l,.int x u],[]⟩) (fun _ R s=>s.heap.get? l=some {cls:= .type "tuple",dict:=d,data:= .seq items n,slots:=sl}∧R (.ok (.ret (Value.ref s.heap.objs.size))) {s with heap:=s.heap.push {cls:=Value.type "tuple",data:=Data.seq #[]},toks:=s.toks}):=
 .of_wp fun prog w A R s h=>by
  obtain ⟨hp,g,d,tk,os⟩:=s;obtain ⟨hl,h⟩:=h;have f1:=AutoSeq1.idx_int;have f2:=AutoSeq1.sub_tuple_tuple
  wp_walk using Cv hl
  refine wpAny_ite_false (Al hc0) ?_
  wp_walk using Cv hl
  exact ⟨_,rfl,h⟩
def qa8 (K:Frag):R2:=fun x y H Q=>∃ a k xs,x= .ref a∧y= .int k∧SqT K H a xs∧xs≠[]∧0≤k∧k≤100∧xs.length≤100∧∀ c H',qp H H'→SqT K H' c (List.replicate k.toNat xs).flatten→Q (.ref c) H'
theorem Vt {X:Cx} {K:Frag} (hK:X.K=K):OpR X (binaryOp .Mult) (qa8 K):=by
 subst hK;intro pins s σ H x y v u Q I rx ry h;obtain ⟨a,k,xs,rfl,rfl,ha,hne,h1,h2,h3,q⟩:=h
 by_cases k2:2≤k
 ·exact Q9 pins s σ H _ _ v u Q I rx ry ⟨a,k,xs,rfl,rfl,ha,hne,k2,h2,h3,fun p hp=>q p _ (vX hp _) (SqT.of upd_same)⟩
 cases rx;obtain ⟨t,rfl⟩:=ry;obtain ⟨its,r,⟨⟨oc,od,oda,osl⟩,e,hcl,n,hdd⟩,_⟩:=I.tuple ha;cases hcl;cases hdd;have hni:its≠[]:=fun z=>hne (r.nil_iff.mp z);have road:∀ {S:PySem.Spec},Meets (Builtin.«tuple.__mul__» ⟨[.ref a,.int k t],[]⟩) S→S X.A (wants (EP X pins σ Q) X.xe) s→wpAny (model X.prog X.w) X.A (binaryOp .Mult (.ref a) (.int k t)) (EP X pins σ Q) X.xe s:=fun g z=>
  wpAny_binaryOp_repeat_ref (T:="tuple") (U:="int") O0 ⟨_,e,rfl⟩ (fun s'=>Ee s' k t) wy F.fills_int_mul F.slot_int_rmul VZ F.slot_int_index.lookup
   (En F.slot_int_rmul (Ee s k t) F.entry_int_rmul (F.args_int_rmul_2 _ _) (yj k t a its.toArray n od osl) ⟨e,rfl,⟨_,e,rfl⟩,En F.slot_tuple_mul ⟨_,e,rfl⟩ F.entry_tuple_mul (F.args_tuple_mul_2 _ _) g z⟩)
 by_cases k0:k=0
 ·subst k0;have c1:¬ (its.toArray.isEmpty||(0:Int)==1)=true:=by
   cases its with
   | nil=>exact absurd rfl hni
   | cons _ _=>exact Am
  refine road (Zi a its.toArray n od osl 0 t O0 c1 rfl) ⟨e,?_⟩;refine ⟨.ref s.heap.objs.size,_,I.laid (t':=s.toks) (o:= .tup []) (fun b ob z=>Ap _ z) (Aj _) ?_,rfl,q _ _ (vX (I.hok.fresh (Aj _)) _) (SqT.of upd_same)⟩;exact ⟨A7 _,[],.nil,IsTup.new _ _⟩
 ·have k1:k=1:=⋯;subst k1;refine road (Zh a its.toArray n od osl t) ⟨e,⟨.ref a,H,I,rfl,q a H (qp.refl _) ?_⟩⟩;show SqT X.K H a (xs++[]);rw [By];exact ha
end L2
set_option tactic.hygienic false
namespace Bud
def PT (n:Nat) (deep k l:Int):Prop:=deep≤(n:Int)∧0≤k∧k+4*l≤1000 - 10*(n:Int)∧2000*(n:Int) - 30500≤l∧n≤10
def PB (n:Nat) (deep k l:Int):Prop:=deep≤(n:Int)∧0≤k∧k+4*l≤999 - 10*(n:Int)∧2000*(n:Int) - 29000≤l∧n≤10
def PS (n:Nat) (deep k l:Int):Prop:=deep≤(n:Int)∧0≤k∧k+4*l≤1000 - 10*(n:Int)∧2000*(n:Int) - 30000≤l∧n≤10
def BT (n:Nat) (deep k l:Int) (s t:Nat) (k' l':Int):Prop:=(s:Int)=l - l'∧t≤n+2∧k'+4*l'≤k+4*l∧k≤k'∧(l≤0→l - 1≤l')∧(0<l→ -(16*(n:Int)+1)≤l')∧(deep<1→t=1)
def BB (n:Nat) (k l:Int) (s t:Nat) (k' l':Int):Prop:=(s:Int)=l - l'∧t≤n+2∧k'+4*l'≤k+4*l+1∧k≤k'∧(l≤0→l - 6≤l')∧(0<l→ -(16*(n:Int)+5)≤l')
def BS (n:Nat) (k l:Int) (s t:Nat) (k' l':Int):Prop:=(s:Int)=l - l'∧t≤n+2∧k'+4*l'≤k+4*l∧k≤k'∧(l≤0→l - 2≤l')∧(0<l→ -(16*(n:Int)+1)≤l')
section
variable {n m i s s1 s2 s3 t t1 t2 t3:Nat} {deep k l k1 l1 k2 l2 k3 l3 k' l':Int}
theorem yd {a b c:Int} {x y:Nat} (h:(x:Int)=a - b) (g:(y:Int)=b - c):((x+y:Nat):Int)=a - c:=⋯
theorem ye {a c:Int} {x:Nat} (h:(x:Int)=a - 1 - c):((x+1:Nat):Int)=a - c:=⋯
theorem kl3 {a:Int} (h:a≤k+1+4*(l - 1)):a≤k+4*l - 3:=⋯
theorem ge3 {a b:Int} (h:a≤b - 3):a≤b:=⋯
theorem le1 {a b:Int} (h:a+1≤b):a≤b:=⋯
def BI (n:Nat) (k l:Int) (i:Nat) (s t:Nat) (k' l':Int):Prop:=(s:Int)=l - l'∧t≤n+2∧k'+4*l'≤k+1+4*l∧k+1≤k'∧(l≤0→l - 2*i≤l')∧(0<l→ -(16*(n:Int)+1) - 2*i≤l' - 2)
theorem BI.nil:BI n k l 0 0 0 (k+1) l:=⟨(Int.sub_self l).symm,A7 _,Ei _,Ei _,⋯,⋯⟩
theorem BI.pre (p:PB n deep k l) (h:BI n k l i s t k' l') (hi:i<3):PS n deep k' l':=by
 obtain ⟨p1,p2,p3,p4,p5⟩:=p;obtain ⟨_,_,h3,h4,h5,h6⟩:=h;exact ⟨p1,Bo p2 (le1 h4),by clear p4 h5 h6;omega,by clear p3 h3 h4;omega,p5⟩
theorem BI.snoc (h:BI n k l i s t k' l') (b:BS n k' l' s2 t2 k2 l2):BI n k l (i+1) (s+s2) (max t t2) k2 l2:=by
 obtain ⟨h1,h2,h3,h4,h5,h6⟩:=h;obtain ⟨b1,b2,b3,b4,b5,b6⟩:=b;refine ⟨yd h1 b1,Dc.mpr ⟨h2,b2⟩,Bo b3 h3,Bo h4 b4,?_,?_⟩
 all_goals clear h2 h3 h4 b1 b2 b3 b4;omega
theorem BI.out (h:BI n k l i s t k' l') (hi:i≤3):BB n k l s t k' l':=by
 obtain ⟨h1,h2,h3,h4,h5,h6⟩:=h;refine ⟨h1,h2,by clear h5 h6;omega,le1 h4,?_,?_⟩
 all_goals clear h1 h2 h3 h4;omega
def S (n:Nat) (deep k l:Int):Prop:=deep - 1≤(n:Int)∧0≤k∧k+4*l - 3≤987 - 10*(n:Int)∧0≤l - 1∧1≤deep∧n≤9
theorem BT.one:BT n deep k l 1 1 (k+1) (l - 1):=⟨⋯,Nat.le_add_left 1 (n+1),⋯,⋯,fun _=>Ei _,⋯,fun _=>rfl⟩
def Mid (n:Nat) (k1 l1:Int):Prop:=0≤k1∧k1+4*l1≤987 - 10*(n:Int)∧ -200≤l1
theorem Mid.pb (c:Mid n k1 l1) (h1:deep - 1≤(n:Int)) (h6:n≤9):PB n (deep - 1) k1 l1:=by
 obtain ⟨c1,c2,c3⟩:=c;exact ⟨h1,c1,⋯,⋯,Eg h6⟩
theorem PB.pt (c:PB n deep k l):PT n deep k l:=by
 obtain ⟨c1,c2,c3,c4,c5⟩:=c;exact ⟨c1,c2,⋯,⋯,c5⟩
theorem S.pb (h:S n deep k l):PB n (deep - 1) (k+1) (l - 1):=by
 obtain ⟨h1,h2,h3,h4,_,h6⟩:=h;exact Mid.pb ⟨⋯,⋯,⋯⟩ h1 h6
theorem S.pt (h:S n deep k l):PT n (deep - 1) (k+1) (l - 1):=h.pb.pt
theorem low {a:Int} (h:0≤l) (b:l≤0→l - 1≤a) (c:0<l→ -(16*(n:Int)+1)≤a): -(16*(n:Int)+1)≤a:=⋯
theorem S.low (h:S n deep k l) (b:BT n (deep - 1) (k+1) (l - 1) s1 t1 k1 l1): -(16*(n:Int)+1)≤l1:=Bud.low h.2.2.2.1 b.2.2.2.2.1 b.2.2.2.2.2.1
theorem S.mid (h:S n deep k l) (b:BT n (deep - 1) (k+1) (l - 1) s1 t1 k1 l1):Mid n k1 l1:=by
 have c:=h.low b;have h6:=h.2.2.2.2.2;exact ⟨Bo h.2.1 (le1 b.2.2.2.1),Bo (kl3 b.2.2.1) h.2.2.1,⋯⟩
theorem S.pb1 (h:S n deep k l) (b:BT n (deep - 1) (k+1) (l - 1) s1 t1 k1 l1):PB n (deep - 1) k1 l1:=(h.mid b).pb h.1 h.2.2.2.2.2
theorem S.pt1 (h:S n deep k l) (b:BT n (deep - 1) (k+1) (l - 1) s1 t1 k1 l1):PT n (deep - 1) k1 l1:=(h.pb1 b).pt
theorem no0 {P:Prop} (h:0≤l - 1) (g:l≤0):P:=⋯
theorem no1 {P:Prop} (h:1≤deep) (g:deep<1):P:=absurd h (Int.not_le.mpr g)
theorem two_ (z: -(16*(n:Int)+1)≤l1) (c:l1≤0→l1 - 1≤l2) (c':0<l1→ -(16*(n:Int)+1)≤l2): -(16*((n+1:Nat):Int)+1)≤l2:=⋯
theorem S.two (h:S n deep k l) (b:BT n (deep - 1) (k+1) (l - 1) s1 t1 k1 l1) (c:BT n (deep - 1) k1 l1 s2 t2 k2 l2):BT (n+1) deep k l (s1+s2+1) (max t1 t2+1) k2 l2:=
 ⟨ye (yd b.1 c.1),B2 (Dc.mpr ⟨b.2.1,c.2.1⟩),ge3 (Bo c.2.2.1 (kl3 b.2.2.1)),le1 (Bo b.2.2.2.1 c.2.2.2.1),fun g=>no0 h.2.2.2.1 g,fun _=>two_ (h.low b) c.2.2.2.2.1 c.2.2.2.2.2.1,no1 h.2.2.2.2.1⟩
theorem fn_ (b:l - 1≤0→l - 1 - 6≤l1) (c:0<l - 1→ -(16*(n:Int)+5)≤l1) (h:0≤l - 1): -(16*((n+1:Nat):Int)+1)≤l1:=⋯
theorem S.fn (h:S n deep k l) (b:BB n (k+1) (l - 1) s1 t1 k1 l1):BT (n+1) deep k l (s1+1) (t1+1) k1 l1:=
 ⟨ye b.1,B2 b.2.1,by have:=b.2.2.1;omega,le1 b.2.2.2.1,fun g=>no0 h.2.2.2.1 g,fun _=>fn_ b.2.2.2.2.1 b.2.2.2.2.2 h.2.2.2.1,no1 h.2.2.2.2.1⟩
def CI (n:Nat) (k l:Int) (s1 i s t:Nat) (k' l':Int):Prop:=((s1+s:Nat):Int)=l - 1 - l'∧t≤n+2∧k'+4*l'≤k+4*l - 3∧k+1≤k'∧ -(16*(n:Int)+1) - i≤l'
theorem CI.nil (h:S n deep k l) (b:BT n (deep - 1) (k+1) (l - 1) s1 t1 k1 l1):CI n k l s1 0 0 0 k1 l1:=⟨b.1,A7 _,kl3 b.2.2.1,b.2.2.2.1,by have:=h.low b;omega⟩
theorem CI.pre (h:S n deep k l) (c:CI n k l s1 i s t k' l') (hi:i≤4):PT n (deep - 1) k' l':=by
 have h6:=h.2.2.2.2.2;have c5:=c.2.2.2.2;exact (Mid.pb (⟨Bo h.2.1 (le1 c.2.2.2.1),Bo c.2.2.1 h.2.2.1,⋯⟩:Mid n k' l') h.1 h6).pt
theorem CI.snoc (c:CI n k l s1 i s t k' l') (b:BT n (deep - 1) k' l' s2 t2 k2 l2):CI n k l s1 (i+1) (s+s2) (max t t2) k2 l2:=
 ⟨by rw [← Nat.add_assoc];exact yd c.1 b.1,Dc.mpr ⟨c.2.1,b.2.1⟩,Bo b.2.2.1 c.2.2.1,Bo c.2.2.2.1 b.2.2.2.1,by
  have c5:=c.2.2.2.2;have b5:=b.2.2.2.2.1;have b6:=b.2.2.2.2.2.1;omega⟩
theorem CI.out (h:S n deep k l) (b:BT n (deep - 1) (k+1) (l - 1) s1 t1 k1 l1) (c:CI n k l s1 i s t k' l') (hi:i≤4):BT (n+1) deep k l (s1+s+1) (max t1 t+1) k' l':=
 ⟨ye c.1,B2 (Dc.mpr ⟨b.2.1,c.2.1⟩),ge3 c.2.2.1,le1 c.2.2.2.1,fun g=>no0 h.2.2.2.1 g,fun _=>by have c5:=c.2.2.2.2;omega,no1 h.2.2.2.2.1⟩
def Near (n m:Nat):Prop:=m≤n∧(n=0∨n=m+1)
theorem PS.pt (p:PS n deep k l) (z:Near n m):PT m (deep - 1) (k+1) (l - 1):=by
 obtain ⟨p1,p2,p3,p4,p5⟩:=p;obtain ⟨z1,z2⟩:=z;exact ⟨by clear p3 p4;omega,⋯,by clear p1 p4;omega,by clear p1 p3;omega,As z1 p5⟩
theorem PS.one (p:PS n deep k l) (z:Near n m) (b:BT m (deep - 1) (k+1) (l - 1) s1 t1 k1 l1):BS n k l (s1+1) (t1+1) k1 l1:=by
 obtain ⟨p1,_,_,_,_⟩:=p;obtain ⟨z1,z2⟩:=z;obtain ⟨b1,b2,b3,b4,b5,b6,b7⟩:=b;exact ⟨ye b1,by clear b1 b3 b4 b5 b6;omega,ge3 (kl3 b3),le1 b4,fun g=>by clear b1 b2 b3 b4 b6 b7;omega,fun g=>by clear b1 b2 b3 b4 b7 p1;omega⟩
theorem PS.many (p:PS (n+1) deep k l) (h:0≤l - 1) (d:1≤deep):S n deep k l:=by
 obtain ⟨p1,p2,p3,_,p5⟩:=p;exact ⟨⋯,p2,⋯,h,d,Dv p5⟩
theorem PT.many (p:PT (n+1) deep k l) (h:0≤l - 1) (d:1≤deep):S n deep k l:=by
 obtain ⟨p1,p2,p3,_,p5⟩:=p;exact ⟨⋯,p2,⋯,h,d,Dv p5⟩
theorem wh_ {a:Int} (h:a≤k1+4*l1+1) (g:k1+4*l1≤k+4*l - 3):a≤k+4*l - 2:=⋯
theorem ge2 {a b:Int} (h:a≤b - 2):a≤b:=⋯
theorem bb_ (z: -(16*(n:Int)+1)≤l1) (c:l1≤0→l1 - 6≤l2) (c':0<l1→ -(16*(n:Int)+5)≤l2): -(16*(n:Int)+7)≤l2:=⋯
theorem bb2_ (z: -(16*(n:Int)+7)≤l1) (c:l1≤0→l1 - 6≤l2) (c':0<l1→ -(16*(n:Int)+5)≤l2): -(16*((n+1:Nat):Int)+1)≤l2:=⋯
theorem wh2_ {a:Int} (h:a≤k1+4*l1+1) (g:k1+4*l1≤k+4*l - 2):a≤k+4*l:=⋯
theorem S.wh (h:S n deep k l) (b:BT n (deep - 1) (k+1) (l - 1) s1 t1 k1 l1) (c:BB n k1 l1 s2 t2 k2 l2):BS (n+1) k l (s1+s2+1) (max t1 t2+1) k2 l2:=
 ⟨ye (yd b.1 c.1),B2 (Dc.mpr ⟨b.2.1,c.2.1⟩),ge2 (wh_ c.2.2.1 (kl3 b.2.2.1)),le1 (Bo b.2.2.2.1 c.2.2.2.1),fun g=>no0 h.2.2.2.1 g,fun _=>by have:=bb_ (h.low b) c.2.2.2.2.1 c.2.2.2.2.2;omega⟩
theorem S.pb2 (h:S n deep k l) (b:BT n (deep - 1) (k+1) (l - 1) s1 t1 k1 l1) (c:BB n k1 l1 s2 t2 k2 l2):PB n (deep - 1) k2 l2:=by
 have z:=bb_ (h.low b) c.2.2.2.2.1 c.2.2.2.2.2;have w:=wh_ c.2.2.1 (kl3 b.2.2.1);have h3:=h.2.2.1;have h6:=h.2.2.2.2.2;exact ⟨h.1,Bo (Bo h.2.1 (le1 b.2.2.2.1)) c.2.2.2.1,by clear z;omega,by clear w h3;omega,Eg h6⟩
theorem S.if_ (h:S n deep k l) (b:BT n (deep - 1) (k+1) (l - 1) s1 t1 k1 l1) (c:BB n k1 l1 s2 t2 k2 l2) (e:BB n k2 l2 s3 t3 k3 l3):BS (n+1) k l (s1+(s2+s3)+1) (max t1 (max t2 t3)+1) k3 l3:=
 ⟨ye (yd b.1 (yd c.1 e.1)),B2 (Dc.mpr ⟨b.2.1,Dc.mpr ⟨c.2.1,e.2.1⟩⟩),wh2_ e.2.2.1 (wh_ c.2.2.1 (kl3 b.2.2.1)),le1 (Bo (Bo b.2.2.2.1 c.2.2.2.1) e.2.2.2.1),fun g=>no0 h.2.2.2.1 g,
  fun _=>bb2_ (bb_ (h.low b) c.2.2.2.2.1 c.2.2.2.2.2) e.2.2.2.2.1 e.2.2.2.2.2⟩
theorem S.one (h:S n deep k l) (b:BT n (deep - 1) (k+1) (l - 1) s1 t1 k1 l1):BS (n+1) k l (s1+1) (t1+1) k1 l1:=by
 have z:=h.low b;exact ⟨ye b.1,B2 b.2.1,ge3 (kl3 b.2.2.1),le1 b.2.2.2.1,fun g=>no0 h.2.2.2.1 g,fun _=>⋯⟩
def TI (n:Nat) (k l:Int) (i s:Nat) (k' l':Int):Prop:=(s:Int)=l - 1 - l'∧k'+4*l'≤k+4*l - 3+i∧k+1≤k'∧ -(16*(n:Int) - 1) - 6*(i:Int)≤l'
theorem TI.nil (h:S n deep k l) (hn:1≤n):TI n k l 0 0 (k+1) (l - 1):=⟨(Int.sub_self _).symm,⋯,Ei _,by have:=h.2.2.2.1;omega⟩
theorem TI.pre (h:S n deep k l) (c:TI n k l i s k' l') (hi:i<3):PB n (deep - 1) k' l':=by
 have h3:=h.2.2.1;have h6:=h.2.2.2.2.2;have c2:=c.2.1;have c4:=c.2.2.2;exact ⟨h.1,Bo h.2.1 (le1 c.2.2.1),by clear c4;omega,by clear c2 h3;omega,Eg h6⟩
theorem TI.snoc (c:TI n k l i s k' l') (b:BB n k' l' s2 t2 k2 l2):TI n k l (i+1) (s+s2) k2 l2:=by
 have c2:=c.2.1;have c4:=c.2.2.2;have b3:=b.2.2.1;have b5:=b.2.2.2.2.1;have b6:=b.2.2.2.2.2;exact ⟨yd c.1 b.1,by clear c4 b5 b6;omega,Bo c.2.2.1 b.2.2.2.1,by clear c2 b3;omega⟩
theorem TI.out (h:S n deep k l) (c:TI n k l 3 s k' l') (e:s1+(s2+s3)=s) (e1:t1≤n+2) (e2:t2≤n+2) (e3:t3≤n+2):BS (n+1) k l (s1+(s2+s3)+1) (max t1 (max t2 t3)+1) k' l':=by
 subst e;have c2:=c.2.1;have c4:=c.2.2.2;exact ⟨ye c.1,B2 (Dc.mpr ⟨e1,Dc.mpr ⟨e2,e3⟩⟩),by clear c4;omega,le1 c.2.2.1,fun g=>no0 h.2.2.2.1 g,fun _=>by clear c2;omega⟩
def WI (l0:Int) (d m s t:Nat) (k' l':Int):Prop:=d+m=6∧(s:Int)=l0 - l'∧t≤9∧0≤k'∧k'+4*l'≤160+d∧ -113≤l'
theorem WI.nil (h:0≤l) (h':l≤40):WI l 0 6 0 0 0 l:=⟨rfl,⋯,⋯,⋯,⋯,⋯⟩
theorem WI.pre (h:WI l i m s t k' l') (h0:deep≤7):PS 7 deep (k'+1) l':=by
 obtain ⟨h1,_,_,h4,h5,h6⟩:=h;exact ⟨h0,⋯,⋯,⋯,O0⟩
theorem WI.snoc (h:WI l i m s t k' l') (h0:0<l') (hi:i<6) (b:BS 7 (k'+1) l' s2 t2 k2 l2):WI l (i+1) (m - 1) (s+s2) (max t t2) k2 l2:=by
 obtain ⟨h1,h2,h3,h4,h5,_⟩:=h;obtain ⟨b1,b2,b3,b4,_,b6⟩:=b;exact ⟨by clear h2 h5 b1 b3;omega,yd h2 b1,Dc.mpr ⟨h3,b2⟩,Bo h4 (le1 b4),by clear h1 h2 b1 b4;omega,b6 h0⟩
end
end Bud
namespace Tre
open PySem
def qZ (x:Str):Bool:=decide (1≤x.length)&&decide (x.length≤8)&&x.cps.toList.all fun c=>decide (97≤c)&&decide (c≤122)
def vJ (i:Int):Bool:=decide (-1000000000000≤i)&&decide (i≤1000000000000)
def qN:Aa→Bool
 | .str x=>qZ x
 | _=>false
def JD:Aa→Bool
 | .int i=>vJ i
 | _=>false
def Jg (d:Aa) (most:Nat):Bool:=match d with
 | .tuple xs=>decide (xs.length≤most)
 | _=>false
def txt:Aa→Str
 | .str x=>x
 | _=>""
def areNames:Aa→Bool
 | .tuple xs=>decide (xs.length≤4)&&xs.all qN&&decide ((xs.map txt).Nodup)
 | _=>false
abbrev vx:List Str:=["+","-","*","<","="]
abbrev forms:List (Str×List Str):=[("main",["names","body"]),("number",["number"]),("name",["name"]),("two",["sign","term","term"]),("fun",["names","body"]),("loop",["names","body"]),("call",["term","terms"]),("step",["term","term"]),
 ("let",["name","term"]),("set",["name","term"]),("do",["term"]),("if",["term","body","body"]),("while",["term","body"]),("hand",["term"]),("back",["term"]),("fault",["word","term"]),("try",["body","name","name","body","body"])]
abbrev heads:List (Str×List Str):=[("program",["main"]),("term",["number","name","two","fun","loop","call","step"]),("statement",["let","set","do","if","while","hand","back","fault","try"])]
abbrev Jp:List (Str×Str):=[("names","name"),("terms","term"),("body","statement")]
def qx (d:Aa) (sh:Str):Bool:=
 if sh=="number" then JD d else if sh=="name" then qN d else if sh=="word" then (match d with | .str x=>qZ x&&x !="any" | _=>false)
 else if sh=="sign" then (match d with | .str x=>vx.any fun y=>y==x | _=>false) else if sh=="names" then areNames d else if sh=="terms" then Jg d 4 else if sh=="body" then Jg d 12 else true
def zj (ts:List Aa) (fs:List Str):Bool:=decide (ts.length=fs.length)&&(ts.zip fs).all fun p=>qx p.1 p.2
def qP (d:Aa) (sh:Str) (hands:Bool):Bool:=match d with
 | .tuple (.str h::ts)=>(((heads.lookup sh).getD []).any fun y=>y==h)&&!(h=="hand"&&!hands)&&zj ts ((forms.lookup h).getD [])
 | _=>false
def qr (t:Aa) (sh:Str):List (Aa×Str):=
 if sh=="term" then [(t,sh)] else if sh=="terms"||sh=="body" then (match t with | .tuple xs=>xs.map fun x=>(x,(Jp.lookup sh).getD "") | _=>[]) else []
def jo:Aa→List (Aa×Str)
 | .tuple (.str h::ts)=>(ts.zip ((forms.lookup h).getD [])).flatMap fun p=>qr p.1 p.2
 | _=>[]
def headOf:Aa→Str
 | .tuple (.str h::_)=>h
 | _=>""
def jz (d:Aa) (hands:Bool):Bool:=if headOf d=="fun" then false else hands||(headOf d=="main"||headOf d=="loop")
abbrev Lv:=List (Aa×Str×Bool)
def jQ (lv:Lv):Lv:=lv.flatMap fun p=>(jo p.1).map fun q=>(q.1,q.2,jz p.1 p.2.2)
def vw:Nat→Nat→Lv→Bool
 | 0,_,lv=>lv.isEmpty
 | n+1,size,lv=>lv.isEmpty||(decide (size+lv.length≤300)&&(lv.all fun p=>qP p.1 p.2.1 p.2.2)&&vw n (size+lv.length) (jQ lv))
def qR (d:Aa):Bool:=vw 20 0 [(d,"program",false)]
mutual
def fit:Aa→Bool
 | .str x=>decide (x.length≤1000000)
 | .list xs=>zR xs
 | .tuple xs=>zR xs
 | .dict _=>false
 | _=>true
def zR:List Aa→Bool
 | []=>true
 | x::xs=>fit x&&zR xs
end
theorem zA:∀ {xs:List Aa},zR xs=true→∀ x∈xs,fit x=true
 | [],_,x,hx=>nomatch hx
 | y::r,h,x,hx=>by
  rw [zR,Ao] at h;rcases Av.mp hx with rfl | hx
  ·exact h.1
  ·exact zA h.2 x hx
theorem XV:∀ {xs:List Aa},(∀ x∈xs,fit x=true)→zR xs=true
 | [],_=>rfl
 | y::r,h=>by
  rw [zR,Ao];exact ⟨h y A0,XV fun x hx=>h x (Au _ hx)⟩
theorem yR:∀ sh∈heads,∀ h∈sh.2,∃ fs,forms.lookup h=some fs∧fs.length≤5:=by
 intro sh hs h hh;have:∀ sh∈heads,∀ h∈sh.2,((forms.lookup h).any fun fs=>decide (fs.length≤5))=true:=∅;have q:=this sh hs h hh;cases e:forms.lookup h with
 | none=>rw [e] at q;cases q
 | some fs=>rw [e] at q;exact ⟨fs,rfl,A1 q⟩
theorem Wd {sh h:Str} (q:(((heads.lookup sh).getD []).any fun y=>y==h)=true):∃ l,heads.lookup sh=some l∧h∈l∧∃ fs,forms.lookup h=some fs∧fs.length≤5:=by
 cases e:heads.lookup sh with
 | none=>rw [e] at q;cases q
 | some l=>
  rw [e] at q;obtain ⟨y,hy,hyh⟩:=Cp.mp q;cases Bk.mp hyh;exact ⟨l,rfl,hy,yR (sh,l) (Bb e) _ hy⟩
theorem z3 {d:Aa} {sh:Str} {hands:Bool} (h:qP d sh hands=true):
  ∃ hd ts fs l,d= .tuple (.str hd::ts)∧heads.lookup sh=some l∧hd∈l∧forms.lookup hd=some fs∧fs.length≤5∧ts.length=fs.length∧(∀ p∈ts.zip fs,qx p.1 p.2=true)∧(hd=="hand"&&!hands)=false:=by
 cases d with
 | tuple xs=>
  cases xs with
  | nil=>cases h
  | cons x ts=>
   cases x with
   | str hd=>
    simp only [qP,zj,Ao,Cm,Bs] at h;obtain ⟨⟨h1,h2⟩,h3,h4⟩:=h;obtain ⟨l,e1,e2,fs,e3,e4⟩:=Wd h1;rw [e3] at h3 h4;exact ⟨hd,ts,fs,l,rfl,e1,e2,e3,e4,h3,fun p hp=>A3.mp h4 p hp,h2⟩
   | _=>cases h
 | _=>cases h
set_option tactic.hygienic true in
theorem Yy {t:Aa} {sh:Str} (h:qx t sh=true):(qr t sh).length≤12:=by
 unfold qr;split
 ·simp
 ·split
  ·rename_i h1 h2;cases t with
   | tuple xs=>
    rw [An];rw [Cu,Bk,Bk] at h2;rcases h2 with rfl | rfl
    ·have:Jg (.tuple xs) 4=true:=h;have:=A1 this;omega
    ·have:Jg (.tuple xs) 12=true:=h;exact A1 this
   | _=>simp
  ·simp
theorem W5 {α β:Type} (f:α→List β) (m:Nat):∀ l:List α,(∀ x∈l,(f x).length≤m)→(l.flatMap f).length≤m*l.length
 | [],_=>by simp
 | x::r,h=>by
  rw [C2,A8,A5,Nat.mul_succ];have h1:=h x A0;have h2:=W5 f m r fun y hy=>h y (Au _ hy);omega
theorem yN {d:Aa} {sh:Str} {hands:Bool} (h:qP d sh hands=true):(jo d).length≤60:=by
 obtain ⟨hd,ts,fs,l,rfl,_,_,e,hf,hl,hs,_⟩:=z3 h;show ((ts.zip ((forms.lookup hd).getD [])).flatMap _).length≤60;rw [e];show ((ts.zip fs).flatMap _).length≤60;have:=W5 (fun p:Aa×Str=>qr p.1 p.2) 12 (ts.zip fs) fun p hp=>Yy (hs p hp);rw [Ds] at this;omega
theorem Ya {lv:Lv} (h:∀ p∈lv,qP p.1 p.2.1 p.2.2=true):(jQ lv).length≤60*lv.length:=
 W5 _ 60 lv fun p hp=>by rw [An];exact yN (h p hp)
set_option tactic.hygienic true in
theorem W1 {t e:Aa} {sh u:Str} (h:(e,u)∈qr t sh):u="term"∨u="statement":=by
 unfold qr at h;split at h
 ·rename_i h1;rw [B5] at h;cases h;exact .inl (Bk.mp h1)
 ·split at h
  ·rename_i h2;cases t with
   | tuple xs=>
    obtain ⟨x,_,ex⟩:=Cg.mp h;rw [Cu,Bk,Bk] at h2;cases ex;rcases h2 with rfl | rfl
    ·exact .inl rfl
    ·exact .inr rfl
   | _=>cases h
  ·cases h
theorem Yx {d e:Aa} {u:Str} (h:(e,u)∈jo d):u="term"∨u="statement":=by
 unfold jo at h;split at h
 ·obtain ⟨p,_,hp⟩:=D7.mp h;exact W1 hp
 ·cases h
theorem yO {t e:Aa} {sh u:Str} (ft:fit t=true) (h:(e,u)∈qr t sh):fit e=true:=by
 unfold qr at h;split at h
 ·rw [B5] at h;cases h;exact ft
 ·split at h
  ·cases t with
   | tuple xs=>
    obtain ⟨x,hx,ex⟩:=Cg.mp h;rw [fit] at ft;have q:=zA ft x hx;cases ex;exact q
   | _=>cases h
  ·cases h
set_option tactic.hygienic true in
theorem XO {d e:Aa} {u:Str} (f:fit d=true) (h:(e,u)∈jo d):fit e=true:=by
 unfold jo at h;split at h
 ·rename_i hd ts;obtain ⟨p,hz,hp⟩:=D7.mp h;rw [fit,zR,Ao] at f;exact yO (zA f.2 p.1 (Cw hz).1) hp
 ·cases h
theorem jU (d:Aa):qx d "number"=JD d:=by
 unfold qx;rw [if_pos (show (((("number":Str)=="number")=true)) from ∅)]
theorem jj (d:Aa):qx d "name"=qN d:=by
 unfold qx;rw [if_neg (show ¬ (((("name":Str)=="number")=true)) from ∅)];rw [if_pos (show (((("name":Str)=="name")=true)) from ∅)]
theorem JE (d:Aa):qx d "word"=(match d with | .str x=>qZ x&&x !="any" | _=>false):=by
 unfold qx;rw [if_neg (show ¬ (((("word":Str)=="number")=true)) from ∅)];rw [if_neg (show ¬ (((("word":Str)=="name")=true)) from ∅)];rw [if_pos (show (((("word":Str)=="word")=true)) from ∅)]
theorem JF (d:Aa):qx d "sign"=(match d with | .str x=>vx.any fun y=>y==x | _=>false):=by
 unfold qx;rw [if_neg (show ¬ (((("sign":Str)=="number")=true)) from ∅)];rw [if_neg (show ¬ (((("sign":Str)=="name")=true)) from ∅)];rw [if_neg (show ¬ (((("sign":Str)=="word")=true)) from ∅)];rw [if_pos (show (((("sign":Str)=="sign")=true)) from ∅)]
theorem Jj (d:Aa):qx d "names"=areNames d:=by
 unfold qx;rw [if_neg (show ¬ (((("names":Str)=="number")=true)) from ∅)];rw [if_neg (show ¬ (((("names":Str)=="name")=true)) from ∅)];rw [if_neg (show ¬ (((("names":Str)=="word")=true)) from ∅)];rw [if_neg (show ¬ (((("names":Str)=="sign")=true)) from ∅)];rw [if_pos (show (((("names":Str)=="names")=true)) from ∅)]
theorem jN (d:Aa):qx d "terms"=Jg d 4:=by
 unfold qx;rw [if_neg (show ¬ (((("terms":Str)=="number")=true)) from ∅)];rw [if_neg (show ¬ (((("terms":Str)=="name")=true)) from ∅)];rw [if_neg (show ¬ (((("terms":Str)=="word")=true)) from ∅)];rw [if_neg (show ¬ (((("terms":Str)=="sign")=true)) from ∅)];rw [if_neg (show ¬ (((("terms":Str)=="names")=true)) from ∅)];rw [if_pos (show (((("terms":Str)=="terms")=true)) from ∅)]
theorem j4 (d:Aa):qx d "body"=Jg d 12:=by
 unfold qx;rw [if_neg (show ¬ (((("body":Str)=="number")=true)) from ∅)];rw [if_neg (show ¬ (((("body":Str)=="name")=true)) from ∅)];rw [if_neg (show ¬ (((("body":Str)=="word")=true)) from ∅)];rw [if_neg (show ¬ (((("body":Str)=="sign")=true)) from ∅)];rw [if_neg (show ¬ (((("body":Str)=="names")=true)) from ∅)];rw [if_neg (show ¬ (((("body":Str)=="terms")=true)) from ∅)];rw [if_pos (show (((("body":Str)=="body")=true)) from ∅)]
theorem wk (d:Aa) {sh:Str} (h0:(sh=="number")=false) (h1:(sh=="name")=false) (h2:(sh=="word")=false) (h3:(sh=="sign")=false) (h4:(sh=="names")=false) (h5:(sh=="terms")=false) (h6:(sh=="body")=false):qx d sh=true:=by
 unfold qx;rw [if_neg (by rw [h0];exact Am)]
 rw [if_neg (by rw [h1];exact Am)]
 rw [if_neg (by rw [h2];exact Am)]
 rw [if_neg (by rw [h3];exact Am)]
 rw [if_neg (by rw [h4];exact Am)]
 rw [if_neg (by rw [h5];exact Am)]
 rw [if_neg (by rw [h6];exact Am)]
def WX (d:Aa):List Aa:=(jo d).map (·.1)
mutual
inductive Tr:Aa→Nat→Nat→Prop
 | mk {d:Aa} {sh:Str} {hands:Bool} {s t:Nat}:qP d sh hands=true→Trl (WX d) s t→Tr d (s+1) (t+1)
inductive Trl:List Aa→Nat→Nat→Prop
 | nil:Trl [] 0 0
 | cons {d:Aa} {ds:List Aa} {s t s' t':Nat}:Tr d s t→Trl ds s' t'→Trl (d::ds) (s+s') (max t t')
end
theorem Trl.append:∀ {a b:List Aa} {s t s' t':Nat},Trl a s t→Trl b s' t'→Trl (a++b) (s+s') (max t t'):=by
 intro a
 induction a with
 | nil=>
  intro b s t s' t' h h';cases h;simpa using h'
 | cons d r ih=>
  intro b s t s' t' h h';cases h with
  | cons h1 h2=>
   have:=Trl.cons h1 (ih h2 h');rw [D6,Nat.add_assoc,Nat.max_assoc];exact this
theorem Y5 (a:Nat):∀ b:Nat,max a (b - 1)=max (a+1) b - 1
 | 0=>by simp
 | b+1=>by
  rw [Nat.add_max_add_right];rfl
theorem Trl.lower:∀ {ds:List Aa} {s t:Nat},Trl ds s t→∃ s',Trl (ds.flatMap WX) s' (t - 1)∧s=ds.length+s':=by
 intro ds
 induction ds with
 | nil=>
  intro s t h;cases h;exact ⟨0,.nil,rfl⟩
 | cons d r ih=>
  intro s t h;cases h with
  | @cons _ _ s1 t1 s2 t2 h1 h2=>
   cases h1 with
   | @mk _ sh hands s0 t0 hf hk=>
    obtain ⟨s',h3,e⟩:=ih h2;refine ⟨s0+s',?_,?_⟩
    ·rw [C2];have e2:max t0 (t2 - 1)=max (t0+1) t2 - 1:=Y5 _ _;rw [← e2];exact hk.append h3
    ·rw [A5];omega
theorem Trl.zero {ds:List Aa} {s:Nat} (h:Trl ds s 0):ds=[]:=by
 cases ds with
 | nil=>rfl
 | cons d r=>
  generalize e:0=n at h;cases h with
  | cons h1 h2=>
   cases h1;omega
theorem Trl.forms:∀ {ds:List Aa} {s t:Nat},Trl ds s t→∀ d∈ds,∃ sh hands,qP d sh hands=true:=by
 intro ds
 induction ds with
 | nil=>intro s t _ d hd;cases hd
 | cons e r ih=>
  intro s t h d hd;cases h with
  | cons h1 h2=>
   rcases Av.mp hd with rfl | hd
   ·cases h1 with
    | mk hf _=>exact ⟨_,_,hf⟩
   ·exact ih h2 d hd
theorem Trl.few {ds:List Aa} {s t:Nat} (h:Trl ds s t):ds.length≤s:=by
 obtain ⟨s',_,e⟩:=h.lower;omega
mutual
theorem Tr.deep:∀ {d:Aa} {s t:Nat},Tr d s t→t≤s
 | _,_,_,.mk _ h=>B2 (Trl.deep h)
theorem Trl.deep:∀ {ds:List Aa} {s t:Nat},Trl ds s t→t≤s
 | _,_,_,.nil=>Aj _
 | _,_,_,.cons h1 h2=>by
  have a:=Tr.deep h1;have b:=Trl.deep h2;omega
end
mutual
inductive Pt:Aa→Str→Bool→Nat→Nat→Prop
 | mk {d:Aa} {sh:Str} {hands:Bool} {s t:Nat}:qP d sh hands=true→Ptl (jo d) (jz d hands) s t→Pt d sh hands (s+1) (t+1)
inductive Ptl:List (Aa×Str)→Bool→Nat→Nat→Prop
 | nil {hands:Bool}:Ptl [] hands 0 0
 | cons {d:Aa} {sh:Str} {r:List (Aa×Str)} {hands:Bool} {s t s' t':Nat}:Pt d sh hands s t→Ptl r hands s' t'→Ptl ((d,sh)::r) hands (s+s') (max t t')
end
theorem Ptl.append:∀ {a b:List (Aa×Str)} {hands:Bool} {s t s' t':Nat},Ptl a hands s t→Ptl b hands s' t'→Ptl (a++b) hands (s+s') (max t t'):=by
 intro a
 induction a with
 | nil=>
  intro b hands s t s' t' h h';cases h;simpa using h'
 | cons d r ih=>
  intro b hands s t s' t' h h';cases h with
  | cons h1 h2=>
   have:=Ptl.cons h1 (ih h2 h');rw [D6,Nat.add_assoc,Nat.max_assoc];exact this
mutual
theorem Pt.tr:∀ {d:Aa} {sh:Str} {hands:Bool} {s t:Nat},Pt d sh hands s t→Tr d s t
 | _,_,_,_,_,.mk hf h=> .mk hf (Ptl.tr h)
theorem Ptl.tr:∀ {l:List (Aa×Str)} {hands:Bool} {s t:Nat},Ptl l hands s t→Trl (l.map (·.1)) s t
 | _,_,_,_,.nil=> .nil
 | _,_,_,_,.cons h1 h2=> .cons (Pt.tr h1) (Ptl.tr h2)
end
inductive Lvl:Lv→Nat→Nat→Prop
 | nil:Lvl [] 0 0
 | cons {p:Aa×Str×Bool} {r:Lv} {s t s' t':Nat}:Pt p.1 p.2.1 p.2.2 s t→Lvl r s' t'→Lvl (p::r) (s+s') (max t t')
theorem Lvl.append:∀ {a b:Lv} {s t s' t':Nat},Lvl a s t→Lvl b s' t'→Lvl (a++b) (s+s') (max t t')
 | _,_,_,_,_,_,.nil,h=>by simpa using h
 | _,_,_,_,_,_,.cons h1 h2,h=>by
  have:=Lvl.cons h1 (Lvl.append h2 h);rw [D6,Nat.add_assoc,Nat.max_assoc];exact this
theorem qcs:∀ {l:List (Aa×Str)} {hands:Bool} {s t:Nat},Ptl l hands s t→Lvl (l.map fun z=>(z.1,z.2,hands)) s t:=by
 intro l
 induction l with
 | nil=>intro hands s t h;cases h;exact .nil
 | cons z r ih=>
  intro hands s t h;cases h with
  | cons h1 h2=>exact .cons h1 (ih h2)
theorem Lvl.lower:∀ {lv:Lv} {s t:Nat},Lvl lv s t→∃ s',Lvl (Tre.jQ lv) s' (t - 1)∧s=lv.length+s':=by
 intro lv
 induction lv with
 | nil=>intro s t h;cases h;exact ⟨0,.nil,rfl⟩
 | cons p r ih=>
  intro s t h;cases h with
  | @cons _ _ s1 t1 s2 t2 h1 h2=>
   obtain ⟨s',h3,e⟩:=ih h2;generalize e1:p.1=d at h1;generalize e2:p.2.1=sh at h1;generalize e3:p.2.2=hands at h1;cases h1 with
   | @mk _ _ _ s0 t0 hf hk=>
    refine ⟨s0+s',?_,?_⟩
    ·have e4:max t0 (t2 - 1)=max (t0+1) t2 - 1:=Y5 _ _;have e5:Tre.jQ (p::r)=((jo d).map fun z=>(z.1,z.2,jz d hands))++Tre.jQ r:=by
      unfold Tre.jQ;rw [C2,e1,e3]
     rw [e5,← e4];exact (qcs hk).append h3
    ·rw [A5];omega
theorem Lvl.forms:∀ {lv:Lv} {s t:Nat},Lvl lv s t→(lv.all fun p=>qP p.1 p.2.1 p.2.2)=true:=by
 intro lv
 induction lv with
 | nil=>intro s t _;rfl
 | cons p r ih=>
  intro s t h;cases h with
  | cons h1 h2=>
   rw [El,ih h2,Ek];cases h1 with
   | mk hf _=>exact hf
theorem Lvl.zero {lv:Lv} {s:Nat} (h:Lvl lv s 0):lv=[]:=by
 cases lv with
 | nil=>rfl
 | cons p r=>
  generalize e:0=n at h;cases h with
  | cons h1 h2=>
   cases h1;omega
theorem YH:∀ (n sz:Nat) (lv:Lv) (s t:Nat),Lvl lv s t→t≤n→sz+s≤300→vw n sz lv=true
 | 0,sz,lv,s,t,h,hn,hz=>by
  have:t=0:=⋯;subst this;rw [h.zero];rfl
 | n+1,sz,lv,s,t,h,hn,hz=>by
  obtain ⟨s',h2,e⟩:=h.lower;rw [vw,YH n (sz+lv.length) (Tre.jQ lv) s' (t - 1) h2 ⋯ ⋯,h.forms,Ai ⋯];simp
theorem W0 {d:Aa} {s t:Nat} (h:Pt d "program" false s t) (ht:t≤20) (hs:s≤300):qR d=true:=
 YH 20 0 _ s t (by simpa using Lvl.cons (p:=(d,"program",false)) h .nil) ht ⋯
theorem jh {h sh:Str} {l fs:List Str} {ts:List Aa} {hands:Bool} (e1:heads.lookup sh=some l) (e2:(l.any fun y=>y==h)=true) (e3:forms.lookup h=some fs) (e4:(h=="hand"&&!hands)=false) (e5:zj ts fs=true):qP (.tuple (.str h::ts)) sh hands=true:=by
 simp only [qP,e1,e3,Option.getD_some,e2,e4,e5,Bool.not_false,Ek]
theorem zi {h:Str} {fs:List Str} {ts:List Aa} (e:forms.lookup h=some fs):jo (.tuple (.str h::ts))=(ts.zip fs).flatMap fun p=>qr p.1 p.2:=by
 show (ts.zip ((forms.lookup h).getD [])).flatMap _=_;rw [e];rfl
theorem ji (t:Aa):qr t "term"=[(t,("term":Str))]:=by
 unfold qr;rw [if_pos ∅]
theorem jY (xs:List Aa):qr (.tuple xs) "body"=xs.map fun x=>(x,("statement":Str)):=by
 unfold qr;rw [if_neg ∅,if_pos ∅];have e:(Jp.lookup ("body":Str)).getD ""=("statement":Str):=∅;rw [e]
theorem wH (xs:List Aa):qr (.tuple xs) "terms"=xs.map fun x=>(x,("term":Str)):=by
 unfold qr;rw [if_neg ∅,if_pos ∅];have e:(Jp.lookup ("terms":Str)).getD ""=("term":Str):=∅;rw [e]
theorem Jq {t:Aa} {sh:Str} (h:(sh=="term"||(sh=="terms"||sh=="body"))=false):qr t sh=[]:=by
 rw [Cz] at h;unfold qr;rw [if_neg (by rw [h.1];exact Am),if_neg (by rw [h.2];exact Am)]
theorem jG (t:Aa):qx t "term"=true:=wk t ∅ ∅ ∅ ∅ ∅ ∅ ∅
structure Bd (xs:List Aa) (hands:Bool) (s t:Nat):Prop where
 few:xs.length≤12
 all:Ptl (xs.map fun x=>(x,("statement":Str))) hands s t
theorem JG {xs:List Aa} (h:xs.length≤12):qx (.tuple xs) "body"=true:=by
 rw [j4];exact Ai h
theorem ZL {xs:List Aa} (h:xs.length≤4):qx (.tuple xs) "terms"=true:=by
 rw [jN];exact Ai h
theorem jp {h:Str} {ts:List Aa} {hands:Bool} (e:(h=="fun"||(h=="main"||h=="loop"))=false):jz (.tuple (.str h::ts)) hands=hands:=by
 rw [Cz] at e;show (if h=="fun" then false else hands||(h=="main"||h=="loop"))=hands
 rw [if_neg (by rw [e.1];exact Am),e.2,Bool.or_false]
theorem ok1 {t:Aa} {f:Str} (h:qx t f=true):zj [t] [f]=true:=by simp [zj,h]
theorem ok2 {t u:Aa} {f g:Str} (h:qx t f=true) (h':qx u g=true):zj [t,u] [f,g]=true:=by simp [zj,h,h']
theorem ok3 {t u v:Aa} {f g k:Str} (h:qx t f=true) (h':qx u g=true) (h2:qx v k=true):zj [t,u,v] [f,g,k]=true:=by simp [zj,h,h',h2]
theorem jv {d:Aa} {sh:Str} {hands:Bool} {s t:Nat} (h:Pt d sh hands s t):Ptl [(d,sh)] hands s t:=by simpa using Ptl.cons h .nil
theorem Xz {i:Int} {hands:Bool} (h:vJ i=true):Pt (.tuple [.str "number",.int i]) "term" hands 1 1:=by
 refine .mk (jh (l:=["number","name","two","fun","loop","call","step"]) (fs:=["number"]) ∅ ∅ ∅ (by cases hands <;> decide+kernel) (ok1 ((jU _).trans h))) (s:=0) (t:=0) ?_
 rw [zi (fs:=["number"]) ∅];show Ptl (qr _ _++[]) _ _ _;rw [Jq (sh:="number") ∅];exact .nil
theorem QX {x:Str} {hands:Bool} (h:qZ x=true):Pt (.tuple [.str "name",.str x]) "term" hands 1 1:=by
 refine .mk (jh (l:=["number","name","two","fun","loop","call","step"]) (fs:=["name"]) ∅ ∅ ∅ (by cases hands <;> decide+kernel) (ok1 ((jj _).trans h))) (s:=0) (t:=0) ?_
 rw [zi (fs:=["name"]) ∅];show Ptl (qr _ _++[]) _ _ _;rw [Jq (sh:="name") ∅];exact .nil
theorem qb0 {g:Str} {a b:Aa} {hands:Bool} {s t s' t':Nat} (h:(vx.any fun y=>y==g)=true) (ha:Pt a "term" hands s t) (hb:Pt b "term" hands s' t'):Pt (.tuple [.str "two",.str g,a,b]) "term" hands (s+s'+1) (max t t'+1):=by
 refine .mk (jh (l:=["number","name","two","fun","loop","call","step"]) (fs:=["sign","term","term"]) ∅ ∅ ∅ (by cases hands <;> decide+kernel) (ok3 ((JF _).trans h) (jG _) (jG _))) ?_
 rw [zi (fs:=["sign","term","term"]) ∅,jp ∅];show Ptl (qr _ _++(qr _ _++(qr _ _++[]))) _ _ _;rw [Jq (sh:="sign") ∅,ji,ji];exact (jv ha).append (jv hb)
theorem QW {a b:Aa} {hands:Bool} {s t s' t':Nat} (ha:Pt a "term" hands s t) (hb:Pt b "term" hands s' t'):Pt (.tuple [.str "step",a,b]) "term" hands (s+s'+1) (max t t'+1):=by
 refine .mk (jh (l:=["number","name","two","fun","loop","call","step"]) (fs:=["term","term"]) ∅ ∅ ∅ (by cases hands <;> decide+kernel) (ok2 (jG _) (jG _))) ?_
 rw [zi (fs:=["term","term"]) ∅,jp ∅];show Ptl (qr _ _++(qr _ _++[])) _ _ _;rw [ji,ji];exact (jv ha).append (jv hb)
theorem Q0 {a:Aa} {xs:List Aa} {hands:Bool} {s t s' t':Nat} (ha:Pt a "term" hands s t) (hl:xs.length≤4) (hb:Ptl (xs.map fun x=>(x,("term":Str))) hands s' t'):Pt (.tuple [.str "call",a,.tuple xs]) "term" hands (s+s'+1) (max t t'+1):=by
 refine .mk (jh (l:=["number","name","two","fun","loop","call","step"]) (fs:=["term","terms"]) ∅ ∅ ∅ (by cases hands <;> decide+kernel) (ok2 (jG _) (ZL hl))) ?_
 rw [zi (fs:=["term","terms"]) ∅,jp ∅];show Ptl (qr _ _++(qr _ _++[])) _ _ _;rw [ji,wH,By];exact (jv ha).append hb
theorem wo {h sh:Str} {l:List Str} {ns xs:List Aa} {hands hi:Bool} {s t:Nat} (e1:heads.lookup sh=some l) (e2:(l.any fun y=>y==h)=true) (e3:forms.lookup h=some (["names","body"]:List Str)) (e4:(h=="hand"&&!hands)=false) (hn:areNames (.tuple ns)=true) (hw:∀ ts,jz (.tuple (.str h::ts)) hands=hi) (hb:Bd xs hi s t):
  Pt (.tuple [.str h,.tuple ns,.tuple xs]) sh hands (s+1) (t+1):=by
 refine .mk (jh e1 e2 e3 e4 (ok2 ((Jj _).trans hn) (JG hb.few))) ?_;rw [zi e3,hw];show Ptl (qr _ _++(qr _ _++[])) _ _ _;rw [Jq (sh:="names") ∅,jY,List.nil_append,By];exact hb.all
theorem qb3 {ns xs:List Aa} {hands:Bool} {s t:Nat} (hn:areNames (.tuple ns)=true) (hb:Bd xs false s t):Pt (.tuple [.str "fun",.tuple ns,.tuple xs]) "term" hands (s+1) (t+1):=
 wo (l:=["number","name","two","fun","loop","call","step"]) ∅ ∅ ∅ (by cases hands <;> decide+kernel) hn (fun ts=>by
  show (if (("fun":Str)=="fun")=true then false else _)=false
  rw [if_pos ∅]) hb
theorem QZ {ns xs:List Aa} {hands:Bool} {s t:Nat} (hn:areNames (.tuple ns)=true) (hb:Bd xs true s t):Pt (.tuple [.str "loop",.tuple ns,.tuple xs]) "term" hands (s+1) (t+1):=
 wo (l:=["number","name","two","fun","loop","call","step"]) ∅ ∅ ∅ (by cases hands <;> decide+kernel) hn (fun ts=>by
  show (if (("loop":Str)=="fun")=true then false else hands||((("loop":Str)=="main")||(("loop":Str)=="loop")))=true
  rw [if_neg ∅,show ((("loop":Str)=="main")||(("loop":Str)=="loop"))=true from ∅,Bool.or_true]) hb
theorem QY {ns xs:List Aa} {s t:Nat} (hn:areNames (.tuple ns)=true) (hb:Bd xs true s t):Pt (.tuple [.str "main",.tuple ns,.tuple xs]) "program" false (s+1) (t+1):=
 wo (l:=["main"]) ∅ ∅ ∅ ∅ hn (fun ts=>by
  show (if (("main":Str)=="fun")=true then false else false||((("main":Str)=="main")||(("main":Str)=="loop")))=true
  rw [if_neg ∅,show ((("main":Str)=="main")||(("main":Str)=="loop"))=true from ∅,Bool.or_true]) hb
abbrev stm:List Str:=["let","set","do","if","while","hand","back","fault","try"]
theorem qb2 {h x:Str} {a:Aa} {hands:Bool} {s t:Nat} (hh:h="let"∨h="set") (hx:qZ x=true) (ha:Pt a "term" hands s t):Pt (.tuple [.str h,.str x,a]) "statement" hands (s+1) (t+1):=by
 have e3:forms.lookup h=some (["name","term"]:List Str):=by rcases hh with rfl | rfl <;> decide+kernel
 refine .mk (jh (l:=stm) (fs:=["name","term"]) ∅ (by rcases hh with rfl | rfl <;> decide+kernel) e3 (by rcases hh with rfl | rfl <;> cases hands <;> decide+kernel) (ok2 ((jj _).trans hx) (jG _))) ?_
 rw [zi e3,jp (by rcases hh with rfl | rfl <;> decide+kernel)]
 show Ptl (qr _ _++(qr _ _++[])) _ _ _;rw [Jq (sh:="name") ∅,ji];exact jv ha
theorem ZV {x:Str} {a:Aa} {hands:Bool} {s t:Nat} (hx:(qZ x&&x !="any")=true) (ha:Pt a "term" hands s t):Pt (.tuple [.str "fault",.str x,a]) "statement" hands (s+1) (t+1):=by
 refine .mk (jh (l:=stm) (fs:=["word","term"]) ∅ ∅ ∅ (by cases hands <;> decide+kernel) (ok2 ((JE _).trans hx) (jG _))) ?_
 rw [zi (fs:=["word","term"]) ∅,jp ∅];show Ptl (qr _ _++(qr _ _++[])) _ _ _;rw [Jq (sh:="word") ∅,ji];exact jv ha
theorem qef {h:Str} {a:Aa} {hands:Bool} {s t:Nat} (hh:h="do"∨h="back"∨(h="hand"∧hands=true)) (ha:Pt a "term" hands s t):Pt (.tuple [.str h,a]) "statement" hands (s+1) (t+1):=by
 have e3:forms.lookup h=some (["term"]:List Str):=by rcases hh with rfl | rfl | ⟨rfl,_⟩ <;> decide+kernel
 refine .mk (jh (l:=stm) (fs:=["term"]) ∅ (by rcases hh with rfl | rfl | ⟨rfl,_⟩ <;> decide+kernel) e3 (by rcases hh with rfl | rfl | ⟨rfl,rfl⟩ <;> first | decide+kernel | (cases hands <;> decide+kernel)) (ok1 (jG _))) ?_
 rw [zi e3,jp (by rcases hh with rfl | rfl | ⟨rfl,_⟩ <;> decide+kernel)]
 show Ptl (qr _ _++[]) _ _ _;rw [ji];exact jv ha
theorem ZT {a:Aa} {xs:List Aa} {hands:Bool} {s t s' t':Nat} (ha:Pt a "term" hands s t) (hb:Bd xs hands s' t'):Pt (.tuple [.str "while",a,.tuple xs]) "statement" hands (s+s'+1) (max t t'+1):=by
 refine .mk (jh (l:=stm) (fs:=["term","body"]) ∅ ∅ ∅ (by cases hands <;> decide+kernel) (ok2 (jG _) (JG hb.few))) ?_
 rw [zi (fs:=["term","body"]) ∅,jp ∅];show Ptl (qr _ _++(qr _ _++[])) _ _ _;rw [ji,jY,By];exact (jv ha).append hb.all
theorem qee {a:Aa} {xs ys:List Aa} {hands:Bool} {s t s' t' s2 t2:Nat} (ha:Pt a "term" hands s t) (hb:Bd xs hands s' t') (hc:Bd ys hands s2 t2):Pt (.tuple [.str "if",a,.tuple xs,.tuple ys]) "statement" hands (s+(s'+s2)+1) (max t (max t' t2)+1):=by
 refine .mk (jh (l:=stm) (fs:=["term","body","body"]) ∅ ∅ ∅ (by cases hands <;> decide+kernel) (ok3 (jG _) (JG hb.few) (JG hc.few))) ?_
 rw [zi (fs:=["term","body","body"]) ∅,jp ∅];show Ptl (qr _ _++(qr _ _++(qr _ _++[]))) _ _ _;rw [ji,jY,jY,By];exact (jv ha).append (hb.all.append hc.all)
theorem qb1 {x y:Str} {xs ys zs:List Aa} {hands:Bool} {s t s' t' s2 t2:Nat} (hx:qZ x=true) (hy:qZ y=true) (ha:Bd xs hands s t) (hb:Bd ys hands s' t') (hc:Bd zs hands s2 t2):
  Pt (.tuple [.str "try",.tuple xs,.str x,.str y,.tuple ys,.tuple zs]) "statement" hands (s+(s'+s2)+1) (max t (max t' t2)+1):=by
 have sx:qx (.str x) "name"=true:=(jj _).trans hx;have sy:qx (.str y) "name"=true:=(jj _).trans hy;refine .mk (jh (l:=stm) (fs:=["body","name","name","body","body"]) ∅ ∅ ∅ (by cases hands <;> decide+kernel) (by simp [zj,JG ha.few,JG hb.few,JG hc.few,sx,sy])) ?_
 rw [zi (fs:=["body","name","name","body","body"]) ∅,jp ∅];show Ptl (qr _ _++(qr _ _++(qr _ _++(qr _ _++(qr _ _++[]))))) _ _ _;rw [jY,Jq (sh:="name") ∅,Jq (sh:="name") ∅,jY,jY,By,List.nil_append,List.nil_append];exact ha.all.append (hb.all.append hc.all)
mutual
def noL:Aa→Bool
 | .list _=>false
 | .dict _=>false
 | .tuple xs=>jP xs
 | .none=>true
 | .bool _=>true
 | .int _=>true
 | .str _=>true
def jP:List Aa→Bool
 | []=>true
 | x::r=>noL x&&jP r
end
structure Gd (n:Nat) (d:Aa):Prop where
 nol:noL d=true
 lay:d.canLay0=true
 dep:d.depth≤n
theorem Gd.mono {n m:Nat} {d:Aa} (h:Gd n d) (hm:n≤m):Gd m d:=⟨h.nol,h.lay,As h.dep hm⟩
theorem W4 {x:Str} {n:Nat} (h:PyData.strOk x=true):Gd n (.str x):=⟨rfl,h,A7 _⟩
theorem qc6 {i:Int} {n:Nat}:Gd n (.int i):=⟨rfl,rfl,A7 _⟩
theorem Yz {n:Nat}:∀ {xs:List Aa},(∀ x∈xs,Gd n x)→jP xs=true∧PyData.canLayAll0 xs=true∧PyData.depthAll xs≤n
 | [],_=>⟨rfl,rfl,A7 _⟩
 | x::r,h=>by
  obtain ⟨h1,h2,h3⟩:=Yz fun y hy=>h y (Au _ hy);have hx:=h x A0;refine ⟨?_,?_,?_⟩
  ·rw [jP,hx.nol,h1];rfl
  ·rw [PyData.canLayAll0,hx.lay,h2];rfl
  ·rw [PyData.depthAll];exact Dc.mpr ⟨hx.dep,h3⟩
theorem W3 {n:Nat} {xs:List Aa} (h:∀ x∈xs,Gd n x):Gd (n+1) (.tuple xs):=by
 obtain ⟨h1,h2,h3⟩:=Yz h;exact ⟨by rw [noL];exact h1,by rw [PyData.canLay0];exact h2,by rw [PyData.depth];exact B2 h3⟩
theorem WR {x:Str} (h:qZ x=true):PyData.strOk x=true:=by
 unfold qZ at h;rw [Ao] at h;unfold PyData.strOk;rw [← Array.all_toList,A3];intro c hc;have q:=A3.mp h.2 c hc;rw [Ao] at q;have:=A1 q.2;exact Ai ⋯
abbrev vi:List Str:=["number","name","word","sign","names","terms","body","term"]
theorem Y4 {t:Aa} {n:Nat} (h:qN t=true):Gd n t:=by
 cases t with
 | str x=>exact W4 (WR h)
 | _=>cases h
theorem qe6 {t:Aa} {f:Str} {n:Nat} (hs:qx t f=true) (hf:f∈vi) (hk:∀ z∈qr t f,Gd n z.1):Gd (n+1) t:=by
 simp only [vi,Av,Bg,or_false] at hf;rcases hf with rfl | rfl | rfl | rfl | rfl | rfl | rfl | rfl
 ·rw [jU] at hs;cases t with
  | int i=>exact qc6
  | _=>cases hs
 ·rw [jj] at hs;exact Y4 hs
 ·rw [JE] at hs;cases t with
  | str x=>
   have q:(qZ x&&x !="any")=true:=hs;rw [Ao] at q;exact W4 (WR q.1)
  | _=>cases hs
 ·rw [JF] at hs;cases t with
  | str x=>
   have q:(vx.any fun y=>y==x)=true:=hs;obtain ⟨y,hy,e⟩:=Cp.mp q;cases Bk.mp e;refine W4 ?_;have:(vx.all fun y=>PyData.strOk y)=true:=∅;exact A3.mp this _ hy
  | _=>cases hs
 ·rw [Jj] at hs;cases t with
  | tuple xs=>
   simp only [areNames,Ao] at hs;exact W3 fun x hx=>Y4 (A3.mp hs.1.2 x hx)
  | _=>cases hs
 ·rw [jN] at hs;cases t with
  | tuple xs=>
   rw [wH] at hk;exact W3 fun x hx=>hk (x,"term") (C5 hx)
  | _=>cases hs
 ·rw [j4] at hs;cases t with
  | tuple xs=>
   rw [jY] at hk;exact W3 fun x hx=>hk (x,"statement") (C5 hx)
  | _=>cases hs
 ·rw [ji] at hk;exact (hk (t,"term") A0).mono (Nat.le_succ _)
theorem VL:∀ p∈forms,PyData.strOk p.1=true∧∀ f∈p.2,f∈vi:=by
 have h:(forms.all fun p=>PyData.strOk p.1&&p.2.all fun f=>vi.any fun g=>g==f)=true:=∅;intro p hp;have q:=A3.mp h p hp;rw [Ao] at q;refine ⟨q.1,fun f hf=>?_⟩;obtain ⟨g,hg,e⟩:=Cp.mp (A3.mp q.2 f hf);cases Bk.mp e;exact hg
theorem qas {d:Aa} {sh:Str} {hands:Bool} {n:Nat} (h:qP d sh hands=true) (hk:∀ e∈WX d,Gd n e):Gd (n+2) d:=by
 obtain ⟨hd,ts,fs,l,rfl,_,_,e,_,hl,hs,_⟩:=z3 h;obtain ⟨k1,k2⟩:=VL _ (Bb e);refine W3 fun x hx=>?_;rcases Av.mp hx with rfl | hx
 ·exact W4 k1
 ·obtain ⟨i,hi,rfl⟩:=List.getElem_of_mem hx;have hz:(ts[i],fs[i]'⋯)∈ts.zip fs:=by
   rw [List.mem_iff_getElem];exact ⟨i,by rw [Ds];omega,by rw [List.getElem_zip]⟩
  refine qe6 (hs _ hz) (k2 _ (Dz _)) fun z hzz=>hk z.1 ?_;unfold WX;refine C5 ?_;rw [zi e];exact D7.mpr ⟨_,hz,hzz⟩
mutual
theorem Tr.gd:∀ {d:Aa} {s t:Nat},Tr d s t→Gd (2*t) d
 | _,_,_,.mk hf h=>qas hf (Trl.gd h)
theorem Trl.gd:∀ {ds:List Aa} {s t:Nat},Trl ds s t→∀ d∈ds,Gd (2*t) d
 | _,_,_,.nil=>fun d hd=>nomatch hd
 | _,_,_,.cons h1 h2=>by
  have a:=Tr.gd h1;have b:=Trl.gd h2;intro d hd;rcases Av.mp hd with e | hd
  ·rw [e];exact a.mono ⋯
  ·exact (b d hd).mono ⋯
end
abbrev sz (d:Aa):Nat:=d.shown.length
theorem all_shown:∀ xs:List Aa,PyData.shownAll xs=xs.map PyData.shown
 | []=>rfl
 | x::r=>by rw [PyData.shownAll,all_shown r];rfl
theorem wb (xs:List Aa):sz (.tuple xs)≤(xs.map sz).sum+2*xs.length+3:=by
 have h:=tupleText_len_le (xs.map PyData.shown);rw [An,Bp] at h;have e:sz (.tuple xs)=(tupleText (xs.map PyData.shown)).length:=by
  show (PyData.shown (.tuple xs)).length=_;rw [PyData.shown,all_shown]
 rw [e];exact h
theorem Wr {x:Str} {n:Nat} (h:PyData.strOk x=true) (hn:x.length≤n):sz (.str x)≤10*n+2:=by
 have q:=StrLaws.reprText_len x fun c hc=>by
  unfold PyData.strOk at h;rw [← Array.all_toList,A3] at h;have:=A1 (h c hc);omega
 have e:sz (.str x)=(reprText x).length:=by
  show (PyData.shown (.str x)).length=_;rw [PyData.shown]
 omega
theorem Y2 {i:Int} (h:vJ i=true):i.natAbs.log2<1920:=by
 unfold vJ at h;rw [Ao] at h;have a:=A1 h.1;have b:=A1 h.2;have c:i.natAbs<2 ^ 1920:=Bx (show i.natAbs≤1000000000000 from ⋯) ∅
 by_cases z:i.natAbs=0
 ·rw [z];decide
 ·exact (Nat.log2_lt z).mpr c
theorem qbq {i:Int} (h:vJ i=true):sz (.int i)≤1921:=by
 have e:sz (.int i)=(Str.ofString (toString i)).length:=by
  show (PyData.shown (.int i)).length=_;rw [PyData.shown]
 rw [e];exact PyProof.Rows.int_text_len_1921 (Y2 h)
theorem Z7 {x:Str} (h:qZ x=true):x.length≤8:=by
 unfold qZ at h;rw [Ao,Ao] at h;exact A1 h.1.2
theorem Ws {t:Aa} (h:qN t=true):sz t≤82∧t.showable=true:=by
 cases t with
 | str x=>exact ⟨Wr (WR h) (Z7 h),rfl⟩
 | _=>cases h
theorem Zo {c:Nat}:∀ {xs:List Aa},(∀ x∈xs,sz x≤c)→(xs.map sz).sum≤c*xs.length
 | [],_=>A7 _
 | x::r,h=>by
  have a:=h x A0;have b:=Zo fun y hy=>h y (Au _ hy);rw [A2,Ch,A5,Nat.mul_succ];omega
theorem Yd:∀ {xs:List Aa},(∀ x∈xs,x.showable=true)→PyData.showableAll xs=true
 | [],_=>rfl
 | x::r,h=>by
  rw [PyData.showableAll,h x A0,Yd fun y hy=>h y (Au _ hy)];rfl
theorem vf:∀ (xs:List Aa),(xs.map fun x=>sz x+2).sum=(xs.map sz).sum+2*xs.length
 | []=>rfl
 | x::r=>by
  rw [A2,Ch,vf r,A2,Ch,A5];omega
theorem Vi {xs:List Aa} (h:∀ x∈xs,x.showable=true):(PyData.tuple xs).showable=true:=by
 rw [PyData.showable];exact Yd h
theorem qdx {t:Aa} {f:Str} (hs:qx t f=true) (hf:f∈vi) (hk:∀ z∈qr t f,z.1.showable=true):t.showable=true∧sz t≤2000+((qr t f).map fun z=>sz z.1+2).sum:=by
 simp only [vi,Av,Bg,or_false] at hf;rcases hf with rfl | rfl | rfl | rfl | rfl | rfl | rfl | rfl
 ·rw [jU] at hs;cases t with
  | int i=>
   have:=qbq hs;exact ⟨by rw [PyData.showable];exact Ai (Y2 hs),⋯⟩
  | _=>cases hs
 ·rw [jj] at hs;obtain ⟨a,b⟩:=Ws hs;exact ⟨b,⋯⟩
 ·rw [JE] at hs;cases t with
  | str x=>
   have q:(qZ x&&x !="any")=true:=hs;rw [Ao] at q;obtain ⟨a,b⟩:=Ws (t:= .str x) q.1;exact ⟨b,⋯⟩
  | _=>cases hs
 ·rw [JF] at hs;cases t with
  | str x=>
   have q:(vx.any fun y=>y==x)=true:=hs;obtain ⟨y,hy,e⟩:=Cp.mp q;cases Bk.mp e;have k:(vx.all fun y=>PyData.strOk y&&decide (y.length≤8))=true:=∅;have k':=A3.mp k _ hy;rw [Ao] at k';have:=Wr k'.1 (A1 k'.2);exact ⟨rfl,⋯⟩
  | _=>cases hs
 ·rw [Jj] at hs;cases t with
  | tuple xs=>
   simp only [areNames,Ao] at hs;have l4:=A1 hs.1.1;have q:∀ x∈xs,sz x≤82∧x.showable=true:=fun x hx=>Ws (A3.mp hs.1.2 x hx);have a:=wb xs;have b:=Zo fun x hx=>(q x hx).1;exact ⟨Vi fun x hx=>(q x hx).2,⋯⟩
  | _=>cases hs
 ·rw [jN] at hs;cases t with
  | tuple xs=>
   rw [wH] at hk ⊢;rw [Bp];have a:=wb xs;have b:=vf xs;have e:((fun z:Aa×Str=>sz z.1+2) ∘ fun x:Aa=>(x,("term":Str)))=fun x=>sz x+2:=rfl;rw [e,b];exact ⟨Vi fun x hx=>hk (x,"term") (C5 hx),⋯⟩
  | _=>cases hs
 ·rw [j4] at hs;cases t with
  | tuple xs=>
   rw [jY] at hk ⊢;rw [Bp];have a:=wb xs;have b:=vf xs;have e:((fun z:Aa×Str=>sz z.1+2) ∘ fun x:Aa=>(x,("statement":Str)))=fun x=>sz x+2:=rfl;rw [e,b];exact ⟨Vi fun x hx=>hk (x,"statement") (C5 hx),⋯⟩
  | _=>cases hs
 ·rw [ji] at hk ⊢;refine ⟨hk (t,"term") A0,?_⟩;rw [A2,Ch];show sz t≤2000+(sz t+2+_);omega
theorem Zn:∀ (l:List (Aa×Str)),(∀ p∈l,sz p.1≤2000+((qr p.1 p.2).map fun z=>sz z.1+2).sum)→(l.map fun p=>sz p.1).sum≤2000*l.length+((l.flatMap fun p=>qr p.1 p.2).map fun z=>sz z.1+2).sum
 | [],_=>A7 _
 | p::r,h=>by
  have a:=h p A0;have b:=Zn r fun q hq=>h q (Au _ hq);rw [A2,Ch,A5,C2,Bc,List.sum_append];omega
theorem qar {d:Aa} {sh:Str} {hands:Bool} (h:qP d sh hands=true) (hk:∀ e∈WX d,e.showable=true):d.showable=true∧sz d+2≤10200+((WX d).map fun e=>sz e+2).sum:=by
 obtain ⟨hd,ts,fs,l,rfl,_,_,e,h5,hl,hs,_⟩:=z3 h;obtain ⟨k1,k2⟩:=VL _ (Bb e);have hh:hd.length≤8:=by
  have k:(forms.all fun p=>decide (p.1.length≤8))=true:=∅;exact A1 (A3.mp k _ (Bb e))
 have q:∀ p∈ts.zip fs,p.1.showable=true∧sz p.1≤2000+((qr p.1 p.2).map fun z=>sz z.1+2).sum:=fun p hp=>by
  refine qdx (hs p hp) (k2 _ (Cw hp).2) fun z hz=>hk z.1 ?_;unfold WX;refine C5 ?_;rw [zi e];exact D7.mpr ⟨_,hp,hz⟩
 have ez:(ts.zip fs).map (·.1)=ts:=List.map_fst_zip ⋯;refine ⟨Vi fun x hx=>?_,?_⟩
 ·rcases Av.mp hx with rfl | hx
  ·rfl
  ·rw [← ez] at hx;obtain ⟨p,hp,rfl⟩:=Cg.mp hx;exact (q p hp).1
 ·have a:=wb (.str hd::ts);have b:=Zn (ts.zip fs) fun p hp=>(q p hp).2;have c:sz (.str hd)≤82:=Wr k1 hh;have e2:((ts.zip fs).map fun p=>sz p.1)=ts.map sz:=by
   rw [← ez,Bp]
   congr 1
   rw [ez]
  have e3:((WX (.tuple (.str hd::ts))).map fun e=>sz e+2)=(((ts.zip fs).flatMap fun p=>qr p.1 p.2).map fun z=>sz z.1+2):=by
   unfold WX;rw [zi e,Bp];rfl
  rw [e2,Ds] at b;rw [A2,Ch,A5] at a;rw [e3];omega
mutual
theorem Tr.sz:∀ {d:Aa} {s t:Nat},Tr d s t→d.showable=true∧Tre.sz d+2≤10200*s
 | _,_,_,.mk hf h=>by
  obtain ⟨a,b⟩:=Trl.sz h;obtain ⟨c,e⟩:=qar hf a;exact ⟨c,⋯⟩
theorem Trl.sz:∀ {ds:List Aa} {s t:Nat},Trl ds s t→(∀ d∈ds,d.showable=true)∧(ds.map fun e=>Tre.sz e+2).sum≤10200*s
 | _,_,_,.nil=>⟨fun d hd=>(nomatch hd),A7 _⟩
 | _,_,_,.cons h1 h2=>by
  obtain ⟨a,b⟩:=Tr.sz h1;obtain ⟨c,e⟩:=Trl.sz h2;refine ⟨fun d hd=>?_,?_⟩
  ·rcases Av.mp hd with z | hd
   ·rw [z];exact a
   ·exact c d hd
  ·rw [A2,Ch];omega
end
end Tre
set_option tactic.hygienic true
namespace Tre
open PySem
theorem Lvl.split:∀ {a b:Lv} {s t:Nat},Lvl (a++b) s t→∃ s1 t1 s2 t2,Lvl a s1 t1∧Lvl b s2 t2∧s=s1+s2∧t=max t1 t2
 | [],b,s,t,h=>⟨0,0,s,t,.nil,h,(Nat.zero_add _).symm,(Nat.zero_max _).symm⟩
 | p::a,b,_,_,.cons (s:=s0) (t:=t0) h1 h2=>by
  obtain ⟨s1,t1,s2,t2,x,y,e1,e2⟩:=Lvl.split h2;exact ⟨s0+s1,max t0 t1,s2,t2,.cons h1 x,y,⋯,⋯⟩
theorem qbz:∀ {l:List (Aa×Str)} {hands:Bool} {s t:Nat},Lvl (l.map fun z=>(z.1,z.2,hands)) s t→Ptl l hands s t:=by
 intro l
 induction l with
 | nil=>intro hands s t h;cases h;exact .nil
 | cons z r ih=>
  intro hands s t h;cases h with
  | cons h1 h2=>exact .cons h1 (ih h2)
theorem Lvl.raise:∀ {lv:Lv} {s t:Nat},(∀ p∈lv,qP p.1 p.2.1 p.2.2=true)→Lvl (Tre.jQ lv) s t→∃ t',Lvl lv (lv.length+s) t'∧t'≤t+1
 | [],s,t,_,h=>by
  cases h;exact ⟨0,.nil,A7 _⟩
 | p::r,s,t,hf,h=>by
  have e:Tre.jQ (p::r)=((jo p.1).map fun z=>(z.1,z.2,jz p.1 p.2.2))++Tre.jQ r:=by
   unfold Tre.jQ;rw [C2]
  rw [e] at h;obtain ⟨s1,t1,s2,t2,h1,h2,e1,e2⟩:=h.split;obtain ⟨t',h3,l3⟩:=Lvl.raise (fun q hq=>hf q (Au _ hq)) h2;have h4:=Pt.mk (hf p A0) (qbz h1);refine ⟨max (t1+1) t',?_,⋯⟩;have h5:=Lvl.cons h4 h3;rw [A5,show r.length+1+s=s1+1+(r.length+s2) from ⋯];exact h5
theorem wP:∀ (n sz:Nat) (lv:Lv),sz≤300→vw n sz lv=true→∃ s t,Lvl lv s t∧t≤n∧sz+s≤300
 | 0,sz,lv,hz,h=>by
  rw [vw] at h;rw [List.isEmpty_iff.mp h];exact ⟨0,0,.nil,Aj _,hz⟩
 | n+1,sz,lv,hz,h=>by
  rw [vw,Cu,Ao,Ao] at h;rcases h with h | ⟨⟨h1,h2⟩,h3⟩
  ·rw [List.isEmpty_iff.mp h];exact ⟨0,0,.nil,A7 _,hz⟩
  ·have h1':=A1 h1;obtain ⟨s,t,h4,h5,h6⟩:=wP n (sz+lv.length) (Tre.jQ lv) h1' h3;obtain ⟨t',h7,h8⟩:=Lvl.raise (fun p hp=>A3.mp h2 p hp) h4;exact ⟨_,t',h7,⋯,⋯⟩
theorem isProgram_back {d:Aa} (h:qR d=true):∃ s t,Pt d "program" false s t∧t≤20∧s≤300:=by
 obtain ⟨s,t,h1,h2,h3⟩:=wP 20 0 _ (A7 _) h;cases h1 with
 | cons p q=>
  cases q;exact ⟨_,_,p,⋯,⋯⟩
theorem wL (d:Aa):qR d=true↔∃ s t,Pt d "program" false s t∧t≤20∧s≤300:=⟨isProgram_back,fun ⟨_,_,h,a,b⟩=>W0 h a b⟩
abbrev tForms:List (Str×Str):=[("number","n"),("name","x"),("two","stt"),("step","tt"),("fun","NB"),("loop","NH"),("call","tT")]
abbrev sForms:List (Str×Str):=[("let","xt"),("set","xt"),("do","t"),("if","tbb"),("while","tb"),("hand","t"),("back","t"),("fault","wt"),("try","bxxbb")]
def JM (one:Bool) (h:Str):Option Str:=if one then sForms.lookup h else tForms.lookup h
def jS (one:Bool):Str:=if one then "statement" else "term"
abbrev vh:List (Str×Str):=[("n","number"),("x","name"),("w","word"),("s","sign"),("N","names"),("t","term"),("T","terms"),("b","body"),("B","body"),("H","body")]
def shL (L:Str):Str:=(vh.lookup L).getD ""
def hdL (L:Str) (hand:Bool):Bool:=if L=="B" then false else if L=="H" then true else hand
def ze (w:Str):List Str:=w.cps.toList.map fun c=>(⟨#[c]⟩:Str)
def FtL (d:Aa) (L:Str) (hand:Bool) (p:Nat×Nat):Prop:=qx d (shL L)=true∧Ptl (qr d (shL L)) (hdL L hand) p.1 p.2
def smS (l:List (Nat×Nat)):Nat:=(l.map (·.1)).sum
def mxT (l:List (Nat×Nat)):Nat:=l.foldr (fun p m=>max p.2 m) 0
def VM (L:Str):Bool:=!(shL L=="term"||shL L=="terms"||shL L=="body")
theorem vM {L:Str} (h:VM L=true) (d:Aa):qr d (shL L)=[]:=by
 unfold VM at h;rw [Cm,Cz,Cz] at h;unfold qr;rw [h.1.1,h.1.2,h.2];rfl
def WV (sort:Str) (p:Str×Str):Bool:=(((heads.lookup sort).getD []).any fun y=>y==p.1)&&(forms.lookup p.1==some ((ze p.2).map shL))&&
 [true,false].all fun hand=>(ze p.2).all fun L=>VM L||(hdL L hand==(if p.1=="fun" then false else hand||(p.1=="main"||p.1=="loop")))
theorem XL {one:Bool} {h w:Str} (e:JM one h=some w):WV (jS one) (h,w)=true:=by
 have a:∀ p∈sForms,WV "statement" p=true:=∅;have b:∀ p∈tForms,WV "term" p=true:=∅;cases one with
 | true=>exact a (h,w) (D8 e)
 | false=>exact b (h,w) (D8 e)
theorem XJ {one:Bool} {h:Str} {ts:List Aa} {hand:Bool} (e:JM one h=none):qP (.tuple (.str h::ts)) (jS one) hand=false:=by
 have a:∀ x∈(heads.lookup ("statement":Str)).getD [],(sForms.lookup x).isSome=true:=∅;have b:∀ x∈(heads.lookup ("term":Str)).getD [],(tForms.lookup x).isSome=true:=∅;cases hb:qP (.tuple (.str h::ts)) (jS one) hand with
 | false=>rfl
 | true=>
  simp only [qP,Ao] at hb;obtain ⟨y,hy,hyh⟩:=Cp.mp hb.1.1;cases Bk.mp hyh;cases one with
  | true=>
   have:=a _ hy;rw [show sForms.lookup h=none from e] at this;cases this
  | false=>
   have:=b _ hy;rw [show tForms.lookup h=none from e] at this;cases this
theorem Ptl.split:∀ {a b:List (Aa×Str)} {hands:Bool} {s t:Nat},Ptl (a++b) hands s t→∃ s1 t1 s2 t2,Ptl a hands s1 t1∧Ptl b hands s2 t2
 | [],b,_,s,t,h=>⟨0,0,s,t,.nil,h⟩
 | p::a,b,_,_,_,.cons (s:=s0) (t:=t0) h1 h2=>by
  obtain ⟨s1,t1,s2,t2,x,y⟩:=Ptl.split h2;exact ⟨_,_,s2,t2,.cons h1 x,y⟩
def JO (hand:Bool) (ts:List Aa) (Ls:List Str):List (Nat×Nat→Prop):=(ts.zip Ls).map fun p=>FtL p.1 p.2 hand
abbrev Ye:List (Nat×Nat→Prop)→List (Nat×Nat)→Prop:=Paired fun P p=>P p
theorem Yb {hand W:Bool}:∀ {ts:List Aa} {Ls:List Str} {ps:List (Nat×Nat)},ts.length=Ls.length→(∀ L∈Ls,VM L=true∨hdL L hand=W)→Ye (JO hand ts Ls) ps→
  (∀ p∈ts.zip (Ls.map shL),qx p.1 p.2=true)∧Ptl ((ts.zip (Ls.map shL)).flatMap fun p=>qr p.1 p.2) W (smS ps) (mxT ps)
 | [],[],_,_,_,.nil=>⟨fun p hp=>(by cases hp),.nil⟩
 | d::ts,L::Ls,(a,b)::ps,hl,hw,.cons h t=>by
  obtain ⟨e1,e2⟩:=Yb (Nat.succ.inj hl) (fun M hM=>hw M (Au _ hM)) t;refine ⟨fun p hp=>?_,?_⟩
  ·rcases Av.mp hp with rfl | hp
   ·exact h.1
   ·exact e1 p hp
  ·rw [A2,List.zip_cons_cons,C2];refine Ptl.append (s:=a) (t:=b) ?_ e2;rcases hw L A0 with f | f
   ·have q:Ptl (qr d (shL L)) (hdL L hand) a b:=h.2;rw [vM f] at q ⊢;cases q with
    | nil=>exact .nil
   ·rw [← f];exact h.2
 | [],_::_,_,hl,_,_=>by cases hl
 | _::_,[],_,hl,_,_=>by cases hl
theorem yn {hand W:Bool}:∀ {ts:List Aa} {Ls:List Str} {s t:Nat},ts.length=Ls.length→(∀ L∈Ls,VM L=true∨hdL L hand=W)→(∀ p∈ts.zip (Ls.map shL),qx p.1 p.2=true)→Ptl ((ts.zip (Ls.map shL)).flatMap fun p=>qr p.1 p.2) W s t→
  ∃ ps,Ye (JO hand ts Ls) ps
 | [],[],_,_,_,_,_,_=>⟨[],.nil⟩
 | d::ts,L::Ls,_,_,hl,hw,hs,h=>by
  rw [A2,List.zip_cons_cons,C2] at h;obtain ⟨s1,t1,s2,t2,x,y⟩:=h.split;obtain ⟨ps,q⟩:=yn (Nat.succ.inj hl) (fun M hM=>hw M (Au _ hM)) (fun p hp=>hs p (Au _ hp)) y;refine ⟨(s1,t1)::ps,.cons ⟨hs _ A0,?_⟩ q⟩;rcases hw L A0 with f | f
  ·have x':Ptl (qr d (shL L)) W s1 t1:=x;rw [vM f] at x' ⊢;cases x' with
   | nil=>exact .nil
  ·rw [f];exact x
 | [],_::_,_,_,hl,_,_,_=>by cases hl
 | _::_,[],_,_,hl,_,_,_=>by cases hl
theorem w4 {one:Bool} {h w:Str} {hand:Bool} (e:JM one h=some w):(((heads.lookup (jS one)).getD []).any fun y=>y==h)=true∧forms.lookup h=some ((ze w).map shL)∧
  ∀ (ts:List Aa) (L:Str),L∈ze w→VM L=true∨hdL L hand=jz (.tuple (.str h::ts)) hand:=by
 have q:=XL e;unfold WV at q;rw [Ao,Ao] at q;refine ⟨q.1.1,Bk.mp q.1.2,fun ts L hL=>?_⟩;have z:=A3.mp (A3.mp q.2 hand (by cases hand <;> decide)) L hL
 rw [Cu] at z;rcases z with z | z
 ·exact .inl z
 ·exact .inr (Bk.mp z)
theorem qed {one:Bool} {h w:Str} {hand:Bool} {ts:List Aa} {ps:List (Nat×Nat)} (e:JM one h=some w) (hl:ts.length=(ze w).length) (hh:(h=="hand"&&!hand)=false) (f:Ye (JO hand ts (ze w)) ps):
  Pt (.tuple (.str h::ts)) (jS one) hand (smS ps+1) (mxT ps+1):=by
 obtain ⟨r1,r2,r3⟩:=w4 (hand:=hand) e;obtain ⟨e1,e2⟩:=Yb hl (r3 ts) f;refine .mk ?_ ?_
 ·simp only [qP,zj,Ao,Cm,Bs];refine ⟨⟨r1,hh⟩,?_,?_⟩
  ·rw [r2];show ts.length=((ze w).map shL).length;rw [An,hl]
  ·rw [r2];exact A3.mpr e1
 ·show Ptl ((ts.zip ((forms.lookup h).getD [])).flatMap fun p=>qr p.1 p.2) _ _ _;rw [r2];exact e2
theorem YW {one:Bool} {h w:Str} {hand:Bool} {ts:List Aa} {s t:Nat} (e:JM one h=some w) (p:Pt (.tuple (.str h::ts)) (jS one) hand s t):
  ts.length=(ze w).length∧(h=="hand"&&!hand)=false∧∃ ps,Ye (JO hand ts (ze w)) ps:=by
 obtain ⟨r1,r2,r3⟩:=w4 (hand:=hand) e;cases p with
 | mk hf hp=>
  simp only [qP,zj,Ao,Cm,Bs] at hf;obtain ⟨⟨_,hh⟩,hl,hs⟩:=hf;rw [r2] at hl hs;have hl':ts.length=(ze w).length:=by
   have:ts.length=((ze w).map shL).length:=hl
   rwa [An] at this
  have hp':Ptl ((ts.zip ((forms.lookup h).getD [])).flatMap fun p=>qr p.1 p.2) (jz (.tuple (.str h::ts)) hand) _ _:=hp;rw [r2] at hp';exact ⟨hl',hh,yn hl' (r3 ts) (A3.mp hs) hp'⟩
def Qc (sort:Str) (hand:Bool) (xs:List Aa):List (Nat×Nat→Prop):=xs.map fun x p=>Pt x sort hand p.1 p.2
theorem WT {sort:Str} {hand:Bool}:∀ {xs:List Aa} {ps:List (Nat×Nat)},Ye (Qc sort hand xs) ps→Ptl (xs.map fun x=>(x,sort)) hand (smS ps) (mxT ps)
 | [],_,.nil=> .nil
 | _::_,_::_,.cons h t=> .cons h (WT t)
theorem wZ {sort:Str} {hand:Bool}:∀ {xs:List Aa} {s t:Nat},Ptl (xs.map fun x=>(x,sort)) hand s t→∃ ps,Ye (Qc sort hand xs) ps
 | [],_,_,_=>⟨[],.nil⟩
 | x::xs,_,_,.cons (s:=s) (t:=t) h r=>by
  obtain ⟨ps,q⟩:=wZ r;exact ⟨(s,t)::ps,.cons h q⟩
def vO (P:Nat×Nat→Prop) (r:Option (Nat×Nat)):Prop:=match r with
 | some p=>P p
 | none=>∀ p,¬ P p
theorem WG:∀ {Ps:List (Nat×Nat→Prop)} {rs:List (Option (Nat×Nat))},Paired vO Ps rs→(∃ ps,rs=ps.map some∧Ye Ps ps)∨(none∈rs∧∀ ps,¬ Ye Ps ps)
 | [],_,.nil=> .inl ⟨[],rfl,.nil⟩
 | P::Ps,r::rs,.cons h t=>by
  cases r with
  | none=>exact .inr ⟨A0,fun ps z=>by cases z with | cons a b=>exact h _ a⟩
  | some p=>
   rcases WG t with ⟨ps,rfl,q⟩ | ⟨m,q⟩
   ·exact .inl ⟨p::ps,rfl,.cons h q⟩
   ·exact .inr ⟨Au _ m,fun ps z=>by cases z with | cons a b=>exact q _ b⟩
theorem qbc:∀ {ps:List (Nat×Nat)} {m:Int},m∈ps.map (fun p=>(p.2:Int))→(∀ x∈ps.map (fun p=>(p.2:Int)),x≤m)→m=(mxT ps:Int)
 | [],_,h,_=>nomatch h
 | p::ps,m,h,g=>by
  have lo:∀ {qs:List (Nat×Nat)},(∀ x∈qs.map (fun p=>(p.2:Int)),x≤m)→0≤m→(mxT qs:Int)≤m:=by
   intro qs
   induction qs with
   | nil=>exact fun _ z=>z
   | cons q r ih=>
    intro g z;have h1:(q.2:Int)≤m:=g _ A0;have h2:=ih (fun x hx=>g x (Au _ hx)) z;show ((max q.2 (mxT r):Nat):Int)≤m;omega
  have hi:∀ {qs:List (Nat×Nat)},m∈qs.map (fun p=>(p.2:Int))→m≤(mxT qs:Int):=by
   intro qs
   induction qs with
   | nil=>exact fun z=>nomatch z
   | cons q r ih=>
    intro z;show m≤((max q.2 (mxT r):Nat):Int);rcases Av.mp z with z | z
    ·have z':m=(q.2:Int):=z;omega
    ·have:=ih z;omega
  have h0:0≤m:=by
   obtain ⟨q,_,e⟩:=Cg.mp h;omega
  have:=lo g h0;have:=hi h;omega
def seven:Aa:= .tuple [.str "number",.int 7]
def VP (c:Bool):Nat→Aa
 | 0=>seven
 | k+1=>if c then .tuple [.str "two",.str "+",VP c k,seven] else .tuple [.str "fun",.tuple [],.tuple [.tuple [.str "do",VP c k]]]
def QL (d:Aa):Aa:= .tuple [.str "main",.tuple [],.tuple [.tuple [.str "do",d]]]
theorem V1 {d:Aa} {u:Str} {r:List (Aa×Str)} {hands:Bool} {s t:Nat} (h:Ptl ((d,u)::r) hands s t):∃ s1 t1,Pt d u hands s1 t1∧t1≤t:=by
 cases h with
 | cons a b=>exact ⟨_,_,a,Nat.le_max_left _ _⟩
theorem yo {d:Aa} {sh:Str} {hands:Bool} {s t:Nat} (h:Pt d sh hands s t):∃ s1 t1,Ptl (jo d) (jz d hands) s1 t1∧t=t1+1:=by
 cases h with
 | mk _ p=>exact ⟨_,_,p,rfl⟩
theorem qbg {d:Aa} {sh:Str} {hands:Bool} {s t:Nat} (h:Pt (.tuple [.str "do",d]) sh hands s t):∃ hd s1 t1,Pt d "term" hd s1 t1∧t1<t:=by
 obtain ⟨s1,t1,p,rfl⟩:=yo h;obtain ⟨s2,t2,q,l⟩:=V1 (show Ptl ((d,"term")::[]) _ s1 t1 from p);exact ⟨_,s2,t2,q,⋯⟩
theorem V9 (c:Bool):∀ (k:Nat) {hands:Bool} {s t:Nat},Pt (VP c k) "term" hands s t→k<t
 | 0,_,_,_,h=>by
  obtain ⟨s1,t1,_,rfl⟩:=yo h;omega
 | k+1,_,_,_,h=>by
  cases c with
  | true=>
   obtain ⟨s1,t1,p,rfl⟩:=yo h;obtain ⟨s2,t2,q,l⟩:=V1 (show Ptl ((VP true k,"term")::[(seven,"term")]) _ s1 t1 from p);have:=V9 true k q;omega
  | false=>
   obtain ⟨s1,t1,p,rfl⟩:=yo h;obtain ⟨s2,t2,q,l⟩:=V1 (show Ptl ((.tuple [.str "do",VP false k],"statement")::[]) _ s1 t1 from p);obtain ⟨hd,s3,t3,q3,l3⟩:=qbg q;have:=V9 false k q3;omega
theorem qbm {c:Bool} {k:Nat} (h:20≤k):qR (QL (VP c k))=false:=by
 cases e:qR (QL (VP c k)) with
 | false=>rfl
 | true=>
  obtain ⟨s,t,p,ht,_⟩:=isProgram_back e;obtain ⟨s1,t1,p1,rfl⟩:=yo p;obtain ⟨s2,t2,q,l⟩:=V1 (show Ptl ((.tuple [.str "do",VP c k],"statement")::[]) _ s1 t1 from p1);obtain ⟨hd,s3,t3,q3,l3⟩:=qbg q;have:=V9 c k q3;omega
mutual
theorem Y3:∀ {d:Aa},noL d=true→d.hasDict=false
 | .list _,h=>by cases h
 | .dict _,h=>by cases h
 | .tuple xs,h=>by rw [noL] at h;rw [PyData.hasDict];exact yD h
 | .none,_=>rfl
 | .bool _,_=>rfl
 | .int _,_=>rfl
 | .str _,_=>rfl
theorem yD:∀ {ds:List Aa},jP ds=true→PyData.hasDictAll ds=false
 | [],_=>rfl
 | x::r,h=>by
  rw [jP,Ao] at h;rw [PyData.hasDictAll,Y3 h.1,yD h.2];rfl
end
structure Sl (n z:Nat) (d:Aa):Prop where
 able:d.showable=true
 nod:d.hasDict=false
 ft:fit d=true
 dep:d.depth≤n
 len:sz d≤z
structure Sls (n z:Nat) (ds:List Aa):Prop where
 able:PyData.showableAll ds=true
 nod:PyData.hasDictAll ds=false
 ft:zR ds=true
 dep:PyData.depthAll ds≤n
 len:(ds.map fun d=>sz d+2).sum≤z
section
variable {n m z y:Nat} {d x:Aa} {ds l r:List Aa}
theorem Sl.mono (h:Sl n z d) (a:n≤m) (b:z≤y):Sl m y d:=⟨h.able,h.nod,h.ft,As h.dep a,As h.len b⟩
theorem Sls.mono (h:Sls n z ds) (a:n≤m) (b:z≤y):Sls m y ds:=⟨h.able,h.nod,h.ft,As h.dep a,As h.len b⟩
theorem Sls.nil:Sls 0 0 []:=⟨rfl,rfl,rfl,A7 _,A7 _⟩
theorem Sls.cons (h:Sl n z d) (t:Sls m y ds):Sls (max n m) (z+2+y) (d::ds):=by
 refine ⟨?_,?_,?_,?_,?_⟩
 ·rw [PyData.showableAll,h.able,t.able];rfl
 ·rw [PyData.hasDictAll,h.nod,t.nod];rfl
 ·rw [zR,h.ft,t.ft];rfl
 ·rw [PyData.depthAll];have:=h.dep;have:=t.dep;omega
 ·rw [A2,Ch];have:=h.len;have:=t.len;omega
theorem Sls.head (h:Sls n z (d::ds)):Sl n (sz d) d∧Sls n ((ds.map fun d=>sz d+2).sum) ds∧sz d+2+(ds.map fun d=>sz d+2).sum≤z:=by
 obtain ⟨a,b,c,e,f⟩:=h;rw [PyData.showableAll,Ao] at a;rw [PyData.hasDictAll,Cz] at b;rw [zR,Ao] at c;rw [PyData.depthAll] at e;rw [A2,Ch] at f;exact ⟨⟨a.1,b.1,c.1,⋯,Aj _⟩,⟨a.2,b.2,c.2,⋯,Aj _⟩,f⟩
theorem Sls.app:∀ {l:List Aa} {n z:Nat},Sls n z l→Sls m y r→Sls (max n m) (z+y) (l++r)
 | [],n,z,h,t=>t.mono ⋯ ⋯
 | d::l,n,z,h,t=>by
  obtain ⟨a,b,c⟩:=h.head;exact (Sls.cons a (Sls.app b t)).mono ⋯ ⋯
theorem Sls.split:∀ {l:List Aa} {n z:Nat},Sls n z (l++r)→∃ u v,Sls n u l∧Sls n v r∧u+v≤z
 | [],n,z,h=>⟨0,z,Sls.nil.mono (A7 _) (Aj _),h,⋯⟩
 | d::l,n,z,h=>by
  obtain ⟨a,b,c⟩:=Sls.head (ds:=l++r) h;obtain ⟨u,v,p,q,e⟩:=Sls.split b;exact ⟨sz d+2+u,v,(Sls.cons a p).mono ⋯ (Aj _),q,⋯⟩
theorem Sls.all (h:Sls n z ds):∀ {d},d∈ds→Sl n z d:=by
 intro d hd;obtain ⟨l,r,rfl⟩:=List.append_of_mem hd;obtain ⟨u,v,_,q,e⟩:=Sls.split h;obtain ⟨a,_,c⟩:=q.head;exact a.mono (Aj _) ⋯
theorem sum2 (xs:List Aa):(PyData.shownAll xs).map (·.length)=xs.map sz:=by
 rw [all_shown,Bp];rfl
theorem Sl.tup (h:Sls n z ds):Sl (n+1) (z+3) (.tuple ds):=by
 refine ⟨by rw [PyData.showable];exact h.able,by rw [PyData.hasDict];exact h.nod,by rw [fit];exact h.ft,by rw [PyData.depth];exact B2 h.dep,?_⟩
 have a:=wb ds;have b:=h.len;rw [vf] at b;omega
theorem Sl.lst (h:Sls n z ds):Sl (n+1) (z+3) (.list ds):=by
 refine ⟨by rw [PyData.showable];exact h.able,by rw [PyData.hasDict];exact h.nod,by rw [fit];exact h.ft,by rw [PyData.depth];exact B2 h.dep,?_⟩
 have a:=listText_len_le (PyData.shownAll ds);have b:=h.len;rw [sum2] at a;have e2:(PyData.shownAll ds).length=ds.length:=by rw [all_shown,An]
 rw [e2] at a;rw [vf] at b;have e:sz (.list ds)=(listText (PyData.shownAll ds)).length:=by
  show (PyData.shown (.list ds)).length=_;rw [PyData.shown]
 omega
theorem Sl.items (h:Sl (n+1) z (.tuple ds)):Sls n z ds:=by
 obtain ⟨a,b,c,e,f⟩:=h;rw [PyData.showable] at a;rw [PyData.hasDict] at b;rw [fit] at c;rw [PyData.depth] at e;refine ⟨a,b,c,Dv e,?_⟩;have g:=piled_le_tupleText (PyData.shownAll ds);have e1:piled (PyData.shownAll ds)=(ds.map fun d=>sz d+2).sum:=by
  unfold piled;rw [all_shown,Bp];rfl
 have e2:sz (.tuple ds)=(tupleText (PyData.shownAll ds)).length:=by
  show (PyData.shown (.tuple ds)).length=_;rw [PyData.shown]
 omega
theorem Sl.swap {w:Nat} {x':Aa} (h:Sl (n+1) z (.tuple (l++x::r))) (hx:Sl m (sz x+w) x') (hm:n≤m):Sl (m+1) (z+w+3) (.tuple (l++x'::r)):=by
 obtain ⟨u,v,p,q,e⟩:=h.items.split;obtain ⟨a,b,c⟩:=q.head;exact (Sl.tup (p.app (Sls.cons hx b))).mono ⋯ ⋯
end
structure Sn (n z:Nat) (d:Aa):Prop where
 sl:Sl n z d
 nol:noL d=true
structure Sns (n z:Nat) (ds:List Aa):Prop where
 sl:Sls n z ds
 nol:jP ds=true
section
variable {n m z y:Nat} {d:Aa} {ds l r:List Aa}
theorem Sn.mono (h:Sn n z d) (a:n≤m) (b:z≤y):Sn m y d:=⟨h.sl.mono a b,h.nol⟩
theorem Sns.mono (h:Sns n z ds) (a:n≤m) (b:z≤y):Sns m y ds:=⟨h.sl.mono a b,h.nol⟩
theorem Sns.nil:Sns 0 0 []:=⟨.nil,rfl⟩
theorem Sns.cons (h:Sn n z d) (t:Sns m y ds):Sns (max n m) (z+2+y) (d::ds):=⟨.cons h.sl t.sl,by rw [jP,h.nol,t.nol];rfl⟩
theorem Sn.tup (h:Sns n z ds):Sn (n+1) (z+3) (.tuple ds):=⟨.tup h.sl,by rw [noL];exact h.nol⟩
theorem yF:∀ {l:List Aa},jP l=true→jP r=true→jP (l++r)=true
 | [],_,h=>h
 | d::l,g,h=>by
  rw [jP,Ao] at g;rw [D6,jP,g.1,yF g.2 h];rfl
theorem Sns.app (h:Sns n z l) (t:Sns m y r):Sns (max n m) (z+y) (l++r):=⟨h.sl.app t.sl,yF h.nol t.nol⟩
theorem yE:∀ {ds:List Aa},jP ds=true→∀ {d},d∈ds→noL d=true
 | x::r,h,d,hd=>by
  rw [jP,Ao] at h;rcases Av.mp hd with rfl | hd
  ·exact h.1
  ·exact yE h.2 hd
theorem Sns.all (h:Sns n z ds) (hd:d∈ds):Sn n z d:=⟨h.sl.all hd,yE h.nol hd⟩
theorem Sn.word {x:Str} (h:(PyData.strOk x&&decide (x.length≤9))=true):Sn 0 92 (.str x):=by
 rw [Ao] at h;have l:=A1 h.2;exact ⟨⟨rfl,rfl,Ai ⋯,A7 _,Wr h.1 l⟩,rfl⟩
theorem Sn.int {i:Int} (h:i.natAbs≤2000000000000):Sn 0 1921 (.int i):=by
 have lg:i.natAbs.log2<1920:=by
  have c:i.natAbs<2 ^ 1920:=Bx h ∅
  by_cases z:i.natAbs=0
  ·rw [z];decide
  ·exact (Nat.log2_lt z).mpr c
 refine ⟨⟨by rw [PyData.showable];exact Ai lg,rfl,rfl,A7 _,?_⟩,rfl⟩
 have e:sz (.int i)=(Str.ofString (toString i)).length:=by
  show (PyData.shown (.int i)).length=_;rw [PyData.shown]
 rw [e];exact PyProof.Rows.int_text_len_1921 lg
theorem Sn.none:Sn 0 4 .none:=⟨⟨rfl,rfl,rfl,A7 _,Aj _⟩,rfl⟩
theorem Sn.bool (b:Bool):Sn 0 5 (.bool b):=⟨⟨rfl,rfl,rfl,A7 _,by cases b <;> decide⟩,rfl⟩
theorem Sn.items (h:Sn (n+1) z (.tuple ds)):Sns n z ds:=⟨h.sl.items,by have:=h.nol;rw [noL] at this;exact this⟩
theorem Sn.item (h:Sn (n+1) z (.tuple ds)) (hd:d∈ds):Sn n (sz d) d∧sz d≤z:=by
 have a:=h.items.all hd;exact ⟨⟨⟨a.sl.able,a.sl.nod,a.sl.ft,a.sl.dep,Aj _⟩,a.nol⟩,a.sl.len⟩
theorem Sls.len2 (h:Sls n z ds):2*ds.length≤z:=by
 have:=h.len;rw [vf] at this;omega
theorem Tr.sn {s t:Nat} (h:Tr d s t) (hf:fit d=true):Sn (2*t) (10200*s) d:=by
 obtain ⟨a,b⟩:=h.sz;have g:=h.gd;exact ⟨⟨a,Y3 g.nol,hf,g.dep,⋯⟩,g.nol⟩
end
end Tre
set_option tactic.hygienic false
namespace Nam
open PySem
def one (c:Nat):Str:=⟨#[c]⟩
def low (c:Nat):Bool:=decide (97≤c)&&decide (c≤122)
def wrd (cs:List Nat):Str:=⟨cs.toArray⟩
theorem YG {a b:List Nat} (h:wrd a=wrd b):a=b:=by
 have e:(wrd a).cps=(wrd b).cps:=by rw [h]
 exact congrArg Array.toList e
theorem QJ (cs:List Nat):(wrd cs).length=cs.length:=by simp [wrd,Str.length]
theorem w8:∀ cs:List Nat,(Str.join (Str.ofString "") (cs.map one)).cps.toList=cs
 | []=>∅
 | [c]=>rfl
 | c::d::r=>by
  have ih:=w8 (d::r);rw [A2] at ih;show ((one c)++Str.ofString ""++Str.join (Str.ofString "") (one d::r.map one)).cps.toList=_;have e:∀ a b:Str,(a++b).cps.toList=a.cps.toList++b.cps.toList:=fun a b=>by
   show (a.cps++b.cps).toList=_;simp
  rw [e,e,ih];rfl
theorem yM (cs:List Nat):Txt.join (Str.ofString "") (cs.map one)=wrd cs:=by
 rw [Bk.mp (PyProof.Rows.join_plain_closes (Str.ofString "") _)];have h:=w8 cs;generalize Str.join (Str.ofString "") (cs.map one)=x at h;cases x with
 | mk a=>subst h;rfl
theorem yr (cs:List Nat):((cs.map one).map (·.length)).sum=cs.length:=by
 induction cs with
 | nil=>rfl
 | cons c r ih=>
  rw [A2,A2,Ch,ih,A5];show 1+_=_;omega
theorem yG {cs:List Nat} (h1:1≤cs.length) (h8:cs.length≤8) (h:cs.all low=true):Tre.qZ (wrd cs)=true:=by
 unfold Tre.qZ;rw [QJ,Ai h1,Ai h8];exact h
theorem Vr {α β:Type} (f:α→β):∀ {l:List α},l.Nodup→(∀ a∈l,∀ b∈l,f a=f b→a=b)→(l.map f).Nodup
 | [],_,_=>List.nodup_nil
 | x::r,h,hi=>by
  rw [Cy] at h;rw [A2,Cy];refine ⟨fun hm=>?_,Vr f h.2 fun a ha b hb=>hi a (Au _ ha) b (Au _ hb)⟩;obtain ⟨y,hy,e⟩:=Cg.mp hm;have:=hi y (Au _ hy) x A0 e;exact h.1 (this▸hy)
theorem qdg (cs:List Nat) (h:cs.length=8):((List.range 8).map fun k=>wrd (cs.take (k+1))).Nodup:=by
 refine Vr _ List.nodup_range fun a ha b hb e=>?_;have e1:=congrArg List.length (YG e);rw [Bq,Bq] at e1;have:=C9.mp ha;have:=C9.mp hb;omega
theorem qfa (cs:List Nat) (j z:Nat) (g:Nat→Nat) (hj:j<z) (hz:z≤cs.length) (hg:∀ a b,a<8→b<8→g a=g b→a=b):((List.range 8).map fun k=>wrd ((cs.set j (g k)).take z)).Nodup:=by
 refine Vr _ List.nodup_range fun a ha b hb e=>?_;have e1:=YG e;have e2:((cs.set j (g a)).take z)[j]?=((cs.set j (g b)).take z)[j]?:=by rw [e1]
 rw [List.getElem?_take,List.getElem?_take,if_pos hj,if_pos hj,List.getElem?_set,List.getElem?_set,if_pos rfl,if_pos rfl,if_pos ⋯,if_pos ⋯] at e2;exact hg a b (C9.mp ha) (C9.mp hb) (Bj e2)
end Nam
namespace Mine
open PySem L2
def top (i:Nat):Stmt:=PySem.Challenge.pw_waitloom_k03_no_program.main.body.getD i (.Pass ⟨0,0,0,0⟩)
abbrev vj:Stmt:=top 20
theorem Yj:FnScope ["thing"] ["thing"] (qo vj):=⟨rfl,rfl,rfl,∅,rfl,∅,∅⟩
abbrev J2:Stmt:=top 21
theorem Wy:FnScope ["thing"] ["thing"] (qo J2):=⟨rfl,rfl,rfl,∅,rfl,∅,∅⟩
abbrev wn:Stmt:=top 22
theorem Xx:FnScope ["thing","most"] ["thing","most"] (qo wn):=⟨rfl,rfl,rfl,∅,rfl,∅,∅⟩
abbrev Jn:Stmt:=top 23
theorem WA:FnScope ["thing"] ["thing"] (qo Jn):=⟨rfl,rfl,rfl,∅,rfl,∅,∅⟩
abbrev J3:Stmt:=top 24
theorem Wz:FnScope ["thing","shape"] ["thing","shape"] (qo J3):=⟨rfl,rfl,rfl,∅,rfl,∅,∅⟩
abbrev JJ:Stmt:=top 25
theorem JZ:FnScope ["thing","shape","hands","head","shapes"] ["thing","shape","hands"] (qo JJ):=⟨rfl,rfl,rfl,∅,rfl,∅,∅⟩
abbrev zE:Stmt:=top 26
theorem zw:FnScope ["part","found","thing","shape"] ["part"] (qo zE):=⟨rfl,rfl,rfl,∅,rfl,∅,∅⟩
abbrev Jb:Stmt:=top 27
theorem VR:FnScope ["part","hands"] ["part","hands"] (qo Jb):=⟨rfl,rfl,rfl,∅,rfl,∅,∅⟩
abbrev jX:Stmt:=top 28
theorem qU:FnScope ["thing","level","depth","size","below","part","shape","hands","within"] ["thing"] (qo jX):=⟨rfl,rfl,rfl,∅,rfl,∅,∅⟩
abbrev j5:Stmt:=top 29
theorem VQ:FnScope ["thing"] ["thing"] (qo j5):=⟨rfl,rfl,rfl,∅,rfl,∅,∅⟩
abbrev Jc:Stmt:=top 33
theorem VS:FnScope ["program","found","ahead","pair","part","outer"] ["program"] (qo Jc):=⟨rfl,rfl,rfl,∅,rfl,∅,∅⟩
abbrev Jm:Stmt:=top 41
theorem vV:FnScope ["program","scopes","number","scope","name"] ["program"] (qo Jm):=⟨rfl,rfl,rfl,∅,rfl,∅,∅⟩
abbrev WB:Stmt:=top 47
theorem ZP:FnScope ["program"] ["program"] (qo WB):=⟨rfl,rfl,rfl,∅,rfl,∅,∅⟩
abbrev Jw:Stmt:=top 49
theorem wm:FnScope ["_law_script","_law_k"] ["_law_script","_law_k"] (qo Jw):=⟨rfl,rfl,rfl,∅,rfl,∅,∅⟩
abbrev vG:Stmt:=top 50
theorem JX:FnScope ["_law_state","_law_k","_law_cell"] ["_law_state"] (qo vG):=⟨rfl,rfl,rfl,∅,rfl,∅,∅⟩
abbrev jO:Stmt:=top 51
theorem z9:FnScope ["_law_cell","_law_many_here","_law_letters","_law_size","_law_word_here","_law_made","_law_k"] ["_law_cell","_law_many_here"] (qo jO):=⟨rfl,rfl,rfl,∅,rfl,∅,∅⟩
abbrev JI:Stmt:=top 52
theorem vy:FnScope ["_law_more","_law_far"] ["_law_more"] (qo JI):=⟨rfl,rfl,rfl,∅,rfl,∅,∅⟩
abbrev j6:Stmt:=top 53
theorem zH:FnScope ["_law_state","_law_deep","_law_number_here","_law_kind","_law_more","_law_names_here","_law_params","_law_maker"] ["_law_state","_law_deep"] (qo j6):=⟨rfl,rfl,rfl,∅,rfl,∅,∅⟩
abbrev Ja:Stmt:=top 54
theorem yh:FnScope ["_law_state","_law_deep","_law_may_hand"] ["_law_state","_law_deep","_law_may_hand"] (qo Ja):=⟨rfl,rfl,rfl,∅,rfl,∅,∅⟩
abbrev zN:Stmt:=top 55
theorem qV:FnScope ["_law_state","_law_deep","_law_may_hand","_law_number_here","_law_kind","_law_name","_law_word_here","_law_test","_law_bodies"] ["_law_state","_law_deep","_law_may_hand"] (qo zN):=⟨rfl,rfl,rfl,∅,rfl,∅,∅⟩
abbrev Jv:Stmt:=top 56
theorem jr:FnScope ["_law_script","_law_most","_law_names_here","_law_state","_law_body_here"] ["_law_script","_law_most"] (qo Jv):=⟨rfl,rfl,rfl,∅,rfl,∅,∅⟩
abbrev jI:Stmt:=top 57
theorem wl:FnScope ["_law_thing"] ["_law_thing"] (qo jI):=⟨rfl,rfl,rfl,∅,rfl,∅,∅⟩
abbrev J0:Stmt:=top 58
theorem vW:FnScope ["_law_word_here","_law_forms_here"] ["_law_word_here"] (qo J0):=⟨rfl,rfl,rfl,∅,rfl,∅,∅⟩
abbrev zQ:Stmt:=top 59
theorem jq:FnScope ["_law_word_here","_law_forms_here"] ["_law_word_here"] (qo zQ):=⟨rfl,rfl,rfl,∅,rfl,∅,∅⟩
abbrev j9:Stmt:=top 60
theorem JY:FnScope ["_law_thing","_law_form","_law_may_hand","_law_good"] ["_law_thing","_law_form","_law_may_hand"] (qo j9):=⟨rfl,rfl,rfl,∅,rfl,∅,∅⟩
abbrev jk:Stmt:=top 61
theorem VD:FnScope ["_law_thing","_law_most","_law_are_statements","_law_may_hand","_law_found"] ["_law_thing","_law_most","_law_are_statements","_law_may_hand"] (qo jk):=⟨rfl,rfl,rfl,∅,rfl,∅,∅⟩
abbrev j7:Stmt:=top 62
theorem Vn:FnScope ["_law_thing","_law_is_one","_law_may_hand","_law_forms_here","_law_found"] ["_law_thing","_law_is_one","_law_may_hand"] (qo j7):=⟨rfl,rfl,rfl,∅,rfl,∅,∅⟩
abbrev jD:Stmt:=top 63
theorem Jk:FnScope ["_law_thing","_law_found"] ["_law_thing"] (qo jD):=⟨rfl,rfl,rfl,∅,rfl,∅,∅⟩
abbrev Vo:Stmt:=top 64
theorem jB:FnScope ["_law_state","_law_part","_law_number_here","_law_term_here","_law_one","_law_some"] ["_law_state","_law_part"] (qo Vo):=⟨rfl,rfl,rfl,∅,rfl,∅,∅⟩
abbrev jW:Stmt:=top 65
theorem jH:FnScope ["_law_state","_law_thing","_law_part","_law_number_here","_law_at","_law_here"] ["_law_state","_law_thing","_law_part"] (qo jW):=⟨rfl,rfl,rfl,∅,rfl,∅,∅⟩
abbrev J1:Stmt:=top 66
theorem qJ:FnScope ["_law_goal","_law_number_here","_law_one","_law_deep","_law_at","_law_wrap","_law_hold","_law_some"] ["_law_goal","_law_number_here"] (qo J1):=⟨rfl,rfl,rfl,∅,rfl,∅,∅⟩
abbrev vH:Stmt:=top 67
theorem Jl:FnScope ["_law_body_here","_law_way","_law_may_hand","_law_one","_law_some"] ["_law_body_here","_law_way","_law_may_hand"] (qo vH):=⟨rfl,rfl,rfl,∅,rfl,∅,∅⟩
abbrev jE:Stmt:=top 68
theorem zu:FnScope ["_law_number_here","_law_more","_law_one","_law_long","_law_rest"] ["_law_number_here"] (qo jE):=⟨rfl,rfl,rfl,∅,rfl,∅,∅⟩
abbrev j8:Stmt:=top 69
theorem zM:FnScope ["_law_number_here","_law_one","_law_more","_law_body_here","_law_word_here","_law_names_here"] ["_law_number_here","_law_one"] (qo j8):=⟨rfl,rfl,rfl,∅,rfl,∅,∅⟩
abbrev vF:Stmt:=top 70
theorem VC:FnScope ["_law_e","_law_others"] ["_law_e"] (qo vF):=⟨rfl,rfl,rfl,∅,rfl,∅,∅⟩
abbrev Ju:Stmt:=top 71
theorem JW:FnScope ["_law_way","_law_thing","_law_e"] ["_law_way","_law_thing"] (qo Ju):=⟨rfl,rfl,rfl,∅,rfl,∅,∅⟩
abbrev zD:Stmt:=top 72
theorem zk:FnScope ["_law_cell","_law_one","_law_deep","_law_turn"] ["_law_cell"] (qo zD):=⟨rfl,rfl,rfl,∅,rfl,∅,∅⟩
abbrev vY:Stmt:=top 73
theorem vE:FnScope ["_law_script","_law_state","_law_way","_law_thing","_law_kept"] ["_law_script"] (qo vY):=⟨rfl,rfl,rfl,∅,rfl,∅,∅⟩
structure Ad where
 LoomError:Ac
 BadTree:Ac
 BadText:Ac
 BadName:Ac
 BadCount:Ac
 BadCode:Ac
 NoThing:Ac
 Scope:Ac
structure Cs (K:Frag) (mg:Str→Option Ab) (ad:Ad):Prop where
 all_:mg "all"=none
 isinstance_:mg "isinstance"=none
 str_:mg "str"=none
 len_:mg "len"=none
 bool_:mg "bool"=none
 int_:mg "int"=none
 tuple_:mg "tuple"=none
 set_:mg "set"=none
 zip_:mg "zip"=none
 reversed_:mg "reversed"=none
 range_:mg "range"=none
 enumerate_:mg "enumerate"=none
 max_:mg "max"=none
 abs_:mg "abs"=none
 sum_:mg "sum"=none
 list_:mg "list"=none
 ValueError_:mg "ValueError"=none
 MOST_LETTERS:∃ u,mg "MOST_LETTERS"=some u∧qK (.int 8) u
 GREATEST_NUMBER:∃ u,mg "GREATEST_NUMBER"=some u∧qK (.int 1000000000000) u
 MOST_NAMES:∃ u,mg "MOST_NAMES"=some u∧qK (.int 4) u
 MOST_TERMS:∃ u,mg "MOST_TERMS"=some u∧qK (.int 4) u
 MOST_STATEMENTS:∃ u,mg "MOST_STATEMENTS"=some u∧qK (.int 12) u
 MOST_DEPTH:∃ u,mg "MOST_DEPTH"=some u∧qK (.int 20) u
 MOST_PARTS:∃ u,mg "MOST_PARTS"=some u∧qK (.int 300) u
 m_LoomError:mg "LoomError"=some (.ref ad.LoomError)
 m_BadTree:mg "BadTree"=some (.ref ad.BadTree)
 m_BadText:mg "BadText"=some (.ref ad.BadText)
 m_BadName:mg "BadName"=some (.ref ad.BadName)
 m_BadCount:mg "BadCount"=some (.ref ad.BadCount)
 m_BadCode:mg "BadCode"=some (.ref ad.BadCode)
 m_NoThing:mg "NoThing"=some (.ref ad.NoThing)
 m_Scope:mg "Scope"=some (.ref ad.Scope)
 o_BadTree:qdi K ad.BadTree
 k_BadTree:XK1 K ad.BadTree
 e1:PySem.W.exmOne K (.ref ad.BadTree) (.ref ad.LoomError)=some true
 i1:PySem.W.kitAny K (.ref ad.BadTree) [.ref ad.BadText,.ref ad.BadName,.ref ad.BadCount]=some false
 i2:PySem.W.kitAny K (.ref ad.BadTree) [.ref ad.BadCode,.ref ad.NoThing]=some false
 i3:PySem.W.kitOne K (.ref ad.BadTree) (.ref ad.BadTree)=some true
 i4:PySem.W.kitOne K (.ref ad.BadTree) (.type "ValueError")=some true
theorem Cs.v_BadTree {K:Frag} {mg:Str→Option Ab} {ad:Ad} (c:Cs K mg ad):∃ u,mg "BadTree"=some u∧qK (.ref ad.BadTree) u:=⟨_,c.m_BadTree,rfl⟩
theorem Cs.v_BadText {K:Frag} {mg:Str→Option Ab} {ad:Ad} (c:Cs K mg ad):∃ u,mg "BadText"=some u∧qK (.ref ad.BadText) u:=⟨_,c.m_BadText,rfl⟩
theorem Cs.v_BadName {K:Frag} {mg:Str→Option Ab} {ad:Ad} (c:Cs K mg ad):∃ u,mg "BadName"=some u∧qK (.ref ad.BadName) u:=⟨_,c.m_BadName,rfl⟩
theorem Cs.v_BadCount {K:Frag} {mg:Str→Option Ab} {ad:Ad} (c:Cs K mg ad):∃ u,mg "BadCount"=some u∧qK (.ref ad.BadCount) u:=⟨_,c.m_BadCount,rfl⟩
theorem Cs.v_BadCode {K:Frag} {mg:Str→Option Ab} {ad:Ad} (c:Cs K mg ad):∃ u,mg "BadCode"=some u∧qK (.ref ad.BadCode) u:=⟨_,c.m_BadCode,rfl⟩
theorem Cs.v_NoThing {K:Frag} {mg:Str→Option Ab} {ad:Ad} (c:Cs K mg ad):∃ u,mg "NoThing"=some u∧qK (.ref ad.NoThing) u:=⟨_,c.m_NoThing,rfl⟩
structure Tb (P:Program) (w:World) (K:Frag) (mg:Str→Option Ab):Prop where
 SIGNS:∃ a,mg "SIGNS"=some (.ref a)∧∀ H:Hp,SqT K H a (Tre.vx.map V.str)
 FORMS:KTabT P w K mg "FORMS" Tre.forms
 HEADS:KTabT P w K mg "HEADS" Tre.heads
 MEMBERS:KTabS P w K mg "MEMBERS" Tre.Jp
def spD (K:Frag) (f:Aa→Bool):Sp:=fun vs H Q _=>∃ x d,vs=[x]∧Rep K H x d∧Tre.fit d=true∧∀ H',qp H H'→Q (.bl (f d)) H'
theorem qj {H:Hp} {p:Ac} (h:H p=none) (o:HO):qp H (upd H p o):=fun b u q=>by rw [qB (qD q h)];exact q
theorem qe2 (c:Nat):(!decide (([c]:List Nat)<[97]))=decide (97≤c):=by
 rw [Cb];simp [List.cons_lt_cons_iff]
theorem le_z (c:Nat):(!decide (([122]:List Nat)<[c]))=decide (c≤122):=by
 rw [Cb];simp [List.cons_lt_cons_iff]
theorem Y7 {n:Nat} (h:n≤1000000):n≤Af:=As h O0
section
variable {P:Program} {w:World} {K:Frag} {mg:Str→Option Ab} {base:Heap} {f:Ac} {fd:FuncData} {ad:Ad}
theorem Yp (F:Fun K "is_name" "is_name" vj f fd) (c:Cs K mg ad):FnOk P w K mg base CX0 1 f fd ["thing"] (spD K Tre.qN):=by
 refine F.ok Yj (fun vs H Q E h=>?_) (fun cdv A outer s H vs Q E hr h=>?_)
 ·obtain ⟨x,d,rfl,_⟩:=h;rfl
 obtain ⟨x,d,rfl,hk,ft,q⟩:=h;refine ⟨_,(qg (qE (PW.pt (jd (zI (zh (qu (zK (K:=K) rfl) (by rfl) c.isinstance_ qz (qc (pv 0) (qc (jn c.str_ Jh) qd))))) (jt (zI (ZW VE VE qf (qu (ja (K:=K) rfl) (by rfl) c.len_ zp (qc (pv 0) qd)) (v5 c.MOST_LETTERS)))))) (ql (qt zr)) qy)
   (ql (qt (qu (Wp (K:=K) rfl rfl) (by rfl) c.all_ Vx (qc (zx (sc:=qo vj) (NX:=["thing"]) (N:=["letter"]) (js:=[none]) (Vp (K:=K) rfl (pv 0)) (fun _ _ _ _ _=>(zb (i:=0) (show (["letter"]:List Str).Nodup from ∅) rfl (Or.inl rfl))) (fun _ _ _ _ _=>zG) (fun _ _ _ _ _=>(yq wV wV qh (pv 0) qh)) (zd rfl) ⟨∅,rfl,∅,∅,rfl,∅⟩) qd))))),?_⟩
 refine ⟨_,rfl,x,d,"str",rfl,hk,O0,?_⟩;cases hk with
 | str x=>
  refine ⟨_,rfl,jl ?_⟩;have hx:x.length≤Af:=Y7 (by simpa [Tre.fit] using ft)
  refine ⟨_,rfl,_,_,rfl,⟨hx,rfl⟩,_,_,rfl,rfl,_,rfl,?_⟩;have hl:x.length=x.cps.toList.length:=by simp [Str.length]
  refine vt (fun c1=>?_) (fun c1=>?_)
  ·have c1':(1:Int)≤(x.length:Int):=A1 c1;refine ⟨_,_,rfl,rfl,_,rfl,?_⟩;refine vt (fun c2=>?_) (fun c2=>?_)
   ·have c2':¬ ((x.length:Int)≤8):=by simpa using c2
    have e:Tre.qN (.str x)=false:=by
     simp only [Tre.qN,Tre.qZ];rw [Al (show ¬ x.length≤8 from ⋯)];simp
    have q':=q H (qp.refl _);rw [e] at q';exact q'
   ·have c2':(x.length:Int)≤8:=by simpa using c2
    have hsz:x.cps.size=x.cps.toList.length:=by simp
    refine ⟨_,rfl,.inr (.inr ⟨x,rfl,zL x.cps.size (fun i ys H'=>H'=H∧ys=(x.cps.toList.take i).map fun c=>V.bl (decide (97≤c)&&decide (c≤122))) ⟨rfl,rfl⟩ (fun i ys H' h=>?_) (by rw [hsz,← hl];exact hx) (fun i ys H' hi h=>?_) (fun ys H' h=>?_)⟩)⟩
    ·obtain ⟨_,rfl⟩:=h;rw [An];exact Bl _ _
    ·obtain ⟨rfl,rfl⟩:=h;refine ⟨hi,fun v H2 hy=>?_⟩;obtain ⟨rfl,cc,hcc,rfl⟩:=hy;have step:(x.cps.toList.take (i+1)).map (fun c=>V.bl (decide (97≤c)&&decide (c≤122)))=(x.cps.toList.take i).map (fun c=>V.bl (decide (97≤c)&&decide (c≤122)))++[V.bl (decide (97≤cc)&&decide (cc≤122))]:=by
      have hcc':x.cps.toList[i]?=some cc:=by simpa using hcc
      rw [Br,hcc',Bc];rfl
     refine ⟨_,rfl,_,_,rfl,rfl,_,rfl,?_⟩
     by_cases ha:97≤cc
     ·refine zg ((qe2 cc).trans (Ai ha)) ⟨_,_,rfl,rfl,rfl,?_⟩;rw [step,Ai ha,Bw];exact congrArg (fun b=>_++[V.bl b]) (le_z cc)
     ·refine zn ((qe2 cc).trans (Al ha)) ⟨rfl,?_⟩;rw [step,Al ha,Cq]
    ·obtain ⟨rfl,rfl⟩:=h;refine ⟨Aj _,fun D hD=>⟨D,x.cps.toList.map fun c=>decide (97≤c)&&decide (c≤122),rfl,SqL.of (by rw [upd_same,hsz,Bv,Bp];rfl),?_⟩⟩
     have e:Tre.qN (.str x)=(x.cps.toList.map fun c=>decide (97≤c)&&decide (c≤122)).all id:=by
      simp only [Tre.qN,Tre.qZ];rw [Ai (show 1≤x.length from ⋯),Ai (show x.length≤8 from ⋯),Ct];rfl
     rw [← e];exact q _ (qj hD _)
  ·have c1':¬ (1:Int)≤(x.length:Int):=of_decide_eq_false (Bz.mpr c1);refine ⟨_,rfl,zV ?_⟩;have e:Tre.qN (.str x)=false:=by
    simp only [Tre.qN,Tre.qZ];rw [Al (show ¬ 1≤x.length from ⋯)];simp
   have q':=q H (qp.refl _);rw [e] at q';exact q'
 | _=>exact ⟨_,rfl,zV (zV (q H (qp.refl _)))⟩
theorem WO (F:Fun K "is_number" "is_number" J2 f fd) (c:Cs K mg ad):FnOk P w K mg base CX0 1 f fd ["thing"] (spD K Tre.JD):=by
 refine F.ok Wy (fun vs H Q E h=>?_) (fun cdv A outer s H vs Q E hr h=>?_)
 ·obtain ⟨x,d,rfl,_⟩:=h;rfl
 obtain ⟨x,d,rfl,hk,ft,q⟩:=h;refine ⟨_,(qg (qE (PW.pt (jd (zI (zh (qu (zK (K:=K) rfl) (by rfl) c.isinstance_ qz (qc (pv 0) (qc (jn c.int_ YE) qd))))) (jt (zh (qu (zK (K:=K) rfl) (by rfl) c.isinstance_ qz (qc (pv 0) (qc (jn c.bool_ Xi) qd))))))) (ql (qt zr)) qy)
   (ql (qt (yq VE VE (qba Ze (v5 c.GREATEST_NUMBER)) (pv 0) (v5 c.GREATEST_NUMBER))))),?_⟩
 have q0:=q H (qp.refl _);refine ⟨_,rfl,x,d,"int",rfl,hk,O0,?_⟩;have hk2:=hk;cases hk with
 | bl b=>exact ⟨_,rfl,_,rfl,_,_,"bool",rfl,hk2,O0,_,rfl,q0⟩
 | int i=>
  refine ⟨_,rfl,_,rfl,_,_,"bool",rfl,hk2,O0,_,rfl,?_⟩;refine ⟨_,rfl,_,rfl,_,_,rfl,rfl,_,rfl,?_⟩
  by_cases h:(-1000000000000:Int)≤i
  ·refine zg (Ai h) ⟨_,_,rfl,rfl,?_⟩;simp only [Tre.JD,Tre.vJ,Ai h,Bw] at q0;exact q0
  ·refine zn (Al h) ?_;simp only [Tre.JD,Tre.vJ,Al h,Cq] at q0;exact q0
 | _=>exact ⟨_,rfl,q0⟩
def ZB (K:Frag):Sp:=fun vs H Q _=>∃ x d m,vs=[x,.int (m:Nat)]∧Rep K H x d∧Q (.bl (Tre.Jg d m)) H
theorem XD (F:Fun K "is_row" "is_row" wn f fd) (c:Cs K mg ad):FnOk P w K mg base CX0 1 f fd ["thing","most"] (ZB K):=by
 refine F.ok Xx (fun vs H Q E h=>?_) (fun cdv A outer s H vs Q E hr h=>?_)
 ·obtain ⟨x,d,m,rfl,_⟩:=h;rfl
 obtain ⟨x,d,m,rfl,hk,q⟩:=h;refine ⟨_,(ql (qt (jF (qu (zK (K:=K) rfl) (by rfl) c.isinstance_ qz (qc (pv 0) (qc (jn c.tuple_ zO) qd))) (Jd (zF VE (qu (ja (K:=K) rfl) (by rfl) c.len_ zp (qc (pv 0) qd)) (pv 1) (qv _)))))),?_⟩
 refine ⟨_,rfl,x,d,"tuple",rfl,hk,O0,?_⟩;cases hk with
 | @tup a xs ds hq hs=>
  refine ⟨_,rfl,?_⟩;refine zV ⟨_,rfl,_,_,rfl,.inr ⟨_,hq,rfl⟩,_,rfl,_,_,rfl,rfl,?_⟩;have e:Tre.Jg (.tuple ds) m=decide (((xs.length:Nat):Int)≤(m:Int)):=by
   simp only [Tre.Jg];rw [hs.length];exact decide_eq_decide.mpr ⋯
  rw [e] at q;exact q
 | _=>exact ⟨_,rfl,jl q⟩
theorem Wh {a:Ac} {js:List (Option Nat)} {k:Nat} {te:TE} {σ:St} {H:Hp} {Q:VK} {xs:List V} {ds:List Aa} (hq:SqT K H a xs) (hr:Reps K H xs ds) (fv:Aa→V) (hz:ds.length≤Af)
  (step:∀ (x:V) (d:Aa) (H':Hp) (R:VK),qp H H'→d∈ds→Rep K H' x d→(∀ H5,qp H' H5→R (fv d) H5)→te ((zZ js σ).set k (some x)) H' R)
  (fin:∀ (H':Hp) (D:Ac),qp H H'→H' D=none→Q (.ref D) (upd H' D (.lst (ds.map fv)))):VO (Itt K a) js (zC k) Wq te σ H Q:=by
 have hlen:=hr.length;refine zL ds.length (fun i ys H'=>qp H H'∧ys=(ds.take i).map fv) ⟨qp.refl _,rfl⟩ (fun i ys H' h=>?_) hz (fun i ys H' hi h=>?_) (fun ys H' h=>?_)
 ·rw [h.2,An];exact Bl _ _
 ·obtain ⟨g,rfl⟩:=h;have hx:xs[i]?=some xs[i]:=A4 ⋯;refine ⟨⟨xs,xs[i],g.sqT hq,hx⟩,fun v H2 hy=>?_⟩;obtain ⟨rfl,hv⟩:=hy;have e:=(hx.symm.trans (hv xs (g.sqT hq)));cases e;obtain ⟨d,hd,rd⟩:=hr.get hx;show te ((zZ js σ).set k (some xs[i])) H2 (fun y H5=>qp H H5∧(ds.take i).map fv++[y]=(ds.take (i+1)).map fv);refine step _ d _ _ g (Bi hd) (rd.same g) fun H5 g5=>⟨g.trans g5,?_⟩;rw [Br,hd,Bc];rfl
 ·obtain ⟨g,rfl⟩:=h;refine ⟨⟨xs,g.sqT hq,⋯⟩,fun D hD=>?_⟩;rw [Bv];exact fin H' D g hD
theorem qe3 {c:Bool} {A B:Prop} (e:c=true) (h:A):if c=true then A else B:=zg e h
theorem Vs {H:Hp}:∀ {xs:List V} {ds:List Aa},Reps K H xs ds→ds.all Tre.qN=true→xs=(ds.map Tre.txt).map V.str
 | _,_,.nil,_=>rfl
 | _,_,.cons h t,e=>by
  rw [El,Ao] at e;cases h with
  | str x=>rw [A2,A2,← Vs t e.2];rfl
  | _=>exact absurd e.1 Am
theorem WQ (F:Fun K "are_names" "are_names" Jn f fd) (c:Cs K mg ad) (d_is_name:Def P w K mg base 1 "is_name" ["thing"] (spD K Tre.qN)) (d_is_row:Def P w K mg base 1 "is_row" ["thing","most"] (ZB K)):FnOk P w K mg base CX0 2 f fd ["thing"] (spD K Tre.areNames):=by
 refine F.ok WA (fun vs H Q E h=>?_) (fun cdv A outer s H vs Q E hr h=>?_)
 ·obtain ⟨x,d,rfl,_⟩:=h;rfl
 obtain ⟨x,d,rfl,hk,ft,q⟩:=h;refine ⟨_,(qg (qE (PW.pt (jd (zI (zh (pdf d_is_row (qc (pv 0) (qc (v5 c.MOST_NAMES) qd))))) (jt (zI (zh (qu (Wp (K:=K) rfl rfl) (by rfl) c.all_ Vx (qc (zx (sc:=qo Jn) (NX:=["thing"]) (N:=["one"]) (js:=[none]) (Vp (K:=K) rfl (pv 0)) (fun _ _ _ _ _=>(zb (i:=0) (show (["one"]:List Str).Nodup from ∅) rfl (Or.inl rfl))) (fun _ _ _ _ _=>zG) (fun _ _ _ _ _=>(pdf d_is_name (qc (pv 0) qd))) (zd rfl) ⟨∅,rfl,∅,∅,rfl,∅⟩) qd))))))) (ql (qt zr)) qy)
   (ql (qt (zF qT (qu Wl (by rfl) c.len_ zp (qc (zt (Wj (K:=K) rfl rfl) (by rfl) c.set_ QD (qc (pv 0) qd)) qd)) (qu (ja (K:=K) rfl) (by rfl) c.len_ zp (qc (pv 0) qd)) (qv _))))),?_⟩
 have hk2:=hk;refine ⟨_,rfl,_,_,4,rfl,hk2,_,rfl,?_⟩;cases hk with
 | @tup a xs ds hq hs=>
  by_cases h4:ds.length≤4
  ·refine zn (show (!Tre.Jg (.tuple ds) 4)=false by simp [Tre.Jg,h4]) ?_
   refine ⟨_,rfl,.inr (.inl ⟨a,rfl,⟨xs,hq⟩,Wh hq hs (fun d=>V.bl (Tre.qN d)) (As h4 O0) (fun x d H' R g hd rd hR=>?_) (fun H' D g hD=>?_)⟩)⟩
   ·exact ⟨_,rfl,_,_,rfl,rd,Tre.zA (by simpa [Tre.fit] using ft) d hd,fun H5 g5=>hR H5 g5⟩
   ·refine ⟨D,ds.map Tre.qN,rfl,SqL.of (by rw [upd_same,Bp];rfl),_,rfl,?_⟩
    have g2:qp H (upd H' D (.lst (ds.map fun d=>V.bl (Tre.qN d)))):=g.trans (qj hD _);have g3:=g2.sqT hq;generalize upd H' D (.lst (ds.map fun d=>V.bl (Tre.qN d)))=H2 at g2 g3 ⊢
    by_cases ha:ds.all Tre.qN=true
    ·refine zn (show (!((ds.map Tre.qN).all id))=false by rw [Ct];simpa using ha) ?_
     obtain rfl:=Vs hs ha;have hl:(ds.map Tre.txt).length≤100:=by rw [An];omega
     refine ⟨_,rfl,a,ds.map Tre.txt,rfl,g3,hl,fun p hp=>⟨p,ds.map Tre.txt,rfl,upd_same,hl,_,rfl,_,_,rfl,.inr ⟨_,(qj hp _).sqT g3,rfl⟩,rfl,?_⟩⟩;have q':=q _ (g2.trans (qj hp (ZO P w p (ds.map Tre.txt))));have e:Tre.areNames (.tuple ds)=decide (V.int (((JS (ds.map Tre.txt)).length:Nat):Int)=V.int ((((ds.map Tre.txt).map V.str).length:Nat):Int)):=by
      simp only [Tre.areNames,ha,Ai h4,Bw];rw [decide_eq_decide];refine (yb _).symm.trans ⟨fun z=>by rw [z,An (f:=V.str)],fun z=>?_⟩
      have z':=V.int.inj z;rw [An (f:=V.str)] at z';omega
     rw [e] at q';exact q'
    ·refine zg (show (!((ds.map Tre.qN).all id))=true by rw [Ct];simpa using ha) ?_
     have q':=q _ g2;have e:Tre.areNames (.tuple ds)=false:=by simp [Tre.areNames,ha]
     rw [e] at q';exact q'
  ·refine qe3 (show (!Tre.Jg (.tuple ds) 4)=true by simp [Tre.Jg,h4]) ?_
   have q':=q H (qp.refl _);have e:Tre.areNames (.tuple ds)=false:=by simp [Tre.areNames,h4]
   rw [e] at q';exact zV q'
 | _=>exact zV (zV (q H (qp.refl _)))
def YR (K:Frag):Sp:=fun vs H Q _=>∃ x d sh,vs=[x,.str sh]∧Rep K H x d∧Tre.fit d=true∧∀ H',qp H H'→Q (.bl (Tre.qx d sh)) H'
theorem qa3 (a b:Str):decide (V.str a=V.str b)=(a==b):=by
 rw [Cb,Bs,Bk];exact ⟨fun h=>V.str.inj h,fun h=>h▸rfl⟩
theorem WP (F:Fun K "has_shape" "has_shape" J3 f fd) (c:Cs K mg ad) (T:Tb P w K mg) (d_is_name:Def P w K mg base 1 "is_name" ["thing"] (spD K Tre.qN)) (d_is_number:Def P w K mg base 1 "is_number" ["thing"] (spD K Tre.JD)) (d_is_row:Def P w K mg base 1 "is_row" ["thing","most"] (ZB K)) (d_are_names:Def P w K mg base 2 "are_names" ["thing"] (spD K Tre.areNames)):FnOk P w K mg base CX0 3 f fd ["thing","shape"] (YR K):=by
 refine F.ok Wz (fun vs H Q E h=>?_) (fun cdv A outer s H vs Q E hr h=>?_)
 ·obtain ⟨x,d,sh,rfl,_⟩:=h;rfl
 obtain ⟨x,d,sh,rfl,hk,ft,q⟩:=h;refine ⟨_,(qg (qE (qq qT (pv 1) qh (qv _)) (ql (qt (pdf d_is_number (qc (pv 0) qd)))) qy)
   (qg (qE (qq qT (pv 1) qh (qv _)) (ql (qt (pdf d_is_name (qc (pv 0) qd)))) qy)
   (qg (qE (qq qT (pv 1) qh (qv _)) (ql (qt (jF (pdf d_is_name (qc (pv 0) qd)) (Jd (zF wU (pv 0) qh (qv _)))))) qy)
   (qg (qE (qq qT (pv 1) qh (qv _)) (ql (qt (jF (qu (zK (K:=K) rfl) (by rfl) c.isinstance_ qz (qc (pv 0) (qc (jn c.str_ Jh) qd))) (Jd (zF (XQ (K:=K) rfl) (pv 0) (qej T.SIGNS) rfl))))) qy)
   (qg (qE (qq qT (pv 1) qh (qv _)) (ql (qt (pdf d_are_names (qc (pv 0) qd)))) qy)
   (qg (qE (qq qT (pv 1) qh (qv _)) (ql (qt (pdf d_is_row (qc (pv 0) (qc (v5 c.MOST_TERMS) qd))))) qy)
   (qg (qE (qq qT (pv 1) qh (qv _)) (ql (qt (pdf d_is_row (qc (pv 0) (qc (v5 c.MOST_STATEMENTS) qd))))) qy)
   (ql (qt zr))))))))),?_⟩
 by_cases e0:sh="number"
 ·subst e0;simp only [Tre.jU] at q;refine ⟨_,rfl,rfl,_,rfl,zg (show decide _=true from Ai rfl) ?_⟩;exact ⟨_,rfl,_,_,rfl,hk,ft,fun H' g=>q H' g⟩
 refine ⟨_,rfl,rfl,_,rfl,zn (show decide _=false from Al fun z=>e0 (V.str.inj z)) ?_⟩
 by_cases e1:sh="name"
 ·subst e1;simp only [Tre.jj] at q;refine ⟨_,rfl,rfl,_,rfl,zg (show decide _=true from Ai rfl) ?_⟩;exact ⟨_,rfl,_,_,rfl,hk,ft,fun H' g=>q H' g⟩
 refine ⟨_,rfl,rfl,_,rfl,zn (show decide _=false from Al fun z=>e1 (V.str.inj z)) ?_⟩
 by_cases e2:sh="word"
 ·subst e2;simp only [Tre.JE] at q;refine ⟨_,rfl,rfl,_,rfl,zg (show decide _=true from Ai rfl) ?_⟩;refine ⟨_,rfl,_,_,rfl,hk,ft,fun H' g=>⟨_,rfl,?_⟩⟩;have q':=q H' g;cases hk with
  | str x=>
   by_cases hn:Tre.qZ x=true
   ·refine zg hn ⟨_,rfl,rfl,?_⟩;simp only [hn,Bw] at q';show Q (.bl (!decide (V.str x=V.str "any"))) H';rw [qa3];exact q'
   ·have hn':=Bz.mpr hn;refine zn hn' ?_;simp only [hn',Cq] at q';exact q'
  | _=>exact jl q'
 refine ⟨_,rfl,rfl,_,rfl,zn (show decide _=false from Al fun z=>e2 (V.str.inj z)) ?_⟩
 by_cases e3:sh="sign"
 ·subst e3;simp only [Tre.JF] at q;refine ⟨_,rfl,rfl,_,rfl,zg (show decide _=true from Ai rfl) ?_⟩;have q':=q H (qp.refl _);refine ⟨_,rfl,_,_,"str",rfl,hk,O0,_,rfl,?_⟩;cases hk with
  | str x=>
   refine zV ⟨_,rfl,fun a ha=>⟨a,_,rfl,.inr (ha H),rfl,rfl,?_⟩⟩;exact q'
  | _=>exact jl q'
 refine ⟨_,rfl,rfl,_,rfl,zn (show decide _=false from Al fun z=>e3 (V.str.inj z)) ?_⟩
 by_cases e4:sh="names"
 ·subst e4;simp only [Tre.Jj] at q;refine ⟨_,rfl,rfl,_,rfl,zg (show decide _=true from Ai rfl) ?_⟩;exact ⟨_,rfl,_,_,rfl,hk,ft,fun H' g=>q H' g⟩
 refine ⟨_,rfl,rfl,_,rfl,zn (show decide _=false from Al fun z=>e4 (V.str.inj z)) ?_⟩
 by_cases e5:sh="terms"
 ·subst e5;simp only [Tre.jN] at q;refine ⟨_,rfl,rfl,_,rfl,zg (show decide _=true from Ai rfl) ?_⟩;exact ⟨_,rfl,_,_,4,rfl,hk,q H (qp.refl _)⟩
 refine ⟨_,rfl,rfl,_,rfl,zn (show decide _=false from Al fun z=>e5 (V.str.inj z)) ?_⟩
 by_cases e6:sh="body"
 ·subst e6;simp only [Tre.j4] at q;refine ⟨_,rfl,rfl,_,rfl,zg (show decide _=true from Ai rfl) ?_⟩;exact ⟨_,rfl,_,_,12,rfl,hk,q H (qp.refl _)⟩
 refine ⟨_,rfl,rfl,_,rfl,zn (show decide _=false from Al fun z=>e6 (V.str.inj z)) ?_⟩;have q':=q H (qp.refl _);rw [Tre.wk d (Bh.mpr e0) (Bh.mpr e1) (Bh.mpr e2) (Bh.mpr e3) (Bh.mpr e4) (Bh.mpr e5) (Bh.mpr e6)] at q';exact q'
theorem qe8 (y:V) (ys:List V):JP (y::ys) (some 1) none=ys:=by
 unfold JP;have e:HT.sIx (y::ys).length 0 (some 1)=1:=by
  show HT.sIx (y::ys).length 0 (some ((1:Nat):Int))=1;rw [HT.sIx_nat];simp
 rw [e,HT.sIx_none];simp
theorem Xg (y:V) (ys:List V):¬ (HT.sIx (y::ys).length 0 (some 1)=0∧HT.sIx (y::ys).length (y::ys).length none=(y::ys).length):=by
 have e:HT.sIx (y::ys).length 0 (some 1)=1:=by
  show HT.sIx (y::ys).length 0 (some ((1:Nat):Int))=1;rw [HT.sIx_nat];simp
 rw [e];omega
theorem XS (l:List Str):(l.map V.str).all Vc=true:=by
 rw [Ct];exact A3.mpr fun _ _=>rfl
theorem V5 (h:Str) (l:List Str):inV (.str h) (l.map V.str)=l.any fun y=>y==h:=by
 unfold inV;rw [List.any_map];rfl
theorem X1 {a b:Ac} {js:List (Option Nat)} {te:TE} {σ:St} {H:Hp} {Q:VK} {xs:List V} {ds:List Aa} {fs:List Str} (hq:SqT K H a xs) (hr:Reps K H xs ds) (hq2:SqT K H b (fs.map V.str)) (hl:ds.length=fs.length) (hz:ds.length≤Af) (fv:Aa→Str→V)
  (step:∀ (x:V) (d:Aa) (sh:Str) (H':Hp) (R:VK),qp H H'→(d,sh)∈ds.zip fs→Rep K H' x d→(∀ H5,qp H' H5→R (fv d sh) H5)→te (((zZ js σ).set 0 (some x)).set 1 (some (.str sh))) H' R)
  (fin:∀ (H':Hp) (D:Ac),qp H H'→H' D=none→Q (.ref D) (upd H' D (.lst ((ds.zip fs).map fun p=>fv p.1 p.2)))):VO (Itz K a b) js (qaq K 2 (yS (zC 0) (yS (zC 1) qc7))) Wq te σ H Q:=by
 have hlen:=hr.length;have hzip:(ds.zip fs).length=ds.length:=by rw [Ds];omega
 refine zL ds.length (fun i ys H'=>qp H H'∧ys=((ds.zip fs).take i).map fun p=>fv p.1 p.2) ⟨qp.refl _,rfl⟩ (fun i ys H' h=>?_) hz (fun i ys H' hi h=>?_) (fun ys H' h=>?_)
 ·rw [h.2,An];exact Bl _ _
 ·obtain ⟨g,rfl⟩:=h;have hx:xs[i]?=some xs[i]:=A4 ⋯;have hf:fs[i]?=some fs[i]:=A4 ⋯;have hy:(fs.map V.str)[i]?=some (.str fs[i]):=by rw [Bm,hf];rfl
  refine ⟨⟨xs,_,_,_,g.sqT hq,g.sqT hq2,hx,hy⟩,fun v H2 yl=>?_⟩;obtain ⟨p,x,y,hp,rfl,e1,e2,rfl⟩:=yl;have e3:=hx.symm.trans (e1 xs (g.sqT hq));cases e3;have e4:=hy.symm.trans (e2 _ (g.sqT hq2));cases e4;obtain ⟨d,hd,rd⟩:=hr.get hx;have g2:=g.trans (qj hp (.tup [xs[i],.str fs[i]]));have hm:(ds.zip fs)[i]?=some (d,fs[i]):=Dj.mpr ⟨hd,hf⟩;refine ⟨p,_,rfl,SqT.of upd_same,rfl,_,_,rfl,_,_,rfl,rfl,?_⟩;show te (((zZ js σ).set 0 (some xs[i])).set 1 (some (.str fs[i]))) _ (fun z H5=>qp H H5∧((ds.zip fs).take i).map (fun p=>fv p.1 p.2)++[z]=((ds.zip fs).take (i+1)).map fun p=>fv p.1 p.2);refine step _ d _ _ _ g2 (Bi hm) (rd.same g2) fun H5 g5=>⟨g2.trans g5,?_⟩;rw [Br,hm,Bc];rfl
 ·obtain ⟨g,rfl⟩:=h;refine ⟨⟨xs,_,g.sqT hq,g.sqT hq2,.inl ⋯⟩,fun D hD=>?_⟩;rw [← hzip,Bv];exact fin H' D g hD
def ZI (K:Frag):Sp:=fun vs H Q _=>∃ x d sh hands,vs=[x,.str sh,.bl hands]∧Rep K H x d∧Tre.fit d=true∧(Tre.heads.lookup sh).isSome=true∧∀ H',qp H H'→Q (.bl (Tre.qP d sh hands)) H'
theorem yA (F:Fun K "has_form" "has_form" JJ f fd) (c:Cs K mg ad) (T:Tb P w K mg) (d_has_shape:Def P w K mg base 3 "has_shape" ["thing","shape"] (YR K)):FnOk P w K mg base CX0 4 f fd ["thing","shape","hands"] (ZI K):=by
 refine F.ok JZ (fun vs H Q E h=>?_) (fun cdv A outer s H vs Q E hr h=>?_)
 ·obtain ⟨x,d,sh,hands,rfl,_⟩:=h;rfl
 obtain ⟨x,d,sh,hands,rfl,hk,ft,hsh,q⟩:=h;refine ⟨_,(qg (qE (PW.pt (jd (zI (zh (qu (zK (K:=K) rfl) (by rfl) c.isinstance_ qz (qc (pv 0) (qc (jn c.tuple_ zO) qd))))) (jd (qq qT (qu (ja (K:=K) rfl) (by rfl) c.len_ zp (qc (pv 0) qd)) qf (qv _)) (jt (zI (zh (qu (zK (K:=K) rfl) (by rfl) c.isinstance_ qz (qc (pix K (pv 0) qf) (qc (jn c.str_ Jh) qd))))))))) (ql (qt zr)) qy)
   (qg (pst 3 JZ.nd (pix K (pv 0) qf))
   (qg (qE (qq (qeo (K:=K) rfl) (pv 3) (WF (K:=K) rfl T.HEADS (pv 1) (fun _ _=>rfl)) rfl) (ql (qt zr)) qy)
   (qg (qE (PW.pt (Jx (qq qT (pv 3) qh (qv _)) (jJ (zI (zh (pv 2)))))) (ql (qt zr)) qy)
   (qg (pst 4 JZ.nd (WF (K:=K) rfl T.FORMS (pv 3) (fun _ _=>rfl)))
   (qg (qE (qq wU (qu (ja (K:=K) rfl) (by rfl) c.len_ zp (qc (pv 0) qd)) (qm qY (qu (ja (K:=K) rfl) (by rfl) c.len_ zp (qc (pv 4) qd)) qf) (qv _)) (ql (qt zr)) qy)
   (ql (qt (qu (Wp (K:=K) rfl rfl) (by rfl) c.all_ Vx (qc (zx (sc:=qo JJ) (NX:=["thing","shape","hands","head","shapes"]) (N:=["one","wanted"]) (js:=[none,none]) (Z0 (K:=K) rfl c.zip_ (qc (zX (Xv (K:=K) rfl) (pv 0) (je qf) jK) (qc (pv 4) qd))) (fun _ _ _ _ _=>(YX (K:=K) (n:=2) rfl rfl (ju (zb (i:=0) (show (["one","wanted"]:List Str).Nodup from ∅) rfl (Or.inl rfl)) (ju (zb (i:=1) (show (["one","wanted"]:List Str).Nodup from ∅) rfl (Or.inl rfl)) V3)))) (fun _ _ _ _ _=>zG) (fun _ _ _ _ _=>(pdf d_has_shape (qc (pv 0) (qc (pv 1) qd)))) (Y1 rfl rfl) ⟨∅,rfl,∅,∅,rfl,∅⟩) qd)))))))))),?_⟩
 have q0:=q H (qp.refl _);have hk2:=hk;refine ⟨_,rfl,_,_,"tuple",rfl,hk2,O0,_,rfl,?_⟩;cases hk with
 | @tup a xs ds hq hs=>
  refine jl ⟨_,rfl,_,_,rfl,.inr ⟨_,hq,rfl⟩,rfl,_,rfl,?_⟩;cases hs with
  | nil=>exact zV (zV q0)
  | @cons y ys e es r rs=>
   refine zn (show decide _=false from Al fun z=>by have:=V.int.inj z;rw [A5] at this;omega) ?_
   have hy:atI (y::ys) 0=some y:=qS (j:=0) rfl;refine ⟨_,rfl,.inr (.inl ⟨_,_,0,_,rfl,rfl,hq,hy,_,_,"str",rfl,r,O0,_,rfl,?_⟩)⟩;cases r with
   | str h=>
    refine jl ?_;refine ⟨_,rfl,.inr (.inl ⟨_,_,0,_,rfl,rfl,hq,hy,?_⟩)⟩;obtain ⟨l,hl⟩:=Dn.mp hsh;refine ⟨_,rfl,_,rfl,sh,l,rfl,hl,fun a2 ha2=>⟨a2,_,rfl,.inr (ha2 H),rfl,XS l,_,rfl,?_⟩⟩;have hin:(((Tre.heads.lookup sh).getD []).any fun y=>y==h)=l.any fun y=>y==h:=by rw [hl];rfl
    have q1:=q0;simp only [Tre.qP,hin] at q1
    by_cases hm:(l.any fun y=>y==h)=true
    ·refine zn (show (!inV (.str h) (l.map V.str))=false by rw [V5,hm];rfl) ?_
     rw [hm,Bw] at q1;obtain ⟨_,_,_,fs,hfs,hf5⟩:=Tre.Wd (hin.trans hm);refine ⟨_,rfl,rfl,_,rfl,?_⟩
     by_cases hb:(h=="hand"&&!hands)=true
     ·rw [Ao,Bk] at hb;obtain ⟨rfl,hb⟩:=hb;refine zg (show decide _=true from Ai rfl) ⟨_,rfl,_,rfl,zg hb ?_⟩;rw [hb] at q1;exact q1
     ·have hb':=Bz.mpr hb;have q2:∀ H',qp H H'→Q (.bl (Tre.zj es fs)) H':=fun H' g=>by
       have:=q H' g;simp only [Tre.qP,hin,hm,hb',hfs,Bw,Bool.not_false,Option.getD_some] at this;exact this
      refine vt (fun c1=>⟨_,rfl,_,rfl,zn ?hd ?g1⟩) (fun _=>jl ?g2)
      case hd=>
       have c1':h="hand":=V.str.inj (A1 c1);rw [c1'] at hb';simpa using hb'
      all_goals
       refine ⟨_,rfl,h,fs,rfl,hfs,fun a3 ha3=>?_⟩;refine ⟨_,rfl,_,_,rfl,.inr ⟨_,hq,rfl⟩,_,rfl,_,_,rfl,.inr ⟨_,ha3 H,rfl⟩,.inl ⟨_,_,rfl,rfl,rfl,_,rfl,?_⟩⟩;have hys:=rs.length
       by_cases hlen:es.length=fs.length
       ·refine zn (show (!decide _)=false by
         rw [Bool.not_eq_false',Bs,An,A5,hys,hlen];rfl) ?_
        refine ⟨_,rfl,_,rfl,.inr (.inr ⟨a,_,rfl,hq,Xg _ _,fun p hp=>?_⟩)⟩;rw [qe8];have g1:=qj hp (.tup ys);refine ⟨_,rfl,p,a3,rfl,⟨ys,SqT.of upd_same⟩,⟨_,ha3 _⟩,X1 (SqT.of upd_same) (rs.same g1) (ha3 _) hlen (As ⋯ (show 5≤Af from O0)) (fun d sh=>V.bl (Tre.qx d sh)) (fun x d sh H' R g hd rd hR=>?_) (fun H' D g hD=>?_)⟩
        ·have ft':Tre.fit d=true:=by
          rw [Tre.fit,Tre.zR,Ao] at ft;exact Tre.zA ft.2 d (Cw hd).1
         exact ⟨_,rfl,_,rfl,_,_,_,rfl,rd,ft',fun H5 g5=>hR H5 g5⟩
        ·have q3:=q2 _ ((g1.trans g).trans (qj hD (.lst ((es.zip fs).map fun p=>V.bl (Tre.qx p.1 p.2)))));refine ⟨D,(es.zip fs).map fun p=>Tre.qx p.1 p.2,rfl,SqL.of (by rw [upd_same,Bp];rfl),?_⟩
         have e3:Tre.zj es fs=((es.zip fs).map fun p=>Tre.qx p.1 p.2).all id:=by
          unfold Tre.zj;rw [Ai hlen,Bw,Ct];rfl
         rw [e3] at q3;exact q3
       ·refine zg (show (!decide _)=true by
         rw [Cm,decide_eq_false_iff_not,An,A5,hys];intro z;have:=V.int.inj z;omega) ?_
        have q3:=q2 H (qp.refl _);unfold Tre.zj at q3;rw [Al hlen,Cq] at q3;exact q3
    ·have hm':=Bz.mpr hm;refine zg (show (!inV (.str h) (l.map V.str))=true by rw [V5,hm'];rfl) ?_
     rw [hm',Cq,Cq] at q1;exact q1
   | _=>exact zV q0
 | _=>exact zV (zV q0)
end
abbrev Lp (J:It) (g:TG) (tb:TS) (D:Ends) (σ:St) (H:Hp):Prop:=
 ∃ W:Nat→Nat→St→Hp→Prop,(∃ m,W 0 m σ H)∧∀ i m σ H,W i m σ H→
  (J.stop i H∧D.nx σ H)∨(J.go i H∧∃ N:St→Hp→Prop,(∀ σ' H',N σ' H'→∃ m',m'<m∧W (i+1) m' σ' H')∧∀ x H',J.yld i H x H'→g x σ H' fun σ2 H2=>tb {D with nx:=N,ct:=N,bk:=D.nx} σ2 H2)
theorem YA {J:It} {g:TG} {tb:TS} {D:Ends} {σ:St} {H:Hp} (n:Nat) (Pv:Nat→St→Hp→Prop) (h0:Pv 0 σ H)
  (hs:∀ i σ H,i<n→Pv i σ H→J.go i H∧∀ x H',J.yld i H x H'→g x σ H' fun σ2 H2=>tb {D with nx:=Pv (i+1),ct:=Pv (i+1),bk:=D.nx} σ2 H2) (hd:∀ σ H,Pv n σ H→J.stop n H∧D.nx σ H):
  Lp J g tb D σ H:=by
 refine ⟨fun i m σ H=>m=n - i∧i≤n∧Pv i σ H,⟨n,by simp,A7 _,h0⟩,fun i m σ H h=>?_⟩
 obtain ⟨rfl,hi,p⟩:=h
 by_cases lt:i<n
 ·obtain ⟨a,b⟩:=hs i σ H lt p;exact .inr ⟨a,Pv (i+1),fun σ' H' p'=>⟨n - (i+1),⋯,rfl,lt,p'⟩,b⟩
 ·obtain rfl:i=n:=⋯;exact .inl (hd σ H p)
theorem Qr {J:It} {g:TG} {tb:TS} {D:Ends} {σ:St} {H:Hp} (n:Nat) (Pv:Nat→St→Hp→Prop) (h0:Pv 0 σ H)
  (hs:∀ i σ H,i<n→Pv i σ H→J.go i H∧∀ x H',J.yld i H x H'→∀ D':Ends,(∀ σ H,Pv (i+1) σ H→D'.nx σ H)→(∀ v H,D.rt v H→D'.rt v H)→g x σ H' fun σ2 H2=>tb D' σ2 H2) (hd:∀ σ H,Pv n σ H→J.stop n H∧D.nx σ H):
  Lp J g tb D σ H:=
 YA n Pv h0 (fun i σ H hi p=>⟨(hs i σ H hi p).1,fun x H' y=>(hs i σ H hi p).2 x H' y _ (fun _ _ h=>h) fun _ _ h=>h⟩) hd
abbrev Prs (K:Frag) (H0 H:Hp):List V→List (Aa×Str)→Prop:=Paired fun (y:V) (q:Aa×Str)=>∃ a x,y= .ref a∧H a=some (.tup [x,.str q.2])∧Rep K H0 x q.1
section
variable {P:Program} {w:World} {K:Frag} {mg:Str→Option Ab} {base:Heap} {f:Ac} {fd:FuncData} {ad:Ad}
theorem Prs.write {H0 H:Hp} {p:Ac} {zs:List V} {o:HO} {ys:List V} {l:List (Aa×Str)} (hp:H p=some (.lst zs)) (h:Prs K H0 H ys l):Prs K H0 (upd H p o) ys l:=
 L2.Paired.mapP h fun y q ⟨a,x,e,ha,r⟩=>⟨a,x,e,by rw [qB (Z6 ha hp (by intro z;cases z))];exact ha,r⟩
theorem Prs.same {H0 H H':Hp} {ys:List V} {l:List (Aa×Str)} (g:qp H H') (h:Prs K H0 H ys l):Prs K H0 H' ys l:=L2.Paired.mapP h fun _ _ ⟨a,x,e,ha,r⟩=>⟨a,x,e,g _ _ ha,r⟩
theorem Prs.append {H0 H:Hp}:∀ {ys zs:List V} {l m:List (Aa×Str)},Prs K H0 H ys l→Prs K H0 H zs m→Prs K H0 H (ys++zs) (l++m)
 | _,_,_,_,.nil,h=>h
 | _,_,_,_,.cons r t,h=> .cons r (Prs.append t h)
def prD (q:Aa×Str):Aa:= .tuple [q.1,.str q.2]
theorem Prs.reps {H0 H:Hp} (g:qp H0 H):∀ {ys:List V} {l:List (Aa×Str)},Prs K H0 H ys l→Reps K H ys (l.map prD)
 | _,_,.nil=> .nil
 | _,_,.cons (a:=y) (b:=q) h t=>by
  obtain ⟨a,x,rfl,ha,r⟩:=h;exact .cons (.tup (SqT.of ha) (.cons (r.same g) (.cons (.str _) .nil))) (Prs.reps g t)
theorem jC {H H':Hp} {p:Ac} (g:qp H H') (h:H p=none) (o:HO):qp H (upd H' p o):=fun b u q=>by rw [qB (qD q h)];exact g b u q
def YT (K:Frag):Sp:=fun vs H Q _=>∃ x d sh hands H0,vs=[x]∧qp H0 H∧Rep K H0 x d∧Tre.qP d sh hands=true∧∀ H' p zs,qp H H'→H p=none→H' p=some (.lst zs)→Prs K H0 H' zs (Tre.jo d)→Q (.ref p) H'
theorem Qa {sh:Str} (h:(sh=="terms"||sh=="body")=true):Tre.Jp.lookup sh=some ((Tre.Jp.lookup sh).getD ""):=by
 rw [Cu,Bk,Bk] at h;rcases h with rfl | rfl <;> decide+kernel
theorem wB (sh a b:Str):inV (.str sh) [.str a,.str b]=(sh==a||sh==b):=by
 rw [show ([.str a,.str b]:List V)=[a,b].map V.str from rfl,V5];simp only [Co,List.any_nil,Bool.or_false,Bool.beq_comm]
theorem qbw {sh:Str} {d:Aa} (h:(sh=="terms"||sh=="body")=true) (hs:Tre.qx d sh=true):∃ ds,d= .tuple ds∧ds.length≤12:=by
 have row:∀ m,m≤12→Tre.Jg d m=true→∃ ds,d= .tuple ds∧ds.length≤12:=fun m hm h=>by
  cases d with
  | tuple ds=>exact ⟨ds,rfl,As (A1 h) hm⟩
  | _=>cases h
 rw [Cu,Bk,Bk] at h;rcases h with rfl | rfl
 ·rw [Tre.jN] at hs;exact row 4 O0 hs
 ·rw [Tre.j4] at hs;exact row 12 O0 hs
theorem _root_.L2.Rep.tup_inv {H:Hp} {x:V} {ds:List Aa} (h:Rep K H x (.tuple ds)):∃ a xs,x= .ref a∧SqT K H a xs∧Reps K H xs ds:=by
 cases h with
 | tup hq hs=>exact ⟨_,_,rfl,hq,hs⟩
theorem J8 (F:Fun K "inner_with_shapes" "inner_with_shapes" zE f fd) (c:Cs K mg ad) (T:Tb P w K mg):FnOk P w K mg base CX0 1 f fd ["part"] (YT K):=by
 refine F.ok zw (fun vs H Q E h=>?_) (fun cdv A outer s H vs Q E hr h=>?_)
 ·obtain ⟨x,d,sh,hands,H0,rfl,_⟩:=h;rfl
 obtain ⟨x,d,sh,hands,H0,rfl,gH,hk,hf,q⟩:=h;obtain ⟨hd,es,fs,_,rfl,_,_,hfs,hf5,hlen,hsh,_⟩:=Tre.z3 hf;refine ⟨_,(qg (pst 1 zw.nd (qX qd))
   (qg (WE Df rfl (Z0 (K:=K) rfl c.zip_ (qc (zX (Xv (K:=K) rfl) (pv 0) (je qf) jK) (qc (WF (K:=K) rfl T.FORMS (pix K (pv 0) qf) (fun _ _=>rfl)) qd))) (YX (K:=K) (n:=2) rfl rfl (ju (pgn 2 zw.nd) (ju (pgn 3 zw.nd) V3))) (ql (qE (qq qT (pv 3) qh (qv _)) (ql (zJ (wG (K:=K) rfl B1 Ce Cf jZ (pv 1) (qc (qi (qc (pv 2) (qc (pv 3) qd))) qd)))) (ql (qE (qq (XQ (K:=K) rfl) (pv 3) (qi (qc qh (qc qh qd))) rfl) (ql (zJ (wG (K:=K) rfl B1 PySem.F.slot_list_extend PySem.F.type_list_extend wY (pv 1) (qc (zx (sc:=qo zE) (NX:=["part","found","thing","shape"]) (N:=["one","shape"]) (js:=[none,some 3]) (Vp (K:=K) rfl (pv 2)) (fun _ _ _ _ _=>(zb (i:=0) (show (["one","shape"]:List Str).Nodup from ∅) rfl (Or.inl rfl))) (fun _ _ _ _ _=>zG) (fun _ _ _ _ _=>(qi (qc (pv 0) (qc (Q3 T.MEMBERS (pv 1) (fun _ _=>rfl)) qd)))) (zd rfl) ⟨∅,rfl,∅,∅,rfl,∅⟩) qd)))) qy)))))
   (ql (qt (pv 1))))),?_⟩
 cases hk with
 | @tup a xs ds hq hs=>
  cases hs with
  | @cons y ys e es' r rs=>
   cases r;have hys:=rs.length;refine ⟨(O0:0≤Af),fun p0 hp0=>?_⟩;have g0:=qj hp0 (.lst []);refine ⟨_,rfl,_,rfl,.inr (.inr ⟨a,_,rfl,(gH.trans g0).sqT hq,Xg _ _,fun p1 hp1=>?_⟩)⟩;rw [qe8];have g1:=g0.trans (qj hp1 (.tup ys));have n01:p0≠p1:=qD upd_same hp1;refine ⟨_,rfl,.inr (.inl ⟨_,_,0,_,rfl,rfl,(gH.trans g1).sqT hq,qS (j:=0) rfl,hd,fs,rfl,hfs,fun a3 ha3=>⟨p1,a3,rfl,⟨ys,SqT.of upd_same⟩,⟨_,ha3 _⟩,?_⟩⟩)⟩;refine Qr es.length (fun i σ H'=>∃ o2 o3 zs,σ=[some (.ref a),some (.ref p0),o2,o3]∧qp H H'∧H' p1=some (.tup ys)∧H' p0=some (.lst zs)∧Prs K H0 H' zs (((es.zip fs).take i).flatMap fun p=>Tre.qr p.1 p.2)∧zs.length≤12*i) ?_ (fun i σ H2 hi h=>?_) (fun σ H2 h=>?_)
   ·exact ⟨none,none,[],rfl,g1,upd_same,by rw [qB n01];exact upd_same,.nil,Aj _⟩
   ·obtain ⟨o2,o3,zs,rfl,g2,h1,h0,pr,hz⟩:=h;obtain ⟨yi,hx⟩:=Vw (l:=ys) (i:=i) ⋯;obtain ⟨sh1,hfi⟩:=Vw (l:=fs) (i:=i) ⋯;have hy:(fs.map V.str)[i]?=some (.str sh1):=by rw [Bm,hfi];rfl
    refine ⟨⟨ys,_,_,_,SqT.of h1,ha3 _,hx,hy⟩,fun v H3 yl D' hn _=>?_⟩;obtain ⟨q1,xx,yy,hq1,rfl,e1,e2,rfl⟩:=yl;have e3:=hx.symm.trans (e1 ys (SqT.of h1));cases e3;have e4:=hy.symm.trans (e2 _ (ha3 _));cases e4;obtain ⟨d,hd',rd⟩:=rs.get hx;have hm:(es.zip fs)[i]?=some (d,sh1):=Dj.mpr ⟨hd',hfi⟩;have hshape:Tre.qx d sh1=true:=hsh _ (Bi hm);have step:((es.zip fs).take (i+1)).flatMap (fun p=>Tre.qr p.1 p.2)=((es.zip fs).take i).flatMap (fun p=>Tre.qr p.1 p.2)++Tre.qr d sh1:=by
     rw [Br,hm,List.flatMap_append];simp
    have g3:=qj hq1 (.tup [yi,.str sh1]);refine ⟨q1,_,rfl,SqT.of upd_same,rfl,_,_,rfl,_,_,rfl,rfl,?_⟩;have h0':=g3 _ _ h0;have h1':=g3 _ _ h1;have pr':=pr.same g3;have g2':=g2.trans g3;generalize upd H2 q1 (.tup [yi,.str sh1])=H3 at h0' h1' pr' g2' ⊢;refine ⟨_,rfl,rfl,_,rfl,?_⟩
    by_cases ht:sh1="term"
    ·refine zg (show decide _=true from Ai (congrArg V.str ht)) ?_;refine ⟨_,rfl,.inl ⟨rfl,zs,SqL.of h0'⟩,_,rfl,_,rfl,(O0:2≤Af),fun q2 hq2=>?_⟩;have g4:=qj hq2 (.tup [yi,.str sh1]);refine ⟨p0,zs,_,rfl,rfl,g4 _ _ h0',Bx (show zs.length≤100 from ⋯) O0,?_⟩;have e5:Tre.qr d sh1=[(d,sh1)]:=by unfold Tre.qr;rw [if_pos (Bk.mpr ht)]
     refine hn _ _ ⟨_,_,zs++[.ref q2],rfl,jC (g2'.trans g4) hp0 _,?_,upd_same,?_,?_⟩
     ·rw [qB (Ne.symm n01)];exact g4 _ _ h1'
     ·rw [step,e5];refine Prs.append (Prs.write (g4 _ _ h0') (pr'.same g4)) (.cons ⟨q2,yi,rfl,?_,rd⟩ .nil);rw [qB (Ne.symm (qD h0' hq2))];exact upd_same
     ·rw [A8,List.length_singleton];omega
    ·refine zn (show decide _=false from Al fun z=>ht (V.str.inj z)) ?_;refine ⟨_,rfl,(O0:2≤Af),fun q2 hq2=>⟨q2,_,rfl,.inr (SqT.of upd_same),rfl,rfl,_,rfl,?_⟩⟩;have g4:=qj hq2 (.tup [.str "terms",.str "body"]);have h0'':=g4 _ _ h0';have h1'':=g4 _ _ h1';have pr'':=pr'.same g4;have g2'':=g2'.trans g4;generalize upd H3 q2 (.tup [.str "terms",.str "body"])=H4 at h0'' h1'' pr'' g2'' ⊢;have ht':(sh1=="term")=false:=Bh.mpr ht
     by_cases hb:(sh1=="terms"||sh1=="body")=true
     ·refine zg (show inV _ _=true from (wB sh1 "terms" "body").trans hb) ?_;obtain ⟨ds2,rfl,h12⟩:=qbw hb hshape;obtain ⟨at',ws,ew,hw,hrs⟩:=rd.tup_inv;have hwl:=hrs.length;refine ⟨_,rfl,.inl ⟨rfl,zs,SqL.of h0''⟩,_,rfl,.inr (.inl ⟨at',ew,⟨ws,(gH.trans g2'').sqT hw⟩,?_⟩)⟩;refine zL ds2.length (fun j vs H'=>qp H4 H'∧Prs K H0 H' vs ((ds2.take j).map fun z=>(z,(Tre.Jp.lookup sh1).getD ""))) ⟨qp.refl _,.nil⟩ (fun j vs H' h=>?_) (As h12 O0) (fun j vs H' hj h=>?_) (fun vs H' h=>?_)
      ·have:=Ci h.2;rw [this,An];exact Bl _ _
      ·obtain ⟨g5,pv⟩:=h;have hw2:=(gH.trans (g2''.trans g5)).sqT hw;have hxw:ws[j]?=some ws[j]:=A4 ⋯;refine ⟨⟨ws,_,hw2,hxw⟩,fun v H6 yl=>?_⟩;obtain ⟨rfl,hv⟩:=yl;have e6:=hxw.symm.trans (hv ws hw2);cases e6;obtain ⟨dd,hdd,rdd⟩:=hrs.get hxw;refine ⟨_,rfl,_,rfl,sh1,_,rfl,Qa hb,(O0:2≤Af),fun q3 hq3=>⟨g5.trans (qj hq3 _),?_⟩⟩;rw [Br,hdd,Bc];exact Prs.append (pv.same (qj hq3 _)) (.cons ⟨q3,ws[j],rfl,upd_same,rdd⟩ .nil)
      ·obtain ⟨g5,pv⟩:=h;refine ⟨⟨ws,(gH.trans (g2''.trans g5)).sqT hw,⋯⟩,fun D hD=>?_⟩;rw [Bv] at pv;have hvl:=Ci pv;rw [An] at hvl;have g6:=g5.trans (qj hD (.lst vs));refine ⟨p0,D,zs,vs,rfl,rfl,g6 _ _ h0'',upd_same,As (show zs.length+vs.length≤100 from ⋯) O0,?_⟩;have e5:Tre.qr (.tuple ds2) sh1=ds2.map fun z=>(z,(Tre.Jp.lookup sh1).getD ""):=by
        unfold Tre.qr;rw [if_neg (by rw [ht'];exact Am),if_pos hb]
       refine hn _ _ ⟨_,_,zs++vs,rfl,jC (g2''.trans g6) hp0 _,?_,upd_same,?_,?_⟩
       ·rw [qB (Ne.symm n01)];exact g6 _ _ h1''
       ·rw [step,e5];exact Prs.append (Prs.write (g6 _ _ h0'') (pr''.same g6)) (Prs.write (g6 _ _ h0'') (pv.same (qj hD _)))
       ·rw [A8];omega
     ·have hb':=Bz.mpr hb;refine zn (show inV _ _=false from (wB sh1 "terms" "body").trans hb') ?_;have e5:Tre.qr d sh1=[]:=by
       unfold Tre.qr;rw [if_neg (by rw [ht'];exact Am),if_neg (by rw [hb'];exact Am)]
      refine hn _ _ ⟨_,_,zs,rfl,g2'',h1'',h0'',?_,⋯⟩;rw [step,e5,By];exact pr''
   ·obtain ⟨o2,o3,zs,rfl,g2,h1,h0,pr,hz⟩:=h;refine ⟨⟨ys,_,SqT.of h1,ha3 _,.inl ⋯⟩,_,rfl,q _ p0 zs g2 hp0 h0 ?_⟩;have e5:Tre.jo (.tuple (.str hd::es))=((es.zip fs).take es.length).flatMap fun p=>Tre.qr p.1 p.2:=by
     show ((es.zip ((Tre.forms.lookup hd).getD [])).flatMap _)=_;rw [hfs,Du (by rw [Ds];omega)]
     rfl
    rw [e5];exact pr
def yg (K:Frag):Sp:=fun vs H Q _=>∃ x h es hands,vs=[x,.bl hands]∧Rep K H x (.tuple (.str h::es))∧∀ H',qp H H'→Q (.bl (Tre.jz (.tuple (.str h::es)) hands)) H'
theorem VW (F:Fun K "hands_within" "hands_within" Jb f fd) (c:Cs K mg ad):FnOk P w K mg base CX0 1 f fd ["part","hands"] (yg K):=by
 refine F.ok VR (fun vs H Q E h=>?_) (fun cdv A outer s H vs Q E hr h=>?_)
 ·obtain ⟨x,h,es,hands,rfl,_⟩:=h;rfl
 obtain ⟨x,h,es,hands,rfl,hk,q⟩:=h;refine ⟨_,(qg (qE (qq qT (pix K (pv 0) qf) qh (qv _)) (ql (qt zr)) qy)
   (ql (qt (qbb (pv 1) (Jd (zF (XQ (K:=K) rfl) (pix K (pv 0) qf) (qi (qc qh (qc qh qd))) rfl)))))),?_⟩
 obtain ⟨a,xs,rfl,hq,hs⟩:=hk.tup_inv;cases hs with
 | @cons y ys e es' r rs=>
  cases r;have e1:Tre.jz (.tuple (.str h::es)) hands=if h=="fun" then false else hands||(h=="main"||h=="loop"):=rfl
  rw [e1] at q;refine ⟨_,rfl,.inr (.inl ⟨_,_,0,_,rfl,rfl,hq,qS (j:=0) rfl,rfl,_,rfl,?_⟩)⟩
  by_cases hf:h="fun"
  ·refine zg (show decide _=true from Ai (congrArg V.str hf)) ?_;rw [if_pos (Bk.mpr hf)] at q;exact q _ (qp.refl _)
  ·refine zn (show decide _=false from Al fun z=>hf (V.str.inj z)) ?_;rw [if_neg (fun z=>hf (Bk.mp z))] at q;refine ⟨_,rfl,_,rfl,?_⟩;cases hands with
   | true=>exact zV (q _ (qp.refl _))
   | false=>
    refine jl ⟨_,rfl,.inr (.inl ⟨_,_,0,_,rfl,rfl,hq,qS (j:=0) rfl,(O0:2≤Af),fun p hp=>⟨p,_,rfl,.inr (SqT.of upd_same),rfl,rfl,?_⟩⟩)⟩;have q':=q _ (qj hp (.tup [.str "main",.str "loop"]));rw [Bool.false_or,← wB h "main" "loop"] at q';exact q'
abbrev Trs (K:Frag) (H0 H:Hp):List V→Tre.Lv→Prop:=Paired fun (y:V) (q:Aa×Str×Bool)=>∃ a x,y= .ref a∧H a=some (.tup [x,.str q.2.1,.bl q.2.2])∧Rep K H0 x q.1
theorem Trs.write {H0 H:Hp} {p:Ac} {zs:List V} {o:HO} {ys:List V} {l:Tre.Lv} (hp:H p=some (.lst zs)) (h:Trs K H0 H ys l):Trs K H0 (upd H p o) ys l:=
 L2.Paired.mapP h fun _ _ ⟨a,x,e,ha,r⟩=>⟨a,x,e,by rw [qB (Z6 ha hp (by intro z;cases z))];exact ha,r⟩
theorem Trs.same {H0 H H':Hp} {ys:List V} {l:Tre.Lv} (g:qp H H') (h:Trs K H0 H ys l):Trs K H0 H' ys l:=L2.Paired.mapP h fun _ _ ⟨a,x,e,ha,r⟩=>⟨a,x,e,g _ _ ha,r⟩
theorem Trs.append {H0 H:Hp}:∀ {ys zs:List V} {l m:Tre.Lv},Trs K H0 H ys l→Trs K H0 H zs m→Trs K H0 H (ys++zs) (l++m)
 | _,_,_,_,.nil,h=>h
 | _,_,_,_,.cons r t,h=> .cons r (Trs.append t h)
theorem Trs.get {H0 H:Hp}:∀ {ys:List V} {l:Tre.Lv} {i:Nat} {q:Aa×Str×Bool},Trs K H0 H ys l→l[i]?=some q→∃ a x,ys[i]?=some (.ref a)∧H a=some (.tup [x,.str q.2.1,.bl q.2.2])∧Rep K H0 x q.1
 | _,_,_,_,.nil,h=>by simp at h
 | _,_,0,_,.cons ⟨a,x,e,ha,r⟩ t,h=>by
  simp at h;subst h;exact ⟨a,x,by rw [e];rfl,ha,r⟩
 | _,_,i+1,_,.cons r t,h=>by
  simp only [List.getElem?_cons_succ] at h ⊢;exact Trs.get t h
theorem Prs.get {H0 H:Hp}:∀ {ys:List V} {l:List (Aa×Str)} {i:Nat} {q:Aa×Str},Prs K H0 H ys l→l[i]?=some q→∃ a x,ys[i]?=some (.ref a)∧H a=some (.tup [x,.str q.2])∧Rep K H0 x q.1
 | _,_,_,_,.nil,h=>by simp at h
 | _,_,0,_,.cons ⟨a,x,e,ha,r⟩ t,h=>by
  simp at h;subst h;exact ⟨a,x,by rw [e];rfl,ha,r⟩
 | _,_,i+1,_,.cons r t,h=>by
  simp only [List.getElem?_cons_succ] at h ⊢;exact Prs.get t h
def PvP (K:Frag) (x:V) (d:Aa) (H:Hp) (m:Nat) (σ:St) (H':Hp):Prop:=∃ (L:Ac) (zs:List V) (lv:Tre.Lv) (n sz:Nat) (o4 o5 o6 o7 o8:Option V),σ=[some x,some (.ref L),some (.int n),some (.int sz),o4,o5,o6,o7,o8]∧qp H H'∧H' L=some (.lst zs)∧H L=none∧Trs K H H' zs lv∧m+n=20∧
 Tre.vw m sz lv=Tre.qR d∧(∀ p∈lv,Tre.fit p.1=true∧(Tre.heads.lookup p.2.1).isSome=true)∧sz≤300∧lv.length≤18000
theorem Xn (n sz:Nat):Tre.vw n sz []=true:=by cases n <;> rfl
theorem wK (F:Fun K "is_program" "is_program" jX f fd) (c:Cs K mg ad) (d_has_form:Def P w K mg base 4 "has_form" ["thing","shape","hands"] (ZI K)) (d_hands_within:Def P w K mg base 1 "hands_within" ["part","hands"] (yg K)) (d_inner_with_shapes:Def P w K mg base 1 "inner_with_shapes" ["part"] (YT K)):FnOk P w K mg base CX0 5 f fd ["thing"] (spD K Tre.qR):=by
 refine F.ok qU (fun vs H Q E h=>?_) (fun cdv A outer s H vs Q E hr h=>?_)
 ·obtain ⟨x,d,rfl,_⟩:=h;rfl
 obtain ⟨x,d,rfl,hk,ft,q⟩:=h;refine ⟨_,(qg (pst 1 qU.nd (qX (qc (qi (qc (pv 0) (qc qh (qc zr qd)))) qd)))
   (qg (pst 2 qU.nd qf)
   (qg (pst 3 qU.nd qf)
   (qg (wq Df (pt_k (K:=K) rfl (pv 1)) (qg (ZY (i:=2) qU.nd rfl (by first | exact Or.inl rfl | exact Or.inr rfl) qf Qk)
   (qg (ZY (i:=3) qU.nd rfl (by first | exact Or.inl rfl | exact Or.inr rfl) (qu (ja (K:=K) rfl) (by rfl) c.len_ zp (qc (pv 1) qd)) Qk)
   (qg (qE (PW.pt (jd (qq VF (pv 2) (v5 c.MOST_DEPTH) (qv _)) (jt (qq VF (pv 3) (v5 c.MOST_PARTS) (qv _))))) (ql (qt zr)) qy)
   (qg (pst 4 qU.nd (qX qd))
   (qg (WE Df rfl (Vp (K:=K) rfl (pv 1)) (YX (K:=K) (n:=3) rfl rfl (ju (pgn 5 qU.nd) (ju (pgn 6 qU.nd) (ju (pgn 7 qU.nd) V3)))) (qg (qE (zI (zh (pdf d_has_form (qc (pv 5) (qc (pv 6) (qc (pv 7) qd)))))) (ql (qt zr)) qy)
   (qg (pst 8 qU.nd (pdf d_hands_within (qc (pv 5) (qc (pv 7) qd))))
   (ql (zJ (wG (K:=K) rfl B1 PySem.F.slot_list_extend PySem.F.type_list_extend wY (pv 4) (qc (zx (sc:=qo jX) (NX:=["thing","level","depth","size","below","part","shape","hands","within"]) (N:=["inner","inner_shape","within"]) (js:=[none,none,some 8]) (Vp (K:=K) rfl (pdf d_inner_with_shapes (qc (pv 5) qd))) (fun _ _ _ _ _=>(YX (K:=K) (n:=2) rfl rfl (ju (zb (i:=0) (show (["inner","inner_shape","within"]:List Str).Nodup from ∅) rfl (Or.inl rfl)) (ju (zb (i:=1) (show (["inner","inner_shape","within"]:List Str).Nodup from ∅) rfl (Or.inl rfl)) V3)))) (fun _ _ _ _ _=>zG) (fun _ _ _ _ _=>(qi (qc (pv 0) (qc (pv 1) (qc (pv 2) qd))))) (Y1 rfl rfl) ⟨∅,rfl,∅,∅,rfl,∅⟩) qd)))))))
   (ql (pst 1 qU.nd (pv 4)))))))))
   (ql (qt zr)))))),?_⟩
 refine ⟨_,rfl,(O0:3≤Af),fun p1 hp1=>⟨(O0:1≤Af),fun L0 hL0=>?_⟩⟩;have g0:=(qj hp1 (.tup [x,.str "program",.bl false])).trans (qj hL0 (.lst [.ref p1]));refine ⟨PvP K x d H,⟨20,?_⟩,?_⟩
 ·refine ⟨L0,_,[(d,"program",false)],0,0,none,none,none,none,none,rfl,g0,upd_same,(qj hp1 _).free hL0,?_,rfl,rfl,fun p hp=>?_,O0,by simp⟩
  ·exact .cons ⟨p1,x,rfl,by rw [qB (qD upd_same hL0)];exact upd_same,hk⟩ .nil
  ·rw [B5] at hp;subst hp;exact ⟨ft,by show (Tre.heads.lookup (Str.ofString "program")).isSome=true;decide+kernel⟩
 ·rintro m σ H1 ⟨L,zs,lv,n,sz,o4,o5,o6,o7,o8,rfl,g,hL,hL0',tr,hn,hw,hlv,hsz,hll⟩;refine ⟨_,rfl,_,.inl ⟨zs,SqL.of hL,rfl⟩,?_⟩
  by_cases he:lv=[]
  ·subst he;cases tr;rw [Xn] at hw;rw [← hw] at q;exact q _ g
  have hlen:=Ci tr;have hz1:1≤lv.length:=by
   cases lv with
   | nil=>exact absurd rfl he
   | cons _ _=>simp
  have hemp:lv.isEmpty=false:=by
   cases lv with
   | nil=>exact absurd rfl he
   | cons _ _=>rfl
  have qF:Tre.qR d=false→∀ H',qp H H'→Q (.bl false) H':=fun e H' g'=>e▸q H' g';refine zg (show (!zs.isEmpty)=true by cases zs with | nil=>simp at hlen;omega | cons _ _=>rfl) ?_
  refine ⟨fun σ' H'=>∃ m',m'<m∧PvP K x d H m' σ' H',fun σ' H' h=>h,?_⟩;refine ⟨_,rfl,_,_,rfl,rfl,_,rfl,_,rfl,_,_,rfl,.inl ⟨zs,SqL.of hL,rfl⟩,_,_,rfl,rfl,?_⟩;refine ⟨_,rfl,_,_,rfl,rfl,_,rfl,?_⟩;cases m with
  | zero=>
   refine zg (show decide _=true from Ai (by show (20:Int)<(n:Int)+1;omega)) (zV (qF ?_ _ g))
   rw [← hw];exact hemp
  | succ m=>
   refine zn (show decide _=false from Al (by show ¬ (20:Int)<(n:Int)+1;omega)) ?_
   refine ⟨_,rfl,_,_,rfl,rfl,_,rfl,?_⟩;rw [Tre.vw,hemp,Bool.false_or] at hw
   by_cases hs:sz+lv.length≤300
   ·refine zn (show decide _=false from Al (by show ¬ (300:Int)<(sz:Int)+((zs.length:Nat):Int);omega)) ?_
    rw [Ai hs,Bw] at hw;refine ⟨(O0:0≤Af),fun B hB=>?_⟩;have gB:=qj hB (.lst []);have hB0:H B=none:=g.free hB;have nLB:L≠B:=qD hL hB;refine ⟨_,rfl,.inl ⟨L,rfl,⟨zs,SqL.of (gB _ _ hL)⟩,?_⟩⟩;refine Qr lv.length (fun i σ H'=>∃ o5 o6 o7 o8 bs,σ=[some x,some (.ref L),some (.int ((n:Int)+1)),some (.int ((sz:Int)+(zs.length:Nat))),some (.ref B),o5,o6,o7,o8]∧qp H H'∧H' L=some (.lst zs)∧H' B=some (.lst bs)∧Trs K H H' zs lv∧Trs K H H' bs (Tre.jQ (lv.take i))∧
     ∀ p∈lv.take i,Tre.qP p.1 p.2.1 p.2.2=true) ?_ (fun i σ H2 hi h=>?_) (fun σ H2 h=>?_)
    ·exact ⟨_,_,_,_,[],rfl,g.trans gB,gB _ _ hL,upd_same,tr.same gB,.nil,fun p hp=>by simp at hp⟩
    ·obtain ⟨o5,o6,o7,o8,bs,rfl,g2,hL2,hB2,tr2,trb,hfs⟩:=h;have hqi:lv[i]?=some lv[i]:=A4 hi;generalize lv[i]=p at hqi;obtain ⟨a,xi,hzi,hai,rxi⟩:=tr2.get hqi;refine ⟨⟨zs,_,SqL.of hL2,hzi⟩,fun v H3 yl D' hn hr'=>?_⟩;obtain ⟨rfl,hv⟩:=yl;have e1:=hzi.symm.trans (hv zs (SqL.of hL2));cases e1;refine ⟨a,_,rfl,SqT.of hai,rfl,_,_,rfl,_,_,rfl,_,_,rfl,rfl,?_⟩;obtain ⟨hfit,hhd⟩:=hlv p (Bi hqi);refine ⟨_,rfl,_,rfl,_,rfl,xi,p.1,p.2.1,p.2.2,rfl,rxi.same g2,hfit,hhd,fun H4 g4=>⟨_,rfl,?_⟩⟩
     by_cases hf:Tre.qP p.1 p.2.1 p.2.2=true
     ·refine zn (show (!Tre.qP p.1 p.2.1 p.2.2)=false by rw [hf];rfl) ?_
      obtain ⟨hd,es,fs,l,ep,_⟩:=Tre.z3 hf;refine ⟨_,rfl,_,rfl,xi,hd,es,p.2.2,rfl,ep▸rxi.same (g2.trans g4),fun H5 g5=>?_⟩;have g25:=(g2.trans g4).trans g5;have g35:=g4.trans g5;have hB5:=g35 _ _ hB2;refine ⟨_,rfl,.inl ⟨rfl,bs,SqL.of hB5⟩,_,rfl,xi,p.1,p.2.1,p.2.2,H,rfl,g25,rxi,hf,fun H6 p6 ps g6 hp6 hl6 prs=> .inl ⟨p6,rfl,⟨ps,SqL.of hl6⟩,?_⟩⟩;have hpl:=Ci prs;have hil:=Tre.yN hf;refine zL (Tre.jo p.1).length (fun j vs H'=>qp H6 H'∧Trs K H H' vs (((Tre.jo p.1).take j).map fun z=>(z.1,z.2,Tre.jz p.1 p.2.2))) ⟨qp.refl _,.nil⟩ (fun j vs H' h=>?_) (As hil O0) (fun j vs H' hj h=>?_) (fun vs H' h=>?_)
      ·have:=Ci h.2;rw [this,An];exact Bl _ _
      ·obtain ⟨g7,tv⟩:=h;have hj2:(Tre.jo p.1)[j]?=some (Tre.jo p.1)[j]:=A4 hj;generalize (Tre.jo p.1)[j]=z at hj2;obtain ⟨az,xz,hpz,haz,rxz⟩:=prs.get hj2;refine ⟨⟨ps,_,SqL.of (g7 _ _ hl6),hpz⟩,fun v H8 yl=>?_⟩;obtain ⟨rfl,hv⟩:=yl;have e6:=hpz.symm.trans (hv ps (SqL.of (g7 _ _ hl6)));cases e6;refine ⟨az,_,rfl,SqT.of (g7 _ _ haz),rfl,_,_,rfl,_,_,rfl,rfl,?_⟩;refine ⟨_,rfl,_,rfl,_,rfl,(O0:3≤Af),fun q3 hq3=>⟨g7.trans (qj hq3 _),?_⟩⟩;rw [Br,hj2,Bc];refine Trs.append (tv.same (qj hq3 _)) (.cons ⟨q3,xz,rfl,?_,rxz⟩ .nil);rw [upd_same,ep]
      ·obtain ⟨g7,tv⟩:=h;refine ⟨⟨ps,SqL.of (g7 _ _ hl6),⋯⟩,fun D hD=>?_⟩;rw [Bv] at tv;have hvl:=Ci tv;rw [An] at hvl;have hbl:=Ci trb;have hbb:=Tre.Ya hfs;have hti:=Bl i lv;have gD:=qj hD (.lst vs);have g3D:=((g35.trans g6).trans g7).trans gD;refine ⟨B,D,bs,vs,rfl,rfl,g3D _ _ hB2,upd_same,As (show bs.length+vs.length≤100000 from ⋯) O0,?_⟩;have eb:Tre.jQ (lv.take (i+1))=Tre.jQ (lv.take i)++(Tre.jo p.1).map fun z=>(z.1,z.2,Tre.jz p.1 p.2.2):=by
        unfold Tre.jQ;rw [Br,hqi,List.flatMap_append];simp
       refine hn _ _ ⟨_,_,_,_,bs++vs,rfl,jC (g2.trans g3D) hB0 _,?_,upd_same,Trs.write (g3D _ _ hB2) (tr2.same g3D),?_,fun p' hp'=>?_⟩
       ·rw [qB nLB];exact g3D _ _ hL2
       ·rw [eb];exact Trs.append (Trs.write (g3D _ _ hB2) (trb.same g3D)) (Trs.write (g3D _ _ hB2) (tv.same gD))
       ·rw [Br,hqi,Cr] at hp';rcases hp' with hp' | hp'
        ·exact hfs p' hp'
        ·simp at hp';subst hp';exact hf
     ·have hf':=Bz.mpr hf;refine zg (show (!Tre.qP p.1 p.2.1 p.2.2)=true by rw [hf'];rfl) (hr' _ _ (qF ?_ _ (g2.trans g4)))
      rw [← hw];have:(List.all lv fun p=>Tre.qP p.1 p.2.1 p.2.2)=false:=by
       rw [List.all_eq_false];exact ⟨p,Bi hqi,hf⟩
      rw [this,Cq]
    ·obtain ⟨o5,o6,o7,o8,bs,rfl,g2,hL2,hB2,tr2,trb,hfs⟩:=h;rw [Bv] at trb hfs;have e1:(n:Int)+1=((n+1:Nat):Int):=⋯;have e2:(sz:Int)+((zs.length:Nat):Int)=((sz+lv.length:Nat):Int):=⋯;have hbb:=Tre.Ya hfs;refine ⟨⟨zs,SqL.of hL2,⋯⟩,_,rfl,m,Nat.lt_succ_self m,B,bs,Tre.jQ lv,n+1,sz+lv.length,some (.ref B),o5,o6,o7,o8,?_,g2,hB2,hB0,trb,⋯,?_,fun p hp=>?_,hs,⋯⟩
     ·show [some x,some (.ref B),some (.int ((n:Int)+1)),some (.int ((sz:Int)+((zs.length:Nat):Int))),some (.ref B),o5,o6,o7,o8]=_;rw [e1,e2]
     ·rw [← hw];have:(List.all lv fun p=>Tre.qP p.1 p.2.1 p.2.2)=true:=A3.mpr fun p hp=>hfs p hp;rw [this,Bw]
     ·obtain ⟨q',hq',hp2⟩:=D7.mp hp;obtain ⟨z,hz,rfl⟩:=Cg.mp hp2;refine ⟨Tre.XO (hlv q' hq').1 hz,?_⟩;rcases Tre.Yx hz with e | e
      ·show (Tre.heads.lookup z.2).isSome=true;rw [e];decide+kernel
      ·show (Tre.heads.lookup z.2).isSome=true;rw [e];decide+kernel
   ·refine zg (show decide _=true from Ai (by show (300:Int)<(sz:Int)+((zs.length:Nat):Int);omega)) (qF ?_ _ g)
    rw [← hw,Al hs];rfl
def Ww (K:Frag):Sp:=fun vs H Q _=>∃ (a:Ac) (ns:List Int) (k:Int),vs=[.ref a,.int k]∧SqL K H a (ns.map V.int)∧0≤k∧∀ i,Q (.int i) H
theorem wx (F:Fun K "_law_cell_at" "_law_cell_at" Jw f fd) (c:Cs K mg ad):FnOk P w K mg base CX0 1 f fd ["_law_script","_law_k"] (Ww K):=by
 refine F.ok wm (fun vs H Q E h=>?_) (fun cdv A outer s H vs Q E hr h=>?_)
 ·obtain ⟨a,ns,k,rfl,_⟩:=h;rfl
 obtain ⟨a,ns,k,rfl,hS,hk,q⟩:=h;refine ⟨_,(qg (qE (qq Jf (pv 1) (qu (ja (K:=K) rfl) (by rfl) c.len_ zp (qc (pv 0) qd)) (qv _)) (ql (qt (pix K (pv 0) (pv 1)))) qy)
   (ql (qt qf))),?_⟩
 refine ⟨_,rfl,_,rfl,_,_,rfl,.inl ⟨_,hS,rfl⟩,_,_,rfl,rfl,_,rfl,?_⟩;refine vt (fun c1=>?_) (fun c1=>?_)
 ·have c1':k<(((ns.map V.int).length:Nat):Int):=A1 c1;rw [An] at c1';have hk2:k.toNat<ns.length:=⋯;have ek:k=((k.toNat:Nat):Int):=⋯;have hv:atI (ns.map V.int) ((k.toNat:Nat):Int)=some (.int ns[k.toNat]):=qS (by rw [Bm,A4 hk2] <;> rfl)
  rw [← ek] at hv;exact ⟨_,rfl,_,rfl,.inl ⟨_,_,_,_,rfl,rfl,hS,hv,q _⟩⟩
 ·exact q 0
def stK (a:Ac) (k l:Int) (nm:Ac):List (Key×V):=[(Sum.inr "cells",.ref a),(Sum.inr "at",.int k),(Sum.inr "left",.int l),(Sum.inr "names",.ref nm)]
theorem kne {a b:Str} (h:¬ a=b):¬ (Sum.inr a:Key)=Sum.inr b:=fun e=>h (Sum.inr.inj e)
theorem qck:¬ (Sum.inr ("cells":Str):Key)=Sum.inr ("at":Str):=kne ∅
theorem qcj:¬ (Sum.inr ("cells":Str):Key)=Sum.inr ("left":Str):=kne ∅
theorem qeq:¬ (Sum.inr ("cells":Str):Key)=Sum.inr ("names":Str):=kne ∅
theorem qcl:¬ (Sum.inr ("at":Str):Key)=Sum.inr ("left":Str):=kne ∅
theorem qer:¬ (Sum.inr ("at":Str):Key)=Sum.inr ("names":Str):=kne ∅
theorem qep:¬ (Sum.inr ("left":Str):Key)=Sum.inr ("names":Str):=kne ∅
theorem n_la:¬ (Sum.inr ("left":Str):Key)=Sum.inr ("at":Str):=kne ∅
theorem n_na:¬ (Sum.inr ("names":Str):Key)=Sum.inr ("at":Str):=kne ∅
theorem n_nl:¬ (Sum.inr ("names":Str):Key)=Sum.inr ("left":Str):=kne ∅
section
variable (a:Ac) (k l:Int) (nm:Ac)
theorem Zx:vq (stK a k l nm) (Sum.inr "cells")=some (.ref a):=jM rfl
theorem Zy:vq (stK a k l nm) (Sum.inr "at")=some (.int k):=(jc qck).trans (jM rfl)
theorem vg:vq (stK a k l nm) (Sum.inr "left")=some (.int l):=(jc qcj).trans ((jc qcl).trans (jM rfl))
theorem yf:vq (stK a k l nm) (Sum.inr "names")=some (.ref nm):=(jc qeq).trans ((jc qer).trans ((jc qep).trans (jM rfl)))
theorem Zw (j:Int):jx (stK a k l nm) (Sum.inr "at") (.int j)=stK a j l nm:=by
 unfold jx;rw [if_pos (by rw [vQ,Zy];rfl)]
 unfold stK;simp only [A2,Dl];rw [if_neg qck,if_pos trivial,if_neg n_la,if_neg n_na]
theorem wc (j:Int):jx (stK a k l nm) (Sum.inr "left") (.int j)=stK a k j nm:=by
 unfold jx;rw [if_pos (by rw [vQ,vg];rfl)]
 unfold stK;simp only [A2,Dl];rw [if_neg qcj,if_neg qcl,if_pos trivial,if_neg n_nl]
end
def Jt (K:Frag):Sp:=fun vs H Q _=>∃ (d a nm:Ac) (ns:List Int) (k l:Int),vs=[.ref d]∧H d=some (.dK (stK a k l nm))∧SqL K H a (ns.map V.int)∧0≤k∧k≤1000000∧
 ∀ (n:Int) (H':Hp),0≤n→n<268435456→H'=upd H d (.dK (stK a (k+1) l nm))→Q (.int n) H'
theorem yu (F:Fun K "_law_next" "_law_next" vG f fd) (c:Cs K mg ad) (d_law_cell_at:Def P w K mg base 1 "_law_cell_at" ["_law_script","_law_k"] (Ww K)):FnOk P w K mg base CX0 2 f fd ["_law_state"] (Jt K):=by
 refine F.ok JX (fun vs H Q E h=>?_) (fun cdv A outer s H vs Q E hr h=>?_)
 ·obtain ⟨d,a,nm,ns,k,l,rfl,_⟩:=h;rfl
 obtain ⟨d,a,nm,ns,k,l,rfl,hd,hS,hk0,hk1,q⟩:=h;have hu:=Wc hr;refine ⟨_,(qg (v0 hu (pv 0) qh (qm qY (jf hu (pv 0) qh (fun _ _=>rfl)) qf) rfl)
   (qg (pst 1 JX.nd (jf hu (pv 0) qh (fun _ _=>rfl)))
   (qg (pst 2 JX.nd (pdf d_law_cell_at (qc (jf hu (pv 0) qh (fun _ _=>rfl)) (qc (qm qA (pv 1) (qu (X6 rfl) (by rfl) c.max_ YD (qc qf (qc (qu (ja (K:=K) rfl) (by rfl) c.len_ zp (qc (jf hu (pv 0) qh (fun _ _=>rfl)) qd)) qd)))) qd))))
   (ql (qt (qm qQ (qm qA (qm qY (qm J6 (pv 2) qf) (qm J6 (qm J6 (pv 1) (pv 1)) qf)) qf) qf)))))),?_⟩
 clear hu;refine ⟨_,rfl,_,_,rfl,(by rw [← Zy a k l nm];exact jR.k (k:=Sum.inr "at") hd),.inl ⟨_,_,rfl,rfl,?_⟩⟩
 refine ⟨_,rfl,d,upd H d (.dK (stK a (k+1) l nm)),rfl,(by rw [← Zw a k l nm (k+1)];exact W9.k (k:=Sum.inr "at") hd (Bx (show 4≤1000 from O0) O0)),?_⟩
 have hd':upd H d (.dK (stK a (k+1) l nm)) d=some (.dK (stK a (k+1) l nm)):=upd_same;have hS':SqL K (upd H d (.dK (stK a (k+1) l nm))) a (ns.map V.int):=(Stay.put hd).sqL hS;have gAt:jR (upd H d (.dK (stK a (k+1) l nm))) d (.str "at") (some (.int (k+1))):=by rw [← Zy a (k+1) l nm];exact jR.k (k:=Sum.inr "at") hd'
 have gCe:jR (upd H d (.dK (stK a (k+1) l nm))) d (.str "cells") (some (.ref a)):=by rw [← Zx a (k+1) l nm];exact jR.k (k:=Sum.inr "cells") hd'
 have hm:0<(if (((ns.map V.int).length:Nat):Int)>1 then (((ns.map V.int).length:Nat):Int) else 1):=by split <;> omega
 refine ⟨_,rfl,d,_,rfl,gAt,_,rfl,d,_,rfl,gCe,_,rfl,_,rfl,d,_,rfl,gCe,_,_,rfl,.inl ⟨_,hS',rfl⟩,_,_,rfl,_,_,rfl,rfl,hm,a,ns,_,rfl,hS',Az _ ⋯,fun i=>?_⟩;have b1:qaz (k+1) (k+1):= .inl ⟨⋯,⋯⟩;refine ⟨_,rfl,_,_,rfl,rfl,.inr ⟨O0,O0⟩,_,rfl,_,rfl,_,_,rfl,rfl,b1,_,_,rfl,rfl,.inr ⟨O0,O0⟩,.inl ⟨_,_,rfl,rfl,_,_,rfl,rfl,(show (0:Int)<2147483647 from O0),_,_,rfl,rfl,⟨O0,O0⟩,?_⟩⟩;refine q _ _ ?_ ?_ rfl
 ·exact Int.ediv_nonneg (Az _ O0) O0
 ·have:=Aw (i*48271+(k+1)*(k+1)*69621) (show (0:Int)<2147483647 from O0);show (i*48271+(k+1)*(k+1)*69621) % 2147483647 / 8<268435456;omega
theorem Yq {i:Int} (h: -1000000000000≤i) (h':i≤1000000000000):Tre.vJ i=true:=by
 unfold Tre.vJ;rw [Ai h,Ai h'];rfl
theorem vp {xs:List V} {i:Int} {p:V→Prop} (h:∀ x∈xs,p x) (h0:0≤i) (h1:i<(xs.length:Int)):∃ v,atI xs i=some v∧p v:=by
 have hk:i.toNat<xs.length:=⋯;have ek:i=((i.toNat:Nat):Int):=⋯;have q:atI xs ((i.toNat:Nat):Int)=some xs[i.toNat]:=qS (A4 hk);rw [← ek] at q;exact ⟨_,q,h _ (Dz hk)⟩
def vU:Sp:=fun vs H Q _=>∃ m:Int,vs=[.int m]∧0≤m∧m<268435456∧∀ (i:Int) (H':Hp),Tre.vJ i=true→qp H H'→Q (.int i) H'
theorem wJ (F:Fun K "_law_number" "_law_number" JI f fd) (c:Cs K mg ad):FnOk P w K mg base CX0 1 f fd ["_law_more"] vU:=by
 refine F.ok vy (fun vs H Q E h=>?_) (fun cdv A outer s H vs Q E hr h=>?_)
 ·obtain ⟨m,rfl,_⟩:=h;rfl
 obtain ⟨m,rfl,hm0,hm1,q⟩:=h;refine ⟨_,(qg (pst 1 vy.nd (qm zl (qm qA (pv 0) (qm qY (qm J6 qf (qm Vq qf qf)) qf)) (qm Vq qf qf)))
   (ql (qt (pix K (qX (qc (qm qA (qm qQ (pv 0) qf) qf) (qc (qm zl (qm qA (qm qQ (pv 0) qf) qf) qf) (qc (pv 1) (qc (pix K (qX (qc (qm Vq qf qf) (qc (qm zl qf (qm Vq qf qf)) (qc qf qd)))) (qm qA (qm qQ (pv 0) qf) qf)) qd))))) (qm qA (pv 0) qf))))),?_⟩
 have cp:QH 10 12:=⟨O0,O0,O0⟩;have e12:(10:Int) ^ Int.toNat 12=1000000000000:=∅;refine ⟨_,rfl,_,_,rfl,rfl,cp,_,_,rfl,rfl,.inl ⟨O0,O0⟩,.inl ⟨_,_,rfl,rfl,_,_,rfl,rfl,(show (0:Int)<2*10 ^ Int.toNat 12+1 by rw [e12];decide),_,_,rfl,rfl,cp,_,_,rfl,rfl,?_⟩⟩
 have c8:Za m 8:=⟨O0,O0⟩;refine ⟨_,rfl,_,_,rfl,rfl,c8,_,_,rfl,rfl,(show (0:Int)<10 from O0),_,rfl,_,_,rfl,rfl,c8,_,_,rfl,rfl,(show (0:Int)<2000 from O0),_,_,rfl,rfl,_,rfl,?_⟩;refine ⟨_,_,rfl,rfl,cp,_,_,rfl,rfl,cp,_,_,rfl,rfl,(O0:3≤Af),fun p1 hp1=>?_⟩;rw [e12];have n1:Tre.vJ 1000000000000=true:=O0;have n2:Tre.vJ (0 - 1000000000000)=true:=O0;have n3:Tre.vJ 0=true:=O0;obtain ⟨v4,h4,i4,rfl,k4⟩:=vp (xs:=[V.int 1000000000000,V.int (0 - 1000000000000),V.int 0]) (i:=m / 8 % 3) (p:=fun v=>∃ i,v= .int i∧Tre.vJ i=true) (by
  simp only [Av,Bg,or_false];rintro x (rfl | rfl | rfl)
  ·exact ⟨_,rfl,n1⟩
  ·exact ⟨_,rfl,n2⟩
  ·exact ⟨_,rfl,n3⟩) (Az _ O0) (Aw _ O0)
 refine ⟨_,rfl,_,_,rfl,rfl,c8,_,_,rfl,rfl,(show (0:Int)<3 from O0),.inl ⟨p1,_,_,_,rfl,rfl,SqL.of upd_same,h4,(O0:4≤Af),fun p2 hp2=>?_⟩⟩;have a1:=Az (m / 8) (show (10:Int)≠0 from O0);have a2:=Aw (m / 8) (show (0:Int)<10 from O0);have b1:=Az (m / 8) (show (2000:Int)≠0 from O0);have b2:=Aw (m / 8) (show (0:Int)<2000 from O0);have d1:=Az m (show (2*1000000000000+1:Int)≠0 from O0);have d2:=Aw m (show (0:Int)<2*1000000000000+1 from O0);obtain ⟨v,h,i,rfl,k⟩:=vp (xs:=[V.int (m / 8 % 10),V.int (m / 8 % 2000 - 1000),V.int (m % (2*1000000000000+1) - 1000000000000),V.int i4]) (i:=m % 4) (p:=fun v=>∃ i,v= .int i∧Tre.vJ i=true) (by
  simp only [Av,Bg,or_false];rintro x (rfl | rfl | rfl | rfl)
  ·exact ⟨_,rfl,Yq ⋯ ⋯⟩
  ·exact ⟨_,rfl,Yq ⋯ ⋯⟩
  ·exact ⟨_,rfl,Yq ⋯ ⋯⟩
  ·exact ⟨_,rfl,k4⟩) (Az _ O0) (Aw _ O0)
 exact ⟨_,rfl,_,_,rfl,rfl,(show (0:Int)<4 from O0),.inl ⟨p2,_,_,_,rfl,rfl,SqL.of upd_same,h,q i _ k ((qj hp1 _).trans (qj hp2 _))⟩⟩
end
end Mine
namespace Mine
open PySem L2 Nam
section
variable {P:Program} {w:World} {K:Frag} {mg:Str→Option Ab} {base:Heap} {f:Ac} {fd:FuncData} {ad:Ad}
theorem Qh {i:Int} (h0:0≤i) (h1:i<26):atI (Str.ofString "abcdefghijklmnopqrstuvwxyz").cps.toList i=some (97+i.toNat):=by
 have e:(Str.ofString "abcdefghijklmnopqrstuvwxyz").cps.toList=(List.range 26).map fun k=>97+k:=∅;have ek:i=((i.toNat:Nat):Int):=⋯;have hk:i.toNat<26:=⋯;rw [e];have q:atI ((List.range 26).map fun k=>97+k) ((i.toNat:Nat):Int)=some (97+i.toNat):=qS (by rw [Bm,List.getElem?_range hk];rfl)
 rw [← ek] at q;exact q
def cw (m:Int) (k:Nat):Nat:=97+((m / 64+5*(k:Int)) % 26).toNat
def gw (m:Int) (k:Nat):Nat:=97+((m / 2048+7*(k:Int)) % 26).toNat
theorem qdc (m:Int) (k:Nat):low (cw m k)=true:=by
 have e0:=Az (m / 64+5*(k:Int)) (show (26:Int)≠0 from O0);have e1:=Aw (m / 64+5*(k:Int)) (show (0:Int)<26 from O0);unfold low cw;rw [Ai ⋯,Ai ⋯];rfl
theorem qc4 (m:Int) (k:Nat):low (gw m k)=true:=by
 have e0:=Az (m / 2048+7*(k:Int)) (show (26:Int)≠0 from O0);have e1:=Aw (m / 2048+7*(k:Int)) (show (0:Int)<26 from O0);unfold low gw;rw [Ai ⋯,Ai ⋯];rfl
theorem qc5 (m:Int) (a b:Nat) (ha:a<8) (hb:b<8) (h:gw m a=gw m b):a=b:=by
 unfold gw at h;omega
theorem Ve (xs:List V) (n:Int) (k:Nat) (h:n=(k:Int)):JP xs none (some n)=xs.take k:=by
 subst h;unfold JP;rw [HT.sIx_nat,HT.sIx_none,Nat.sub_zero,Dx,List.take_eq_take_iff];omega
structure Nms (l:List Str):Prop where
 len:0<l.length
 good:∀ x∈l,Tre.qZ x=true
 nd:l.Nodup
def YS:Sp:=fun vs H Q _=>∃ m:Int,vs=[.int m,.int 8]∧0≤m∧m<2147483647∧∀ (l:List Str) (p:Ac) (H':Hp),Nms l→qp H H'→H' p=some (.lst (l.map V.str))→Q (.ref p) H'
theorem WL (F:Fun K "_law_names" "_law_names" jO f fd) (c:Cs K mg ad):FnOk P w K mg base CX0 1 f fd ["_law_cell","_law_many_here"] YS:=by
 refine F.ok z9 (fun vs H Q E h=>?_) (fun cdv A outer s H vs Q E hr h=>?_)
 ·obtain ⟨m,rfl,_⟩:=h;rfl
 obtain ⟨m,rfl,hm0,hm1,q⟩:=h;refine ⟨_,(qg (pst 2 z9.nd qh)
   (qg (pst 3 z9.nd (qm qY qf (qm qA (pv 0) qf)))
   (qg (pst 4 z9.nd (zx (sc:=qo jO) (NX:=["_law_cell","_law_many_here","_law_letters","_law_size","_law_word_here","_law_made","_law_k"]) (N:=["_law_k","_law_letters","_law_cell"]) (js:=[none,some 2,some 0]) (zP rfl c.range_ (qc qf qd)) (fun _ _ _ _ _=>(zb (i:=0) (show (["_law_k","_law_letters","_law_cell"]:List Str).Nodup from ∅) rfl (Or.inl rfl))) (fun _ _ _ _ _=>zG) (fun _ _ _ _ _=>(pix K (pv 1) (qm qA (qm qY (qm qQ (pv 2) qf) (qm J6 qf (pv 0))) qf))) (zd rfl) ⟨∅,rfl,∅,∅,rfl,∅⟩))
   (qg (qE (qq qT (qm qA (qm qQ (pv 0) qf) qf) qf (qv _)) (ql (qt (zx (sc:=qo jO) (NX:=["_law_cell","_law_many_here","_law_letters","_law_size","_law_word_here","_law_made","_law_k"]) (N:=["_law_k","_law_word_here"]) (js:=[none,some 4]) (zP rfl c.range_ (qc (pv 1) qd)) (fun _ _ _ _ _=>(zb (i:=0) (show (["_law_k","_law_word_here"]:List Str).Nodup from ∅) rfl (Or.inl rfl))) (fun _ _ _ _ _=>zG) (fun _ _ _ _ _=>(wG (K:=K) rfl PySem.F.plainAttrs_str PySem.F.slot_str_join PySem.F.type_str_join (Qi (K:=K) rfl) qh (qc (zX (Xv (K:=K) rfl) (pv 1) jK (je (qm qY (pv 0) qf))) qd))) (zd rfl) ⟨∅,rfl,∅,∅,rfl,∅⟩))) qy)
   (qg (pst 5 z9.nd (qX qd))
   (qg (WE Df rfl (zP rfl c.range_ (qc (pv 1) qd)) (pgn 6 z9.nd) (qg (qb6 (pix K (pv 2) (qm qA (qm qY (qm qQ (pv 0) qf) (qm J6 qf (pv 6))) qf)) (qca (pv 4) (qm qA (qm qQ (pv 0) qf) (pv 3)) ZN))
   (ql (zJ (wG (K:=K) rfl B1 Ce Cf jZ (pv 5) (qc (wG (K:=K) rfl PySem.F.plainAttrs_str PySem.F.slot_str_join PySem.F.type_str_join (Qi (K:=K) rfl) qh (qc (zX (Xv (K:=K) rfl) (pv 4) jK (je (pv 3))) qd)) qd))))))
   (ql (qt (pv 5))))))))),?_⟩
 refine ⟨_,rfl,_,_,rfl,rfl,(show (0:Int)<8 from O0),.inl ⟨_,_,rfl,rfl,?_⟩⟩;have lone:∀ (l:List Nat),l.map (fun c=>V.str (one c))=(l.map one).map V.str:=fun l=>by rw [Bp];rfl
 refine ⟨_,rfl,O0,O0,zL 8 (fun i ys H'=>H'=H∧ys=(((List.range i).map (cw m)).map fun c=>V.str (one c))) ⟨rfl,rfl⟩ (fun i ys H' h=>?_) O0 (fun i ys H' hi h=>?_) (fun ys H' h=>?_)⟩
 ·rw [h.2,An,An,Ef];exact Aj _
 ·obtain ⟨rfl,rfl⟩:=h;refine ⟨hi,fun v H2 yl=>?_⟩;obtain ⟨rfl,rfl⟩:=yl;have e0:=Az (m / 64+5*(0+(i:Int))) (show (26:Int)≠0 from O0);have e1:=Aw (m / 64+5*(0+(i:Int))) (show (0:Int)<26 from O0);refine ⟨_,rfl,_,rfl,_,_,rfl,rfl,⟨O0,O0⟩,_,rfl,_,_,rfl,rfl,.inl ⟨O0,O0⟩,.inl ⟨_,_,rfl,rfl,_,_,rfl,rfl,(show (0:Int)<26 from O0),.inr (.inr ⟨_,_,_,rfl,rfl,∅,Qh e0 e1,rfl,?_⟩)⟩⟩;rw [List.range_succ,Bc,Bc];have e2:cw m i=97+((m / 64+5*(0+(i:Int))) % 26).toNat:=by unfold cw;rw [Int.zero_add]
  simp only [A2,Dl,e2];rfl
 ·obtain ⟨rfl,rfl⟩:=h;refine ⟨Aj _,fun pw hpw=>?_⟩;have g0:=qj hpw (.lst ((((List.range 8).map (cw m)).map fun c=>V.str (one c))));have hw0:upd H' pw (.lst ((((List.range 8).map (cw m)).map fun c=>V.str (one c)))) pw=some (.lst ((((List.range 8).map (cw m)).map fun c=>V.str (one c)))):=upd_same;generalize upd H' pw (.lst ((((List.range 8).map (cw m)).map fun c=>V.str (one c))))=H1 at g0 hw0 ⊢;have hcl:((List.range 8).map (cw m)).length=8:=by rw [An,Ef]
  have hlow:((List.range 8).map (cw m)).all low=true:=by
   rw [Ct];exact A3.mpr fun k _=>qdc m k
  generalize (List.range 8).map (cw m)=cs at hw0 hcl hlow ⊢;have z0:=Az m (show (8:Int)≠0 from O0);have z1:=Aw m (show (0:Int)<8 from O0);refine ⟨_,rfl,_,_,rfl,rfl,⟨O0,O0⟩,_,_,rfl,rfl,(show (0:Int)<4 from O0),rfl,_,rfl,?_⟩;refine vt (fun _=>?_) (fun _=>?_)
  ·refine ⟨_,rfl,8,rfl,O0,O0,zL 8 (fun i ys H'=>qp H1 H'∧ys=((List.range i).map fun k=>V.str (wrd (cs.take (k+1))))) ⟨qp.refl _,rfl⟩ (fun i ys H' h=>?_) O0 (fun i ys H2 hi h=>?_) (fun ys H2 h=>?_)⟩
   ·rw [h.2,An,Ef];exact Aj _
   ·obtain ⟨g2,rfl⟩:=h;refine ⟨hi,fun v H3 yl=>?_⟩;obtain ⟨rfl,rfl⟩:=yl;refine ⟨rfl,_,rfl,_,rfl,.inl ⟨_,_,rfl,rfl,_,rfl,.inl ⟨pw,_,rfl,SqL.of (g2 _ _ hw0),fun p hp=>⟨_,p,(cs.take (i+1)).map one,rfl,rfl,SqL.of ?_,?_,g2.trans (qj hp _),?_⟩⟩⟩⟩
    ·rw [upd_same,Ve _ _ (i+1) ⋯,← lone,List.map_take]
    ·rw [yr];have:=Bl (i+1) cs;have e:(Str.ofString "").length=0:=∅;rw [e,Nat.mul_zero];omega
    ·rw [yM,List.range_succ,Bc];rfl
   ·obtain ⟨g2,rfl⟩:=h;refine ⟨Aj _,fun D hD=>q ((List.range 8).map fun k=>wrd (cs.take (k+1))) D _ ⟨by simp,fun x hx=>?_,qdg cs hcl⟩ ((g0.trans g2).trans (qj hD _)) (by rw [upd_same,Bp];rfl)⟩
    obtain ⟨k,hk,rfl⟩:=Cg.mp hx;have hk':=C9.mp hk;refine yG (by rw [Bq];omega) (by rw [Bq];omega) (A3.mpr fun c hc=>A3.mp hlow c (B6 hc))
  ·refine ⟨(O0:0≤Af),fun pm hpm=>?_⟩;have gm:=qj hpm (.lst []);have nwm:pw≠pm:=qD hw0 hpm;have hpw0:H' pw=none:=hpw;refine ⟨_,rfl,8,rfl,O0,O0,?_⟩;have j0:=Az (m / 8) (show (1+m % 8:Int)≠0 from ⋯);have j1:=Aw (m / 8) (show (0:Int)<1+m % 8 from ⋯);generalize hj:(m / 8 % (1+m % 8)).toNat=j;generalize hz:(1+m % 8).toNat=z;have hjz:j<z:=⋯;have hz8:z≤8:=⋯;refine YA 8 (fun i σ H2=>∃ (ws:List Nat) (o6:Option V),σ=[some (.int m),some (.int 8),some (.str (Str.ofString "abcdefghijklmnopqrstuvwxyz")),some (.int (1+m % 8)),some (.ref pw),some (.ref pm),o6]∧qp H' H2∧H2 pw=some (.lst (ws.map fun c=>V.str (one c)))∧
    H2 pm=some (.lst ((List.range i).map fun k=>V.str (wrd ((cs.set j (gw m k)).take z))))∧ws.length=8∧∀ x,ws.set j x=cs.set j x) ?_ (fun i σ H2 hi h=>?_) (fun σ H2 h=>?_)
   ·exact ⟨cs,none,rfl,g0.trans gm,gm _ _ hw0,upd_same,hcl,fun _=>rfl⟩
   ·obtain ⟨ws,o6,rfl,g2,hw2,hm2,hwl,hws⟩:=h;refine ⟨hi,fun v H3 yl=>?_⟩;obtain ⟨rfl,rfl⟩:=yl;have e0:=Az (m / 2048+7*(0+(i:Int))) (show (26:Int)≠0 from O0);have e1:=Aw (m / 2048+7*(0+(i:Int))) (show (0:Int)<26 from O0);have eg:gw m i=97+((m / 2048+7*(0+(i:Int))) % 26).toNat:=by unfold gw;rw [Int.zero_add]
    have hix:ixN (ws.map fun c=>V.str (one c)).length (m / 8 % (1+m % 8))=some j:=by
     unfold ixN;rw [An,hwl,if_pos j0,if_pos ⋯,hj]
    refine ⟨_,rfl,_,rfl,_,_,rfl,rfl,⟨O0,O0⟩,_,rfl,_,_,rfl,rfl,.inl ⟨O0,O0⟩,.inl ⟨_,_,rfl,rfl,_,_,rfl,rfl,(show (0:Int)<26 from O0),.inr (.inr ⟨_,_,_,rfl,rfl,∅,Qh e0 e1,?_⟩)⟩⟩;refine ⟨_,rfl,_,rfl,_,_,rfl,rfl,⟨O0,O0⟩,_,rfl,_,_,rfl,rfl,(show (0:Int)<1+m % 8 from ⋯),pw,_,_,j,rfl,rfl,hw2,hix,?_⟩;rw [← eg];have es:(ws.map fun c=>V.str (one c)).set j (.str (one (gw m i)))=(cs.set j (gw m i)).map fun c=>V.str (one c):=by rw [← hws,List.map_set]
    refine ⟨_,rfl,.inl ⟨rfl,_,SqL.of (by rw [qB (Ne.symm nwm)];exact hm2)⟩,rfl,_,rfl,_,rfl,_,rfl,.inl ⟨pw,(cs.set j (gw m i)).map (fun c=>V.str (one c)),rfl,SqL.of ?_,fun p hp=>?_⟩⟩
    ·rw [upd_same];exact congrArg (fun l=>some (HO.lst l)) es
    ·have gw2:=jC g2 hpw (.lst ((ws.map fun c=>V.str (one c)).set j (.str ⟨#[gw m i]⟩)));have hw3:upd H3 pw (.lst ((ws.map fun c=>V.str (one c)).set j (.str ⟨#[gw m i]⟩))) pw=some (.lst ((cs.set j (gw m i)).map fun c=>V.str (one c))):=by rw [upd_same];exact congrArg (fun l=>some (HO.lst l)) es
     have hm3:upd H3 pw (.lst ((ws.map fun c=>V.str (one c)).set j (.str ⟨#[gw m i]⟩))) pm=some (.lst ((List.range i).map fun k=>V.str (wrd ((cs.set j (gw m k)).take z)))):=by rw [qB (Ne.symm nwm)];exact hm2
     change upd H3 pw (.lst ((ws.map fun c=>V.str (one c)).set j (.str ⟨#[gw m i]⟩))) p=none at hp
     generalize upd H3 pw (.lst ((ws.map fun c=>V.str (one c)).set j (.str ⟨#[gw m i]⟩)))=H4 at hp gw2 hw3 hm3 ⊢;have gp:=qj hp (.lst (JP ((cs.set j (gw m i)).map fun c=>V.str (one c)) none (some (1+m % 8))));refine ⟨_,p,((cs.set j (gw m i)).take z).map one,rfl,rfl,SqL.of ?_,?_,pm,_,_,rfl,rfl,gp _ _ hm3,?_,?_⟩
     ·rw [upd_same,Ve _ _ z ⋯,← lone,List.map_take]
     ·rw [yr];have:=Bl z (cs.set j (gw m i));have e:(Str.ofString "").length=0:=∅;rw [e,Nat.mul_zero];omega
     ·rw [An,Ef];exact Nat.lt_trans hi O0
     ·refine ⟨cs.set j (gw m i),_,rfl,jC (gw2.trans gp) (g0.free hpm) _,?_,?_,by rw [Dg];exact hcl,fun x=>by rw [List.set_set]⟩
      ·rw [qB nwm];exact gp _ _ hw3
      ·rw [upd_same,yM,List.range_succ,Bc];rfl
   ·obtain ⟨ws,o6,rfl,g2,hw2,hm2,hwl,hws⟩:=h;refine ⟨Aj _,_,rfl,q ((List.range 8).map fun k=>wrd ((cs.set j (gw m k)).take z)) pm _ ⟨by simp,fun x hx=>?_,qfa cs j z (gw m) hjz ⋯ fun a b ha hb h=>qc5 m a b ha hb h⟩ g2 (by rw [hm2,Bp];rfl)⟩
    obtain ⟨k,hk,rfl⟩:=Cg.mp hx;refine yG (by rw [Bq,Dg];omega) (by rw [Bq,Dg];omega) (A3.mpr fun c hc=>?_)
    rcases List.mem_or_eq_of_mem_set (B6 hc) with hc | rfl
    ·exact A3.mp hlow c hc
    ·exact qc4 m k
end
end Mine
namespace Mine
open PySem L2
section
variable {P:Program} {w:World} {K:Frag} {mg:Str→Option Ab} {base:Heap} {f:Ac} {fd:FuncData} {ad:Ad}
def we (K:Frag) (ad:Ad):Sp:=fun vs H Q E=>∃ x d,vs=[x]∧Rep K H x d∧Tre.fit d=true∧(Tre.qR d=true→∀ H',qp H H'→Q .non H')∧(Tre.qR d=false→∀ H',qp H H'→E (.ref ad.BadTree) none H')
theorem VT (F:Fun K "need_program" "need_program" j5 f fd) (c:Cs K mg ad) (d_is_program:Def P w K mg base 5 "is_program" ["thing"] (spD K Tre.qR)):FnOk P w K mg base (CX1 P w) 6 f fd ["thing"] (we K ad):=by
 refine F.ok1 VQ (fun vs H Q E h=>?_) (fun cdv A outer s H vs Q E hr h=>?_)
 ·obtain ⟨x,d,rfl,_⟩:=h;rfl
 obtain ⟨x,d,rfl,hk,ft,q1,q2⟩:=h;refine ⟨_,(ql (qE (zI (zh (pdf d_is_program (qc (pv 0) qd)))) (ql (ZX QS c.o_BadTree c.m_BadTree (qc qh qd))) qy)),?_⟩;refine ⟨_,rfl,_,_,rfl,hk,ft,fun H1 g=>⟨_,rfl,?_⟩⟩
 by_cases h:Tre.qR d=true
 ·exact zn (show (!Tre.qR d)=false by rw [h];rfl) (q1 h H1 g)
 ·have h':=Bz.mpr h;exact zg (show (!Tre.qR d)=true by rw [h'];rfl) ⟨(O0:1≤Af),q2 h' H1 g⟩
end
end Mine
namespace Tre
open PySem
mutual
def inL (L:List Str):Aa→Bool
 | .str x=>L.contains x
 | .tuple xs=>Ql L xs
 | .list _=>false
 | .dict _=>false
 | _=>true
def Ql (L:List Str):List Aa→Bool
 | []=>true
 | x::r=>inL L x&&Ql L r
end
def vP:List Str:=["number","name","two","fun","loop","call","step","main","let","set","do","if","while","hand","back","fault","try","great","kind","any","unset","anya","+","-","*","<","="]
structure Ft (names:List Str) (d:Aa):Prop where
 fit:Tre.fit d=true
 ins:inL (vP++names) d=true
structure Fts (names:List Str) (ds:List Aa):Prop where
 fit:Tre.zR ds=true
 ins:Ql (vP++names) ds=true
section
variable {names:List Str}
theorem Fts.nil:Fts names []:=⟨rfl,rfl⟩
theorem Fts.cons {d:Aa} {r:List Aa} (h:Ft names d) (hr:Fts names r):Fts names (d::r):=⟨by rw [zR,h.fit,hr.fit];rfl,by rw [Ql,h.ins,hr.ins];rfl⟩
theorem Fts.snoc:∀ {xs:List Aa} {x:Aa},Fts names xs→Ft names x→Fts names (xs++[x])
 | [],x,_,h=> .cons h .nil
 | y::r,x,h,h'=>by
  have a:=h.fit;have b:=h.ins;rw [zR,Ao] at a;rw [Ql,Ao] at b;exact .cons ⟨a.1,b.1⟩ (Fts.snoc ⟨a.2,b.2⟩ h')
theorem Fts.tup {l:List Aa} (h:Fts names l):Ft names (.tuple l):=⟨by rw [Tre.fit];exact h.fit,by rw [inL];exact h.ins⟩
theorem Fts.of:∀ {xs:List Aa},(∀ x∈xs,Ft names x)→Fts names xs
 | [],_=> .nil
 | y::r,h=> .cons (h y A0) (Fts.of fun x hx=>h x (Au _ hx))
theorem Ft.int (i:Int):Ft names (.int i):=⟨rfl,rfl⟩
theorem Ft.word {x:Str} (h:(vP.contains x&&decide (x.length≤1000000))=true):Ft names (.str x):=by
 rw [Ao] at h;refine ⟨h.2,?_⟩;rw [inL,List.contains_iff_mem];exact Bt _ (List.contains_iff_mem.mp h.1)
theorem Ft.name {x:Str} (h:qZ x=true) (hx:x∈vP++names):Ft names (.str x):=by
 unfold qZ at h;rw [Ao,Ao] at h;have:=A1 h.1.2;refine ⟨Ai ⋯,?_⟩;rw [inL,List.contains_iff_mem];exact hx
end
end Tre
namespace Mine
open PySem L2
structure DIn (K:Frag) (H:Hp) (st a nm:Ac) (ns:List Int) (names:List Str) (k l:Int):Prop where
 dict:H st=some (.dK (stK a k l nm))
 cells:SqL K H a (ns.map V.int)
 nms:SqL K H nm (names.map V.str)
 good:Nms names
section
variable {P:Program} {w:World} {K:Frag} {mg:Str→Option Ab} {base:Heap} {f:Ac} {fd:FuncData} {ad:Ad}
theorem DIn.same {H H':Hp} {st a nm:Ac} {ns:List Int} {names:List Str} {k l:Int} (h:DIn K H st a nm ns names k l) (g:qp H H'):DIn K H' st a nm ns names k l:=⟨g _ _ h.dict,g.seq h.cells,g.seq h.nms,h.good⟩
theorem DIn.put {H:Hp} {st a nm:Ac} {ns:List Int} {names:List Str} {k l k' l':Int} (h:DIn K H st a nm ns names k l):DIn K (upd H st (.dK (stK a k' l' nm))) st a nm ns names k' l':=⟨upd_same,(Stay.put h.dict).sqL h.cells,(Stay.put h.dict).sqL h.nms,h.good⟩
def wS (K:Frag) (n:Nat):Sp:=fun vs H Q _=>∃ st a nm ns names k l deep may,vs=[.ref st,.int deep,.bl may]∧DIn K H st a nm ns names k l∧Bud.PS n deep k l∧∀ H' x d (s t:Nat) k' l',Stay st H H'→DIn K H' st a nm ns names k' l'→Rep K H' x d→Tre.Ft names d→Tre.Pt d "statement" may s t→Bud.BS n k l s t k' l'→Q x H'
def JA (K:Frag) (n:Nat):Sp:=fun vs H Q _=>∃ st a nm ns names k l deep,vs=[.ref st,.int deep]∧DIn K H st a nm ns names k l∧Bud.PT n deep k l∧∀ H' x d (s t:Nat) k' l',Stay st H H'→DIn K H' st a nm ns names k' l'→Rep K H' x d→Tre.Ft names d→(∀ hands,Tre.Pt d "term" hands s t)→Bud.BT n deep k l s t k' l'→Q x H'
def JV (K:Frag) (n:Nat):Sp:=fun vs H Q _=>∃ st a nm ns names k l deep may,vs=[.ref st,.int deep,.bl may]∧DIn K H st a nm ns names k l∧Bud.PB n deep k l∧∀ H' x ds (s t:Nat) k' l',Stay st H H'→DIn K H' st a nm ns names k' l'→Rep K H' x (.tuple ds)→Tre.Fts names ds→Tre.Bd ds may s t→Bud.BB n k l s t k' l'→Q x H'
section
variable {n i j v:Nat} {σ:St} {H:Hp} {Q:VK} {st a nm:Ac} {ns:List Int} {names:List Str} {k l deep:Int} {may:Bool}
theorem jw (hi:σ[i]?=some (some (.ref st))) (hj:σ[j]?=some (some (.int deep))) (di:DIn K H st a nm ns names k l) (p:Bud.PT n (deep - 1) k l) (h:∀ H' x d (s t:Nat) k' l',Stay st H H'→DIn K H' st a nm ns names k' l'→Rep K H' x d→Tre.Ft names d→(∀ hands,Tre.Pt d "term" hands s t)→Bud.BT n (deep - 1) k l s t k' l'→Q x H'):
  zB (JA K n) [] E0 (qw (qG i) (qw (tOp (rI0 fun i j=>V.int (i - j)) (qG j) (tC (V.int 1))) zf)) σ H Q:=⟨_,hi,_,hj,_,_,rfl,rfl,st,a,nm,ns,names,k,l,_,rfl,di,p,h⟩
theorem qbj (di:DIn K H st a nm ns names k l) (p:Bud.PB n deep k l) (h:∀ H' x ds (s t:Nat) k' l',Stay st H H'→DIn K H' st a nm ns names k' l'→Rep K H' x (.tuple ds)→Tre.Fts names ds→Tre.Bd ds may s t→Bud.BB n k l s t k' l'→Q x H'):JV K n [.ref st,.int deep,.bl may] H Q E0:=⟨st,a,nm,ns,names,k,l,_,may,rfl,di,p,h⟩
theorem V8 (hi:σ[i]?=some (some (.ref st))) (hj:σ[j]?=some (some (.int deep))) (hv:σ[v]?=some (some (.bl may))) (di:DIn K H st a nm ns names k l) (p:Bud.PB n (deep - 1) k l) (h:∀ H' x ds (s t:Nat) k' l',Stay st H H'→DIn K H' st a nm ns names k' l'→Rep K H' x (.tuple ds)→Tre.Fts names ds→Tre.Bd ds may s t→Bud.BB n k l s t k' l'→Q x H'):
  zB (JV K n) [] E0 (qw (qG i) (qw (tOp (rI0 fun i j=>V.int (i - j)) (qG j) (tC (V.int 1))) (qw (qG v) zf))) σ H Q:=⟨_,hi,_,hj,_,_,rfl,rfl,_,hv,qbj di p h⟩
theorem qbi (di:DIn K H st a nm ns names k l) (p:Bud.PS n deep k l) (h:∀ H' x d (s t:Nat) k' l',Stay st H H'→DIn K H' st a nm ns names k' l'→Rep K H' x d→Tre.Ft names d→Tre.Pt d "statement" may s t→Bud.BS n k l s t k' l'→Q x H'):wS K n [.ref st,.int deep,.bl may] H Q E0:=⟨st,a,nm,ns,names,k,l,_,may,rfl,di,p,h⟩
end
theorem VH (F:Fun K "_law_body" "_law_body" Ja f fd) (c:Cs K mg ad) (n:Nat) (d_law_next:Def P w K mg base 2 "_law_next" ["_law_state"] (Jt K)) (d_law_statement:Def P w K mg base (4*n+5) "_law_statement" ["_law_state","_law_deep","_law_may_hand"] (wS K n)):FnOk P w K mg base CX0 (4*n+6) f fd ["_law_state","_law_deep","_law_may_hand"] (JV K n):=by
 refine F.ok (k:=4*n+5) yh (fun vs H Q E h=>?_) (fun cdv A outer s H vs Q E hr h=>?_)
 ·obtain ⟨st,a,nm,ns,names,k,l,deep,may,rfl,_⟩:=h;rfl
 obtain ⟨st,a,nm,ns,names,k,l,deep,may,rfl,di,pp,q⟩:=h;refine ⟨_,(ql (qt (zt (vR (K:=K) rfl) (by rfl) c.tuple_ zO (qc (zx (sc:=qo Ja) (NX:=["_law_state","_law_deep","_law_may_hand"]) (N:=["_law_turn","_law_state","_law_deep","_law_may_hand"]) (js:=[none,some 0,some 1,some 2]) (zP rfl c.range_ (qc (qm qA (pdf d_law_next (qc (pv 0) qd)) qf) qd)) (fun _ _ _ _ _=>(zb (i:=0) (show (["_law_turn","_law_state","_law_deep","_law_may_hand"]:List Str).Nodup from ∅) rfl (Or.inl rfl))) (fun _ _ _ _ _=>zG) (fun _ _ _ _ _=>(pdf d_law_statement (qc (pv 1) (qc (pv 2) (qc (pv 3) qd))))) (zd rfl) ⟨∅,rfl,∅,∅,rfl,∅⟩) qd)))),?_⟩
 refine ⟨_,rfl,st,a,nm,ns,k,l,rfl,di.dict,di.cells,pp.2.1,(by have:=pp.2.2;omega),fun z H1 hz0 hz1 e1=>?_⟩
 have z0:=Az z (show (4:Int)≠0 from O0);have z1:=Aw z (show (0:Int)<4 from O0);have di1:DIn K H1 st a nm ns names (k+1) l:=e1▸di.put;have st1:Stay st H H1:=e1▸Stay.put di.dict;refine ⟨_,_,rfl,rfl,(show (0:Int)<4 from O0),_,rfl,⋯,⋯,?_⟩;generalize hc:(z % 4).toNat=cnt;have hc3:cnt≤3:=⋯;refine zL cnt (fun i ys H'=>∃ (ds:List Aa) (k' l':Int) (s t:Nat),Stay st H H'∧DIn K H' st a nm ns names k' l'∧Reps K H' ys ds∧ds.length=i∧Tre.Fts names ds∧Tre.Ptl (ds.map fun x=>(x,("statement":Str))) may s t∧Bud.BI n k l i s t k' l') ?_ (fun i ys H' h=>?_) (As hc3 O0) (fun i ys H' hi h=>?_) (fun ys H' h=>?_)
 ·exact ⟨[],k+1,l,0,0,st1,di1,.nil,rfl,.nil,.nil,.nil⟩
 ·obtain ⟨ds,k',l',s,t,_,_,rs,hl,_⟩:=h;have:=rs.length;omega
 ·obtain ⟨ds,k',l',s,t,sy,di2,rs,hl,hf,pt,b⟩:=h;refine ⟨hi,fun v H3 yl=>?_⟩;obtain ⟨rfl,rfl⟩:=yl;refine ⟨_,rfl,_,rfl,_,rfl,qbi di2 (b.pre pp ⋯) fun H4 x d s2 t2 k2 l2 sy4 di4 rx fx px b2=>?_⟩;refine ⟨ds++[d],k2,l2,s+s2,max t t2,sy.trans sy4,di4,(rs.stay sy4).append (.cons rx .nil),by rw [A8,hl];rfl,hf.snoc fx,?_,b.snoc b2⟩
  rw [Bc];exact pt.append (Tre.jv px)
 ·obtain ⟨ds,k',l',s,t,sy,di2,rs,hl,hf,pt,b⟩:=h;refine ⟨Aj _,fun D hD=>?_⟩;refine ⟨D,ys,rfl,.inl ⟨SqL.of upd_same,fun p hp=>?_⟩⟩;have g:=(qj hD (.lst ys)).trans (qj hp (.tup ys));exact q _ _ ds s t k' l' (sy.then g) (di2.same g) (.tup (SqT.of upd_same) (rs.same g)) hf ⟨⋯,pt⟩ (b.out hc3)
theorem X0 {names:List Str} (g:Nms names) {lo hi:Int} (h0:0≤lo) (h1:lo≤hi∧hi≤lo+3):∃ cut:List Str,JP (names.map V.str) (some lo) (some hi)=cut.map V.str∧Tre.areNames (.tuple (cut.map PyData.str))=true∧∀ x∈cut,Tre.qZ x=true∧x∈names:=by
 obtain ⟨i,rfl⟩:∃ i:Nat,lo=(i:Int):=⟨lo.toNat,⋯⟩;obtain ⟨j,rfl⟩:∃ j:Nat,hi=(j:Int):=⟨hi.toNat,⋯⟩;refine ⟨(names.drop (min i names.length)).take (min j names.length - min i names.length),?_,?_,fun x hx=>⟨g.good x (List.mem_of_mem_drop (B6 hx)),List.mem_of_mem_drop (B6 hx)⟩⟩
 ·unfold JP;rw [HT.sIx_nat,HT.sIx_nat,An,List.map_take,List.map_drop]
 ·have hl:((names.drop (min i names.length)).take (min j names.length - min i names.length)).length≤4:=by
   have:=Bl (min j names.length - min i names.length) (names.drop (min i names.length));omega
  have hsub:∀ x∈(names.drop (min i names.length)).take (min j names.length - min i names.length),Tre.qZ x=true:=fun x hx=>g.good x (List.mem_of_mem_drop (B6 hx));have hnd:((names.drop (min i names.length)).take (min j names.length - min i names.length)).Nodup:=(List.Pairwise.drop g.nd).take;generalize (names.drop (min i names.length)).take (min j names.length - min i names.length)=cut at hl hsub hnd;simp only [Tre.areNames];rw [An,Ai hl,Bw,Bp,Ao];refine ⟨?_,Ai ?_⟩
  ·rw [Ct];exact A3.mpr fun x hx=>hsub x hx
  ·have e:(Tre.txt ∘ PyData.str)=id:=rfl;rw [e,List.map_id];exact hnd
theorem qaf {kd:Int} (h:¬ (kd=1∨kd=8∨kd=9)):inV (.int kd) [.int 1,.int 8,.int 9]=false:=by
 have e:∀ a:Int,¬ kd=a→eqV (.int a) (.int kd)=false:=fun a n=>Bh.mpr fun z=>n z.symm;have n1:¬ kd=1:=fun z=>h (.inl z);have n8:¬ kd=8:=fun z=>h (.inr (.inl z));have n9:¬ kd=9:=fun z=>h (.inr (.inr z));show (eqV (.int 1) (.int kd)||(eqV (.int 8) (.int kd)||(eqV (.int 9) (.int kd)||false)))=false;rw [e 1 n1,e 8 n8,e 9 n9];rfl
theorem QQ {i:Int} (h0:0≤i) (h1:i<5):∃ c,atI (Str.ofString "+-*<=").cps.toList i=some c∧(Tre.vx.any fun y=>y==(⟨#[c]⟩:Str))=true∧(Tre.vP.contains (⟨#[c]⟩:Str)&&decide ((⟨#[c]⟩:Str).length≤1000000))=true:=by
 have e:(Str.ofString "+-*<=").cps.toList=[43,45,42,60,61]:=∅;rw [e];have h:i=0∨i=1∨i=2∨i=3∨i=4:=⋯;rcases h with rfl | rfl | rfl | rfl | rfl
 ·exact ⟨43,rfl,∅,∅⟩
 ·exact ⟨45,rfl,∅,∅⟩
 ·exact ⟨42,rfl,∅,∅⟩
 ·exact ⟨60,rfl,∅,∅⟩
 ·exact ⟨61,rfl,∅,∅⟩
theorem yQ {i:Nat} {m kd:Int} {A B:TS} {D:Ends} {σ:St} {H:Hp} (h:σ[i]?=some (some (.int kd))) (hA:kd=m→A D σ H) (hB:¬ kd=m→B D σ H):JU (jT (tOp rEq (qG i) (tC (V.int m)))) A B D σ H:=by
 refine ⟨_,h,rfl,_,rfl,?_⟩
 by_cases e:kd=m
 ·exact zg (show decide _=true from Ai (congrArg V.int e)) (hA e)
 ·exact zn (show decide _=false from Al fun z=>e (V.int.inj z)) (hB e)
theorem qap {i:Nat} {m kd:Int} {A B:TS} {D:Ends} {σ:St} {H:Hp} (h:σ[i]?=some (some (.int kd))) (hA:kd<m→A D σ H) (hB:¬ kd<m→B D σ H):JU (jT (tOp (rI0 fun i j=>V.bl (decide (i<j))) (qG i) (tC (V.int m)))) A B D σ H:=by
 refine ⟨_,h,_,_,rfl,rfl,_,rfl,?_⟩
 by_cases e:kd<m
 ·exact zg (show decide _=true from Ai e) (hA e)
 ·exact zn (show decide _=false from Al e) (hB e)
def Xu (T:Sp):TS:=vS (JT (qw (tC (V.str (Str.ofString "step"))) (qw (zB T [] E0 (qw (qG 0) (qw (tOp (rI0 fun i j=>V.int (i - j)) (qG 1) (tC (V.int 1))) zf))) (qw (zB T [] E0 (qw (qG 0) (qw (tOp (rI0 fun i j=>V.int (i - j)) (qG 1) (tC (V.int 1))) zf))) zf))))
def Xt (K:Frag) (T:Sp):TS:=jA (JU (jT (tOp rEq (qG 3) (tC (V.int 6)))) (jA (vD (zB T [] E0 (qw (qG 0) (qw (tOp (rI0 fun i j=>V.int (i - j)) (qG 1) (tC (V.int 1))) zf))) (zC 7)) (vS (JT (qw (tC (V.str (Str.ofString "call"))) (qw (qG 7) (qw (tCB (fun xs H Q=>∃ p ys,xs=[V.ref p]∧((SqL K H p ys∧∀ (l:Ac),H l=none→Q (V.ref l) (upd H l (HO.tup ys)))∨SqT K H p ys∧Q (V.ref p) H)) (qw (YL (Qn (qw (tOp (rI (fun x j=>0<j) fun i j=>V.int (i % j)) (qG 4) (tC (V.int 5))) zf)) [none,some 0,some 1] (zC 0) Wq (zB T [] E0 (qw (qG 1) (qw (tOp (rI0 fun i j=>V.int (i - j)) (qG 2) (tC (V.int 1))) zf)))) zf)) zf)))))) JR) (Xu T)
def Xs (K:Frag) (T:Sp) (B:Sp):TS:=jA (JU (jT (tOp (rI0 fun i j=>V.bl (decide (i<j))) (qG 3) (tC (V.int 6)))) (jA (vD (tCB (fun xs H Q=>∃ p ys,xs=[V.ref p]∧((SqL K H p ys∧∀ (l:Ac),H l=none→Q (V.ref l) (upd H l (HO.tup ys)))∨SqT K H p ys∧Q (V.ref p) H)) (qw (tSl (qbx K) (qG 5) (Zl (tOp (rI (fun x j=>0<j) fun i j=>V.int (i % j)) (qG 4) (tC (V.int 5)))) (Zl (tOp vz (tOp (rI (fun x j=>0<j) fun i j=>V.int (i % j)) (qG 4) (tC (V.int 5))) (tOp (rI (fun x j=>0<j) fun i j=>V.int (i % j)) (tOp (rI Za fun i j=>V.int (i / j)) (qG 4) (tC (V.int 5))) (tC (V.int 4)))))) zf)) (zC 6)) (vS (JT (qw (tOp (rIx K) (vC (qw (tC (V.str (Str.ofString "fun"))) (qw (tC (V.str (Str.ofString "loop"))) zf))) (tOp (rI0 fun i j=>V.int (i - j)) (qG 3) (tC (V.int 4)))) (qw (qG 6) (qw (zB B [] E0 (qw (qG 0) (qw (tOp (rI0 fun i j=>V.int (i - j)) (qG 1) (tC (V.int 1))) (qw (tOp rEq (qG 3) (tC (V.int 5))) zf)))) zf)))))) JR) (Xt K T)
def Xr (K:Frag) (T:Sp) (B:Sp):TS:=jA (JU (jT (tOp (rI0 fun i j=>V.bl (decide (i<j))) (qG 3) (tC (V.int 4)))) (vS (JT (qw (tC (V.str (Str.ofString "two"))) (qw (tOp (rIx K) (tC (V.str (Str.ofString "+-*<="))) (tOp (rI (fun x j=>0<j) fun i j=>V.int (i % j)) (qG 4) (tC (V.int 5)))) (qw (zB T [] E0 (qw (qG 0) (qw (tOp (rI0 fun i j=>V.int (i - j)) (qG 1) (tC (V.int 1))) zf))) (qw (zB T [] E0 (qw (qG 0) (qw (tOp (rI0 fun i j=>V.int (i - j)) (qG 1) (tC (V.int 1))) zf))) zf)))))) JR) (Xs K T B)
def Xq (K:Frag) (T:Sp) (B:Sp):TS:=jA (JU (jT (tOp (rIn K false) (qG 3) (JT (qw (tC (V.int 1)) (qw (tC (V.int 8)) (qw (tC (V.int 9)) zf)))))) (vS (JT (qw (tC (V.str (Str.ofString "name"))) (qw (tOp (rIx K) (qG 5) (tOp (rI (fun x j=>0<j) fun i j=>V.int (i % j)) (qG 4) (tCB (fun xs H Q=>∃ x n,xs=[x]∧qdm K x H n∧Q (V.int ↑n) H) (qw (qG 5) zf)))) zf)))) JR) (Xr K T B)
def Zk (K:Frag) (T B:Sp):TS:=jA (JU (jT (tOp rEq (qG 3) (tC (V.int 0)))) (vS (JT (qw (tC (V.str (Str.ofString "number"))) (qw (zB vU [] E0 (qw (qG 4) zf)) zf)))) JR) (Xq K T B)
theorem Vl {H H2:Hp} {Q:VK} {n:Nat} {T B:Sp} {st a nm:Ac} {ns:List Int} {names:List Str} {k l deep z kd mo:Int} (hT:0<n→T=JA K (n - 1)) (hB:0<n→B=JV K (n - 1)) (pp:Bud.PT n deep k l)
  (q:∀ H' x d (s t:Nat) k' l',Stay st H H'→DIn K H' st a nm ns names k' l'→Rep K H' x d→Tre.Ft names d→(∀ hands,Tre.Pt d "term" hands s t)→Bud.BT n deep k l s t k' l'→Q x H')
  (di2:DIn K H2 st a nm ns names (k+1) (l - 1)) (sy2:Stay st H H2) (m0:0≤mo) (m1:mo<268435456) (hkd:0≤kd∧kd<10∧(deep<1∨l - 1<0→kd<2)):
  Zk K T B {nx:=fun _ H'=>Q .non H',rt:=Q} [some (.ref st),some (.int deep),some (.int z),some (.int kd),some (.int mo),some (.ref nm),none,none] H2:=by
 have fin1:∀ (H':Hp) (x:V) (d:Aa),qp H2 H'→Rep K H' x d→Tre.Ft names d→(∀ hands,Tre.Pt d "term" hands 1 1)→Q x H':=fun H' x d g r ff pt=>
  q H' x d 1 1 (k+1) (l - 1) (sy2.then g) (di2.same g) r ff pt .one
 obtain ⟨kd0,kd1,kd2⟩:=hkd;refine yQ rfl (fun e0=>?_) (fun e0=>?_)
 ·skip
  refine ⟨_,rfl,_,rfl,m0,m1,fun i H3 hi g=>⟨(O0:2≤Af),fun p hp=>?_⟩⟩;exact fin1 _ _ (.tuple [.str "number",.int i]) (g.trans (qj hp _)) (.tup (SqT.of upd_same) (.cons (.str _) (.cons (.int _) .nil))) (Tre.Fts.tup (.cons (.word ∅) (.cons (.int _) .nil))) fun hands=>Tre.Xz hi
 refine ⟨_,rfl,(O0:3≤Af),fun p1 hp1=>⟨p1,_,rfl,.inr (SqT.of upd_same),rfl,rfl,_,rfl,?_⟩⟩;have gp1:=qj hp1 (.tup [.int 1,.int 8,.int 9]);have di3:=di2.same gp1;have sy3:=sy2.then gp1;have fin3:∀ (H':Hp) (x:V) (d:Aa),qp (upd H2 p1 (.tup [.int 1,.int 8,.int 9])) H'→Rep K H' x d→Tre.Ft names d→(∀ hands,Tre.Pt d "term" hands 1 1)→Q x H':=fun H' x d g=>fin1 H' x d (gp1.trans g);generalize upd H2 p1 (.tup [.int 1,.int 8,.int 9])=H3 at di3 sy3 fin3 ⊢;have hnl:0<names.length:=di2.good.len
 by_cases e1:kd=1∨kd=8∨kd=9
 ·refine zg (show inV _ _=true by rcases e1 with rfl | rfl | rfl <;> decide+kernel) ?_
  obtain ⟨v,hv,x,rfl,hx,hxn⟩:=vp (xs:=names.map V.str) (i:=mo % (((names.map V.str).length:Nat):Int)) (p:=fun v=>∃ x,v= .str x∧Tre.qZ x=true∧x∈names) (fun y hy=>by
   obtain ⟨x,hx,rfl⟩:=Cg.mp hy;exact ⟨x,rfl,di2.good.good x hx,hx⟩) (Az _ (by rw [An];omega)) (Aw _ (by rw [An];omega))
  refine ⟨_,rfl,_,rfl,_,rfl,_,_,rfl,.inl ⟨_,di3.nms,rfl⟩,_,_,rfl,rfl,(show (0:Int)<(((names.map V.str).length:Nat):Int) by rw [An];omega),.inl ⟨_,_,_,_,rfl,rfl,di3.nms,hv,(O0:2≤Af),fun p hp=>?_⟩⟩
  exact fin3 _ _ (.tuple [.str "name",.str x]) (qj hp _) (.tup (SqT.of upd_same) (.cons (.str _) (.cons (.str _) .nil))) (Tre.Fts.tup (.cons (.word ∅) (.cons (.name hx (A9 _ hxn)) .nil))) fun hands=>Tre.QX hx
 refine zn (show inV _ _=false from qaf e1) ?_;have hn1:0<n:=by have:=pp.1;omega
 have hl1:0≤l - 1:=⋯;have hd1:1≤deep:=⋯;clear kd0 kd1 kd2 e0 e1 m0 m1;obtain ⟨n',rfl⟩:∃ n',n=n'+1:=⟨n - 1,⋯⟩;have eT:T=JA K n':=hT hn1;have eB:B=JV K n':=hB hn1;have hS:=pp.many hl1 hd1;clear hT hB hn1 pp hl1 hd1;subst eT;subst eB;refine qap rfl (fun e4=>?_) (fun e4=>?_)
 ·skip
  obtain ⟨ch,hch,hsg,hsw⟩:=QQ (i:=mo % 5) (Az _ O0) (Aw _ O0);refine ⟨_,rfl,_,_,rfl,rfl,(show (0:Int)<5 from O0),.inr (.inr ⟨_,_,_,rfl,rfl,∅,hch,?_⟩)⟩;refine jw rfl rfl di3 hS.pt fun H4 x1 d1 s1 t1 k1 l1 sy4 di4 r1 f1 p1 b1=>?_;refine jw rfl rfl di4 (hS.pt1 b1) fun H5 x2 d2 s2 t2 k2 l2 sy5 di5 r2 f2 p2 b2=>⟨(O0:4≤Af),fun p hp=>?_⟩;have g:=qj hp (.tup [.str "two",.str ⟨#[ch]⟩,x1,x2]);refine q _ _ (.tuple [.str "two",.str ⟨#[ch]⟩,d1,d2]) (s1+s2+1) (max t1 t2+1) k2 l2 (((sy3.trans sy4).trans sy5).then g) (di5.same g) (.tup (SqT.of upd_same) (.cons (.str _) (.cons (.str _) (.cons ((r1.stay sy5).same g) (.cons (r2.same g) .nil))))) ?_ (fun hands=>Tre.qb0 hsg (p1 hands) (p2 hands)) (hS.two b1 b2);exact Tre.Fts.tup (.cons (.word ∅) (.cons (.word hsw) (.cons f1 (.cons f2 .nil))))
 refine qap rfl (fun e6=>?_) (fun e6=>?_)
 ·skip
  refine ⟨_,rfl,_,rfl,_,_,rfl,rfl,(show (0:Int)<5 from O0),_,rfl,_,rfl,_,_,rfl,rfl,(show (0:Int)<5 from O0),_,rfl,_,_,rfl,rfl,⟨O0,O0⟩,_,_,rfl,rfl,(show (0:Int)<4 from O0),.inl ⟨_,_,rfl,rfl,_,rfl,.inl ⟨nm,_,rfl,di3.nms,fun p2 hp2=>⟨p2,_,rfl,.inl ⟨SqL.of upd_same,fun p3 hp3=>?_⟩⟩⟩⟩⟩;obtain ⟨cut,ecut,hcut,hgood⟩:=X0 di2.good (lo:=mo % 5) (hi:=mo % 5+mo / 5 % 4) ⋯ ⋯;dsimp only at hp3 ⊢;rw [ecut] at hp3 ⊢;have g2:=qj hp2 (.lst (cut.map V.str));have g3:=qj hp3 (.tup (cut.map V.str));have h3:upd (upd H3 p2 (.lst (cut.map V.str))) p3 (.tup (cut.map V.str)) p3=some (.tup (cut.map V.str)):=upd_same;have di4:=(di3.same g2).same g3;have sy4:=(sy3.then g2).then g3;generalize upd (upd H3 p2 (.lst (cut.map V.str))) p3 (.tup (cut.map V.str))=H4 at h3 di4 sy4 ⊢;refine ⟨(O0:2≤Af),fun p4 hp4=>?_⟩;have g4:=qj hp4 (.lst [.str "fun",.str "loop"]);have di5:=di4.same g4;have sy5:=sy4.then g4;have fcut:Tre.Fts names (cut.map PyData.str):= .of fun d hd=>by
   obtain ⟨x,hx,rfl⟩:=Cg.mp hd;exact .name (hgood x hx).1 (A9 _ (hgood x hx).2)
  obtain ⟨hh,bb,hat,hbb,hwd⟩:∃ (hh:Str) (bb:Bool),atI [V.str "fun",V.str "loop"] (kd - 4)=some (.str hh)∧decide (V.int kd=V.int 5)=bb∧((hh="fun"∧bb=false)∨(hh="loop"∧bb=true)):=by
   have h45:kd=4∨kd=5:=⋯;rcases h45 with rfl | rfl
   ·exact ⟨"fun",false,qS (j:=0) rfl,O0,.inl ⟨rfl,rfl⟩⟩
   ·exact ⟨"loop",true,qS (j:=1) rfl,O0,.inr ⟨rfl,rfl⟩⟩
  refine ⟨_,rfl,_,_,rfl,rfl,.inl ⟨p4,_,_,_,rfl,rfl,SqL.of upd_same,hat,_,rfl,_,rfl,_,rfl,_,_,rfl,rfl,_,rfl,rfl,?_⟩⟩;dsimp only;rw [hbb];refine qbj (may:=bb) di5 hS.pb fun H6 x6 ds s6 t6 k6 l6 sy6 di6 r6 f6 bd6 b6=>⟨(O0:3≤Af),fun p hp=>?_⟩;have g:=qj hp (.tup [.str hh,.ref p3,x6]);refine q _ _ (.tuple [.str hh,.tuple (cut.map PyData.str),.tuple ds]) (s6+1) (t6+1) k6 l6 ((sy5.trans sy6).then g) (di6.same g) (.tup (SqT.of upd_same) (.cons (.str _) (.cons (.tup (g.sqT (sy6.sqT (SqT.of (g4 _ _ h3)))) (Reps.strs cut)) (.cons (r6.same g) .nil)))) ?_ (fun hands=>?_) (hS.fn b6)
  ·exact Tre.Fts.tup (.cons (.word (by rcases hwd with ⟨rfl,_⟩ | ⟨rfl,_⟩ <;> decide+kernel)) (.cons fcut.tup (.cons f6.tup .nil)))
  ·rcases hwd with ⟨rfl,rfl⟩ | ⟨rfl,rfl⟩
   ·exact Tre.qb3 hcut bd6
   ·exact Tre.QZ hcut bd6
 refine yQ rfl (fun e7=>?_) (fun e7=>?_)
 ·skip
  refine jw rfl rfl di3 hS.pt fun H4 x1 d1 s1 t1 k1 l1 sy4 di4 r1 f1 p1 b1=>?_;have mo0:=Az mo (show (5:Int)≠0 from O0);have mo1:=Aw mo (show (0:Int)<5 from O0);refine ⟨_,rfl,_,rfl,_,_,rfl,rfl,(show (0:Int)<5 from O0),_,rfl,⋯,⋯,?_⟩;generalize hcn:(mo % 5).toNat=cnt;have hc4:cnt≤4:=⋯;refine zL cnt (fun i ys H'=>∃ (ds:List Aa) (k' l':Int) (s t:Nat),Stay st H H'∧DIn K H' st a nm ns names k' l'∧Reps K H' ys ds∧Rep K H' x1 d1∧ds.length=i∧Tre.Fts names ds∧(∀ hands,Tre.Ptl (ds.map fun x=>(x,("term":Str))) hands s t)∧Bud.CI n' k l s1 i s t k' l') ?_ (fun i ys H' h=>?_) (As hc4 O0) (fun i ys H' hi h=>?_) (fun ys H' h=>?_)
  ·exact ⟨[],k1,l1,0,0,sy3.trans sy4,di4,.nil,r1,rfl,.nil,fun _=> .nil,.nil hS b1⟩
  ·obtain ⟨ds,k',l',s,t,_,_,rs,_,hl,_⟩:=h;have:=rs.length;omega
  ·obtain ⟨ds,k',l',s,t,sy,di5,rs,r1',hl,hf,pt,ci⟩:=h;refine ⟨hi,fun v H5 yl=>?_⟩;obtain ⟨rfl,rfl⟩:=yl;refine jw rfl rfl di5 (ci.pre hS ⋯) fun H6 x d s2 t2 k2 l2 sy6 di6 rx fx px b2=>?_;refine ⟨ds++[d],k2,l2,s+s2,max t t2,sy.trans sy6,di6,(rs.stay sy6).append (.cons rx .nil),r1'.stay sy6,by rw [A8,hl];rfl,hf.snoc fx,fun hands=>?_,ci.snoc b2⟩
   rw [Bc];exact (pt hands).append (Tre.jv (px hands))
  ·obtain ⟨ds,k',l',s,t,sy,di5,rs,r1',hl,hf,pt,ci⟩:=h;refine ⟨Aj _,fun D hD=>?_⟩;refine ⟨D,ys,rfl,.inl ⟨SqL.of upd_same,fun p2 hp2=>⟨(O0:3≤Af),fun p3 hp3=>?_⟩⟩⟩;have ga:=(qj hD (.lst ys)).trans (qj hp2 (.tup ys));have gb:=qj hp3 (.tup [.str "call",x1,.ref p2]);have g:=ga.trans gb;refine q _ _ (.tuple [.str "call",d1,.tuple ds]) (s1+s+1) (max t1 t+1) k' l' (sy.then g) (di5.same g) (.tup (SqT.of upd_same) (.cons (.str _) (.cons (r1'.same g) (.cons (.tup (gb.sqT (SqT.of upd_same)) (rs.same g)) .nil)))) ?_ (fun hands=>Tre.Q0 (p1 hands) ⋯ (pt hands)) (ci.out hS b1 hc4);exact Tre.Fts.tup (.cons (.word ∅) (.cons f1 (.cons hf.tup .nil)))
 refine jw rfl rfl di3 hS.pt fun H4 x1 d1 s1 t1 k1 l1 sy4 di4 r1 f1 p1 b1=>?_;refine jw rfl rfl di4 (hS.pt1 b1) fun H5 x2 d2 s2 t2 k2 l2 sy5 di5 r2 f2 p2 b2=>⟨(O0:3≤Af),fun p hp=>?_⟩;have g:=qj hp (.tup [.str "step",x1,x2]);refine q _ _ (.tuple [.str "step",d1,d2]) (s1+s2+1) (max t1 t2+1) k2 l2 (((sy3.trans sy4).trans sy5).then g) (di5.same g) (.tup (SqT.of upd_same) (.cons (.str _) (.cons ((r1.stay sy5).same g) (.cons (r2.same g) .nil)))) ?_ (fun hands=>Tre.QW (p1 hands) (p2 hands)) (hS.two b1 b2);exact Tre.Fts.tup (.cons (.word ∅) (.cons f1 (.cons f2 .nil)))
theorem VG (F:Fun K "_law_term" "_law_term" j6 f fd) (c:Cs K mg ad) (n:Nat) (T B:Sp) (hT:0<n→T=JA K (n - 1)) (hB:0<n→B=JV K (n - 1)) (d_law_next:Def P w K mg base 2 "_law_next" ["_law_state"] (Jt K)) (d_law_number:Def P w K mg base 1 "_law_number" ["_law_more"] vU)
  (d_law_term:Def P w K mg base (4*n+3) "_law_term" ["_law_state","_law_deep"] T) (d_law_body:Def P w K mg base (4*n+3) "_law_body" ["_law_state","_law_deep","_law_may_hand"] B):FnOk P w K mg base CX0 (4*n+4) f fd ["_law_state","_law_deep"] (JA K n):=by
 refine F.ok (k:=4*n+3) zH (fun vs H Q E h=>?_) (fun cdv A outer s H vs Q E hr h=>?_)
 ·obtain ⟨st,a,nm,ns,names,k,l,deep,rfl,_⟩:=h;rfl
 obtain ⟨st,a,nm,ns,names,k,l,deep,rfl,di,pp,q⟩:=h;have hu:=Wc hr;refine ⟨_,(qg (pst 2 zH.nd (pdf d_law_next (qc (pv 0) qd)))
   (qg (v0 hu (pv 0) qh (qm zl (jf hu (pv 0) qh (fun _ _=>rfl)) qf) rfl)
   (qg (pst 3 zH.nd (qm qA (pv 2) qf))
   (qg (pst 4 zH.nd (qm qQ (pv 2) qf))
   (qg (pst 5 zH.nd (jf hu (pv 0) qh (fun _ _=>rfl)))
   (qg (qE (PW.pt (jd (qq Jf (pv 1) qf (qv _)) (jt (qq Jf (jf hu (pv 0) qh (fun _ _=>rfl)) qf (qv _))))) (ql (pst 3 zH.nd (qm qA (pv 3) qf))) qy)
   (qg (qE (qq qT (pv 3) qf (qv _)) (ql (qt (qi (qc qh (qc (pdf d_law_number (qc (pv 4) qd)) qd))))) qy)
   (qg (qE (qq (XQ (K:=K) rfl) (pv 3) (qi (qc qf (qc qf (qc qf qd)))) rfl) (ql (qt (qi (qc qh (qc (pix K (pv 5) (qm qA (pv 4) (qu (ja (K:=K) rfl) (by rfl) c.len_ zp (qc (pv 5) qd)))) qd))))) qy)
   (qg (qE (qq Jf (pv 3) qf (qv _)) (ql (qt (qi (qc qh (qc (pix K qh (qm qA (pv 4) qf)) (qc (pdf d_law_term (qc (pv 0) (qc (qm zl (pv 1) qf) qd))) (qc (pdf d_law_term (qc (pv 0) (qc (qm zl (pv 1) qf) qd))) qd))))))) qy)
   (qg (qE (qq Jf (pv 3) qf (qv _)) (qg (pst 6 zH.nd (zt (vR (K:=K) rfl) (by rfl) c.tuple_ zO (qc (zX (Xv (K:=K) rfl) (pv 5) (je (qm qA (pv 4) qf)) (je (qm qY (qm qA (pv 4) qf) (qm qA (qm qQ (pv 4) qf) qf)))) qd)))
   (ql (qt (qi (qc (pix K (qX (qc qh (qc qh qd))) (qm zl (pv 3) qf)) (qc (pv 6) (qc (pdf d_law_body (qc (pv 0) (qc (qm zl (pv 1) qf) (qc (zF qT (pv 3) qf (qv _)) qd)))) qd))))))) qy)
   (qg (qE (qq qT (pv 3) qf (qv _)) (qg (pst 7 zH.nd (pdf d_law_term (qc (pv 0) (qc (qm zl (pv 1) qf) qd))))
   (ql (qt (qi (qc qh (qc (pv 7) (qc (zt (vR (K:=K) rfl) (by rfl) c.tuple_ zO (qc (zx (sc:=qo j6) (NX:=["_law_state","_law_deep","_law_number_here","_law_kind","_law_more","_law_names_here","_law_params","_law_maker"]) (N:=["_law_turn","_law_state","_law_deep"]) (js:=[none,some 0,some 1]) (zP rfl c.range_ (qc (qm qA (pv 4) qf) qd)) (fun _ _ _ _ _=>(zb (i:=0) (show (["_law_turn","_law_state","_law_deep"]:List Str).Nodup from ∅) rfl (Or.inl rfl))) (fun _ _ _ _ _=>zG) (fun _ _ _ _ _=>(pdf d_law_term (qc (pv 1) (qc (qm zl (pv 2) qf) qd)))) (zd rfl) ⟨∅,rfl,∅,∅,rfl,∅⟩) qd)) qd))))))) qy)
   (ql (qt (qi (qc qh (qc (pdf d_law_term (qc (pv 0) (qc (qm zl (pv 1) qf) qd))) (qc (pdf d_law_term (qc (pv 0) (qc (qm zl (pv 1) qf) qd))) qd))))))))))))))))),?_⟩
 clear hu;refine ⟨_,rfl,st,a,nm,ns,k,l,rfl,di.dict,di.cells,pp.2.1,(by have:=pp.2.2;omega),fun z H1 hz0 hz1 e1=>?_⟩
 have di1:DIn K H1 st a nm ns names (k+1) l:=e1▸di.put;have sy1:Stay st H H1:=e1▸Stay.put di.dict;clear e1;refine ⟨_,rfl,_,_,rfl,(by rw [← vg a (k+1) l nm];exact jR.k (k:=Sum.inr "left") di1.dict),_,_,rfl,rfl,?_⟩
 refine ⟨_,rfl,st,upd H1 st (.dK (stK a (k+1) (l - 1) nm)),rfl,(by rw [← wc a (k+1) l nm (l - 1)];exact W9.k (k:=Sum.inr "left") di1.dict (Bx (show 4≤1000 from O0) O0)),?_⟩
 have di2:DIn K (upd H1 st (.dK (stK a (k+1) (l - 1) nm))) st a nm ns names (k+1) (l - 1):=di1.put;have sy2:Stay st H (upd H1 st (.dK (stK a (k+1) (l - 1) nm))):=sy1.trans (Stay.put di1.dict);generalize upd H1 st (.dK (stK a (k+1) (l - 1) nm))=H2 at di2 sy2 ⊢;have gL:jR H2 st (.str "left") (some (.int (l - 1))):=by rw [← vg a (k+1) (l - 1) nm];exact jR.k (k:=Sum.inr "left") di2.dict
 have gN:jR H2 st (.str "names") (some (.ref nm)):=by rw [← yf a (k+1) (l - 1) nm];exact jR.k (k:=Sum.inr "names") di2.dict
 refine ⟨_,rfl,_,_,rfl,rfl,(show (0:Int)<10 from O0),_,rfl,_,_,rfl,rfl,⟨O0,O0⟩,_,rfl,st,_,rfl,gN,?_⟩;have m0:0≤z / 10:=⋯;have m1:z / 10<268435456:=⋯;refine ⟨_,rfl,_,_,rfl,rfl,_,rfl,?_⟩;have kz0:=Az z (show (10:Int)≠0 from O0);have kz1:=Aw z (show (0:Int)<10 from O0);have km0:=Az (z % 10) (show (2:Int)≠0 from O0);have km1:=Aw (z % 10) (show (0:Int)<2 from O0);refine vt (fun c1=>zV ⟨_,rfl,_,_,rfl,rfl,(show (0:Int)<2 from O0),?g1⟩) (fun c1=>⟨_,rfl,st,_,rfl,gL,_,_,rfl,rfl,_,rfl,vt (fun c2=>⟨_,rfl,_,_,rfl,rfl,(show (0:Int)<2 from O0),?g2⟩) (fun c2=>?g3)⟩)
 case g1=>
  have hkd:0≤z % 10 % 2∧z % 10 % 2<10∧(deep<1∨l - 1<0→z % 10 % 2<2):=⟨km0,⋯,fun _=>km1⟩;exact Vl hT hB pp q di2 sy2 m0 m1 hkd
 case g2=>
  have hkd:0≤z % 10 % 2∧z % 10 % 2<10∧(deep<1∨l - 1<0→z % 10 % 2<2):=⟨km0,⋯,fun _=>km1⟩;exact Vl hT hB pp q di2 sy2 m0 m1 hkd
 case g3=>
  have c1':¬ deep<1:=by simpa using c1
  have c2':¬ l - 1<0:=by simpa using c2
  have hkd:0≤z % 10∧z % 10<10∧(deep<1∨l - 1<0→z % 10<2):=⟨kz0,kz1,fun h=>⋯⟩;exact Vl hT hB pp q di2 sy2 m0 m1 hkd
theorem qe4 {c:Bool} {A B:Prop} (hA:c=true→B→A) (hB:B):if c=true then A else B:=by
 cases c with
 | true=>exact zg rfl (hA rfl hB)
 | false=>exact zn rfl hB
structure BS where
 xs:List Aa
 s:Nat
 t:Nat
def Zv (K:Frag):TS:=vS (JT (qw (tC (V.str (Str.ofString "try"))) (qw (tOp (rIx K) (qG 8) (tC (V.int 0))) (qw (qG 6) (qw (qG 5) (qw (tOp (rIx K) (qG 8) (tC (V.int 1))) (qw (tOp (rIx K) (qG 8) (tC (V.int 2))) zf)))))))
def Zu (K:Frag) (B:Sp):TS:=jA (vD (YL (Qn (qw (tC (V.int 3)) zf)) [none,some 0,some 2,some 1] (zC 0) Wq (zB B [] E0 (qw (qG 1) (qw (tOp (rI0 fun i j=>V.int (i - j)) (qG 3) (tC (V.int 1))) (qw (qG 2) zf))))) (zC 8)) (Zv K)
def Zt (K:Frag) (m:Nat) (B:Sp):TS:=jA (JU (jT (tOp rEq (qG 4) (tC (V.int 7)))) (jA (vD (zB (JA K m) [] E0 (qw (qG 0) (qw (tOp (rI0 fun i j=>V.int (i - j)) (qG 1) (tC (V.int 1))) zf))) (zC 7)) (vS (JT (qw (tC (V.str (Str.ofString "if"))) (qw (qG 7) (qw (zB B [] E0 (qw (qG 0) (qw (tOp (rI0 fun i j=>V.int (i - j)) (qG 1) (tC (V.int 1))) (qw (qG 2) zf)))) (qw (zB B [] E0 (qw (qG 0) (qw (tOp (rI0 fun i j=>V.int (i - j)) (qG 1) (tC (V.int 1))) (qw (qG 2) zf)))) zf))))))) JR) (Zu K B)
def Zs (K:Frag) (m:Nat) (B:Sp):TS:=jA (JU (jT (tOp rEq (qG 4) (tC (V.int 6)))) (vS (JT (qw (tC (V.str (Str.ofString "while"))) (qw (zB (JA K m) [] E0 (qw (qG 0) (qw (tOp (rI0 fun i j=>V.int (i - j)) (qG 1) (tC (V.int 1))) zf))) (qw (zB B [] E0 (qw (qG 0) (qw (tOp (rI0 fun i j=>V.int (i - j)) (qG 1) (tC (V.int 1))) (qw (qG 2) zf)))) zf))))) JR) (Zt K m B)
def Zr (K:Frag) (m:Nat) (B:Sp):TS:=jA (JU (jT (tOp rEq (qG 4) (tC (V.int 5)))) (vS (JT (qw (tC (V.str (Str.ofString "fault"))) (qw (tOp (rIx K) (vC (qw (qG 6) (qw (tC (V.str (Str.ofString "anya"))) zf))) (tCB (fun xs H Q=>(∃ i,xs=[V.int i]∧Q (V.int i) H)∨∃ k,xs=[V.bl k]∧Q (V.int (if k=true then 1 else 0)) H) (qw (tOp rEq (qG 6) (tC (V.str (Str.ofString "any")))) zf))) (qw (zB (JA K m) [] E0 (qw (qG 0) (qw (tOp (rI0 fun i j=>V.int (i - j)) (qG 1) (tC (V.int 1))) zf))) zf))))) JR) (Zs K m B)
def Zq (K:Frag) (m:Nat) (B:Sp):TS:=jA (JU (jT (tOp (rI0 fun i j=>V.bl (decide (i<j))) (qG 4) (tC (V.int 5)))) (vS (JT (qw (tOp (rIx K) (vC (qw (tC (V.str (Str.ofString "hand"))) (qw (tC (V.str (Str.ofString "do"))) (qw (tC (V.str (Str.ofString "back"))) zf)))) (tOp (rI0 fun i j=>V.int (i - j)) (qG 4) (tC (V.int 2)))) (qw (zB (JA K m) [] E0 (qw (qG 0) (qw (tOp (rI0 fun i j=>V.int (i - j)) (qG 1) (tC (V.int 1))) zf))) zf)))) JR) (Zr K m B)
def YN (K:Frag) (m:Nat) (B:Sp):TS:=jA (JU (jT (tOp (rI0 fun i j=>V.bl (decide (i<j))) (qG 4) (tC (V.int 2)))) (vS (JT (qw (tOp (rIx K) (vC (qw (tC (V.str (Str.ofString "let"))) (qw (tC (V.str (Str.ofString "set"))) zf))) (qG 4)) (qw (qG 5) (qw (zB (JA K m) [] E0 (qw (qG 0) (qw (tOp (rI0 fun i j=>V.int (i - j)) (qG 1) (tC (V.int 1))) zf))) zf))))) JR) (Zq K m B)
def QN (K:Frag) (m:Nat) (B:Sp):TS:=jA (JU (qdw (jT (tOp rEq (qG 4) (tC (V.int 2)))) (qbo (tB (qG 2)))) (vD (tC (V.int 3)) (zC 4)) JR) (YN K m B)
theorem yk {H H3:Hp} {Q:VK} {n m:Nat} {B:Sp} {st a nm:Ac} {ns:List Int} {names:List Str} {k l deep z kd:Int} {may:Bool} {x wd:Str} (hm:Bud.Near n m) (hB:0<n→B=JV K m) (pp:Bud.PS n deep k l)
  (q:∀ H' x d (s t:Nat) k' l',Stay st H H'→DIn K H' st a nm ns names k' l'→Rep K H' x d→Tre.Ft names d→Tre.Pt d "statement" may s t→Bud.BS n k l s t k' l'→Q x H')
  (hx:Tre.qZ x=true∧x∈names) (hw:Tre.qZ wd=true∧wd∈Tre.vP++names) (di3:DIn K H3 st a nm ns names (k+1) (l - 1)) (sy3:Stay st H H3) (e3':kd=2→may=true) (hkd:0≤kd∧kd<10∧(deep<2∨l - 1<0→kd<5)):
  YN K m B {nx:=fun _ H'=>Q .non H',rt:=Q} [some (.ref st),some (.int deep),some (.bl may),some (.int z),some (.int kd),some (.str x),some (.str wd),none,none] H3:=by
 have pt:=pp.pt hm;obtain ⟨kd0,kd1,kd2⟩:=hkd;refine qap rfl (fun e2=>?_) (fun e2=>?_)
 ·skip
  refine ⟨(O0:2≤Af),fun p1 hp1=>?_⟩;have gp1:=qj hp1 (.lst [.str "let",.str "set"]);have di4:=di3.same gp1;have sy4:=sy3.then gp1;obtain ⟨hh,hat,hhl⟩:∃ hh:Str,atI [V.str "let",V.str "set"] kd=some (.str hh)∧(hh="let"∨hh="set"):=by
   have:kd=0∨kd=1:=⋯;rcases this with rfl | rfl
   ·exact ⟨"let",qS (j:=0) rfl,.inl rfl⟩
   ·exact ⟨"set",qS (j:=1) rfl,.inr rfl⟩
  refine ⟨_,rfl,.inl ⟨p1,_,_,_,rfl,rfl,SqL.of upd_same,hat,_,rfl,?_⟩⟩;refine jw rfl rfl di4 pt fun H5 x1 d1 s1 t1 k1 l1 sy5 di5 r1 f1 q1 b1=>⟨(O0:3≤Af),fun p hp=>?_⟩;have g:=qj hp (.tup [.str hh,.str x,x1]);exact q _ _ (.tuple [.str hh,.str x,d1]) (s1+1) (t1+1) k1 l1 ((sy4.trans sy5).then g) (di5.same g) (.tup (SqT.of upd_same) (.cons (.str _) (.cons (.str _) (.cons (r1.same g) .nil)))) (Tre.Fts.tup (.cons (.word (by rcases hhl with rfl | rfl <;> decide+kernel)) (.cons (.name hx.1 (A9 _ hx.2)) (.cons f1 .nil)))) (Tre.qb2 hhl hx.1 (q1 may)) (pp.one hm b1)
 refine qap rfl (fun e5=>?_) (fun e5=>?_)
 ·skip
  refine ⟨(O0:3≤Af),fun p1 hp1=>?_⟩;have gp1:=qj hp1 (.lst [.str "hand",.str "do",.str "back"]);have di4:=di3.same gp1;have sy4:=sy3.then gp1;obtain ⟨hh,hat,hhl⟩:∃ hh:Str,atI [V.str "hand",V.str "do",V.str "back"] (kd - 2)=some (.str hh)∧(hh="do"∨hh="back"∨(hh="hand"∧may=true)):=by
   have:kd=2∨kd=3∨kd=4:=⋯;rcases this with rfl | rfl | rfl
   ·exact ⟨"hand",qS (j:=0) rfl,.inr (.inr ⟨rfl,e3' rfl⟩)⟩
   ·exact ⟨"do",qS (j:=1) rfl,.inl rfl⟩
   ·exact ⟨"back",qS (j:=2) rfl,.inr (.inl rfl)⟩
  refine ⟨_,rfl,_,_,rfl,rfl,.inl ⟨p1,_,_,_,rfl,rfl,SqL.of upd_same,hat,?_⟩⟩;refine jw rfl rfl di4 pt fun H5 x1 d1 s1 t1 k1 l1 sy5 di5 r1 f1 q1 b1=>⟨(O0:2≤Af),fun p hp=>?_⟩;have g:=qj hp (.tup [.str hh,x1]);exact q _ _ (.tuple [.str hh,d1]) (s1+1) (t1+1) k1 l1 ((sy4.trans sy5).then g) (di5.same g) (.tup (SqT.of upd_same) (.cons (.str _) (.cons (r1.same g) .nil))) (Tre.Fts.tup (.cons (.word (by rcases hhl with rfl | rfl | ⟨rfl,_⟩ <;> decide+kernel)) (.cons f1 .nil))) (Tre.qef hhl (q1 may)) (pp.one hm b1)
 have hl1:0≤l - 1:=⋯;have hd1:2≤deep:=⋯;have hnm:n=m+1:=by have:=pp.1;have:=hm.2;omega
 subst hnm;have hm1:1≤m:=by have:=pp.1;omega
 have eB:B=JV K m:=hB ⋯;have hS:=pp.many hl1 ⋯;clear kd2 kd0 e3' e2 hB hl1 hd1;subst eB;refine yQ rfl (fun e6=>?_) (fun e6=>?_)
 ·skip
  obtain ⟨y,hat,hy,hyn⟩:∃ y:Str,atI [V.str wd,V.str "anya"] (if decide (V.str wd=V.str "any")=true then 1 else 0)=some (.str y)∧(Tre.qZ y&&y !="any")=true∧y∈Tre.vP++names:=by
   by_cases ew:wd="any"
   ·rw [if_pos (Ai (congrArg V.str ew))];exact ⟨"anya",qS (j:=1) rfl,∅,Bt _ ∅⟩
   ·rw [if_neg (by rw [Al fun z=>ew (V.str.inj z)];exact Am)]
    exact ⟨wd,qS (j:=0) rfl,by rw [hw.1,Bw];exact bne_iff_ne.mpr ew,hw.2⟩
  refine ⟨_,rfl,(O0:2≤Af),fun p1 hp1=>?_⟩;have gp1:=qj hp1 (.lst [.str wd,.str "anya"]);have di4:=di3.same gp1;have sy4:=sy3.then gp1;refine ⟨_,rfl,rfl,.inr ⟨_,rfl,.inl ⟨p1,_,_,_,rfl,rfl,SqL.of upd_same,hat,?_⟩⟩⟩;refine jw rfl rfl di4 pt fun H5 x1 d1 s1 t1 k1 l1 sy5 di5 r1 f1 q1 b1=>⟨(O0:3≤Af),fun p hp=>?_⟩;have g:=qj hp (.tup [.str "fault",.str y,x1]);have hy1:Tre.qZ y=true:=(Ao _ _▸hy).1;exact q _ _ (.tuple [.str "fault",.str y,d1]) (s1+1) (t1+1) k1 l1 ((sy4.trans sy5).then g) (di5.same g) (.tup (SqT.of upd_same) (.cons (.str _) (.cons (.str _) (.cons (r1.same g) .nil)))) (Tre.Fts.tup (.cons (.word ∅) (.cons (.name hy1 hyn) (.cons f1 .nil)))) (Tre.ZV hy (q1 may)) (pp.one hm b1)
 refine yQ rfl (fun e7=>?_) (fun e7=>?_)
 ·skip
  refine jw rfl rfl di3 pt fun H4 x1 d1 s1 t1 k1 l1 sy4 di4 r1 f1 q1 b1=>?_;refine V8 rfl rfl rfl di4 (hS.pb1 b1) fun H5 x2 ds2 s2 t2 k2 l2 sy5 di5 r2 f2 bd2 b2=>⟨(O0:3≤Af),fun p hp=>?_⟩;have g:=qj hp (.tup [.str "while",x1,x2]);exact q _ _ (.tuple [.str "while",d1,.tuple ds2]) (s1+s2+1) (max t1 t2+1) k2 l2 (((sy3.trans sy4).trans sy5).then g) (di5.same g) (.tup (SqT.of upd_same) (.cons (.str _) (.cons ((r1.stay sy5).same g) (.cons (r2.same g) .nil)))) (Tre.Fts.tup (.cons (.word ∅) (.cons f1 (.cons f2.tup .nil)))) (Tre.ZT (q1 may) bd2) (hS.wh b1 b2)
 refine yQ rfl (fun e8=>?_) (fun e8=>?_)
 ·skip
  refine jw rfl rfl di3 pt fun H4 x1 d1 s1 t1 k1 l1 sy4 di4 r1 f1 q1 b1=>?_;refine ⟨_,rfl,?_⟩;refine V8 rfl rfl rfl di4 (hS.pb1 b1) fun H5 x2 ds2 s2 t2 k2 l2 sy5 di5 r2 f2 bd2 b2=>?_;refine V8 rfl rfl rfl di5 (hS.pb2 b1 b2) fun H6 x3 ds3 s3 t3 k3 l3 sy6 di6 r3 f3 bd3 b3=>⟨(O0:4≤Af),fun p hp=>?_⟩;have g:=qj hp (.tup [.str "if",x1,x2,x3]);exact q _ _ (.tuple [.str "if",d1,.tuple ds2,.tuple ds3]) (s1+(s2+s3)+1) (max t1 (max t2 t3)+1) k3 l3 ((((sy3.trans sy4).trans sy5).trans sy6).then g) (di6.same g) (.tup (SqT.of upd_same) (.cons (.str _) (.cons (((r1.stay sy5).stay sy6).same g) (.cons ((r2.stay sy6).same g) (.cons (r3.same g) .nil))))) (Tre.Fts.tup (.cons (.word ∅) (.cons f1 (.cons f2.tup (.cons f3.tup .nil))))) (Tre.qee (q1 may) bd2 bd3) (hS.if_ b1 b2 b3)
 refine ⟨_,rfl,O0,O0,?_⟩;refine zL 3 (fun i ys H'=>∃ (bs:List BS) (k' l':Int),Stay st H H'∧DIn K H' st a nm ns names k' l'∧Reps K H' ys (bs.map fun b=> .tuple b.xs)∧bs.length=i∧(∀ b∈bs,Tre.Bd b.xs may b.s b.t∧Tre.Fts names b.xs∧b.t≤m+2)∧Bud.TI m k l i (bs.map fun b=>b.s).sum k' l') ?_ (fun i ys H' h=>?_) O0 (fun i ys H' hi h=>?_) (fun ys H' h=>?_)
 ·exact ⟨[],k+1,l - 1,sy3,di3,.nil,rfl,fun b hb=>(by cases hb),.nil hS hm1⟩
 ·obtain ⟨bs,k',l',_,_,rs,hl,_⟩:=h;have:=rs.length;rw [An] at this;omega
 ·obtain ⟨bs,k',l',sy,di5,rs,hl,hb,ti⟩:=h;refine ⟨hi,fun v H5 yl=>?_⟩;obtain ⟨rfl,rfl⟩:=yl;refine V8 rfl rfl rfl di5 (ti.pre hS hi) fun H6 x2 ds2 s2 t2 k2 l2 sy6 di6 r2 f2 bd2 b2=>?_;refine ⟨bs++[⟨ds2,s2,t2⟩],k2,l2,sy.trans sy6,di6,?_,by rw [A8,hl];rfl,fun b hb'=>?_,?_⟩
  ·rw [Bc];exact (rs.stay sy6).append (.cons r2 .nil)
  ·rcases Cr.mp hb' with h1 | h1
   ·exact hb b h1
   ·cases B5.mp h1;exact ⟨bd2,f2,b2.2.1⟩
  ·rw [Bc,List.sum_append];exact ti.snoc b2
 ·obtain ⟨bs,k',l',sy,di5,rs,hl,hb,ti⟩:=h
  match bs,hl with
  | [z0,z1,z2],_=>
   refine ⟨Aj _,fun D hD=>?_⟩;cases rs with
   | @cons y0 _ _ _ r0 rs=>
    cases rs with
    | @cons y1 _ _ _ r1 rs=>
     cases rs with
     | @cons y2 _ _ _ r2 rs=>
      cases rs;have gD:=qj hD (.lst [y0,y1,y2]);have sD:SqL K (upd H' D (.lst [y0,y1,y2])) D [y0,y1,y2]:=SqL.of upd_same;refine ⟨_,rfl,.inl ⟨D,_,_,_,rfl,rfl,sD,qS (j:=0) rfl,_,rfl,_,rfl,_,rfl,.inl ⟨D,_,_,_,rfl,rfl,sD,qS (j:=1) rfl,_,rfl,.inl ⟨D,_,_,_,rfl,rfl,sD,qS (j:=2) rfl,(O0:6≤Af),fun p hp=>?_⟩⟩⟩⟩;have g:=gD.trans (qj hp (.tup [.str "try",y0,.str wd,.str x,y1,y2]));obtain ⟨bd0,f0,t0⟩:=hb z0 (by simp)
      obtain ⟨bd1,f1,t1⟩:=hb z1 (by simp)
      obtain ⟨bd2,f2,t2⟩:=hb z2 (by simp)
      exact q _ _ (.tuple [.str "try",.tuple z0.xs,.str wd,.str x,.tuple z1.xs,.tuple z2.xs]) (z0.s+(z1.s+z2.s)+1) (max z0.t (max z1.t z2.t)+1) k' l' (sy.then g) (di5.same g) (.tup (SqT.of upd_same) (.cons (.str _) (.cons (r0.same g) (.cons (.str _) (.cons (.str _) (.cons (r1.same g) (.cons (r2.same g) .nil))))))) (Tre.Fts.tup (.cons (.word ∅) (.cons f0.tup (.cons (.name hw.1 hw.2) (.cons (.name hx.1 (A9 _ hx.2)) (.cons f1.tup (.cons f2.tup .nil))))))) (Tre.qb1 hw.1 hx.1 bd0 bd1 bd2) (ti.out hS rfl t0 t1 t2)
theorem wa {H H3:Hp} {Q:VK} {n m:Nat} {B:Sp} {st a nm:Ac} {ns:List Int} {names:List Str} {k l deep z kd:Int} {may:Bool} {x wd:Str} (hm:Bud.Near n m) (hB:0<n→B=JV K m) (pp:Bud.PS n deep k l)
  (q:∀ H' x d (s t:Nat) k' l',Stay st H H'→DIn K H' st a nm ns names k' l'→Rep K H' x d→Tre.Ft names d→Tre.Pt d "statement" may s t→Bud.BS n k l s t k' l'→Q x H')
  (hx:Tre.qZ x=true∧x∈names) (hw:Tre.qZ wd=true∧wd∈Tre.vP++names) (di3:DIn K H3 st a nm ns names (k+1) (l - 1)) (sy3:Stay st H H3) (hkd:0≤kd∧kd<10∧(deep<2∨l - 1<0→kd<5)):
  QN K m B {nx:=fun _ H'=>Q .non H',rt:=Q} [some (.ref st),some (.int deep),some (.bl may),some (.int z),some (.int kd),some (.str x),some (.str wd),none,none] H3:=by
 refine ⟨_,rfl,rfl,_,rfl,?_⟩
 by_cases e3:kd=2∧may=false
 ·obtain ⟨rfl,rfl⟩:=e3;refine zg (show decide _=true from Ai rfl) ⟨_,rfl,_,rfl,zg (show (!false)=true from rfl) ?_⟩;exact yk (kd:=3) hm hB pp q hx hw di3 sy3 (fun z=>absurd z O0) ⟨O0,O0,fun _=>O0⟩
 have e3':kd=2→may=true:=fun e=>by
  cases may with
  | true=>rfl
  | false=>exact absurd ⟨e,rfl⟩ e3
 refine qe4 (fun hc hB=>⟨_,rfl,_,rfl,zn (show (!may)=false by rw [e3' (V.int.inj (A1 hc))];rfl) hB⟩) ?_
 exact yk hm hB pp q hx hw di3 sy3 e3' hkd
theorem JC (F:Fun K "_law_statement" "_law_statement" zN f fd) (c:Cs K mg ad) (n lt lb:Nat) (hlt:lt≤4*n+4) (hlb:lb≤4*n+4) (B:Sp) (hB:0<n→B=JV K (n - 1)) (d_law_next:Def P w K mg base 2 "_law_next" ["_law_state"] (Jt K))
  (d_law_term:Def P w K mg base lt "_law_term" ["_law_state","_law_deep"] (JA K (n - 1))) (d_law_body:Def P w K mg base lb "_law_body" ["_law_state","_law_deep","_law_may_hand"] B):FnOk P w K mg base CX0 (4*n+5) f fd ["_law_state","_law_deep","_law_may_hand"] (wS K n):=by
 refine F.ok (k:=4*n+4) qV (fun vs H Q E h=>?_) (fun cdv A outer s H vs Q E hr h=>?_)
 ·obtain ⟨st,a,nm,ns,names,k,l,deep,may,rfl,_⟩:=h;rfl
 obtain ⟨st,a,nm,ns,names,k,l,deep,may,rfl,di,pp,q⟩:=h;have hu:=Wc hr;refine ⟨_,(qg (pst 3 qV.nd (pdf d_law_next (qc (pv 0) qd)))
   (qg (v0 hu (pv 0) qh (qm zl (jf hu (pv 0) qh (fun _ _=>rfl)) qf) rfl)
   (qg (pst 4 qV.nd (qm qA (pv 3) qf))
   (qg (pst 5 qV.nd (pix K (jf hu (pv 0) qh (fun _ _=>rfl)) (qm qA (qm qQ (pv 3) qf) (qu (ja (K:=K) rfl) (by rfl) c.len_ zp (qc (jf hu (pv 0) qh (fun _ _=>rfl)) qd)))))
   (qg (pst 6 qV.nd (pix K (qX (qc qh (qc qh (qc qh (qc qh (qc (pv 5) qd)))))) (qm qA (qm qQ (pv 3) qf) qf)))
   (qg (qE (PW.pt (jd (qq Jf (pv 1) qf (qv _)) (jt (qq Jf (jf hu (pv 0) qh (fun _ _=>rfl)) qf (qv _))))) (ql (pst 4 qV.nd (qm qA (pv 4) qf))) qy)
   (qg (qE (PW.pt (Jx (qq qT (pv 4) qf (qv _)) (jJ (zI (zh (pv 2)))))) (ql (pst 4 qV.nd qf)) qy)
   (qg (qE (qq Jf (pv 4) qf (qv _)) (ql (qt (qi (qc (pix K (qX (qc qh (qc qh qd))) (pv 4)) (qc (pv 5) (qc (pdf d_law_term (qc (pv 0) (qc (qm zl (pv 1) qf) qd))) qd)))))) qy)
   (qg (qE (qq Jf (pv 4) qf (qv _)) (ql (qt (qi (qc (pix K (qX (qc qh (qc qh (qc qh qd)))) (qm zl (pv 4) qf)) (qc (pdf d_law_term (qc (pv 0) (qc (qm zl (pv 1) qf) qd))) qd))))) qy)
   (qg (qE (qq qT (pv 4) qf (qv _)) (ql (qt (qi (qc qh (qc (pix K (qX (qc (pv 6) (qc qh qd))) (zt X7 (by rfl) c.int_ YE (qc (zF qT (pv 6) qh (qv _)) qd))) (qc (pdf d_law_term (qc (pv 0) (qc (qm zl (pv 1) qf) qd))) qd)))))) qy)
   (qg (qE (qq qT (pv 4) qf (qv _)) (ql (qt (qi (qc qh (qc (pdf d_law_term (qc (pv 0) (qc (qm zl (pv 1) qf) qd))) (qc (pdf d_law_body (qc (pv 0) (qc (qm zl (pv 1) qf) (qc (pv 2) qd)))) qd)))))) qy)
   (qg (qE (qq qT (pv 4) qf (qv _)) (qg (pst 7 qV.nd (pdf d_law_term (qc (pv 0) (qc (qm zl (pv 1) qf) qd))))
   (ql (qt (qi (qc qh (qc (pv 7) (qc (pdf d_law_body (qc (pv 0) (qc (qm zl (pv 1) qf) (qc (pv 2) qd)))) (qc (pdf d_law_body (qc (pv 0) (qc (qm zl (pv 1) qf) (qc (pv 2) qd)))) qd)))))))) qy)
   (qg (V2 (i:=8) qV.nd rfl (by first | exact Or.inl rfl | exact Or.inr rfl) (sc:=qo zN) (NX:=["_law_state","_law_deep","_law_may_hand","_law_number_here","_law_kind","_law_name","_law_word_here","_law_test","_law_bodies"]) (N:=["_law_turn","_law_state","_law_may_hand","_law_deep"]) (js:=[none,some 0,some 2,some 1]) (zP rfl c.range_ (qc qf qd)) (fun _ _ _ _ _=>(zb (i:=0) (show (["_law_turn","_law_state","_law_may_hand","_law_deep"]:List Str).Nodup from ∅) rfl (Or.inl rfl))) (fun _ _ _ _ _=>zG) (fun _ _ _ _ _=>(pdf d_law_body (qc (pv 1) (qc (qm zl (pv 3) qf) (qc (pv 2) qd))))) (zd rfl) ⟨∅,rfl,∅,∅,rfl,∅⟩)
   (ql (qt (qi (qc qh (qc (pix K (pv 8) qf) (qc (pv 6) (qc (pv 5) (qc (pix K (pv 8) qf) (qc (pix K (pv 8) qf) qd)))))))))))))))))))))),?_⟩
 clear hu;refine ⟨_,rfl,st,a,nm,ns,k,l,rfl,di.dict,di.cells,pp.2.1,(by have:=pp.2.2;omega),fun z H1 hz0 hz1 e1=>?_⟩
 have di1:DIn K H1 st a nm ns names (k+1) l:=e1▸di.put;have sy1:Stay st H H1:=e1▸Stay.put di.dict;clear e1;refine ⟨_,rfl,_,_,rfl,(by rw [← vg a (k+1) l nm];exact jR.k (k:=Sum.inr "left") di1.dict),_,_,rfl,rfl,?_⟩
 refine ⟨_,rfl,st,upd H1 st (.dK (stK a (k+1) (l - 1) nm)),rfl,(by rw [← wc a (k+1) l nm (l - 1)];exact W9.k (k:=Sum.inr "left") di1.dict (Bx (show 4≤1000 from O0) O0)),?_⟩
 have di2:DIn K (upd H1 st (.dK (stK a (k+1) (l - 1) nm))) st a nm ns names (k+1) (l - 1):=di1.put;have sy2:Stay st H (upd H1 st (.dK (stK a (k+1) (l - 1) nm))):=sy1.trans (Stay.put di1.dict);generalize upd H1 st (.dK (stK a (k+1) (l - 1) nm))=H2 at di2 sy2 ⊢;have gL:∀ H',qp H2 H'→jR H' st (.str "left") (some (.int (l - 1))):=fun H' g=>by rw [← vg a (k+1) (l - 1) nm];exact jR.k (k:=Sum.inr "left") (di2.same g).dict
 have gN:jR H2 st (.str "names") (some (.ref nm)):=by rw [← yf a (k+1) (l - 1) nm];exact jR.k (k:=Sum.inr "names") di2.dict
 have hnl:0<names.length:=di.good.len;obtain ⟨v,hv,x,rfl,hx⟩:=vp (xs:=names.map V.str) (i:=z / 10 % (((names.map V.str).length:Nat):Int)) (p:=fun v=>∃ x,v= .str x∧Tre.qZ x=true∧x∈names) (fun y hy=>by
  obtain ⟨x,hx,rfl⟩:=Cg.mp hy;exact ⟨x,rfl,di.good.good x hx,hx⟩) (Az _ (by rw [An];omega)) (Aw _ (by rw [An];omega))
 refine ⟨_,rfl,_,_,rfl,rfl,(show (0:Int)<10 from O0),?_⟩;refine ⟨_,rfl,st,_,rfl,gN,_,rfl,_,_,rfl,rfl,⟨O0,O0⟩,_,rfl,st,_,rfl,gN,_,_,rfl,.inl ⟨_,di2.nms,rfl⟩,_,_,rfl,rfl,(show (0:Int)<(((names.map V.str).length:Nat):Int) by rw [An];omega),.inl ⟨_,_,_,_,rfl,rfl,di2.nms,hv,?_⟩⟩
 obtain ⟨v,hv2,wd,rfl,hw⟩:=vp (xs:=[V.str "great",V.str "kind",V.str "any",V.str "unset",V.str x]) (i:=z / 100 % 5) (p:=fun v=>∃ x,v= .str x∧Tre.qZ x=true∧x∈Tre.vP++names) (fun y hy=>by
  simp only [Av,Bg,or_false] at hy;rcases hy with rfl | rfl | rfl | rfl | rfl
  ·exact ⟨_,rfl,∅,Bt _ ∅⟩
  ·exact ⟨_,rfl,∅,Bt _ ∅⟩
  ·exact ⟨_,rfl,∅,Bt _ ∅⟩
  ·exact ⟨_,rfl,∅,Bt _ ∅⟩
  ·exact ⟨_,rfl,hx.1,A9 _ hx.2⟩) (Az _ O0) (Aw _ O0)
 refine ⟨_,rfl,(O0:5≤Af),fun p0 hp0=>⟨_,rfl,_,_,rfl,rfl,⟨O0,O0⟩,_,_,rfl,rfl,(show (0:Int)<5 from O0),.inl ⟨p0,_,_,_,rfl,rfl,SqL.of upd_same,hv2,?_⟩⟩⟩;have gp0:=qj hp0 (.lst [V.str "great",V.str "kind",V.str "any",V.str "unset",V.str x]);have gL':=gL _ gp0;have di3:=di2.same gp0;have sy3:=sy2.then gp0;clear gL gN hv hv2 di2 sy2 di1 sy1;dsimp only;generalize upd H2 p0 (.lst [V.str "great",V.str "kind",V.str "any",V.str "unset",V.str x])=H3 at gL' di3 sy3 ⊢;refine ⟨_,rfl,_,_,rfl,rfl,_,rfl,?_⟩;have kz0:=Az z (show (10:Int)≠0 from O0);have kz1:=Aw z (show (0:Int)<10 from O0);have km0:=Az (z % 10) (show (5:Int)≠0 from O0);have km1:=Aw (z % 10) (show (0:Int)<5 from O0);refine vt (fun c1=>zV ⟨_,rfl,_,_,rfl,rfl,(show (0:Int)<5 from O0),?g1⟩) (fun c1=>⟨_,rfl,st,_,rfl,gL',_,_,rfl,rfl,_,rfl,vt (fun c2=>⟨_,rfl,_,_,rfl,rfl,(show (0:Int)<5 from O0),?g2⟩) (fun c2=>?g3)⟩)
 case g1=>
  have hkd:0≤z % 10 % 5∧z % 10 % 5<10∧(deep<2∨l - 1<0→z % 10 % 5<5):=⟨km0,⋯,fun _=>km1⟩;exact wa (m:=n - 1) ⟨⋯,⋯⟩ hB pp q hx hw di3 sy3 hkd
 case g2=>
  have hkd:0≤z % 10 % 5∧z % 10 % 5<10∧(deep<2∨l - 1<0→z % 10 % 5<5):=⟨km0,⋯,fun _=>km1⟩;exact wa (m:=n - 1) ⟨⋯,⋯⟩ hB pp q hx hw di3 sy3 hkd
 case g3=>
  have c1':¬ deep<2:=by simpa using c1
  have c2':¬ l - 1<0:=by simpa using c2
  have hkd:0≤z % 10∧z % 10<10∧(deep<2∨l - 1<0→z % 10<5):=⟨kz0,kz1,fun h=>⋯⟩;exact wa (m:=n - 1) ⟨⋯,⋯⟩ hB pp q hx hw di3 sy3 hkd
end
end Mine
namespace L2
open PySem PySem.Spec PyProof.Rows
section
variable {K:Frag} {H:Hp}
theorem Rd.put {p b:Ac} {zs:List V} {o o':HO} (hp:H p=some (.lst zs)) (hd:∀ l,o≠ .lst l) (h:Rd H b o):Rd (upd H p o') b o:=by
 rcases h with h | ⟨ob,h⟩
 ·refine .inl ?_;rw [qB fun z=>by rw [z,hp] at h;exact hd _ (Bj h).symm]
  exact h
 ·refine .inr ⟨ob,?_⟩;rw [qB fun z=>by rw [z,hp] at h;cases h]
  exact h
theorem SqT.put {p b:Ac} {zs xs:List V} {o':HO} (hp:H p=some (.lst zs)) (h:SqT K H b xs):SqT K (upd H p o') b xs:=by
 rcases h with h | h
 ·exact .inl (Rd.put hp (fun l z=>by cases z) h)
 ·exact .inr h
mutual
theorem Rep.tups {H':Hp} (g:∀ {a:Ac} {xs:List V},SqT K H a xs→SqT K H' a xs):∀ {x:V} {d:Aa},Rep K H x d→Tre.noL d=true→Rep K H' x d
 | _,_,.non,_=> .non
 | _,_,.bl b,_=> .bl b
 | _,_,.int i,_=> .int i
 | _,_,.str x,_=> .str x
 | _,_,.lst h r,n=>by cases n
 | _,_,.tup h r,n=> .tup (g h) (Reps.tups g r (by rw [Tre.noL] at n;exact n))
theorem Reps.tups {H':Hp} (g:∀ {a:Ac} {xs:List V},SqT K H a xs→SqT K H' a xs):∀ {xs:List V} {ds:List Aa},Reps K H xs ds→Tre.jP ds=true→Reps K H' xs ds
 | _,_,.nil,_=> .nil
 | _,_,.cons h t,n=>by
  rw [Tre.jP,Ao] at n;exact .cons (Rep.tups g h n.1) (Reps.tups g t n.2)
end
theorem Rep.put {p:Ac} {zs:List V} {o':HO} (hp:H p=some (.lst zs)) {x:V} {d:Aa} (h:Rep K H x d) (n:Tre.noL d=true):Rep K (upd H p o') x d:=h.tups (fun h=>h.put hp) n
theorem Reps.put {p:Ac} {zs:List V} {o':HO} (hp:H p=some (.lst zs)) {xs:List V} {ds:List Aa} (h:Reps K H xs ds) (n:Tre.jP ds=true):Reps K (upd H p o') xs ds:=h.tups (fun h=>h.put hp) n
end
end L2
namespace Mine
open PySem L2
section
variable {P:Program} {w:World} {K:Frag} {mg:Str→Option Ab} {base:Heap} {f:Ac} {fd:FuncData} {ad:Ad}
structure Known (K:Frag) (mg:Str→Option Ab) (x:Str) (ps:List Str) (f:Ac) (fd:FuncData):Prop where
 binds:Js K fd ps []
 keep:PySem.W.keepIn K (.ref f)=true
 name:mg x=some (.ref f)
theorem Known.out {x:Str} {ps:List Str} {lv:Nat} {sp:Sp} (k:Known K mg x ps f fd) (F:FnOk P w K mg base CX0 lv f fd ps sp):Def P w K mg base lv x ps sp:=⟨f,fd,F,k.binds,k.keep,k.name⟩
theorem v9 {ps:List Str} {lv:Nat}:FnOk P w K mg base CX0 lv f fd ps (fun _ _ _ _=>False):=⟨fun _ _ _ _ h=>h.elim,fun _ _ _ _ _ _ _ _ _ _ _ _ _ h=>h.elim⟩
theorem Def.up {x:Str} {ps:List Str} {sp:Sp} {j k:Nat} (d:Def P w K mg base j x ps sp) (h:j≤k):Def P w K mg base k x ps sp:=by
 obtain ⟨f,fd,F,r⟩:=d.ex;exact ⟨f,fd,F.mono h,r⟩
theorem drawn {fT fS fB:Ac} {dT dS dB:FuncData} (FT:Fun K "_law_term" "_law_term" j6 fT dT) (FS:Fun K "_law_statement" "_law_statement" zN fS dS) (FB:Fun K "_law_body" "_law_body" Ja fB dB) (kT:Known K mg "_law_term" ["_law_state","_law_deep"] fT dT)
  (kS:Known K mg "_law_statement" ["_law_state","_law_deep","_law_may_hand"] fS dS) (kB:Known K mg "_law_body" ["_law_state","_law_deep","_law_may_hand"] fB dB) (c:Cs K mg ad) (d_law_next:Def P w K mg base 2 "_law_next" ["_law_state"] (Jt K)) (d_law_number:Def P w K mg base 1 "_law_number" ["_law_more"] vU):
  ∀ n:Nat,Def P w K mg base (4*n+4) "_law_term" ["_law_state","_law_deep"] (JA K n)∧Def P w K mg base (4*n+5) "_law_statement" ["_law_state","_law_deep","_law_may_hand"] (wS K n)∧Def P w K mg base (4*n+6) "_law_body" ["_law_state","_law_deep","_law_may_hand"] (JV K n)
 | 0=>by
  have t:=kT.out (VG FT c 0 _ _ (fun h=>absurd h O0) (fun h=>absurd h O0) d_law_next d_law_number (kT.out v9) (kB.out v9));have s:=kS.out (JC FS c 0 4 4 O0 O0 _ (fun h=>absurd h O0) d_law_next t (kB.out v9));exact ⟨t,s,kB.out (VH FB c 0 d_law_next s)⟩
 | n+1=>by
  obtain ⟨t0,s0,b0⟩:=drawn FT FS FB kT kS kB c d_law_next d_law_number n;have t:=kT.out (VG FT c (n+1) _ _ (fun _=>rfl) (fun _=>rfl) d_law_next d_law_number (Def.up t0 ⋯) (Def.up b0 ⋯));have s:=kS.out (JC FS c (n+1) (4*n+4) (4*n+6) ⋯ ⋯ _ (fun _=>rfl) d_law_next t0 b0);exact ⟨t,s,kB.out (VH FB c (n+1) d_law_next s)⟩
theorem yJ (a:Ac) (k l:Int) (nm:Ac):Jy [] (stK a k l nm)=stK a k l nm:=by
 have new:∀ (kvs:List (Key×V)) (x:Key) (v:V),(∀ kv∈kvs,¬ kv.1=x)→jx kvs x v=kvs++[(x,v)]:=fun kvs x v h=>by
  unfold jx;rw [if_neg];intro z;obtain ⟨kv,hkv,e⟩:=Cp.mp z;exact h kv hkv (A1 e)
 unfold Jy stK;rw [Cc,Cc,Cc,Cc,List.foldl_nil];have e1:jx ([]:List (Key×V)) (Sum.inr "cells") (V.ref a)=[((Sum.inr "cells":Key),V.ref a)]:=new [] (Sum.inr "cells") (V.ref a) fun kv h=>nomatch h;have e2:jx [((Sum.inr "cells":Key),V.ref a)] (Sum.inr "at") (V.int k)=[((Sum.inr "cells":Key),V.ref a),((Sum.inr "at":Key),V.int k)]:=new [((Sum.inr "cells":Key),V.ref a)] (Sum.inr "at") (V.int k) fun kv h=>by
  cases B5.mp h;exact qck
 have e3:jx [((Sum.inr "cells":Key),V.ref a),((Sum.inr "at":Key),V.int k)] (Sum.inr "left") (V.int l)=[((Sum.inr "cells":Key),V.ref a),((Sum.inr "at":Key),V.int k),((Sum.inr "left":Key),V.int l)]:=new [((Sum.inr "cells":Key),V.ref a),((Sum.inr "at":Key),V.int k)] (Sum.inr "left") (V.int l) fun kv h=>by
  simp only [Av,Bg,or_false] at h;rcases h with rfl | rfl
  ·exact qcj
  ·exact qcl
 have e4:jx [((Sum.inr "cells":Key),V.ref a),((Sum.inr "at":Key),V.int k),((Sum.inr "left":Key),V.int l)] (Sum.inr "names") (V.ref nm)=[((Sum.inr "cells":Key),V.ref a),((Sum.inr "at":Key),V.int k),((Sum.inr "left":Key),V.int l),((Sum.inr "names":Key),V.ref nm)]:=new [((Sum.inr "cells":Key),V.ref a),((Sum.inr "at":Key),V.int k),((Sum.inr "left":Key),V.int l)] (Sum.inr "names") (V.ref nm) fun kv h=>by
  simp only [Av,Bg,or_false] at h;rcases h with rfl | rfl | rfl
  ·exact qeq
  ·exact qer
  ·exact qep
 rw [e1,e2,e3,e4]
theorem qad {A B:Prop} (h:if false=true then A else B):B:=by simpa using h
theorem XZ {names:List Str} (g:Nms names) {hi:Int} (h0:0≤hi) (h1:hi≤4):∃ cut:List Str,JP (names.map V.str) none (some hi)=cut.map V.str∧Tre.areNames (.tuple (cut.map PyData.str))=true∧∀ x∈cut,Tre.qZ x=true∧x∈names:=by
 refine ⟨names.take hi.toNat,?_,?_,fun x hx=>⟨g.good x (B6 hx),B6 hx⟩⟩
 ·rw [Ve _ _ hi.toNat ⋯,List.map_take]
 ·have hl:(names.take hi.toNat).length≤4:=by
   have:=Bl hi.toNat names;omega
  have hsub:∀ x∈names.take hi.toNat,Tre.qZ x=true:=fun x hx=>g.good x (B6 hx);have hnd:(names.take hi.toNat).Nodup:=g.nd.take;generalize names.take hi.toNat=cut at hl hsub hnd;simp only [Tre.areNames];rw [An,Ai hl,Bw,Bp,Ao];refine ⟨?_,Ai ?_⟩
  ·rw [Ct];exact A3.mpr fun x hx=>hsub x hx
  ·have e:(Tre.txt ∘ PyData.str)=id:=rfl;rw [e,List.map_id];exact hnd
theorem qag {ds:List Aa} {hands:Bool} {s t:Nat} (h:Tre.Ptl (ds.map fun x=>(x,("statement":Str))) hands s t):Tre.jP ds=true:=by
 have q:=h.tr;rw [Bp] at q;have e:((fun x:Aa×Str=>x.1) ∘ fun x:Aa=>(x,("statement":Str)))=id:=rfl;rw [e,List.map_id] at q;exact (Tre.Yz q.gd).1
def ZD (K:Frag):Sp:=fun vs H Q _=>∃ (a:Ac) (ns:List Int) (l0:Int),0≤l0∧l0≤40∧vs=[.ref a,.int l0]∧SqL K H a (ns.map V.int)∧∀ H' x d s t (names:List Str),qp H H'→Rep K H' x d→0<names.length→Tre.Ft names d→Tre.Pt d "program" false s t→s≤300→t≤12→Q x H'
theorem wv (F:Fun K "_law_program" "_law_program" Jv f fd) (c:Cs K mg ad) (d_law_cell_at:Def P w K mg base 1 "_law_cell_at" ["_law_script","_law_k"] (Ww K)) (d_law_names:Def P w K mg base 1 "_law_names" ["_law_cell","_law_many_here"] YS) (d_law_next:Def P w K mg base 2 "_law_next" ["_law_state"] (Jt K))
  (d_law_statement:Def P w K mg base 33 "_law_statement" ["_law_state","_law_deep","_law_may_hand"] (wS K 7)):FnOk P w K mg base CX0 34 f fd ["_law_script","_law_most"] (ZD K):=by
 refine F.ok jr (fun vs H Q E h=>?_) (fun cdv A outer s H vs Q E hr h=>?_)
 ·obtain ⟨a,ns,l0,_,_,rfl,_⟩:=h;rfl
 obtain ⟨a,ns,l0,hl00,hl40,rfl,hS,q⟩:=h;have hu:=Wc hr;refine ⟨_,(qg (pst 2 jr.nd (pdf d_law_names (qc (qm qA (qm J6 (pdf d_law_cell_at (qc (pv 0) (qc qf qd))) qf) qf) (qc qf qd))))
   (qg (pst 3 jr.nd (v6 (qW qh (pv 0) (qW qh qf (qW qh (pv 1) (qW qh (pv 2) v3)))) rfl rfl (by intro z;cases z) O0))
   (qg (pst 4 jr.nd (qX qd))
   (qg (wq Df (PW.pt (Jx (qq VF (jf hu (pv 3) qh (fun _ _=>rfl)) qf (qv _)) (jJ (qq Jf (qu (ja (K:=K) rfl) (by rfl) c.len_ zp (qc (pv 4) qd)) (qm qY qf (qm qA (pdf d_law_cell_at (qc (pv 0) (qc qf qd))) qf)) (qv _))))) (ql (zJ (wG (K:=K) rfl B1 Ce Cf jZ (pv 4) (qc (pdf d_law_statement (qc (pv 3) (qc (qm qY qf (qm qA (pdf d_law_next (qc (pv 3) qd)) qf)) (qc zr qd)))) qd)))))
   (ql (qt (qi (qc qh (qc (zt (vR (K:=K) rfl) (by rfl) c.tuple_ zO (qc (zX (Xv (K:=K) rfl) (pv 2) jK (je (qm qA (pdf d_law_cell_at (qc (pv 0) (qc qf qd))) qf))) qd)) (qc (zt (vR (K:=K) rfl) (by rfl) c.tuple_ zO (qc (pv 4) qd)) qd)))))))))),?_⟩
 clear hu;refine ⟨_,rfl,a,ns,_,rfl,hS,O0,fun i0=>⟨_,_,rfl,rfl,.inr ⟨O0,O0⟩,_,_,rfl,rfl,(show (0:Int)<2147483647 from O0),?_⟩⟩;refine ⟨_,rfl,Az _ O0,Aw _ O0,fun names nm H1 good g1 hnm=>?_⟩;refine fun st hst=>⟨_,rfl,_,rfl,_,rfl,upd_same,stK a 0 l0 nm,rfl,(O0:4≤15),?_⟩;rw [yJ];have u2:upd (upd H1 st (.dK [])) st (.dK (stK a 0 l0 nm))=upd H1 st (.dK (stK a 0 l0 nm)):=by
  funext b;unfold upd;split <;> rfl
 rw [u2];have gst:=qj hst (.dK (stK a 0 l0 nm));have di0:DIn K (upd H1 st (.dK (stK a 0 l0 nm))) st a nm ns names 0 l0:=⟨upd_same,gst.seq (g1.seq hS),gst.seq (SqL.of hnm),good⟩;have hst0:H st=none:=g1.free hst;have g2:=g1.trans gst;have hn2:=gst _ _ hnm;have nst:nm≠st:=fun z=>by rw [z,hst] at hnm;cases hnm
 generalize upd H1 st (.dK (stK a 0 l0 nm))=H2 at di0 g2 hn2 ⊢;refine ⟨(O0:0≤Af),fun pb hpb=>?_⟩;have hpb0:H pb=none:=g2.free hpb;have gpb:=qj hpb (.lst []);have nsp:pb≠st:=fun z=>by rw [z,di0.dict] at hpb;cases hpb
 have npb:nm≠pb:=fun z=>by rw [z,hpb] at hn2;cases hn2
 refine ⟨fun m σ H'=>H' nm=some (.lst (names.map V.str))∧∃ ys ds k' l' s t,σ=[some (.ref a),some (.int l0),some (.ref nm),some (.ref st),some (.ref pb)]∧qp H H'∧DIn K H' st a nm ns names k' l'∧H' pb=some (.lst ys)∧Reps K H' ys ds∧Tre.Fts names ds∧Tre.Ptl (ds.map fun x=>(x,("statement":Str))) true s t∧
  Bud.WI l0 ds.length m s t k' l',⟨6,gpb _ _ hn2,[],[],0,l0,0,0,rfl,g2.trans gpb,di0.same gpb,upd_same,.nil,.nil,.nil,.nil hl00 hl40⟩,?_⟩
 rintro m σ H3 ⟨hn3,ys,ds,k',l',s,t,rfl,g3,di3,hb3,rs3,ff3,pt3,wi⟩;have gL:jR H3 st (.str "left") (some (.int l')):=by rw [← vg a k' l' nm];exact jR.k (k:=Sum.inr "left") di3.dict
 have hln:=rs3.length;refine ⟨_,rfl,st,_,rfl,gL,_,_,rfl,rfl,_,rfl,?_⟩;refine qe4 (fun c1 hB=>?_) ?_
 ·have c1':0<l':=A1 c1;refine ⟨_,rfl,_,_,rfl,.inl ⟨_,SqL.of hb3,rfl⟩,_,rfl,a,ns,_,rfl,di3.cells,O0,fun i1=>⟨_,_,rfl,rfl,(show (0:Int)<6 from O0),.inl ⟨_,_,rfl,rfl,_,_,rfl,rfl,_,rfl,vt (fun c2=>?_) (fun c2=>qad hB)⟩⟩⟩;have c2':((ys.length:Nat):Int)<1+i1 % 6:=A1 c2;have c3:=Aw i1 (show (0:Int)<6 from O0);refine ⟨_,fun σ' H' h=>h,?_⟩;refine ⟨_,rfl,.inl ⟨rfl,_,SqL.of hb3⟩,_,rfl,_,rfl,st,a,nm,ns,k',l',rfl,di3.dict,di3.cells,wi.2.2.2.1,(by have:=wi.2.2.2;omega),fun z H4 hz0 hz1 e4=>?_⟩
  have di4:DIn K H4 st a nm ns names (k'+1) l':=e4▸di3.put;have sy4:Stay st H3 H4:=e4▸Stay.put di3.dict;clear e4;have z0:=Az z (show (6:Int)≠0 from O0);have z1:=Aw z (show (0:Int)<6 from O0);refine ⟨_,_,rfl,rfl,(show (0:Int)<6 from O0),.inl ⟨_,_,rfl,rfl,qbi di4 (wi.pre (show 2+z % 6≤7 from ⋯)) fun H5 x d s2 t2 k2 l2 sy5 di5 rx fx px b2=>?_⟩⟩;have sy:=sy4.trans sy5;have hb5:H5 pb=some (.lst ys):=sy.rest _ _ nsp hb3;refine ⟨pb,_,_,rfl,rfl,hb5,by have:(10:Nat)<Af:=O0;omega,?_⟩
  have nx:Tre.noL d=true:=(Tre.Tr.gd px.tr).nol;have sm:qp H (upd H5 pb (.lst (ys++[x]))):=fun b o e=>by
   have nb:b≠pb:=fun z=>by rw [z,hpb0] at e;cases e
   have nt:b≠st:=fun z=>by rw [z,hst0] at e;cases e
   rw [qB nb];exact sy.rest b o nt (g3 b o e)
  have hn5:upd H5 pb (.lst (ys++[x])) nm=some (.lst (names.map V.str)):=by
   rw [qB npb];exact sy.rest _ _ nst hn3
  have wj:Bud.WI l0 (ds++[d]).length (m - 1) (s+s2) (max t t2) k2 l2:=by
   rw [A8];exact wi.snoc c1' ⋯ b2
  refine ⟨m - 1,by have:=wi.1;omega,hn5,ys++[x],ds++[d],k2,l2,s+s2,max t t2,rfl,sm,⟨by rw [qB (Ne.symm nsp)];exact di5.dict,sm.seq hS,SqL.of hn5,good⟩,upd_same,?_,ff3.snoc fx,?_,wj⟩
  ·exact Reps.put hb5 ((rs3.stay sy).append (.cons rx .nil)) (qag (ds:=ds++[d]) (by rw [Bc];exact pt3.append (Tre.jv px)))
  ·rw [Bc];exact pt3.append (Tre.jv px)
 ·obtain ⟨hm3,hs3,ht3,hk3,hkl3,hl3⟩:=wi;refine zn rfl ?_;refine ⟨_,rfl,_,rfl,a,ns,_,rfl,di3.cells,O0,fun i2=>⟨_,_,rfl,rfl,(show (0:Int)<5 from O0),_,rfl,.inl ⟨nm,_,rfl,di3.nms,fun p2 hp2=>⟨p2,_,rfl,.inl ⟨SqL.of upd_same,fun p3 hp3=>?_⟩⟩⟩⟩⟩;have m0:=Az i2 (show (5:Int)≠0 from O0);have m1:=Aw i2 (show (0:Int)<5 from O0);obtain ⟨cut,ecut,hcut,hgood⟩:=XZ good m0 ⋯;dsimp only at hp3 ⊢;rw [ecut] at hp3 ⊢;have g4:=qj hp2 (.lst (cut.map V.str));have g5:=qj hp3 (.tup (cut.map V.str));have h3:upd (upd H3 p2 (.lst (cut.map V.str))) p3 (.tup (cut.map V.str)) p3=some (.tup (cut.map V.str)):=upd_same;have g45:=g4.trans g5;generalize upd (upd H3 p2 (.lst (cut.map V.str))) p3 (.tup (cut.map V.str))=H4 at h3 g45 ⊢;refine ⟨_,rfl,pb,ys,rfl,.inl ⟨SqL.of (g45 _ _ hb3),fun p4 hp4=>⟨(O0:3≤Af),fun p5 hp5=>?_⟩⟩⟩;have ga:=qj hp4 (.tup ys);have gb:=qj hp5 (.tup [.str "main",.ref p3,.ref p4]);have gc:=ga.trans gb;have fcut:Tre.Fts names (cut.map PyData.str):= .of fun d hd=>by
   obtain ⟨x,hx,rfl⟩:=Cg.mp hd;exact .name (hgood x hx).1 (A9 _ (hgood x hx).2)
  refine q _ _ (.tuple [.str "main",.tuple (cut.map PyData.str),.tuple ds]) (s+1) (t+1) names ((g3.trans g45).trans gc) (.tup (SqT.of upd_same) (.cons (.str _) (.cons (.tup (gc.sqT (SqT.of h3)) (Reps.strs cut)) (.cons (.tup (gb.sqT (SqT.of upd_same)) ((rs3.same g45).same gc)) .nil)))) good.len ?_ (Tre.QY hcut ⟨⋯,pt3⟩) ⋯ ⋯;exact Tre.Fts.tup (.cons (.word ∅) (.cons fcut.tup (.cons ff3.tup .nil)))
end
end Mine
set_option tactic.hygienic true
namespace Mine
open PySem L2
section
variable {P:Program} {w:World} {K:Frag} {mg:Str→Option Ab} {base:Heap} {f:Ac} {fd:FuncData} {ad:Ad}
def wf (K:Frag) (ad:Ad):Sp:=fun vs H _ E=>∃ x d,vs=[x]∧Rep K H x d∧Tre.fit d=true∧Tre.qR d=false∧∀ H',qp H H'→E (.ref ad.BadTree) none H'
theorem VX (F:Fun K "functions_of" "functions_of" Jc f fd) (_:Cs K mg ad) (d_need_program:DefX P w K mg base 6 "need_program" ["thing"] (we K ad)):FnOk P w K mg base (CX1 P w) 7 f fd ["program"] (wf K ad):=by
 refine F.ok1 VS (fun vs H Q E h=>?_) (fun cdv A outer s H vs Q E hr h=>?_)
 ·obtain ⟨x,d,rfl,_⟩:=h;rfl
 obtain ⟨x,d,rfl,r,ft,no,q⟩:=h;refine ⟨_,(qg (zJ (Jo d_need_program (hr.mono (by first | decide | omega)) Z2 (qc (pv 0) qd))) Yk),?_⟩
 exact ⟨_,rfl,x,d,rfl,r,ft,fun z=>absurd (no.symm.trans z) Am,fun _=>q⟩
theorem Z3 (F:Fun K "shown" "shown" WB f fd) (_:Cs K mg ad) (d_need_program:DefX P w K mg base 6 "need_program" ["thing"] (we K ad)):FnOk P w K mg base (CX1 P w) 7 f fd ["program"] (wf K ad):=by
 refine F.ok1 ZP (fun vs H Q E h=>?_) (fun cdv A outer s H vs Q E hr h=>?_)
 ·obtain ⟨x,d,rfl,_⟩:=h;rfl
 obtain ⟨x,d,rfl,r,ft,no,q⟩:=h;refine ⟨_,(qg (zJ (Jo d_need_program (hr.mono (by first | decide | omega)) Z2 (qc (pv 0) qd))) Yk),?_⟩
 exact ⟨_,rfl,x,d,rfl,r,ft,fun z=>absurd (no.symm.trans z) Am,fun _=>q⟩
theorem WK (F:Fun K "scopes_of" "scopes_of" Jm f fd) (_:Cs K mg ad) (d_functions_of:DefX P w K mg base 7 "functions_of" ["program"] (wf K ad)):FnOk P w K mg base (CX1 P w) 8 f fd ["program"] (wf K ad):=by
 refine F.ok1 vV (fun vs H Q E h=>?_) (fun cdv A outer s H vs Q E hr h=>?_)
 ·obtain ⟨x,d,rfl,_⟩:=h;rfl
 obtain ⟨x,d,rfl,r,ft,no,q⟩:=h;refine ⟨_,(qg (V2 (i:=1) vV.nd rfl (by first | exact Or.inl rfl | exact Or.inr rfl) (sc:=qo Jm) (NX:=["program","scopes","number","scope","name"]) (N:=["function"]) (js:=[none]) (Vp (K:=K) rfl (Jo d_functions_of (hr.mono (by first | decide | omega)) Z2 (qc (pv 0) qd))) (fun _ _ _ _ _=>(zb (i:=0) (show (["function"]:List Str).Nodup from ∅) rfl (Or.inl rfl))) (fun _ _ _ _ _=>zG) (fun _ _ _ _ _=>qeh) (zd rfl) ⟨∅,rfl,∅,∅,rfl,∅⟩) Yk),?_⟩
 exact ⟨_,rfl,x,d,rfl,r,ft,no,q⟩
def ZA (ad:Ad):Sp:=fun vs H Q _=>∃ ea,vs=[.ref ea]∧H ea=some (YB ea ad.BadTree)∧∀ H',qp H H'→Q (.bl true) H'
theorem yt (F:Fun K "_law_word" "_law_word" vF f fd) (c:Cs K mg ad):FnOkS P w K mg base CX0 1 f fd ["_law_e"] (ZA ad):=by
 refine F.okS VC (fun vs H Q E h=>?_) (fun cdv A outer s H vs Q E hr h=>?_)
 ·obtain ⟨ea,rfl,_⟩:=h;rfl
 obtain ⟨ea,rfl,h0,q⟩:=h;refine ⟨_,(qg (pst 1 VC.nd (qbb (qu (WZ (K:=K) rfl) (by rfl) c.isinstance_ qz (qc (pv 0) (qc (qi (qc (v5 c.v_BadText) (qc (v5 c.v_BadName) (qc (v5 c.v_BadCount) qd)))) qd))) (Jd (qu (WZ (K:=K) rfl) (by rfl) c.isinstance_ qz (qc (pv 0) (qc (qi (qc (v5 c.v_BadCode) (qc (v5 c.v_NoThing) qd))) qd))))))
   (ql (qt (jF (qu (WZ (K:=K) rfl) (by rfl) c.isinstance_ qz (qc (pv 0) (qc (v5 c.v_BadTree) qd))) (jF (qu (WZ (K:=K) rfl) (by rfl) c.isinstance_ qz (qc (pv 0) (qc (jn c.ValueError_ wN) qd))) (Jd (Z1 (pv 1)))))))),?_⟩
 refine ⟨_,rfl,(by show 3≤Af;decide),fun p hp=>?_⟩
 have g1:=qj hp (.tup [.ref ad.BadText,.ref ad.BadName,.ref ad.BadCount]);have h1:=g1 _ _ h0;refine ⟨ea,ad.BadTree,_,false,rfl,h1,c.k_BadTree,.inr ⟨p,_,_,rfl,upd_same,rfl,c.i1⟩,_,rfl,jl ?_⟩;generalize upd H p (.tup [.ref ad.BadText,.ref ad.BadName,.ref ad.BadCount])=H3 at g1 h1 ⊢;refine ⟨_,rfl,(by show 2≤Af;decide),fun p' hp'=>?_⟩
 have g2:=qj hp' (.tup [.ref ad.BadCode,.ref ad.NoThing]);have h2:=g2 _ _ h1;refine ⟨ea,ad.BadTree,_,false,rfl,h2,c.k_BadTree,.inr ⟨p',_,_,rfl,upd_same,rfl,c.i2⟩,?_⟩;generalize upd H3 p' (.tup [.ref ad.BadCode,.ref ad.NoThing])=H4 at g2 h2 ⊢;refine ⟨_,rfl,ea,ad.BadTree,_,true,rfl,h2,c.k_BadTree,.inl ⟨_,rfl,c.i3⟩,_,rfl,zV ?_⟩;refine ⟨_,rfl,ea,ad.BadTree,_,true,rfl,h2,c.k_BadTree,.inl ⟨_,rfl,c.i4⟩,_,rfl,zV ?_⟩;exact ⟨_,rfl,_,rfl,q H4 (g1.trans g2)⟩
def ZC (K:Frag):Sp:=fun vs H Q _=>∃ (i:Int) (x:V) (d:Aa),vs=[.int i,x]∧Rep K H x d∧Tre.fit d=true∧Tre.qR d=false∧∀ H',qp H H'→Q (.bl true) H'
theorem wu (F:Fun K "_law_refused" "_law_refused" Ju f fd) (c:Cs K mg ad) (d_need_program:DefX P w K mg base 6 "need_program" ["thing"] (we K ad)) (d_shown:DefX P w K mg base 7 "shown" ["program"] (wf K ad)) (d_functions_of:DefX P w K mg base 7 "functions_of" ["program"] (wf K ad))
  (d_scopes_of:DefX P w K mg base 8 "scopes_of" ["program"] (wf K ad)) (d_law_word:DefS P w K mg base 1 "_law_word" ["_law_e"] (ZA ad)):FnOk P w K mg base CX0 9 f fd ["_law_way","_law_thing"] (ZC K):=by
 refine F.ok JW (fun vs H Q E h=>?_) (fun cdv A outer s H vs Q E hr h=>?_)
 ·obtain ⟨i,x,d,rfl,_⟩:=h;rfl
 obtain ⟨i,x,d,rfl,r,ft,no,q⟩:=h;refine ⟨_,(qg (qb4 (i:=2) (K:=K) rfl (fun _ _=>(ql (qE (qq qT (pv 0) qf (qv _)) (ql (zJ (Jo d_need_program (hr.mono (by first | decide | omega)) Y0 (qc (pv 1) qd)))) (ql (qE (qq qT (pv 0) qf (qv _)) (ql (zJ (Jo d_shown (hr.mono (by first | decide | omega)) Y0 (qc (pv 1) qd)))) (ql (qE (qq qT (pv 0) qf (qv _)) (ql (zJ (Jo d_functions_of (hr.mono (by first | decide | omega)) Y0 (qc (pv 1) qd)))) (ql (zJ (Jo d_scopes_of (hr.mono (by first | decide | omega)) Y0 (qc (pv 1) qd))))))))))) (fun _=>(ql (qt (Q6 d_law_word ((hr.suite _).mono (by first | decide | omega)) (qc (pv 2) qd))))) c.m_LoomError JW.nd rfl)
   (ql (qt zr))),?_⟩
 have key:∀ H1,qp H H1→∀ ea,H1 ea=none→qp H (upd H1 ea (YB ea ad.BadTree)):=fun H1 g ea hea=>g.trans (qj hea _);refine yQ rfl (fun _=>?_) fun _=>yQ rfl (fun _=>?_) fun _=>yQ rfl (fun _=>?_) fun _=>?_
 ·exact ⟨_,rfl,x,d,rfl,r,ft,fun z=>absurd (no.symm.trans z) Am,fun _ H1 g=>⟨_,rfl,c.e1,fun ea hea=>⟨_,rfl,ea,rfl,upd_same,fun H2 g2=>q H2 ((key H1 g ea hea).trans g2)⟩⟩⟩
 all_goals exact ⟨_,rfl,x,d,rfl,r,ft,no,fun H1 g=>⟨_,rfl,c.e1,fun ea hea=>⟨_,rfl,ea,rfl,upd_same,fun H2 g2=>q H2 ((key H1 g ea hea).trans g2)⟩⟩⟩
theorem XH (c:Nat):decide (c∈(Str.ofString "abcdefghijklmnopqrstuvwxyz").cps.toList)=(decide (97≤c)&&decide (c≤122)):=by
 have e:(Str.ofString "abcdefghijklmnopqrstuvwxyz").cps.toList=[97,98,99,100,101,102,103,104,105,106,107,108,109,110,111,112,113,114,115,116,117,118,119,120,121,122]:=∅;rw [e,Cb,Ao,Bs,Bs,Bs];simp only [Av,Bg,or_false];omega
def bad (c:Nat):Bool:=!(decide (97≤c)&&decide (c≤122))
theorem Vk (p:Nat→Bool) (l:List Nat) (i c:Nat) (h:l[i]?=some c):(l.take (i+1)).filter p=(l.take i).filter p++if p c then [c] else []:=by
 rw [Br,h,List.filter_append]
 congr 1
 cases hq:p c <;> simp [hq]
theorem ww (F:Fun K "_law_is_name" "_law_is_name" jI f fd) (c:Cs K mg ad):FnOk P w K mg base CX0 1 f fd ["_law_thing"] (spD K Tre.qN):=by
 refine F.ok wl (fun vs H Q E h=>?_) (fun cdv A outer s H vs Q E hr h=>?_)
 ·obtain ⟨x,d,rfl,_⟩:=h;rfl
 obtain ⟨x,d,rfl,hk,ft,q⟩:=h;have hu64:=hr.units;refine ⟨_,(qg (qE (PW.pt (jd (zI (zh (qu (zK (K:=K) rfl) (by rfl) c.isinstance_ qz (qc (pv 0) (qc (jn c.str_ Jh) qd))))) (jd (qq qT (pv 0) qh (qv _)) (jt (qq VF (qu (ja (K:=K) rfl) (by rfl) c.len_ zp (qc (pv 0) qd)) qf (qv _)))))) (ql (qt zr)) qy)
   (ql (qt (zF (qav (K:=K) rfl (Bx (Nat.le_add_right _ _) hu64)) (zx (sc:=qo jI) (NX:=["_law_thing"]) (N:=["_law_sign"]) (js:=[none]) (Vp (K:=K) rfl (pv 0)) (fun _ _ _ _ _=>(zb (i:=0) (show (["_law_sign"]:List Str).Nodup from ∅) rfl (Or.inl rfl))) (fun _ _ _ _ _=>(qcb (qq WH (pv 0) qh rfl))) (fun _ _ _ _ _=>(pv 0)) (zd rfl) ⟨∅,rfl,∅,∅,rfl,∅⟩) (qX qd) (qv _))))),?_⟩
 have q0:=q H (qp.refl _);refine ⟨_,rfl,x,d,"str",rfl,hk,O0,?_⟩;cases hk with
 | str x=>
  have hx':x.length≤Af:=Y7 (by simpa [Tre.fit] using ft)
  have hl:x.length=x.cps.toList.length:=by simp [Str.length]
  have hsz:x.cps.size=x.cps.toList.length:=by simp
  refine ⟨_,rfl,jl ?_⟩;refine ⟨_,rfl,rfl,_,rfl,?_⟩
  by_cases he:x=Str.ofString ""
  ·refine zg (Ai (by rw [he])) ?_
   have e:Tre.qN (.str x)=false:=by
    rw [he];decide+kernel
   rw [e] at q0;exact q0
  ·refine zn (Al fun z=>he (V.str.inj z)) ?_;have h1:1≤x.length:=by
    rw [hl];cases hc:x.cps.toList with
    | nil=>
     refine absurd ?_ he;have:x.cps=(Str.ofString "").cps:=by
      apply Array.ext';rw [hc];decide+kernel
     cases x;exact congrArg Str.mk this
    | cons a r=>simp
   refine ⟨_,rfl,_,_,rfl,⟨hx',rfl⟩,_,_,rfl,rfl,_,rfl,?_⟩
   by_cases h8:x.length≤8
   ·refine zn (Al ⋯) ?_;refine ⟨_,rfl,.inr (.inr ⟨x,rfl,zL x.cps.size (fun i ys H'=>H'=H∧ys=((x.cps.toList.take i).filter bad).map fun c=>V.str ⟨#[c]⟩) ⟨rfl,rfl⟩ (fun i ys H' h=>?_) (by rw [hsz,← hl];exact hx') (fun i ys H' hi h=>?_) (fun ys H' h=>?_)⟩)⟩
    ·obtain ⟨_,rfl⟩:=h;rw [An];exact As (List.length_filter_le _ _) (Bl _ _)
    ·obtain ⟨rfl,rfl⟩:=h;refine ⟨hi,fun v H2 hy=>?_⟩;obtain ⟨rfl,cc,hcc,rfl⟩:=hy;have hcc':x.cps.toList[i]?=some cc:=by simpa using hcc
     have step:=Vk bad x.cps.toList i cc hcc';have hb:(!(!(Builtin.Str.occurrences (Str.ofString "abcdefghijklmnopqrstuvwxyz") ⟨#[cc]⟩ 0 (Str.ofString "abcdefghijklmnopqrstuvwxyz").length 1).isEmpty))=bad cc:=by
      rw [StrLaws.found_one,XH];rfl
     refine ⟨_,rfl,_,_,rfl,rfl,_,rfl,?_⟩;cases hq:bad cc with
     | true=>
      refine zg (hb.trans hq) ⟨_,rfl,rfl,?_⟩;rw [step,hq,Bc];rfl
     | false=>
      refine zn (hb.trans hq) ⟨rfl,?_⟩;rw [step,hq];simp
    ·obtain ⟨rfl,rfl⟩:=h;refine ⟨Aj _,fun D hD=>⟨(by show 0≤Af;decide),fun p hp=>?_⟩⟩
     have g1:=qj hD (.lst (((x.cps.toList.take x.cps.size).filter bad).map fun c=>V.str ⟨#[c]⟩));have g2:=qj hp (.lst []);refine ⟨D,p,_,rfl,rfl,SqL.of (g2 _ _ upd_same),SqL.of upd_same,?_⟩;have e:Tre.qN (.str x)=(((x.cps.toList.take x.cps.size).filter bad).map fun c=>V.str ⟨#[c]⟩).isEmpty:=by
      simp only [Tre.qN,Tre.qZ];rw [Ai h1,Ai h8,hsz,Bv,Bw,Bw];generalize x.cps.toList=l
      induction l with
      | nil=>rfl
      | cons a r ih=>
       rw [El,ih,List.filter_cons];cases hq:bad a with
       | true=>
        have:(decide (97≤a)&&decide (a≤122))=false:=by
         unfold bad at hq;simpa only [Cm] using hq
        rw [this];rfl
       | false=>
        have:(decide (97≤a)&&decide (a≤122))=true:=by
         unfold bad at hq;simpa only [Bool.not_eq_false'] using hq
        rw [this];rfl
     rw [← e];exact q _ (g1.trans g2)
   ·refine zg (Ai ⋯) ?_;have e:Tre.qN (.str x)=false:=by
     simp only [Tre.qN,Tre.qZ];rw [Al h8];simp
    rw [e] at q0;exact q0
 | _=>exact ⟨_,rfl,zV q0⟩
def qce:Option Str→V
 | some x=> .str x
 | none=> .non
theorem VB (l:List (Str×Str)) (h:Str):(vq (l.map fun p=>((Sum.inr p.1:Key),V.str p.2)) (Sum.inr h)).getD .non=qce (l.lookup h):=by
 induction l with
 | nil=>rfl
 | cons p r ih=>
  rw [A2,Bn]
  by_cases e:p.1=h
  ·rw [jM (show ((Sum.inr p.1:Key),V.str p.2).1=Sum.inr h by rw [e]),show (h==p.1)=true by rw [e];exact C6 h]
   rfl
  ·rw [jc (show ¬ ((Sum.inr p.1:Key),V.str p.2).1=Sum.inr h from fun z=>e (Sum.inr.inj z)),show (h==p.1)=false by rw [Bh];exact fun z=>e z.symm]
   exact ih
abbrev kvT (l:List (Str×Str)):List (Key×V):=l.map fun p=>((Sum.inr p.1:Key),V.str p.2)
theorem jV {H H':Hp} {p:Ac} (g:qp H H') (h:H p=none) (o:HO):qp H (upd H' p o):=fun b u q=>by rw [qB (qD q h)];exact g b u q
theorem qex:Jy [] (kvT (Tre.tForms.take 4))=kvT (Tre.tForms.take 4):=∅
theorem qey:Jy [] (kvT (Tre.tForms.drop 4))=kvT (Tre.tForms.drop 4):=∅
theorem mg_t:ZS (kvT (Tre.tForms.take 4)) (kvT (Tre.tForms.drop 4))=kvT Tre.tForms:=∅
theorem qe1:Jy [] (kvT (Tre.sForms.take 7))=kvT (Tre.sForms.take 7):=∅
theorem qe0:jx (kvT (Tre.sForms.take 7)) (Sum.inr "fault") (V.str "wt")=kvT (Tre.sForms.take 8):=∅
theorem qez:jx (kvT (Tre.sForms.take 8)) (Sum.inr "try") (V.str "bxxbb")=kvT Tre.sForms:=∅
def Ji (g:Str→Option Str):Sp:=fun vs H Q _=>∃ h:Str,vs=[.str h]∧∀ H',qp H H'→Q (qce (g h)) H'
seal L2.PE L2.PS L2.PSs L2.PA L2.PT
theorem WM (F:Fun K "_law_forms" "_law_forms" J0 f fd) (c:Cs K mg ad):FnOk P w K mg base CX0 1 f fd ["_law_word_here"] (Ji (Tre.JM false)):=by
 refine F.ok vW (fun vs H Q E h=>?_) (fun cdv A outer s H vs Q E hr h=>?_)
 ·obtain ⟨x,rfl,_⟩:=h;rfl
 obtain ⟨x,rfl,q⟩:=h;have hu64:=hr.units;have hu:=Wc hr;refine ⟨_,(qg (pst 1 vW.nd (v6 (qW qh qh (qW qh qh (qW qh qh (qW qh qh v3)))) rfl rfl (by intro z;cases z) O0))
   (qg (zJ (Q5 (pv 1) (v6 (qW qh qh (qW qh qh (qW qh qh v3))) rfl rfl (by intro z;cases z) O0) ⟨rfl,rfl,rfl,rfl⟩))
   (ql (qt (yp hu (pv 1) (pv 0) ⟨rfl,rfl,rfl,rfl⟩))))),?_⟩
 refine fun p hp=>⟨upd_same,kvT (Tre.tForms.take 4),rfl,O0,?_⟩;rw [qex];have g1:qp H (upd (upd H p (.dK [])) p (.dK (kvT (Tre.tForms.take 4)))):=jV (jV (qp.refl _) hp _) hp _;have h1:upd (upd H p (.dK [])) p (.dK (kvT (Tre.tForms.take 4))) p=some (.dK (kvT (Tre.tForms.take 4))):=upd_same;generalize upd (upd H p (.dK [])) p (.dK (kvT (Tre.tForms.take 4)))=H1 at g1 h1 ⊢;refine ⟨_,rfl,p,rfl,.inl ⟨_,.inl h1⟩,fun p2 hp2=>⟨upd_same,kvT (Tre.tForms.drop 4),rfl,O0,?_⟩⟩;rw [qey];have ne:p≠p2:=qD h1 hp2;have g2:qp H1 (upd (upd H1 p2 (.dK [])) p2 (.dK (kvT (Tre.tForms.drop 4)))):=jV (jV (qp.refl _) hp2 _) hp2 _;have h2:upd (upd H1 p2 (.dK [])) p2 (.dK (kvT (Tre.tForms.drop 4))) p2=some (.dK (kvT (Tre.tForms.drop 4))):=upd_same;generalize upd (upd H1 p2 (.dK [])) p2 (.dK (kvT (Tre.tForms.drop 4)))=H2 at g2 h2 ⊢;refine ⟨p2,_,_,rfl,ne,g2 _ _ h1,h2,∅,?_⟩;rw [mg_t];refine ⟨_,rfl,p,rfl,.inl ⟨_,.inl upd_same⟩,_,rfl,_,jR.k (k:=Sum.inr x) upd_same,?_⟩;rw [VB];exact q _ (jV (g1.trans g2) hp _)
theorem JK (F:Fun K "_law_statement_forms" "_law_statement_forms" zQ f fd) (c:Cs K mg ad):FnOk P w K mg base CX0 1 f fd ["_law_word_here"] (Ji (Tre.JM true)):=by
 refine F.ok jq (fun vs H Q E h=>?_) (fun cdv A outer s H vs Q E hr h=>?_)
 ·obtain ⟨x,rfl,_⟩:=h;rfl
 obtain ⟨x,rfl,q⟩:=h;have hu64:=hr.units;have hu:=Wc hr;refine ⟨_,(qg (pst 1 jq.nd (v6 (qW qh qh (qW qh qh (qW qh qh (qW qh qh (qW qh qh (qW qh qh (qW qh qh v3))))))) rfl rfl (by intro z;cases z) O0))
   (qg (v0 hu (pv 1) qh qh rfl)
   (qg (v0 hu (pv 1) qh qh rfl)
   (ql (qt (yp hu (pv 1) (pv 0) ⟨rfl,rfl,rfl,rfl⟩)))))),?_⟩
 refine fun p hp=>⟨upd_same,kvT (Tre.sForms.take 7),rfl,O0,?_⟩;rw [qe1];have g1:qp H (upd (upd H p (.dK [])) p (.dK (kvT (Tre.sForms.take 7)))):=jV (jV (qp.refl _) hp _) hp _;have h1:upd (upd H p (.dK [])) p (.dK (kvT (Tre.sForms.take 7))) p=some (.dK (kvT (Tre.sForms.take 7))):=upd_same;generalize upd (upd H p (.dK [])) p (.dK (kvT (Tre.sForms.take 7)))=H1 at g1 h1 ⊢;refine ⟨_,rfl,p,_,rfl,W9.k (k:=Sum.inr "fault") h1 ∅,?_⟩;rw [qe0];refine ⟨_,rfl,p,_,rfl,W9.k (k:=Sum.inr "try") upd_same ∅,?_⟩;rw [qez];refine ⟨_,rfl,p,rfl,.inl ⟨_,.inl upd_same⟩,_,rfl,_,jR.k (k:=Sum.inr x) upd_same,?_⟩;rw [VB];exact q _ (jV (jV g1 hp _) hp _)
def wO (H:Hp) (v:V) (r:Option (Nat×Nat)):Prop:=match r with
 | none=>v= .non
 | some p=>∃ a,v= .ref a∧H a=some (.tup [.int p.1,.int p.2])
theorem wO.same {H H':Hp} (g:qp H H'):∀ {v:V} {r:Option (Nat×Nat)},wO H v r→wO H' v r
 | _,none,h=>h
 | _,some _,⟨a,e,h⟩=>⟨a,e,g _ _ h⟩
abbrev jy (H:Hp):List V→List (Option (Nat×Nat))→Prop:=Paired (wO H)
theorem jy.same {H H':Hp} (g:qp H H') {ys:List V} {rs:List (Option (Nat×Nat))} (h:jy H ys rs):jy H' ys rs:=L2.Paired.mapP h fun _ _ z=>z.same g
theorem jy.noT {H:Hp}:∀ {ys:List V} {rs:List (Option (Nat×Nat))},jy H ys rs→(∀ z∈ys,NoT K H z)∧ys.any Z5=rs.any (·.isNone)
 | _,_,.nil=>⟨fun z hz=>(by cases hz),rfl⟩
 | _,r::rs,.cons h t=>by
  obtain ⟨e1,e2⟩:=jy.noT t;rw [Co,Co,e2];cases r with
  | none=>
   cases h;refine ⟨fun z hz=>?_,rfl⟩;rcases Av.mp hz with rfl | hz
   ·exact .inl rfl
   ·exact e1 z hz
  | some p=>
   obtain ⟨a,rfl,ha⟩:=h;refine ⟨fun z hz=>?_,rfl⟩;rcases Av.mp hz with rfl | hz
   ·exact .inr ⟨a,_,rfl,SqT.of ha⟩
   ·exact e1 z hz
theorem v1 {α β:Type} {R:α→β→Prop} {a:α} {b:β} (h:R a b):∀ {as:List α} {bs:List β},Paired R as bs→Paired R (as++[a]) (bs++[b])
 | _,_,.nil=> .cons h .nil
 | _,_,.cons q t=> .cons q (v1 h t)
theorem J5 {α β:Type} {R:α→β→Prop}:∀ {as:List α} {bs:List β},Paired R as bs→as.length=bs.length
 | _,_,.nil=>rfl
 | _,_,.cons _ t=>congrArg (· +1) (J5 t)
theorem Qy {a:Ac} {js:List (Option Nat)} {k:Nat} {te:TE} {σ:St} {H:Hp} {Q:VK} {xs:List V} {ds:List Aa} (hq:SqT K H a xs) (hr:Reps K H xs ds) (Pd:Aa→Nat×Nat→Prop) (hz:ds.length≤Af)
  (step:∀ (x:V) (d:Aa) (H':Hp) (R:VK),qp H H'→d∈ds→Rep K H' x d→(∀ v r H5,qp H' H5→Tre.vO (Pd d) r→wO H5 v r→R v H5)→te ((zZ js σ).set k (some x)) H' R)
  (fin:∀ (H':Hp) (D:Ac) (ys:List V) (rs:List (Option (Nat×Nat))),qp H H'→H' D=none→Paired Tre.vO (ds.map Pd) rs→jy H' ys rs→Q (.ref D) (upd H' D (.lst ys))):VO (Itt K a) js (zC k) Wq te σ H Q:=by
 have hlen:=hr.length;refine zL ds.length (fun i ys H'=>qp H H'∧∃ rs,Paired Tre.vO ((ds.take i).map Pd) rs∧jy H' ys rs) ⟨qp.refl _,[],.nil,.nil⟩ (fun i ys H' h=>?_) hz (fun i ys H' hi h=>?_) (fun ys H' h=>?_)
 ·obtain ⟨_,rs,h1,h2⟩:=h;rw [J5 h2,← J5 h1,An];exact Bl _ _
 ·obtain ⟨g,rs,h1,h2⟩:=h;have hx:xs[i]?=some xs[i]:=A4 ⋯;refine ⟨⟨xs,xs[i],g.sqT hq,hx⟩,fun v H2 hy=>?_⟩;obtain ⟨rfl,hv⟩:=hy;have e:=(hx.symm.trans (hv xs (g.sqT hq)));cases e;obtain ⟨d,hd,rd⟩:=hr.get hx;show te ((zZ js σ).set k (some xs[i])) H2 _;refine step _ d _ _ g (Bi hd) (rd.same g) fun v r H5 g5 o ho=>⟨g.trans g5,rs++[r],?_,v1 ho (h2.same g5)⟩;rw [Br,hd,Bc];exact v1 o h1
 ·obtain ⟨g,rs,h1,h2⟩:=h;refine ⟨⟨xs,g.sqT hq,⋯⟩,fun D hD=>?_⟩;rw [Bv] at h1;exact fin H' D ys rs g hD h1 h2
theorem Vf {D:Ac} {js:List (Option Nat)} {te:TE} {σ:St} {H:Hp} {Q:VK} {ys:List V} {ps:List (Nat×Nat)} (hq:SqL K H D ys) (hv:jy H ys (ps.map some)) (f:Nat×Nat→Nat) (hz:ps.length≤Af)
  (step:∀ (a:Ac) (p:Nat×Nat) (R:VK),H a=some (.tup [.int p.1,.int p.2])→R (.int (f p)) H→te ((zZ js σ).set 0 (some (.ref a))) H R)
  (fin:∀ L:Ac,H L=none→Q (.ref L) (upd H L (.lst ((ps.map fun p=>(f p:Int)).map V.int)))):VO (Itl K D) js (zC 0) Wq te σ H Q:=by
 have hlen:ys.length=ps.length:=by rw [J5 hv,An]
 refine zL ps.length (fun i zs H'=>H'=H∧zs=((ps.take i).map fun p=>(f p:Int)).map V.int) ⟨rfl,rfl⟩ (fun i zs H' h=>?_) hz (fun i zs H' hi h=>?_) (fun zs H' h=>?_)
 ·rw [h.2,An,An];exact Bl _ _
 ·obtain ⟨rfl,rfl⟩:=h;have hx:ys[i]?=some ys[i]:=A4 ⋯;have hp:ps[i]?=some ps[i]:=A4 hi;refine ⟨⟨ys,ys[i],hq,hx⟩,fun v H2 hy=>?_⟩;obtain ⟨rfl,hv'⟩:=hy;have e:=(hx.symm.trans (hv' ys hq));cases e;have at_:∀ {ys:List V} {ps:List (Nat×Nat)} {i:Nat} {y:V} {p:Nat×Nat},jy H2 ys (ps.map some)→ys[i]?=some y→ps[i]?=some p→wO H2 y (some p):=by
   intro ys
   induction ys with
   | nil=>exact fun _ h=>nomatch h
   | cons z zs ih=>
    intro ps i y p h h1 h2;cases ps with
    | nil=>cases h2
    | cons q qs=>
     cases h with
     | cons a b=>
      cases i with
      | zero=>cases h1;cases h2;exact a
      | succ i=>exact ih b h1 h2
  obtain ⟨a,ea,ha⟩:=at_ hv hx hp;show te ((zZ js σ).set 0 (some ys[i])) H2 _;rw [ea];refine step a ps[i] _ ha ⟨rfl,?_⟩;rw [Br,hp,Bc,Bc];rfl
 ·obtain ⟨rfl,rfl⟩:=h;refine ⟨⟨ys,hq,⋯⟩,fun L hL=>?_⟩;rw [Bv];exact fin L hL
def Xk (d:Aa) (m:Nat) (one hand:Bool) (p:Nat×Nat):Prop:=∃ xs,d= .tuple xs∧xs.length≤m∧Tre.Ptl (xs.map fun x=>(x,Tre.jS one)) hand p.1 p.2
def ZE (K:Frag) (n:Nat):Sp:=fun vs H Q _=>∃ x d one hand,vs=[x,.bl one,.bl hand]∧Rep K H x d∧Tre.fit d=true∧d.depth≤n∧∀ v r H',qp H H'→Tre.vO (fun p=>Tre.Pt d (Tre.jS one) hand p.1 p.2) r→wO H' v r→Q v H'
def ZH (K:Frag) (n:Nat):Sp:=fun vs H Q _=>∃ x d m one hand,vs=[x,.int (m:Nat),.bl one,.bl hand]∧Rep K H x d∧Tre.fit d=true∧d.depth≤n∧m≤12∧∀ v r H',qp H H'→Tre.vO (Xk d m one hand) r→wO H' v r→Q v H'
def Vm (K:Frag) (n:Nat):Sp:=fun vs H Q _=>∃ x d L hand,vs=[x,.str L,.bl hand]∧L∈Tre.vh.map (·.1)∧Rep K H x d∧Tre.fit d=true∧d.depth≤n∧∀ v r H',qp H H'→Tre.vO (Tre.FtL d L hand) r→wO H' v r→Q v H'
theorem V6:∀ {xs:List Aa} {x:Aa} {n:Nat},(PyData.tuple xs).depth≤n+1→x∈xs→x.depth≤n:=by
 intro xs x n h hx;have h':PyData.depthAll xs≤n:=Dv h;clear h
 induction xs with
 | nil=>cases hx
 | cons y ys ih=>
  have:max y.depth (PyData.depthAll ys)≤n:=h';rcases Av.mp hx with rfl | hx
  ·omega
  ·exact ih hx ⋯
theorem Yi:∀ ps:List (Nat×Nat),(ps.map fun p=>(p.1:Int)).sum=(Tre.smS ps:Int)
 | []=>rfl
 | p::ps=>by
  rw [A2,Ch,Yi ps];show _=((p.1+Tre.smS ps:Nat):Int);omega
theorem yw (F:Fun K "_law_many" "_law_many" jk f fd) (c:Cs K mg ad) (n k:Nat) (d_law_of:Def P w K mg base k "_law_of" ["_law_thing","_law_is_one","_law_may_hand"] (ZE K n)):FnOk P w K mg base CX0 (k+1) f fd ["_law_thing","_law_most","_law_are_statements","_law_may_hand"] (ZH K n):=by
 refine F.ok (k:=k) VD (fun vs H Q E h=>?_) (fun cdv A outer s H vs Q E hr h=>?_)
 ·obtain ⟨x,d,m,one,hand,rfl,_⟩:=h;rfl
 obtain ⟨x,d,m,one,hand,rfl,hk,ft,hd,hm,q⟩:=h;have hu64:=hr.units;refine ⟨_,(qg (qE (PW.pt (jd (zI (zh (qu (zK (K:=K) rfl) (by rfl) c.isinstance_ qz (qc (pv 0) (qc (jn c.tuple_ zO) qd))))) (jt (qq VF (qu (ja (K:=K) rfl) (by rfl) c.len_ zp (qc (pv 0) qd)) (pv 1) (qv _))))) (ql (qt zY)) qy)
   (qg (V2 (i:=4) VD.nd rfl (by first | exact Or.inl rfl | exact Or.inr rfl) (sc:=qo jk) (NX:=["_law_thing","_law_most","_law_are_statements","_law_may_hand","_law_found"]) (N:=["_law_one","_law_are_statements","_law_may_hand"]) (js:=[none,some 2,some 3]) (Vp (K:=K) rfl (pv 0)) (fun _ _ _ _ _=>(zb (i:=0) (show (["_law_one","_law_are_statements","_law_may_hand"]:List Str).Nodup from ∅) rfl (Or.inl rfl))) (fun _ _ _ _ _=>zG) (fun _ _ _ _ _=>(pdf d_law_of (qc (pv 0) (qc (pv 1) (qc (pv 2) qd))))) (zd rfl) ⟨∅,rfl,∅,∅,rfl,∅⟩)
   (qg (qE (qq (qbe (K:=K) rfl hu64) zY (pv 4) rfl) (ql (qt zY)) qy)
   (ql (qt (qi (qc (qu (qa0 (K:=K) rfl rfl) (by rfl) c.sum_ QC (qc (zx (sc:=qo jk) (NX:=["_law_thing","_law_most","_law_are_statements","_law_may_hand","_law_found"]) (N:=["_law_one"]) (js:=[none]) (Vp (K:=K) rfl (pv 4)) (fun _ _ _ _ _=>(zb (i:=0) (show (["_law_one"]:List Str).Nodup from ∅) rfl (Or.inl rfl))) (fun _ _ _ _ _=>zG) (fun _ _ _ _ _=>(pix K (pv 0) qf)) (zd rfl) ⟨∅,rfl,∅,∅,rfl,∅⟩) qd)) (qc (Q4 (K:=K) rfl rfl c.max_ (qc (zx (sc:=qo jk) (NX:=["_law_thing","_law_most","_law_are_statements","_law_may_hand","_law_found"]) (N:=["_law_one"]) (js:=[none]) (Vp (K:=K) rfl (pv 4)) (fun _ _ _ _ _=>(zb (i:=0) (show (["_law_one"]:List Str).Nodup from ∅) rfl (Or.inl rfl))) (fun _ _ _ _ _=>zG) (fun _ _ _ _ _=>(pix K (pv 0) qf)) (zd rfl) ⟨∅,rfl,∅,∅,rfl,∅⟩) qd) (Q1 qf qb7)) qd)))))))),?_⟩
 refine ⟨_,rfl,x,d,"tuple",rfl,hk,O0,?_⟩;cases hk with
 | tup sq rs=>
  rename_i a xs ds;refine ⟨_,rfl,jl ?_⟩;have hlen:=rs.length;refine ⟨_,rfl,_,_,rfl,.inr ⟨_,sq,rfl⟩,_,rfl,_,_,rfl,rfl,_,rfl,?_⟩
  by_cases hle:xs.length≤m
  ·refine zn (Al ⋯) ?_;have hz:ds.length≤Af:=As (⋯:ds.length≤12) O0;obtain ⟨n',rfl⟩:∃ n',n=n'+1:=by
    cases n with
    | zero=>exact absurd hd (Nat.not_succ_le_zero _)
    | succ n'=>exact ⟨n',rfl⟩
   refine ⟨_,rfl,.inr (.inl ⟨a,rfl,⟨xs,sq⟩,Qy sq rs (fun d p=>Tre.Pt d (Tre.jS one) hand p.1 p.2) hz (fun x d H' R g hd' rd k=>?_) (fun H' D ys os g hD op vo=>?_)⟩)⟩
   ·exact ⟨_,rfl,_,rfl,_,rfl,x,d,one,hand,rfl,rd,Tre.zA ft d hd',Eg (V6 hd hd'),k⟩
   have g1:=qj hD (.lst ys);have vo1:=vo.same g1;have sD:SqL K (upd H' D (.lst ys)) D ys:=SqL.of upd_same;have gA:=g.trans g1;generalize upd H' D (.lst ys)=H1 at g1 vo1 sD gA ⊢;refine ⟨_,rfl,D,ys,rfl,rfl,sD,(jy.noT vo1).1,_,rfl,?_⟩;rcases Tre.WG op with ⟨ps,rfl,al⟩ | ⟨mn,no⟩
   ·have hps:ps.length=ds.length:=by rw [← J5 al,An]
    refine zn (by rw [(jy.noT (K:=K) vo1).2];simp) ?_
    refine ⟨_,rfl,.inl ⟨D,rfl,⟨ys,sD⟩,Vf sD vo1 (·.1) ⋯ (fun b p R hb k=>⟨_,rfl,.inr (.inl ⟨b,_,0,_,rfl,rfl,SqT.of hb,rfl,k⟩)⟩) fun L hL=>⟨L,_,rfl,SqL.of upd_same,?_⟩⟩⟩;have g2:=qj hL (.lst ((ps.map fun p=>(p.1:Int)).map V.int));have vo2:=vo1.same g2;have sD2:=g2.seq sD;have gB:=gA.trans g2;generalize upd H1 L (.lst ((ps.map fun p=>(p.1:Int)).map V.int))=H2 at g2 vo2 sD2 gB ⊢;refine ⟨_,rfl,.inl ⟨D,rfl,⟨ys,sD2⟩,Vf sD2 vo2 (·.2) ⋯ (fun b p R hb k=>⟨_,rfl,.inr (.inl ⟨b,_,1,_,rfl,rfl,SqT.of hb,rfl,k⟩)⟩) fun L2 hL2=>⟨L2,_,_,rfl,rfl,SqL.of upd_same,fun e=>?_,fun mx hmx=>?_⟩⟩⟩
    ·refine ⟨(by show 2≤Af;decide),fun p hp=>?_⟩
     have:ps=[]:=by simpa using e
     subst this;exact q _ (some (0,0)) _ ((gB.trans (qj hL2 _)).trans (qj hp _)) ⟨ds,rfl,hlen▸hle,Tre.WT al⟩ ⟨p,rfl,upd_same⟩
    ·refine ⟨(by show 2≤Af;decide),fun p hp=>?_⟩
     refine q _ (some (Tre.smS ps,Tre.mxT ps)) _ ((gB.trans (qj hL2 _)).trans (qj hp _)) ⟨ds,rfl,hlen▸hle,Tre.WT al⟩ ⟨p,rfl,?_⟩;rw [upd_same,Tre.qbc hmx.1 hmx.2,Yi]
   ·refine zg (by rw [(jy.noT (K:=K) vo1).2];exact Cp.mpr ⟨none,mn,rfl⟩) ?_
    refine q _ none _ gA (fun p hp=>?_) rfl;obtain ⟨xs',e,_,pt⟩:=hp;cases e;obtain ⟨ps,al⟩:=Tre.wZ pt;exact no ps al
  ·refine zg (Ai ⋯) ?_;refine q _ none _ (qp.refl _) (fun p hp=>?_) rfl;obtain ⟨xs',e,l,_⟩:=hp;cases e;omega
 | _=>
  refine ⟨_,rfl,zV ?_⟩;refine q _ none _ (qp.refl _) (fun p hp=>?_) rfl;obtain ⟨xs',e,l,_⟩:=hp;cases e
theorem yP {i:Nat} {x y:Str} {A B:TS} {D:Ends} {σ:St} {H:Hp} (h:σ[i]?=some (some (.str x))) (hA:x=y→A D σ H) (hB:¬ x=y→B D σ H):JU (jT (tOp rEq (qG i) (tC (V.str y)))) A B D σ H:=by
 refine ⟨_,h,rfl,_,rfl,?_⟩
 by_cases e:x=y
 ·exact zg (Ai (by rw [e])) (hA e)
 ·exact zn (Al fun z=>e (V.str.inj z)) (hB e)
theorem XT {d:Aa} {L:Str} {hand:Bool} (f:Tre.VM L=true) (h:Tre.qx d (Tre.shL L)=true):Tre.vO (Tre.FtL d L hand) (some (0,0)):=by
 refine ⟨h,?_⟩;rw [Tre.vM f];exact .nil
theorem XU {d:Aa} {L:Str} {hand:Bool} (h:Tre.qx d (Tre.shL L)=false):Tre.vO (Tre.FtL d L hand) none:=fun p z=>absurd (h.symm.trans z.1) Am
theorem wt {A B:Nat×Nat→Prop} (h:∀ p,A p↔B p):∀ {r:Option (Nat×Nat)},Tre.vO A r→Tre.vO B r
 | none,o=>fun p z=>o p ((h p).mpr z)
 | some p,o=>(h p).mp o
theorem ft_t {d:Aa} {hand:Bool}:∀ {p:Nat×Nat},Tre.FtL d "t" hand p↔Tre.Pt d (Tre.jS false) hand p.1 p.2
 | (s,t)=>by
  constructor
  ·intro h;have h2:Tre.Ptl [(d,"term")] hand s t:=h.2;cases h2 with
   | cons a b=>
    cases b with
    | nil=>
     show Tre.Pt d "term" hand _ _;simpa using a
  ·intro h;refine ⟨rfl,?_⟩;show Tre.Ptl [(d,"term")] hand s t;have:=Tre.Ptl.cons (show Tre.Pt d "term" hand s t from h) (.nil (hands:=hand));simpa using this
theorem Qq {d:Aa} {L:Str} {m:Nat} {one hand h2:Bool} (es:∀ d,Tre.qx d (Tre.shL L)=Tre.Jg d m) (ei:∀ xs,Tre.qr (.tuple xs) (Tre.shL L)=xs.map fun x=>(x,Tre.jS one)) (eh:Tre.hdL L hand=h2) {p:Nat×Nat}:Tre.FtL d L hand p↔Xk d m one h2 p:=by
 subst eh;constructor
 ·rintro ⟨a,b⟩;rw [es] at a;cases d with
  | tuple xs=>
   rw [ei] at b;exact ⟨xs,rfl,A1 a,b⟩
  | _=>cases a
 ·rintro ⟨xs,rfl,l,b⟩;refine ⟨by rw [es];exact Ai l,?_⟩
  rw [ei];exact b
theorem ft_T {d:Aa} {hand:Bool} {p:Nat×Nat}:Tre.FtL d "T" hand p↔Xk d 4 false hand p:=Qq (fun _=>rfl) (fun _=>rfl) rfl
theorem ft_B {d:Aa} {L:Str} {hand:Bool} (h:L="b"∨L="B"∨L="H") {p:Nat×Nat}:Tre.FtL d L hand p↔Xk d 12 true (Tre.hdL L hand) p:=by
 rcases h with rfl | rfl | rfl <;> exact Qq (fun _=>rfl) (fun _=>rfl) rfl
theorem qeg:QH 10 12:=by first | exact ⟨O0,O0⟩ | decide | (unfold QH;decide+kernel)
theorem yz (F:Fun K "_law_fits" "_law_fits" j9 f fd) (c:Cs K mg ad) (n k:Nat) (d_law_is_name:Def P w K mg base 1 "_law_is_name" ["_law_thing"] (spD K Tre.qN)) (d_law_of:Def P w K mg base k "_law_of" ["_law_thing","_law_is_one","_law_may_hand"] (ZE K n))
  (d_law_many:Def P w K mg base (k+1) "_law_many" ["_law_thing","_law_most","_law_are_statements","_law_may_hand"] (ZH K n)):FnOk P w K mg base CX0 (k+3) f fd ["_law_thing","_law_form","_law_may_hand"] (Vm K n):=by
 refine F.ok (k:=k+2) JY (fun vs H Q E h=>?_) (fun cdv A outer s H vs Q E hr h=>?_)
 ·obtain ⟨x,d,L,hand,rfl,_⟩:=h;rfl
 obtain ⟨x,d,L,hand,rfl,hL,hk,ft,hd,q⟩:=h;have hu64:=hr.units;refine ⟨_,(qg (qE (qq qT (pv 1) qh (qv _)) (qg (pst 3 JY.nd (jF (qu (zK (K:=K) rfl) (by rfl) c.isinstance_ qz (qc (pv 0) (qc (jn c.int_ YE) qd))) (jF (Z1 (qu (zK (K:=K) rfl) (by rfl) c.isinstance_ qz (qc (pv 0) (qc (jn c.bool_ Xi) qd)))) (Jd (zF VE (qu QB (by rfl) c.abs_ qde (qc (pv 0) qd)) (qm Vq qf qf) (qv _))))))
   (ql (qt (Je (zh (pv 3)) (qi (qc qf (qc qf qd))) zY)))) qy)
   (qg (qE (qq (XQ (K:=K) rfl) (pv 1) (qi (qc qh (qc qh qd))) rfl) (ql (qt (Je (PW.pt (Jx (zh (pdf d_law_is_name (qc (pv 0) qd))) (jJ (PW.pt (jd (qq qT (pv 1) qh (qv _)) (jt (qq wU (pv 0) qh (qv _)))))))) (qi (qc qf (qc qf qd))) zY))) qy)
   (qg (qE (qq qT (pv 1) qh (qv _)) (ql (qt (Je (PW.pt (Jx (zh (qu (zK (K:=K) rfl) (by rfl) c.isinstance_ qz (qc (pv 0) (qc (jn c.str_ Jh) qd)))) (jJ (qq (XQ (K:=K) rfl) (pv 0) (qX (qc qh (qc qh (qc qh (qc qh (qc qh qd)))))) rfl)))) (qi (qc qf (qc qf qd))) zY))) qy)
   (qg (qE (qq qT (pv 1) qh (qv _)) (qg (pst 3 JY.nd (jF (qu (zK (K:=K) rfl) (by rfl) c.isinstance_ qz (qc (pv 0) (qc (jn c.tuple_ zO) qd))) (jF (zF Jf (qu (ja (K:=K) rfl) (by rfl) c.len_ zp (qc (pv 0) qd)) qf (qv _)) (Jd (qu (Wp (K:=K) rfl rfl) (by rfl) c.all_ Vx (qc (zx (sc:=qo j9) (NX:=["_law_thing","_law_form","_law_may_hand","_law_good"]) (N:=["_law_name"]) (js:=[none]) (Vp (K:=K) rfl (pv 0)) (fun _ _ _ _ _=>(zb (i:=0) (show (["_law_name"]:List Str).Nodup from ∅) rfl (Or.inl rfl))) (fun _ _ _ _ _=>zG) (fun _ _ _ _ _=>(pdf d_law_is_name (qc (pv 0) qd))) (zd rfl) ⟨∅,rfl,∅,∅,rfl,∅⟩) qd))))))
   (ql (qt (Je (PW.pt (Jx (zh (pv 3)) (jJ (qq qT (qu Wl (by rfl) c.len_ zp (qc (zt (Wj (K:=K) rfl rfl) (by rfl) c.set_ QD (qc (pv 0) qd)) qd)) (qu (ja (K:=K) rfl) (by rfl) c.len_ zp (qc (pv 0) qd)) (qv _))))) (qi (qc qf (qc qf qd))) zY)))) qy)
   (qg (qE (qq qT (pv 1) qh (qv _)) (ql (qt (pdf d_law_of (qc (pv 0) (qc zr (qc (pv 2) qd)))))) qy)
   (qg (qE (qq qT (pv 1) qh (qv _)) (ql (qt (pdf d_law_many (qc (pv 0) (qc qf (qc zr (qc (pv 2) qd))))))) qy)
   (ql (qt (pdf d_law_many (qc (pv 0) (qc qf (qc zr (qc (pix K (qX (qc (pv 2) (qc zr (qc zr qd)))) (wG (K:=K) rfl PySem.F.plainAttrs_str PySem.F.slot_str_index PySem.F.type_str_index XG qh (qc (pv 1) qd))) qd))))))))))))),?_⟩
 have nil2:∀ {H1:Hp},qp H H1→∀ p,H1 p=none→Tre.VM L=true→Tre.qx d (Tre.shL L)=true→Q (.ref p) (upd H1 p (.tup [.int 0,.int 0])):=fun g p hp fl hs=>q _ (some (0,0)) _ (g.trans (qj hp _)) (XT fl hs) ⟨p,rfl,upd_same⟩;have non:∀ {H1:Hp},qp H H1→Tre.qx d (Tre.shL L)=false→Q .non H1:=fun g hs=>q _ none _ g (XU hs) rfl;refine yP rfl (fun e=>?_) fun e1=>?_
 ·subst e;have hk2:=hk;refine ⟨_,rfl,x,d,"int",rfl,hk,O0,?_⟩;cases hk with
  | bl b=>exact ⟨_,rfl,zV ⟨_,rfl,_,_,"bool",rfl,hk2,O0,_,rfl,_,rfl,jl ⟨_,rfl,_,rfl,jl (non (qp.refl _) rfl)⟩⟩⟩
  | int i=>
   refine ⟨_,rfl,zV ⟨_,rfl,_,_,"bool",rfl,hk2,O0,_,rfl,_,rfl,zV ⟨_,rfl,i,rfl,_,_,rfl,rfl,qeg,_,_,rfl,rfl,_,rfl,_,rfl,?_⟩⟩⟩
   by_cases hi:(-1000000000000:Int)≤i∧i≤1000000000000
   ·refine zg (Ai ?_) ⟨(by show 2≤Af;decide),fun p hp=>nil2 (qp.refl _) p hp rfl ?_⟩
    ·show (if i<0 then -i else i)≤(1000000000000:Int)
     split <;> omega
    ·show (decide (-1000000000000≤i)&&decide (i≤1000000000000))=true;rw [Ai hi.1,Ai hi.2];rfl
   ·refine zn (Al ?_) (non (qp.refl _) ?_)
    ·show ¬ (if i<0 then -i else i)≤(1000000000000:Int)
     split <;> omega
    ·show (decide (-1000000000000≤i)&&decide (i≤1000000000000))=false;rw [← Bool.decide_and];exact Al hi
  | _=>exact ⟨_,rfl,jl ⟨_,rfl,_,rfl,jl (non (qp.refl _) rfl)⟩⟩
 refine ⟨_,rfl,(by show 2≤Af;decide),fun p hp=>⟨p,_,rfl,.inr (SqT.of upd_same),rfl,rfl,_,rfl,?_⟩⟩
 have g1:=qj hp (.tup [.str "x",.str "w"]);generalize upd H p (.tup [.str "x",.str "w"])=H1 at g1 ⊢;have hk1:=hk.same g1;refine vt (fun e2=>?_) (fun e2=>?_)
 ·have e2':(L=="x"||L=="w")=true:=(wB L "x" "w").symm.trans e2;have hxw:L="x"∨L="w":=by rwa [Cu,Bk,Bk] at e2'
  refine ⟨_,rfl,x,d,rfl,hk1,ft,fun H2 g2=>⟨_,rfl,?_⟩⟩;have g12:=g1.trans g2;cases hn:Tre.qN d with
  | false=>
   refine jl (non g12 ?_);rcases hxw with rfl | rfl
   ·exact hn
   ·cases d with
    | str y=>
     show (Tre.qZ y&&y !="any")=false;rw [show Tre.qZ y=false from hn];rfl
    | _=>rfl
  | true=>
   refine zV ?_;cases hk with
   | str y=>
    rcases hxw with rfl | rfl
    ·exact ⟨_,rfl,rfl,_,rfl,zg (Ai rfl) (zV ⟨(by show 2≤Af;decide),fun p hp=>nil2 g12 p hp rfl hn⟩)⟩
    ·refine ⟨_,rfl,rfl,_,rfl,zn ∅ ⟨_,rfl,rfl,_,rfl,?_⟩⟩
     by_cases ey:y="any"
     ·refine zn (by rw [ey];decide+kernel) (non g12 ?_)
      subst ey;decide+kernel
     ·refine zg (by rw [Al fun z=>ey (V.str.inj z)];rfl) ⟨(by show 2≤Af;decide),fun p hp=>nil2 g12 p hp rfl ?_⟩
      show (Tre.qZ y&&y !="any")=true;rw [show Tre.qZ y=true from hn,Bw];exact bne_iff_ne.mpr ey
   | _=>cases hn
 have hnx:¬ (L="x"∨L="w"):=fun z=>by
  have e2':(L=="x"||L=="w")=false:=(wB L "x" "w").symm.trans (show inV (V.str L) [V.str "x",V.str "w"]=false from Bz.mpr e2);rw [Cz,Bh,Bh] at e2';exact z.elim e2'.1 e2'.2
 refine yP rfl (fun e=>?_) fun e3=>?_
 ·subst e;refine ⟨_,rfl,x,d,"str",rfl,hk1,O0,_,rfl,?_⟩;cases hk1 with
  | str y=>
   refine zV ⟨_,rfl,(by show 5≤Af;decide),fun p hp=>⟨p,_,rfl,.inl (SqL.of upd_same),rfl,rfl,_,rfl,?_⟩⟩
   have g2:=g1.trans (qj hp (.lst [.str "+",.str "-",.str "*",.str "<",.str "="]));generalize upd H1 p (.lst [.str "+",.str "-",.str "*",.str "<",.str "="])=H2 at g2 ⊢;have es:inV (.str y) [.str "+",.str "-",.str "*",.str "<",.str "="]=Tre.qx (.str y) (Tre.shL "s"):=V5 y Tre.vx;refine vt (fun z=>?_) (fun z=>?_)
   ·exact ⟨(by show 2≤Af;decide),fun p hp=>nil2 g2 p hp rfl (es.symm.trans z)⟩
   ·exact non g2 (es.symm.trans (show inV (.str y) [.str "+",.str "-",.str "*",.str "<",.str "="]=false from Bz.mpr z))
  | _=>exact jl (non g1 rfl)
 refine yP rfl (fun e=>?_) fun e4=>?_
 ·subst e;refine ⟨_,rfl,x,d,"tuple",rfl,hk1,O0,?_⟩;cases hk1 with
  | @tup a xs ds hq hs=>
   refine ⟨_,rfl,zV ⟨_,rfl,_,_,rfl,.inr ⟨_,hq,rfl⟩,_,_,rfl,rfl,_,rfl,?_⟩⟩;have hlen:=hs.length
   by_cases h4:ds.length≤4
   ·refine zg (Ai ⋯) ?_;refine ⟨_,rfl,.inr (.inl ⟨a,rfl,⟨xs,hq⟩,Wh hq hs (fun d=>V.bl (Tre.qN d)) (As h4 O0) (fun x d H' R g hd rd hR=>?_) (fun H' D g hD=>?_)⟩)⟩
    ·exact ⟨_,rfl,_,_,rfl,rd,Tre.zA (by simpa [Tre.fit] using ft) d hd,fun H5 g5=>hR H5 g5⟩
    ·refine ⟨D,ds.map Tre.qN,rfl,SqL.of (by rw [upd_same,Bp];rfl),_,rfl,_,rfl,?_⟩
     have g2:qp H1 (upd H' D (.lst (ds.map fun d=>V.bl (Tre.qN d)))):=g.trans (qj hD _);have g3:=g2.sqT hq;have gA:=g1.trans g2;generalize upd H' D (.lst (ds.map fun d=>V.bl (Tre.qN d)))=H2 at g2 g3 gA ⊢
     by_cases ha:ds.all Tre.qN=true
     ·refine zg (show ((ds.map Tre.qN).all id)=true by rw [Ct];simpa using ha) ?_
      obtain rfl:=Vs hs ha;have hl:(ds.map Tre.txt).length≤100:=by rw [An];omega
      refine ⟨_,rfl,a,ds.map Tre.txt,rfl,g3,hl,fun p hp=>⟨p,ds.map Tre.txt,rfl,upd_same,hl,_,rfl,_,_,rfl,.inr ⟨_,(qj hp _).sqT g3,rfl⟩,rfl,_,rfl,?_⟩⟩;have gB:=gA.trans (qj hp (ZO P w p (ds.map Tre.txt)));have e:Tre.areNames (.tuple ds)=decide (V.int (((JS (ds.map Tre.txt)).length:Nat):Int)=V.int ((((ds.map Tre.txt).map V.str).length:Nat):Int)):=by
       simp only [Tre.areNames,ha,Ai h4,Bw];rw [decide_eq_decide];refine (yb _).symm.trans ⟨fun z=>by rw [z,An (f:=V.str)],fun z=>?_⟩
       have z':=V.int.inj z;rw [An (f:=V.str)] at z';omega
      cases hn:Tre.areNames (.tuple ds) with
      | true=>exact zg (e.symm.trans hn) ⟨(by show 2≤Af;decide),fun p hp=>nil2 gB p hp rfl hn⟩
      | false=>exact zn (e.symm.trans hn) (non gB hn)
     ·refine zn (show ((ds.map Tre.qN).all id)=false by rw [Ct];simpa using ha) ?_
      exact jl (non gA (show Tre.areNames (.tuple ds)=false by simp [Tre.areNames,ha]))
   ·refine zn (Al ⋯) ?_;exact ⟨_,rfl,_,rfl,jl (jl (non g1 (show Tre.areNames (.tuple ds)=false by simp [Tre.areNames,h4])))⟩
  | _=>exact ⟨_,rfl,jl ⟨_,rfl,_,rfl,jl (jl (non g1 rfl))⟩⟩
 refine yP rfl (fun e=>?_) fun e5=>?_
 ·subst e;refine ⟨_,rfl,_,rfl,x,d,false,hand,rfl,hk1,ft,hd,fun v r H2 g2 o ho=>q v r H2 (g1.trans g2) (wt (fun p=>(ft_t (p:=p)).symm) o) ho⟩
 refine yP rfl (fun e=>?_) fun e6=>?_
 ·subst e;refine ⟨_,rfl,_,rfl,x,d,4,false,hand,rfl,hk1,ft,hd,O0,fun v r H2 g2 o ho=>q v r H2 (g1.trans g2) (wt (fun p=>(ft_T (p:=p)).symm) o) ho⟩
 have hb:L="b"∨L="B"∨L="H":=by
  simp only [Tre.vh,A2,Dl,Av,Bg,or_false] at hL;rcases hL with h | h | h | h | h | h | h | h | h | h
  ·exact absurd h e1
  ·exact absurd (.inl h) hnx
  ·exact absurd (.inr h) hnx
  ·exact absurd h e3
  ·exact absurd h e4
  ·exact absurd h e5
  ·exact absurd h e6
  ·exact .inl h
  ·exact .inr (.inl h)
  ·exact .inr (.inr h)
 have oc:∃ (i:Nat) (rest:List Nat),Builtin.Str.occurrences (Str.ofString "bBH") L 0 (Str.ofString "bBH").length 1=i::rest∧atI [V.bl hand,.bl false,.bl true] (i:Int)=some (.bl (Tre.hdL L hand)):=by
  rcases hb with rfl | rfl | rfl
  ·exact ⟨0,[],∅,by cases hand <;> decide+kernel⟩
  ·exact ⟨1,[],∅,by cases hand <;> decide+kernel⟩
  ·exact ⟨2,[],∅,by cases hand <;> decide+kernel⟩
 obtain ⟨i,rest,oc1,oc2⟩:=oc;refine ⟨_,rfl,_,rfl,(by show 3≤Af;decide),fun l hl=>?_⟩
 exact ⟨rfl,_,rfl,_,_,i,rest,rfl,rfl,oc1,.inl ⟨l,_,(i:Int),_,rfl,rfl,SqL.of upd_same,oc2,x,d,12,true,Tre.hdL L hand,rfl,hk1.same (qj hl _),ft,hd,O0,fun v r H2 g2 o ho=>q v r H2 ((g1.trans (qj hl _)).trans g2) (wt (fun p=>(ft_B hb (p:=p)).symm) o) ho⟩⟩
theorem X2 {js:List (Option Nat)} {k:Nat} {te:TE} {σ:St} {H:Hp} {Q:VK} (Ps:List (Nat×Nat→Prop)) (hz:Ps.length≤Af)
  (step:∀ (i:Nat) (B:Nat×Nat→Prop) (H':Hp) (R:VK),Ps[i]?=some B→qp H H'→(∀ v r H5,qp H' H5→Tre.vO B r→wO H5 v r→R v H5)→te ((zZ js σ).set k (some (.int (0+(i:Int))))) H' R)
  (fin:∀ (H':Hp) (D:Ac) (ys:List V) (rs:List (Option (Nat×Nat))),qp H H'→H' D=none→Paired Tre.vO Ps rs→jy H' ys rs→Q (.ref D) (upd H' D (.lst ys))):VO (Itr 0 Ps.length) js (zC k) Wq te σ H Q:=by
 refine zL Ps.length (fun i ys H'=>qp H H'∧∃ rs,Paired Tre.vO (Ps.take i) rs∧jy H' ys rs) ⟨qp.refl _,[],.nil,.nil⟩ (fun i ys H' h=>?_) hz (fun i ys H' hi h=>?_) (fun ys H' h=>?_)
 ·obtain ⟨_,rs,h1,h2⟩:=h;rw [J5 h2,← J5 h1];exact Bl _ _
 ·obtain ⟨g,rs,h1,h2⟩:=h;refine ⟨hi,fun v H2 hy=>?_⟩;obtain ⟨rfl,rfl⟩:=hy;have hd:Ps[i]?=some Ps[i]:=A4 hi;show te ((zZ js σ).set k (some (.int (0+(i:Int))))) H2 _;refine step i Ps[i] _ _ hd g fun v r H5 g5 o ho=>⟨g.trans g5,rs++[r],?_,v1 ho (h2.same g5)⟩;rw [Br,hd];exact v1 o h1
 ·obtain ⟨g,rs,h1,h2⟩:=h;refine ⟨Aj _,fun D hD=>?_⟩;rw [Bv] at h1;exact fin H' D ys rs g hD h1 h2
theorem Qm {one:Bool} {t:TA} {σ:St} {H:Hp} {Q:VK} (h1:σ[1]?=some (some (.bl one))) (h:t σ H fun vs H1=>∃ h:Str,vs++[]=[.str h]∧∀ H2,qp H1 H2→Q (qce (Tre.JM one h)) H2):tIf (tB (qG 1)) (zB (Ji (Tre.JM true)) [] E0 t) (zB (Ji (Tre.JM false)) [] E0 t) σ H Q:=by
 refine ⟨_,h1,_,rfl,?_⟩;cases one with
 | true=>exact zV h
 | false=>exact jl h
theorem Qg {one:Bool} {h w:Str} (e:Tre.JM one h=some w):w.length≤5:=by
 have a:∀ p∈Tre.sForms,p.2.length≤5:=∅;have b:∀ p∈Tre.tForms,p.2.length≤5:=∅;cases one with
 | true=>exact a (h,w) (D8 e)
 | false=>exact b (h,w) (D8 e)
theorem QE {c hand:Bool} {σ:St} {H:Hp} {B:Bool→Hp→Prop} (h2:σ[2]?=some (some (.bl hand))) (k:B (c&&!hand) H):if c=true then qbo (tB (qG 2)) σ H B else B false H:=by
 cases c with
 | true=>exact zV ⟨_,h2,_,rfl,k⟩
 | false=>exact jl k
theorem Qf {one:Bool} {h w:Str} (e:Tre.JM one h=some w):0<w.length∧∀ L∈Tre.ze w,L∈Tre.vh.map (·.1):=by
 have a:∀ p∈Tre.sForms,0<p.2.length∧∀ L∈Tre.ze p.2,L∈Tre.vh.map (·.1):=∅;have b:∀ p∈Tre.tForms,0<p.2.length∧∀ L∈Tre.ze p.2,L∈Tre.vh.map (·.1):=∅;cases one with
 | true=>exact a (h,w) (D8 e)
 | false=>exact b (h,w) (D8 e)
theorem XW {hand:Bool} {ts:List Aa} {w:Str} {i:Nat} {B:Nat×Nat→Prop} (h:(Tre.JO hand ts (Tre.ze w))[i]?=some B):∃ d c,ts[i]?=some d∧w.cps.toList[i]?=some c∧(⟨#[c]⟩:Str)∈Tre.ze w∧B=Tre.FtL d ⟨#[c]⟩ hand:=by
 unfold Tre.JO at h;rw [Bm,Option.map_eq_some_iff] at h;obtain ⟨p,hp,rfl⟩:=h;obtain ⟨h1,h2⟩:=Dj.mp hp;have h3:=Bi h2;unfold Tre.ze at h2;rw [Bm,Option.map_eq_some_iff] at h2;obtain ⟨c,hc,e⟩:=h2;exact ⟨p.1,c,h1,hc,e▸h3,by rw [e]⟩
theorem wW (F:Fun K "_law_of" "_law_of" j7 f fd) (c:Cs K mg ad) (m k:Nat) (S:Sp) (hS:∀ n,m=n+1→S=Vm K n) (d_law_forms:Def P w K mg base 1 "_law_forms" ["_law_word_here"] (Ji (Tre.JM false))) (d_law_statement_forms:Def P w K mg base 1 "_law_statement_forms" ["_law_word_here"] (Ji (Tre.JM true)))
  (d_law_fits:Def P w K mg base (k+1) "_law_fits" ["_law_thing","_law_form","_law_may_hand"] S):FnOk P w K mg base CX0 (k+2) f fd ["_law_thing","_law_is_one","_law_may_hand"] (ZE K m):=by
 refine F.ok (k:=k+1) Vn (fun vs H Q E h=>?_) (fun cdv A outer s H vs Q E hr h=>?_)
 ·obtain ⟨x,d,one,hand,rfl,_⟩:=h;rfl
 obtain ⟨x,d,one,hand,rfl,hk,ft,hd,q⟩:=h;have hu64:=hr.units;refine ⟨_,(qg (qE (PW.pt (jd (zI (zh (qu (zK (K:=K) rfl) (by rfl) c.isinstance_ qz (qc (pv 0) (qc (jn c.tuple_ zO) qd))))) (jd (qq (yW (K:=K) rfl hu64) (pv 0) (qi qd) (qv _)) (jt (zI (zh (qu (zK (K:=K) rfl) (by rfl) c.isinstance_ qz (qc (pix K (pv 0) qf) (qc (jn c.str_ Jh) qd))))))))) (ql (qt zY)) qy)
   (qg (pst 3 Vn.nd (Je (zh (pv 1)) (pdf d_law_statement_forms (qc (pix K (pv 0) qf) qd)) (pdf d_law_forms (qc (pix K (pv 0) qf) qd))))
   (qg (qE (PW.pt (jd (qq Ym (pv 3) zY (qv _)) (jd (qq wU (qu (ja (K:=K) rfl) (by rfl) c.len_ zp (qc (pv 3) qd)) (qm zl (qu (ja (K:=K) rfl) (by rfl) c.len_ zp (qc (pv 0) qd)) qf) (qv _)) (jt (PW.pt (Jx (qq qT (pix K (pv 0) qf) qh (qv _)) (jJ (zI (zh (pv 2)))))))))) (ql (qt zY)) qy)
   (qg (V2 (i:=4) Vn.nd rfl (by first | exact Or.inl rfl | exact Or.inr rfl) (sc:=qo j7) (NX:=["_law_thing","_law_is_one","_law_may_hand","_law_forms_here","_law_found"]) (N:=["_law_k","_law_may_hand","_law_thing","_law_forms_here"]) (js:=[none,some 2,some 0,some 3]) (zP rfl c.range_ (qc (qu (ja (K:=K) rfl) (by rfl) c.len_ zp (qc (pv 3) qd)) qd)) (fun _ _ _ _ _=>(zb (i:=0) (show (["_law_k","_law_may_hand","_law_thing","_law_forms_here"]:List Str).Nodup from ∅) rfl (Or.inl rfl))) (fun _ _ _ _ _=>zG) (fun _ _ _ _ _=>(pdf d_law_fits (qc (pix K (pv 2) (qm qY (pv 0) qf)) (qc (pix K (pv 3) (pv 0)) (qc (pv 1) qd))))) (zd rfl) ⟨∅,rfl,∅,∅,rfl,∅⟩)
   (qg (qE (qq (qbe (K:=K) rfl hu64) zY (pv 4) rfl) (ql (qt zY)) qy)
   (ql (qt (qi (qc (qm qY qf (qu (qa0 (K:=K) rfl rfl) (by rfl) c.sum_ QC (qc (zx (sc:=qo j7) (NX:=["_law_thing","_law_is_one","_law_may_hand","_law_forms_here","_law_found"]) (N:=["_law_one"]) (js:=[none]) (Vp (K:=K) rfl (pv 4)) (fun _ _ _ _ _=>(zb (i:=0) (show (["_law_one"]:List Str).Nodup from ∅) rfl (Or.inl rfl))) (fun _ _ _ _ _=>zG) (fun _ _ _ _ _=>(pix K (pv 0) qf)) (zd rfl) ⟨∅,rfl,∅,∅,rfl,∅⟩) qd))) (qc (qm qY qf (qu (qcr (K:=K) rfl rfl) (by rfl) c.max_ YD (qc (zx (sc:=qo j7) (NX:=["_law_thing","_law_is_one","_law_may_hand","_law_forms_here","_law_found"]) (N:=["_law_one"]) (js:=[none]) (Vp (K:=K) rfl (pv 4)) (fun _ _ _ _ _=>(zb (i:=0) (show (["_law_one"]:List Str).Nodup from ∅) rfl (Or.inl rfl))) (fun _ _ _ _ _=>zG) (fun _ _ _ _ _=>(pix K (pv 0) qf)) (zd rfl) ⟨∅,rfl,∅,∅,rfl,∅⟩) qd))) qd)))))))))),?_⟩
 have non:∀ {H1:Hp},qp H H1→(∀ h ts w,d= .tuple (.str h::ts)→Tre.JM one h=some w→ts.length=(Tre.ze w).length→(h=="hand"&&!hand)=false→False)→Q .non H1:=fun g no=>by
  refine q _ none _ g (fun p z=>?_) rfl;obtain ⟨s0,t0⟩:=p;have z':Tre.Pt d (Tre.jS one) hand s0 t0:=z;cases z' with
  | mk hf hp=>
   obtain ⟨h,ts,fs,l,rfl,_⟩:=Tre.z3 hf;cases e:Tre.JM one h with
   | none=>exact absurd (hf.symm.trans (Tre.XJ e)) O0
   | some w=>
    obtain ⟨a,b,_⟩:=Tre.YW e (.mk hf hp);exact no h ts w rfl e a b
 refine ⟨_,rfl,x,d,"tuple",rfl,hk,O0,?_⟩;cases hk with
 | @tup a xs ds hq hs=>
  refine ⟨_,rfl,jl ?_⟩;have hlen:=hs.length;obtain ⟨n,rfl⟩:∃ n,m=n+1:=by
   cases m with
   | zero=>exact absurd hd (Nat.not_succ_le_zero _)
   | succ n=>exact ⟨n,rfl⟩
  obtain rfl:=hS n rfl;refine ⟨_,rfl,(by show 0≤Af;decide),fun e he=>⟨a,e,xs,rfl,rfl,(qj he _).sqT hq,SqT.of upd_same,_,rfl,?_⟩⟩
  have g1:=qj he (.tup []);have sq1:=g1.sqT hq;have hs1:=hs.same g1;generalize upd H e (.tup [])=H1 at g1 sq1 hs1 ⊢;cases hs with
  | nil=>exact zg rfl (non g1 fun h ts w e=>by cases e)
  | @cons x0 xr d0 dr h0 hrs=>
   refine zn rfl ?_;cases hs1 with
   | cons h1 hrs1=>
    refine ⟨_,rfl,.inr (.inl ⟨a,_,0,_,rfl,rfl,sq1,qS (j:=0) rfl,_,d0,"str",rfl,h1,O0,_,rfl,?_⟩)⟩;cases h1 with
    | str h=>
     refine jl ?_;refine Qm rfl ⟨_,rfl,.inr (.inl ⟨a,_,0,_,rfl,rfl,sq1,qS (j:=0) rfl,h,rfl,fun H2 g2=>?_⟩)⟩;have gA:=g1.trans g2;have sq2:=g2.sqT sq1;have hr2:=hrs1.same g2;cases el:Tre.JM one h with
     | none=>
      refine ⟨_,rfl,rfl,_,rfl,zg (Ai rfl) (non gA fun h' ts w e e' _ _=>?_)⟩;cases e;cases el.symm.trans e'
     | some w=>
      have hw:=Qg el;refine ⟨_,rfl,rfl,_,rfl,zn (Al fun z=>nomatch z) ?_⟩;refine ⟨_,rfl,_,_,rfl,⟨As hw O0,rfl⟩,_,rfl,_,_,rfl,.inr ⟨_,sq2,rfl⟩,_,_,rfl,rfl,rfl,_,rfl,?_⟩;have hls:xr.length=dr.length:=hrs.length;have hwl:(Tre.ze w).length=w.length:=by unfold Tre.ze;rw [An];rfl
      by_cases hl:w.length=dr.length
      ·refine zn ?_ ?_
       ·rw [Ai]
        ·rfl
        ·refine congrArg V.int ?_;rw [A5,hls,hl];omega
       refine ⟨_,rfl,.inr (.inl ⟨a,_,0,_,rfl,rfl,sq2,qS (j:=0) rfl,rfl,_,rfl,?_⟩)⟩;refine QE rfl ?_;rw [qa3];cases hh:(h=="hand"&&!hand) with
       | true=>
        refine zV (non gA fun h' ts w' e _ _ z=>?_);cases e;rw [hh] at z;cases z
       | false=>
        refine jl ?_;obtain ⟨hp0,hmem⟩:=Qf el;have hPs:(Tre.JO hand dr (Tre.ze w)).length=w.length:=by
         unfold Tre.JO;rw [An,Ds,hwl,hl,Nat.min_self]
        refine ⟨_,rfl,_,_,rfl,⟨As hw O0,rfl⟩,_,rfl,⋯,⋯,?_⟩;rw [Eh,← hPs];refine X2 (Tre.JO hand dr (Tre.ze w)) (by rw [hPs];exact As hw O0) (fun i B H' R hB g3 kk=>?_) (fun H' D ys os g3 hD op vo=>?_)
        ·obtain ⟨d1,cc,i1,i2,i3,rfl⟩:=XW hB;have hlt:i<dr.length:=(B3.mp i1).1;obtain ⟨x1,hx1⟩:∃ x1,xr[i]?=some x1:=⟨xr[i]'⋯,A4 _⟩;obtain ⟨d2,hd2,rd2⟩:=hr2.get hx1;cases i1.symm.trans hd2;have hmd:d1∈dr:=Bi i1;refine ⟨_,rfl,_,rfl,.inl ⟨_,_,rfl,rfl,.inr (.inl ⟨a,_,_,x1,rfl,rfl,g3.sqT sq2,?_,_,rfl,_,rfl,.inr (.inr ⟨w,_,cc,rfl,rfl,As hw O0,?_,_,rfl,x1,d1,_,hand,rfl,hmem _ i3,rd2.same g3,?_,?_,kk⟩)⟩)⟩⟩
         ·rw [show (0+(i:Int)+1)=((i+1:Nat):Int) from ⋯];exact qS hx1
         ·rw [show (0+(i:Int))=(i:Int) from ⋯];exact qS i2
         ·exact Tre.zA ft d1 (Au _ hmd)
         ·exact V6 hd (Au _ hmd)
        ·have g4:=qj hD (.lst ys);have vo1:=vo.same g4;have sD:SqL K (upd H' D (.lst ys)) D ys:=SqL.of upd_same;have gB:=gA.trans (g3.trans g4);generalize upd H' D (.lst ys)=H3 at g4 vo1 sD gB ⊢;refine ⟨_,rfl,D,ys,rfl,rfl,sD,(jy.noT vo1).1,_,rfl,?_⟩;rcases Tre.WG op with ⟨ps,rfl,al⟩ | ⟨mn,no⟩
         ·have hps:ps.length=w.length:=by rw [← J5 al,hPs]
          have hz:ps.length≤Af:=by rw [hps];exact As hw O0
          refine zn (by rw [(jy.noT (K:=K) vo1).2];simp) ?_
          refine ⟨_,rfl,.inl ⟨D,rfl,⟨ys,sD⟩,Vf sD vo1 (·.1) hz (fun b p R hb k=>⟨_,rfl,.inr (.inl ⟨b,_,0,_,rfl,rfl,SqT.of hb,rfl,k⟩)⟩) fun L hL=>⟨L,_,rfl,SqL.of upd_same,.inl ⟨_,_,rfl,rfl,?_⟩⟩⟩⟩;have g5:=qj hL (.lst ((ps.map fun p=>(p.1:Int)).map V.int));have vo2:=vo1.same g5;have sD2:=g5.seq sD;have gC:=gB.trans g5;generalize upd H3 L (.lst ((ps.map fun p=>(p.1:Int)).map V.int))=H4 at g5 vo2 sD2 gC ⊢;refine ⟨_,rfl,.inl ⟨D,rfl,⟨ys,sD2⟩,Vf sD2 vo2 (·.2) hz (fun b p R hb k=>⟨_,rfl,.inr (.inl ⟨b,_,1,_,rfl,rfl,SqT.of hb,rfl,k⟩)⟩) fun L2 hL2=>⟨L2,_,rfl,SqL.of upd_same,(fun z=>?_),fun mx hmx=> .inl ⟨_,_,rfl,rfl,(by show 2≤Af;decide),fun p hp=>?_⟩⟩⟩⟩
          ·have:ps=[]:=by simpa using z
           rw [this] at hps;rw [← hps] at hp0;exact absurd hp0 O0
          ·refine q _ (some (Tre.smS ps+1,Tre.mxT ps+1)) _ ((gC.trans (qj hL2 _)).trans (qj hp _)) (Tre.qed el (by rw [hwl,hl]) hh al) ⟨p,rfl,?_⟩
           rw [upd_same,Tre.qbc hmx.1 hmx.2,Yi];refine congrArg some (congrArg HO.tup ?_);show [V.int (1+(Tre.smS ps:Int)),V.int (1+(Tre.mxT ps:Int))]=[V.int ((Tre.smS ps+1:Nat):Int),V.int ((Tre.mxT ps+1:Nat):Int)];rw [show (1+(Tre.smS ps:Int))=((Tre.smS ps+1:Nat):Int) from ⋯,show (1+(Tre.mxT ps:Int))=((Tre.mxT ps+1:Nat):Int) from ⋯]
         ·refine zg (by rw [(jy.noT (K:=K) vo1).2];exact Cp.mpr ⟨none,mn,rfl⟩) ?_
          refine q _ none _ gB (fun p hp=>?_) rfl;obtain ⟨_,_,ps,al⟩:=Tre.YW el hp;exact no ps al
      ·refine zg ?_ (non gA fun h' ts w' e e' l _=>?_)
       ·rw [Al]
        ·rfl
        ·intro z;have z':=V.int.inj z;rw [A5,hls] at z';omega
       ·cases e;cases el.symm.trans e';omega
    | _=>exact zV (non g1 fun h ts w e=>by cases e)
 | _=>exact ⟨_,rfl,zV (non (qp.refl _) fun h ts w e=>by cases e)⟩
theorem looks {fO fM fF:Ac} {dO dM dF:FuncData} (FO:Fun K "_law_of" "_law_of" j7 fO dO) (FM:Fun K "_law_many" "_law_many" jk fM dM) (FF:Fun K "_law_fits" "_law_fits" j9 fF dF) (kO:Known K mg "_law_of" ["_law_thing","_law_is_one","_law_may_hand"] fO dO)
  (kM:Known K mg "_law_many" ["_law_thing","_law_most","_law_are_statements","_law_may_hand"] fM dM) (kF:Known K mg "_law_fits" ["_law_thing","_law_form","_law_may_hand"] fF dF) (c:Cs K mg ad) (d_law_is_name:Def P w K mg base 1 "_law_is_name" ["_law_thing"] (spD K Tre.qN))
  (d_law_forms:Def P w K mg base 1 "_law_forms" ["_law_word_here"] (Ji (Tre.JM false))) (d_law_statement_forms:Def P w K mg base 1 "_law_statement_forms" ["_law_word_here"] (Ji (Tre.JM true))):
  ∀ n:Nat,Def P w K mg base (4*n+6) "_law_fits" ["_law_thing","_law_form","_law_may_hand"] (Vm K n):=by
 have up:∀ n k,Def P w K mg base k "_law_of" ["_law_thing","_law_is_one","_law_may_hand"] (ZE K n)→Def P w K mg base (k+3) "_law_fits" ["_law_thing","_law_form","_law_may_hand"] (Vm K n):=fun n k o=>
  kF.out (yz FF c n k d_law_is_name o (kM.out (yw FM c n k o)))
 have of0:Def P w K mg base 3 "_law_of" ["_law_thing","_law_is_one","_law_may_hand"] (ZE K 0):=by
  exact kO.out (wW FO c 0 1 (fun _ _ _ _=>False) (fun n h=>nomatch h) d_law_forms d_law_statement_forms (kF.out v9))
 intro n
 induction n with
 | zero=>exact up 0 3 of0
 | succ n ih=>exact (up (n+1) (4*n+7) (kO.out (wW FO c (n+1) (4*n+5) (Vm K n) (fun n' h=>by cases h;rfl) d_law_forms d_law_statement_forms ih))).mono ⋯
theorem yK {d:Aa}:Tre.qR d=true↔∃ nm b s t,d= .tuple [.str "main",nm,b]∧Tre.areNames nm=true∧Tre.FtL b "H" true (s,t)∧s<300∧t<20:=by
 rw [Tre.wL];constructor
 ·rintro ⟨s,t,p,ht,hs⟩;cases p with
  | @mk _ _ _ s' t' hf hp=>
   obtain ⟨h,ts,fs,l,rfl,e1,e2,e3,_,e4,e5,_⟩:=Tre.z3 hf;have hl:l=(["main"]:List Str):=by
    have:Tre.heads.lookup ("program":Str)=some (["main"]:List Str):=∅;exact (Bj (this.symm.trans e1)).symm
   subst hl;obtain rfl:h="main":=by simpa using e2
   have hfs:fs=(["names","body"]:List Str):=by
    have:Tre.forms.lookup ("main":Str)=some (["names","body"]:List Str):=∅;exact (Bj (this.symm.trans e3)).symm
   subst hfs
   match ts,e4 with
   | [nm,b],_=>
    refine ⟨nm,b,s',t',rfl,e5 (nm,"names") (by simp),⟨e5 (b,"body") (by simp),?_⟩,⋯,⋯⟩
    have hp':Tre.Ptl (Tre.qr nm "names"++(Tre.qr b "body"++[])) true s' t':=hp;rw [By] at hp';exact hp'
 ·rintro ⟨nm,b,s,t,rfl,hn,hb,hs,ht⟩;refine ⟨s+1,t+1,.mk ?_ ?_,⋯,⋯⟩
  ·simp only [Tre.qP,Tre.zj,Ao,Cm,Bs];refine ⟨⟨∅,∅⟩,rfl,?_⟩;show (Tre.qx nm "names"&&(Tre.qx b "body"&&true))=true;rw [show Tre.qx nm "names"=true from hn,show Tre.qx b "body"=true from hb.1];rfl
  ·show Tre.Ptl (Tre.qr nm "names"++(Tre.qr b "body"++[])) true s t;rw [By];exact hb.2
mutual
theorem QV:∀ {d:Aa} {sh:Str} {h:Bool} {s t s' t':Nat},Tre.Pt d sh h s t→Tre.Pt d sh h s' t'→s=s'∧t=t'
 | _,_,_,_,_,_,_,.mk _ a,.mk _ b=>by
  obtain ⟨e1,e2⟩:=vZ a b;exact ⟨⋯,⋯⟩
theorem vZ:∀ {l:List (Aa×Str)} {h:Bool} {s t s' t':Nat},Tre.Ptl l h s t→Tre.Ptl l h s' t'→s=s'∧t=t'
 | _,_,_,_,_,_,.nil,.nil=>⟨rfl,rfl⟩
 | _,_,_,_,_,_,.cons a b,.cons a' b'=>by
  obtain ⟨e1,e2⟩:=QV a a';obtain ⟨e3,e4⟩:=vZ b b';exact ⟨⋯,⋯⟩
end
def qa5 (K:Frag) (n:Nat):Sp:=fun vs H Q _=>∃ x d,vs=[x]∧Rep K H x d∧Tre.fit d=true∧d.depth≤n+1∧∀ H',qp H H'→Q (.bl (Tre.qR d)) H'
theorem XB {nm:Aa} {r:Option (Nat×Nat)} (h:Tre.vO (Tre.FtL nm "N" true) r):Tre.areNames nm=r.isSome:=by
 cases r with
 | none=>
  cases e:Tre.areNames nm with
  | false=>rfl
  | true=>exact absurd (⟨e,.nil⟩:Tre.FtL nm "N" true (0,0)) (h (0,0))
 | some p=>exact h.1
theorem ZQ {H:Hp} {xs:List V} {ds:List Aa} (h:Reps K H xs ds) (l:ds.length=3):∃ x0 x1 x2 d0 d1 d2,xs=[x0,x1,x2]∧ds=[d0,d1,d2]∧Rep K H x0 d0∧Rep K H x1 d1∧Rep K H x2 d2:=by
 cases h with
 | nil=>cases l
 | cons r0 h=>
  cases h with
  | nil=>cases l
  | cons r1 h=>
   cases h with
   | nil=>cases l
   | cons r2 h=>
    cases h with
    | nil=>exact ⟨_,_,_,_,_,_,rfl,rfl,r0,r1,r2⟩
    | cons _ _=>cases l
theorem v7 (F:Fun K "_law_is_program" "_law_is_program" jD f fd) (c:Cs K mg ad) (n k:Nat) (d_law_fits:Def P w K mg base k "_law_fits" ["_law_thing","_law_form","_law_may_hand"] (Vm K n)):FnOk P w K mg base CX0 (k+1) f fd ["_law_thing"] (qa5 K n):=by
 refine F.ok (k:=k) Jk (fun vs H Q E h=>?_) (fun cdv A outer s H vs Q E hr h=>?_)
 ·obtain ⟨x,d,rfl,_⟩:=h;rfl
 obtain ⟨x,d,rfl,hk,ft,hd,q⟩:=h;refine ⟨_,(qg (qE (PW.pt (jd (zI (zh (qu (zK (K:=K) rfl) (by rfl) c.isinstance_ qz (qc (pv 0) (qc (jn c.tuple_ zO) qd))))) (jd (qq wU (qu (ja (K:=K) rfl) (by rfl) c.len_ zp (qc (pv 0) qd)) qf (qv _)) (jd (zI (zh (qu (zK (K:=K) rfl) (by rfl) c.isinstance_ qz (qc (pix K (pv 0) qf) (qc (jn c.str_ Jh) qd))))) (jt (qq wU (pix K (pv 0) qf) qh (qv _))))))) (ql (qt zr)) qy)
   (qg (qE (qq Ym (pdf d_law_fits (qc (pix K (pv 0) qf) (qc qh (qc zr qd)))) zY (qv _)) (ql (qt zr)) qy)
   (qg (pst 1 Jk.nd (pdf d_law_fits (qc (pix K (pv 0) qf) (qc qh (qc zr qd)))))
   (ql (qt (jF (zF Q8 (pv 1) zY (qv _)) (jF (zF Jf (pix K (pv 1) qf) qf (qv _)) (Jd (zF Jf (pix K (pv 1) qf) qf (qv _)))))))))),?_⟩
 have no:∀ {H1:Hp},qp H H1→(∀ nm b s t,d= .tuple [.str "main",nm,b]→Tre.areNames nm=true→Tre.FtL b "H" true (s,t)→s<300→t<20→False)→Q (.bl false) H1:=fun g z=>by
  have e:Tre.qR d=false:=Bz.mpr fun y=>by
   obtain ⟨nm,b,s,t,e1,e2,e3,e4,e5⟩:=yK.mp y;exact z nm b s t e1 e2 e3 e4 e5
  have q':=q _ g;rw [e] at q';exact q'
 refine ⟨_,rfl,x,d,"tuple",rfl,hk,O0,?_⟩;cases hk with
 | @tup a xs ds hq hs=>
  refine ⟨_,rfl,jl ?_⟩;have hlen:=hs.length;refine ⟨_,rfl,_,_,rfl,.inr ⟨_,hq,rfl⟩,rfl,_,rfl,?_⟩
  by_cases h3:ds.length=3
  ·refine zn (by rw [Ai (by rw [hlen,h3];rfl)];rfl) ?_
   obtain ⟨x0,x1,x2,d0,d1,d2,rfl,rfl,r0,r1,r2⟩:=ZQ hs h3;clear hs h3 hlen;refine ⟨_,rfl,.inr (.inl ⟨a,_,0,_,rfl,rfl,hq,rfl,_,d0,"str",rfl,r0,O0,_,rfl,?_⟩)⟩;cases r0 with
   | str h=>
    refine jl ⟨_,rfl,.inr (.inl ⟨a,_,0,_,rfl,rfl,hq,rfl,rfl,_,rfl,?_⟩)⟩
    by_cases hm:h="main"
    ·subst hm;refine zn ∅ ?_;have hd1:d1.depth≤n:=V6 hd (by simp)
     have hd2:d2.depth≤n:=V6 hd (by simp)
     refine ⟨_,rfl,.inr (.inl ⟨a,_,1,_,rfl,rfl,hq,rfl,x1,d1,"N",true,rfl,∅,r1,Tre.zA ft d1 (by simp),hd1,fun v r H2 g2 o ho=>⟨rfl,_,rfl,?_⟩⟩)⟩
     have en:=XB o;cases r with
     | none=>
      cases ho;refine zg (Ai rfl) (no g2 fun nm b s t e e2 _ _ _=>?_);cases e;cases en.symm.trans e2
     | some p=>
      obtain ⟨pa,rfl,_⟩:=ho;refine zn (Al fun z=>nomatch z) ?_;refine ⟨_,rfl,.inr (.inl ⟨a,_,2,_,rfl,rfl,g2.sqT hq,rfl,x2,d2,"H",true,rfl,∅,r2.same g2,Tre.zA ft d2 (by simp),hd2,fun v r H3 g3 o2 ho2=>?_⟩)⟩
      cases r with
      | none=>
       cases ho2;exact ⟨_,rfl,rfl,_,rfl,zn rfl (no (g2.trans g3) fun nm b s t e _ e3 _ _=>by cases e;exact o2 _ e3)⟩
      | some p2=>
       obtain ⟨pb,rfl,hb⟩:=ho2;refine ⟨_,rfl,rfl,_,rfl,zg rfl ⟨_,rfl,.inr (.inl ⟨pb,_,0,_,rfl,rfl,SqT.of hb,rfl,_,_,rfl,rfl,_,rfl,?_⟩)⟩⟩
       by_cases h300:p2.1<300
       ·refine zg (Ai ⋯) ⟨_,rfl,.inr (.inl ⟨pb,_,1,_,rfl,rfl,SqT.of hb,rfl,_,_,rfl,rfl,?_⟩)⟩;show Q (.bl (decide ((p2.2:Int)<20))) _
        by_cases h20:p2.2<20
        ·have q':=q _ (g2.trans g3);rw [yK.mpr ⟨d1,d2,p2.1,p2.2,rfl,en,o2,h300,h20⟩] at q';rw [show decide ((p2.2:Int)<20)=true from Ai ⋯];exact q'
        ·rw [show decide ((p2.2:Int)<20)=false from Al ⋯];refine no (g2.trans g3) fun nm b s t e _ e3 _ e5=>?_;cases e;have:=(vZ e3.2 o2.2).2;have e6:t=p2.2:=this;omega
       ·refine zn (Al ⋯) (no (g2.trans g3) fun nm b s t e _ e3 e4 _=>?_);cases e;have e6:s=p2.1:=(vZ e3.2 o2.2).1;omega
    ·refine zg (by rw [Al fun z=>hm (V.str.inj z)];rfl) (no (qp.refl _) fun nm b s t e _ _ _ _=>?_)
     cases e;exact hm rfl
   | _=>exact zV (no (qp.refl _) fun nm b s t e _ _ _ _=>by cases e)
  ·refine zg (by rw [Al (fun z=>h3 (by have:=V.int.inj z;omega))];rfl) ?_
   exact no (qp.refl _) fun nm b s t e _ _ _ _=>h3 (by cases e;rfl)
 | _=>exact ⟨_,rfl,zV (no (qp.refl _) fun nm b s t e _ _ _ _=>by cases e)⟩
def Me (K:Frag) (t:TE) (σ:St) (H0:Hp) (d:Aa):Prop:=∀ H Q,qp H0 H→(∀ x H',qp H H'→Rep K H' x d→Q x H')→t σ H Q
def Mes (K:Frag) (t:TA) (σ:St) (H0:Hp) (m:Nat) (ds:List Aa):Prop:=ds.length=m∧∀ H Q,qp H0 H→(∀ xs H',qp H H'→Reps K H' xs ds→Q xs H')→t σ H Q
def Mk (K:Frag) (t:TE) (σ:St) (H0:Hp) (n z:Nat):Prop:=∀ H Q,qp H0 H→(∀ x H' d,qp H H'→Rep K H' x d→Tre.Sn n z d→Q x H')→t σ H Q
def Mks (K:Frag) (t:TA) (σ:St) (H0:Hp) (m n z:Nat):Prop:=∀ H Q,qp H0 H→(∀ xs H' ds,qp H H'→Reps K H' xs ds→ds.length=m→Tre.Sns n z ds→Q xs H')→t σ H Q
section
variable {t:TE} {ts:TA} {σ:St} {H H0:Hp} {d:Aa} {ds:List Aa} {n z m y k i:Nat} {v:V} {Q:VK}
theorem Me.go (h:Me K t σ H d) (q:∀ x H',qp H H'→Rep K H' x d→Q x H'):t σ H Q:=h H Q (qp.refl _) q
theorem Mk.go (h:Mk K t σ H n z) (q:∀ x H' d,qp H H'→Rep K H' x d→Tre.Sn n z d→Q x H'):t σ H Q:=h H Q (qp.refl _) q
theorem Mks.go {Q:List V→Hp→Prop} (h:Mks K ts σ H m n z) (q:∀ xs H' ds,qp H H'→Reps K H' xs ds→ds.length=m→Tre.Sns n z ds→Q xs H'):ts σ H Q:=h H Q (qp.refl _) q
theorem WS {x:Str}:Me K (tC (.str x)) σ H0 (.str x):=fun H Q _ q=>q _ H (qp.refl _) (.str x)
theorem me_i {j:Int}:Me K (tC (.int j)) σ H0 (.int j):=fun H Q _ q=>q _ H (qp.refl _) (.int j)
theorem Qb (e:σ[i]?=some (some v)) (r:Rep K H0 v d):Me K (qG i) σ H0 d:=fun H Q g q=>⟨v,e,q v H (qp.refl _) (r.same g)⟩
theorem zT:Mes K zf σ H0 0 []:=⟨rfl,fun H Q _ q=>q _ H (qp.refl _) .nil⟩
theorem qM (h:Me K t σ H0 d) (r:Mes K ts σ H0 m ds):Mes K (qw t ts) σ H0 (m+1) (d::ds):=⟨by rw [A5,r.1],fun H Q g q=>h H _ g fun x H1 g1 rx=>r.2 H1 _ (g.trans g1) fun xs H2 g2 rs=>q _ _ (g1.trans g2) (.cons (rx.same g2) rs)⟩
theorem Vb (h:Mes K ts σ H0 m ds) (hm:m≤100:=by decide):Me K (JT ts) σ H0 (.tuple ds):=fun H Q g q=>h.2 H _ g fun xs H1 g1 rs=>⟨As (show xs.length≤100 by rw [rs.length,h.1];exact hm) O0,fun p hp=>q _ _ (g1.trans (qj hp _)) (.tup (SqT.of upd_same) (rs.same (qj hp _)))⟩
theorem qI {x:Str} (h:(PyData.strOk x&&decide (x.length≤9))=true:=by decide+kernel):Mk K (tC (.str x)) σ H0 n 92:=fun H Q _ q=>q _ H _ (qp.refl _) (.str x) ((Tre.Sn.word h).mono (A7 _) (Aj _))
theorem qco {j:Int} (h:j.natAbs≤2000000000000:=by decide):Mk K (tC (.int j)) σ H0 n 1921:=fun H Q _ q=>q _ H _ (qp.refl _) (.int j) ((Tre.Sn.int h).mono (A7 _) (Aj _))
theorem qew {b:Bool}:Mk K (tC (.bl b)) σ H0 n 5:=fun H Q _ q=>q _ H _ (qp.refl _) (.bl b) ((Tre.Sn.bool b).mono (A7 _) (Aj _))
theorem qeu:Mk K (tC .non) σ H0 n 4:=fun H Q _ q=>q _ H _ (qp.refl _) .non (Tre.Sn.none.mono (A7 _) (Aj _))
theorem zm (e:σ[i]?=some (some v)) (r:Rep K H0 v d) (s:Tre.Sn k z d) (hn:k≤n:=by omega):Mk K (qG i) σ H0 n z:=fun H Q g q=>⟨v,e,q v H d (qp.refl _) (r.same g) (s.mono hn (Aj _))⟩
theorem qk:Mks K zf σ H0 0 n 0:=fun H Q _ q=>q _ H [] (qp.refl _) .nil rfl (Tre.Sns.nil.mono (A7 _) (Aj _))
theorem qe (h:Mk K t σ H0 n z) (r:Mks K ts σ H0 m n y):Mks K (qw t ts) σ H0 (m+1) n (z+2+y):=fun H Q g q=>h H _ g fun x H1 d g1 rx s=>r H1 _ (g.trans g1) fun xs H2 ds g2 rs l ss=>q _ _ (d::ds) (g1.trans g2) (.cons (rx.same g2) rs) (by rw [A5,l]) ((Tre.Sns.cons s ss).mono ⋯ (Aj _))
theorem qC (h:Mks K ts σ H0 m n z) (hm:m≤100:=by decide):Mk K (JT ts) σ H0 (n+1) (z+3):=fun H Q g q=>h H _ g fun xs H1 ds g1 rs l ss=>⟨As (show xs.length≤100 by rw [rs.length,l];exact hm) O0,fun p hp=>q _ _ _ (g1.trans (qj hp _)) (.tup (SqT.of upd_same) (rs.same (qj hp _))) (.tup ss)⟩
end
def qa4:Sp:=fun vs _ Q _=>∃ cell:Int,vs=[.int cell]∧∀ H',Q (.bl true) H'
theorem YJ (c:Bool):∀ k,Tre.fit (Tre.VP c k)=true
 | 0=>show Tre.fit Tre.seven=true from ∅
 | k+1=>by
  have ih:=YJ c k;cases c with
  | true=>
   rw [Tre.VP,if_pos rfl];simp only [Tre.fit,Tre.zR,ih,show Tre.fit Tre.seven=true from ∅,Ek];decide+kernel
  | false=>
   rw [Tre.VP,if_neg O0];simp only [Tre.fit,Tre.zR,ih,Ek];decide+kernel
theorem Zj {d:Aa} (h:Tre.fit d=true):Tre.fit (Tre.QL d)=true:=by
 unfold Tre.QL;simp only [Tre.fit,Tre.zR,h,Ek];decide+kernel
theorem qbh {js:List (Option Nat)} {g:TG} {te:TE} {σ:St} {H1:Hp} {Q:VK} {J:It} (hg:∀ i H,i<4→J.go i H) (hst:∀ H,J.stop 4 H)
  (hs:∀ i H,i<4→qp H1 H→∀ x H2,J.yld i H x H2→∀ R:VK,(∀ H5,qp H1 H5→R (.bl true) H5)→g x (zZ js σ) H2 fun σ3 H3=>te σ3 H3 R)
  (hd:∀ H D,qp H1 H→H D=none→Q (.ref D) (upd H D (.lst ((List.replicate 4 true).map V.bl)))):VO J js g Wq te σ H1 Q:=by
 refine zL 4 (fun i ys H=>ys=(List.replicate i true).map V.bl∧qp H1 H) ⟨rfl,qp.refl _⟩ (fun i ys H h=>by rw [h.1,An,Dw];exact Aj _) O0 (fun i ys H hi h=>⟨hg i H hi,fun x H2 yl=>?_⟩) (fun ys H h=>⟨hst H,fun D hD=>?_⟩)
 ·refine hs i H hi h.2 x H2 yl _ fun H5 g5=>⟨?_,g5⟩;rw [h.1,List.replicate_succ',Bc];rfl
 ·rw [h.1];exact hd H D h.2 hD
theorem J7 (F:Fun K "_law_tower_refused" "_law_tower_refused" zD f fd) (c:Cs K mg ad) (d_law_refused:Def P w K mg base 9 "_law_refused" ["_law_way","_law_thing"] (ZC K)):FnOk P w K mg base CX0 10 f fd ["_law_cell"] qa4:=by
 refine F.ok zk (fun vs H Q E h=>?_) (fun cdv A outer s H vs Q E hr h=>?_)
 ·obtain ⟨cell,rfl,_⟩:=h;rfl
 obtain ⟨cell,rfl,q⟩:=h;refine ⟨_,(qg (pst 1 zk.nd (qi (qc qh (qc qf qd))))
   (qg (pst 2 zk.nd (pv 1))
   (qg (WE Df rfl (zP rfl c.range_ (qc (qm qY qf (qm qA (pv 0) qf)) qd)) (pgn 3 zk.nd) (ql (pst 2 zk.nd (Je (qq qT (qm qA (qm qQ (pv 0) qf) qf) qf (qv _)) (qi (qc qh (qc qh (qc (pv 2) (qc (pv 1) qd))))) (qi (qc qh (qc (qi qd) (qc (qi (qc (qi (qc qh (qc (pv 2) qd))) qd)) qd))))))))
   (ql (qt (qu (Wp (K:=K) rfl rfl) (by rfl) c.all_ Vx (qc (zx (sc:=qo zD) (NX:=["_law_cell","_law_one","_law_deep","_law_turn"]) (N:=["_law_k","_law_cell","_law_deep"]) (js:=[none,some 0,some 2]) (zP rfl c.range_ (qc qf qd)) (fun _ _ _ _ _=>(zb (i:=0) (show (["_law_k","_law_cell","_law_deep"]:List Str).Nodup from ∅) rfl (Or.inl rfl))) (fun _ _ _ _ _=>zG) (fun _ _ _ _ _=>(pdf d_law_refused (qc (qm qA (qm qY (qm qQ (pv 1) qf) (pv 0)) qf) (qc (qi (qc qh (qc (qi qd) (qc (qi (qc (qi (qc qh (qc (pv 2) qd))) qd)) qd)))) qd)))) (zd rfl) ⟨∅,rfl,∅,∅,rfl,∅⟩) qd))))))),?_⟩
 refine Me.go (K:=K) (Vb (qM WS (qM me_i zT))) fun one H1 g1 r1=>?_;have e0:=Az cell (show (1000:Int)≠0 from O0);refine ⟨_,rfl,_,rfl,_,_,rfl,rfl,(show (0:Int)<1000 from O0),.inl ⟨_,_,rfl,rfl,_,rfl,?_⟩⟩;have e1:=Aw cell (show (0:Int)<1000 from O0);refine ⟨⋯,⋯,?_⟩;generalize hN:(1000+cell % 1000).toNat=N;have hN20:20≤N:=⋯;refine YA N (fun i σ H'=>∃ x o3,σ=[some (.int cell),some one,some x,o3]∧qp H1 H'∧Rep K H' x (Tre.VP (decide (cell / 1000 % 2=0)) i)) ⟨one,none,rfl,qp.refl _,r1⟩ (fun i σ H2 hi h=>?_) (fun σ H2 h=>?_)
 ·obtain ⟨x,o3,rfl,g2,r2⟩:=h;refine ⟨hi,fun v H3 yl=>?_⟩;obtain ⟨rfl,rfl⟩:=yl;have r_one:=r1.same g2;have r_x2:=r2;refine ⟨_,rfl,_,_,rfl,rfl,⟨O0,O0⟩,_,_,rfl,rfl,(show (0:Int)<2 from O0),rfl,_,rfl,?_⟩
  by_cases hc:cell / 1000 % 2=0
  ·refine zg (Ai (congrArg V.int hc)) (Me.go (K:=K) (Vb (qM WS (qM WS (qM (Qb rfl r_x2) (qM (Qb rfl r_one) zT))))) fun y H4 g4 r4=>?_);refine ⟨y,_,rfl,g2.trans g4,?_⟩;rw [Ai hc] at r4 ⊢;exact r4
  ·refine zn (Al fun z=>hc (V.int.inj z)) (Me.go (K:=K) (Vb (qM WS (qM (Vb zT) (qM (Vb (qM (Vb (qM WS (qM (Qb rfl r_x2) zT))) zT)) zT)))) fun y H4 g4 r4=>?_);refine ⟨y,_,rfl,g2.trans g4,?_⟩;rw [Al hc] at r4 ⊢;exact r4
 ·obtain ⟨x,o3,rfl,g2,r2⟩:=h;refine ⟨Aj _,?_⟩;refine ⟨4,rfl,O0,O0,qbh (fun i H hi=>hi) (fun H=>Aj _) (fun i H3 hi g3 v H4 yl R hR=>?_) (fun H3 D g3 hD=>?_)⟩
  ·obtain ⟨rfl,rfl⟩:=yl;have r_x2:=r2.same g3;refine ⟨_,rfl,_,_,rfl,rfl,⟨O0,O0⟩,_,rfl,.inl ⟨_,_,rfl,rfl,_,_,rfl,rfl,(show (0:Int)<4 from O0),?_⟩⟩;refine Me.go (K:=K) (Vb (qM WS (qM (Vb zT) (qM (Vb (qM (Vb (qM WS (qM (Qb rfl r_x2) zT))) zT)) zT)))) fun y H5 g5 r5=>?_;exact ⟨_,y,_,rfl,r5,Zj (YJ _ _),Tre.qbm hN20,fun H6 g6=>hR H6 ((g3.trans g5).trans g6)⟩
  ·exact ⟨D,List.replicate 4 true,rfl,SqL.of upd_same,q _⟩
def Lt (K:Frag) (H:Hp) (p:Ac) (m n z:Nat):Prop:=∃ vs ds,H p=some (.lst vs)∧Reps K H vs ds∧ds.length=m∧∀ d∈ds,Tre.Sn n z d
def Mls (K:Frag) (t:TA) (σ:St) (H0:Hp) (m n z:Nat):Prop:=∀ H Q,qp H0 H→(∀ xs H' ds,qp H H'→Reps K H' xs ds→ds.length=m→(∀ d∈ds,Tre.Sn n z d)→Q xs H')→t σ H Q
theorem VI {n z:Nat}:∀ {ds:List Aa},(∀ d∈ds,Tre.Sn n z d)→Tre.jP ds=true
 | [],_=>rfl
 | d::ds,h=>by
  rw [Tre.jP,(h d A0).nol,VI fun e he=>h e (Au _ he)];rfl
theorem Yc {n z:Nat} {d:Aa} {ds:List Aa} (h:∀ d∈ds,Tre.Sn n z d) (s:Tre.Sn n z d):∀ e∈ds++[d],Tre.Sn n z e:=fun e he=>by
 rcases Cr.mp he with he | he
 ·exact h e he
 ·cases B5.mp he;exact s
theorem qax {n z:Nat} {ds es:List Aa} (h:∀ d∈ds,Tre.Sn n z d) (g:∀ d∈es,Tre.Sn n z d):∀ e∈ds++es,Tre.Sn n z e:=fun e he=>(Cr.mp he).elim (h e) (g e)
section
variable {t:TE} {ts:TA} {σ:St} {H H0 H':Hp} {n z m y k j i:Nat} {p:Ac} {Q:VK}
theorem Lt.same (l:Lt K H p m n z) (g:qp H H'):Lt K H' p m n z:=by
 obtain ⟨vs,ds,e,r,a,b⟩:=l;exact ⟨vs,ds,g _ _ e,r.same g,a,b⟩
theorem jg:Mls K zf σ H0 0 n z:=fun H Q _ q=>q _ H [] (qp.refl _) .nil rfl fun d hd=>(by cases hd)
theorem qH (h:Mk K t σ H0 n y) (r:Mls K ts σ H0 m n z) (hy:y≤z:=by omega):Mls K (qw t ts) σ H0 (m+1) n z:=fun H Q g q=>h H _ g fun x H1 d g1 rx s=>r H1 _ (g.trans g1) fun xs H2 ds g2 rs l ss=>q _ _ (d::ds) (g1.trans g2) (.cons (rx.same g2) rs) (by rw [A5,l]) fun e he=>by
 rcases Av.mp he with rfl | he
 ·exact s.mono (Aj _) hy
 ·exact ss e he
theorem Yu (h:Mls K ts σ H m n z) (q:∀ p H',qp H H'→H p=none→Lt K H' p m n z→Q (.ref p) H') (hm:m≤100:=by decide):vC ts σ H Q:=
 h H _ (qp.refl _) fun xs H1 ds g1 rs l ss=>⟨As (show xs.length≤100 by rw [rs.length,l];exact hm) O0,fun p hp=>q p _ (g1.trans (qj hp _)) (g1.free hp) ⟨xs,ds,upd_same,rs.same (qj hp _),l,ss⟩⟩
theorem qcv (e:σ[i]?=some (some (.ref p))) (l:Lt K H p m n z) (h:Mls K ts σ H j n z) (q:∀ p H',qp H H'→H p=none→Lt K H' p (m+j) n z→Q (.ref p) H') (hm:m+j≤100:=by decide):tOp vz (qG i) (vC ts) σ H Q:=by
 obtain ⟨vs,ds,hp,r,a,b⟩:=l;refine ⟨_,e,Yu h (fun p2 H2 g2 n2 l2=>?_) ⋯⟩;obtain ⟨ws,es,hp2,r2,a2,b2⟩:=l2;have hl:vs.length+ws.length≤100:=by rw [r.length,r2.length,a,a2];exact hm
 refine qe9 (g2 _ _ hp) hp2 (As hl O0) fun p3 hp3=>?_;exact q p3 _ (g2.trans (qj hp3 _)) (g2.free hp3) ⟨_,ds++es,upd_same,((r.same g2).append r2).same (qj hp3 _),by rw [A8,a,a2],qax b b2⟩
theorem qcw {D:Ends} (e:σ[i]?=some (some (.ref p))) (l:Lt K H p m n z) (h:Mk K t σ H n y) (g:qp H0 H) (h0:H0 p=none) (q:∀ H',qp H0 H'→Lt K H' p (m+1) n z→D.nx σ H') (hy:y≤z:=by omega) (hm:m≤100:=by decide):YK (tBM K "list" V0 (qG i) (qw t zf)) D σ H:=by
 obtain ⟨vs,ds,hp,r,a,b⟩:=l;refine ⟨_,e,.inl ⟨rfl,_,SqL.of hp⟩,h.go fun x H1 d g1 rx s=>⟨p,vs,x,rfl,rfl,g1 _ _ hp,Bx (show vs.length≤100 by rw [r.length,a];exact hm) O0,q _ (fun b u eb=>?_) ⟨_,ds++[d],upd_same,?_,by rw [A8,a];rfl,Yc b (s.mono (Aj _) hy)⟩⟩⟩
 ·rw [qB (qD eb h0)];exact g1 _ _ (g _ _ eb)
 ·exact Reps.put (g1 _ _ hp) ((r.same g1).append (.cons rx .nil)) (VI (Yc b (s.mono (Aj _) hy)))
theorem qbd {i:Int} (l:Lt K H p m n z) (h0:0≤i) (h1:i<(m:Int)):∃ vs v d,SqL K H p vs∧atI vs i=some v∧Rep K H v d∧Tre.Sn n z d:=by
 obtain ⟨vs,ds,hp,r,a,b⟩:=l;have hl:=r.length;obtain ⟨v,hv⟩:=Vw (l:=vs) (i:=i.toNat) ⋯;obtain ⟨d,hd,rv⟩:=r.get hv;have ei:i=((i.toNat:Nat):Int):=⋯;refine ⟨vs,v,d,SqL.of hp,?_,rv,b d (Bi hd)⟩;rw [ei];exact qS hv
section
variable {r:TS} {D:Ends} {i2:Nat}
theorem Mk.ret (n:Nat) (h:Mk K t σ H n z) (q:∀ x H' d,qp H H'→Rep K H' x d→Tre.Sn n z d→D.rt x H'):vS t D σ H:=h.go q
theorem Mk.set (n:Nat) (h:Mk K t σ H n z) (q:∀ x H' d,qp H H'→Rep K H' x d→Tre.Sn n z d→r D (σ.set i (some x)) H'):jA (vD t (zC i)) r D σ H:=h.go q
theorem WU (n z:Nat) (h:Mls K ts σ H m n z) (q:∀ p H',qp H H'→H p=none→Lt K H' p m n z→r D (σ.set i (some (.ref p))) H') (hm:m≤100:=by decide):jA (vD (vC ts) (zC i)) r D σ H:=Yu (Q:=fun x H1=>r D (σ.set i (some x)) H1) h q hm
theorem Lt.mono (l:Lt K H p m n z) (a:n≤k) (b:z≤y):Lt K H p m k y:=by
 obtain ⟨vs,ds,e,r,l,s⟩:=l;exact ⟨vs,ds,e,r,l,fun d hd=>(s d hd).mono a b⟩
theorem Y8 (e:σ[i2]?=some (some (.ref p))) (l:Lt K H p m n z) (h:Mls K ts σ H j n z) (q:∀ p H',qp H H'→H p=none→Lt K H' p (m+j) n z→r D (σ.set i (some (.ref p))) H') (hm:m+j≤100:=by decide):jA (vD (tOp vz (qG i2) (vC ts)) (zC i)) r D σ H:=qcv e l h q hm
theorem Y9 (e:σ[i]?=some (some (.ref p))) (l:Lt K H p m n z) (h:Mk K t σ H n y) (g:qp H0 H) (h0:H0 p=none) (q:∀ H',qp H0 H'→Lt K H' p (m+1) n z→r D σ H') (hy:y≤z:=by omega) (hm:m≤100:=by decide):jA (YK (tBM K "list" V0 (qG i) (qw t zf))) r D σ H:=qcw e l h g h0 q hy hm
end
theorem qak {tk:TE} {i:Int} (e:σ[j]?=some (some (.ref p))) (l:Lt K H0 p m n z) (ek:∀ H R,R (.int i) H→tk σ H R) (h0:0≤i) (h1:i<(m:Int)):Mk K (tOp (rIx K) (qG j) tk) σ H0 n z:=fun H Q g q=>by
 obtain ⟨vs,v,d,hs,hv,r,s⟩:=qbd (l.same g) h0 h1;exact ⟨_,e,ek _ _ (.inl ⟨p,vs,i,v,rfl,rfl,hs,hv,q v H d (qp.refl _) r s⟩)⟩
theorem Yr {tk:TE} {i:Int} (l:Mls K ts σ H0 m n z) (ek:∀ H R,R (.int i) H→tk σ H R) (h0:0≤i) (h1:i<(m:Int)) (hm:m≤100:=by decide):Mk K (tOp (rIx K) (vC ts) tk) σ H0 n z:=fun H Q g q=>
 Yu (fun H2 Q2 g2 q2=>l H2 Q2 (g.trans g2) q2) (fun p H' g' _ lt=>by
  obtain ⟨vs,v,d,hs,hv,r,s⟩:=qbd lt h0 h1;exact ek _ _ (.inl ⟨p,vs,i,v,rfl,rfl,hs,hv,q v H' d g' r s⟩)) hm
end
def Wu (K:Frag):Sp:=fun vs H Q _=>∃ (x:V) (d:Aa) (way:Int) (may:Bool) (n z:Nat),vs=[x,.int way,.bl may]∧Rep K H x d∧Tre.Sn n z d∧∀ H' y e,qp H H'→Rep K H' y e→Tre.Sn (n+10) (z+10000) e→Q y H'
theorem yx (F:Fun K "_law_held" "_law_held" vH f fd) (c:Cs K mg ad):FnOk P w K mg base CX0 1 f fd ["_law_body_here","_law_way","_law_may_hand"] (Wu K):=by
 refine F.ok Jl (fun vs H Q E h=>?_) (fun cdv A outer s H vs Q E hr h=>?_)
 ·obtain ⟨x,d,way,may,n,z,rfl,_⟩:=h;rfl
 obtain ⟨x,d,way,may,n,z,rfl,r_b,s_b,q⟩:=h;refine ⟨_,(qg (pst 3 Jl.nd (qi (qc qh (qc qf qd))))
   (qg (pst 4 Jl.nd (qX (qc (pv 0) (qc (qi (qc (qi (qc qh (qc (pv 3) (qc (pv 0) (qc (qi qd) qd))))) qd)) (qc (qi (qc (qi (qc qh (qc (pv 3) (qc (qi qd) (qc (pv 0) qd))))) qd)) (qc (qi (qc (qi (qc qh (qc (pv 3) (qc (pv 0) qd)))) qd)) qd))))))
   (qg (pst 4 Jl.nd (qm qY (pv 4) (qX (qc (qi (qc (qi (qc qh (qc (pv 0) (qc qh (qc qh (qc (qi qd) (qc (qi qd) qd))))))) qd)) (qc (qi (qc (qi (qc qh (qc (qi qd) (qc qh (qc qh (qc (pv 0) (qc (qi qd) qd))))))) qd)) qd)))))
   (qg (zJ (wG (K:=K) rfl B1 Ce Cf jZ (pv 4) (qc (qi (qc (qi (qc qh (qc (qi qd) (qc qh (qc qh (qc (qi qd) (qc (pv 0) qd))))))) qd)) qd)))
   (qg (qE (PW.pt (Jx (zh (pv 2)) (jJ (qq VF (qm qA (pv 1) qf) qf (qv _))))) (ql (qt (qi (qc (qi (qc qh (qc (qi (qc (pix K (qX (qc qh (qc qh qd))) (qm zl (qm qA (pv 1) qf) qf)) (qc (qi qd) (qc (pix K (pv 4) (qm qA (qm qQ (pv 1) qf) qf)) qd)))) qd))) qd)))) qy)
   (ql (qt (pix K (pv 4) (qm qA (pv 1) qf))))))))),?_⟩
 refine Mk.set (K:=K) 1 (qC (qe qI (qe qco qk))) fun one H1 d1 g1 r_o s_o=>?_
 replace r_b:=r_b.same g1
 refine WU (K:=K) (n+4) (z+5000) (qH (zm rfl r_b s_b) (qH (qC (qe (qC (qe qI (qe (zm rfl r_o s_o) (qe (zm rfl r_b s_b) (qe (qC qk) qk))))) qk)) (qH (qC (qe (qC (qe qI (qe (zm rfl r_o s_o) (qe (qC qk) (qe (zm rfl r_b s_b) qk))))) qk)) (qH (qC (qe (qC (qe qI (qe (zm rfl r_o s_o) (qe (zm rfl r_b s_b) qk)))) qk)) jg)))) fun p2 H2 g2 n2 l2=>?_
 replace r_b:=r_b.same g2
 replace r_o:=r_o.same g2
 refine Y8 (K:=K) rfl l2 (qH (qC (qe (qC (qe qI (qe (zm rfl r_b s_b) (qe qI (qe qI (qe (qC qk) (qe (qC qk) qk))))))) qk)) (qH (qC (qe (qC (qe qI (qe (qC qk) (qe qI (qe qI (qe (zm rfl r_b s_b) (qe (qC qk) qk))))))) qk)) jg)) fun p3 H3 g3 n3 l3=>?_
 replace r_b:=r_b.same g3
 replace r_o:=r_o.same g3
 refine Y9 (K:=K) rfl l3 (qC (qe (qC (qe qI (qe (qC qk) (qe qI (qe qI (qe (qC qk) (qe (zm rfl r_b s_b) qk))))))) qk)) (g2.trans g3) (g2.free n3) fun H4 g4 l4=>?_;have a0:=Az way (show (7:Int)≠0 from O0);have a1:=Aw way (show (0:Int)<7 from O0);have b0:=Az (way / 9) (show (7:Int)≠0 from O0);have b1:=Aw (way / 9) (show (0:Int)<7 from O0);have c1:=Aw way (show (0:Int)<9 from O0);refine zq fun D2 h2 q2=>vv fun B t1 t2=>?_;have low:∀ H5,qp H4 H5→B false H5:=fun H5 g5=>t2 _ (h2 _ _ (Mk.ret (K:=K) (n+4) (qak rfl (l4.same g5) (fun _ _ h=>⟨_,rfl,_,_,rfl,rfl,(show (0:Int)<7 from O0),h⟩) a0 a1) fun y H6 e g6 r6 s6=>q _ _ _ (((g1.trans g4).trans g5).trans g6) r6 (s6.mono ⋯ ⋯)));refine ⟨_,rfl,_,rfl,?_⟩;cases may with
 | false=>exact low _ (qp.refl _)
 | true=>
  refine ⟨_,rfl,_,_,rfl,rfl,(show (0:Int)<9 from O0),_,_,rfl,rfl,_,rfl,?_⟩
  by_cases hc:6<way % 9
  ·refine bP (Ai hc) (t1 _ (Mk.ret (K:=K) (n+7) (qC (qe (qC (qe qI (qe (qC (qe (Yr (z:=92) (qH qI (qH qI jg)) (fun _ _ h=>⟨_,rfl,_,_,rfl,rfl,(show (0:Int)<9 from O0),_,_,rfl,rfl,h⟩) ⋯ ⋯) (qe (qC qk) (qe (qak rfl l4 (fun _ _ h=>⟨_,rfl,_,_,rfl,rfl,⟨O0,O0⟩,_,_,rfl,rfl,(show (0:Int)<7 from O0),h⟩) b0 b1) qk)))) qk))) qk)) fun y H6 e g6 r6 s6=>q2 _ _ (q _ _ _ ((g1.trans g4).trans g6) r6 (s6.mono ⋯ ⋯))))
  ·exact bN (Al hc) (low _ (qp.refl _))
section
variable {σ:St} {H0:Hp} {n z k i:Nat}
theorem qcq {a b:Str} {tk:TE} {j:Int} (ek:∀ H R,R (.int j) H→tk σ H R) (h0:0≤j) (h1:j<2):∃ w,(w=a∨w=b)∧Me K (tOp (rIx K) (vC (qw (tC (.str a)) (qw (tC (.str b)) zf))) tk) σ H0 (.str w):=by
 obtain ⟨v,hv,w,rfl,hw⟩:=vp (xs:=[V.str a,V.str b]) (i:=j) (p:=fun v=>∃ w,v= .str w∧(w=a∨w=b)) (fun x hx=>by
  simp only [Av,Bg,or_false] at hx;rcases hx with rfl | rfl
  ·exact ⟨_,rfl,.inl rfl⟩
  ·exact ⟨_,rfl,.inr rfl⟩) h0 h1
 exact ⟨w,hw,fun H Q g q=>⟨(O0:2≤Af),fun p hp=>ek _ _ (.inl ⟨p,_,j,_,rfl,rfl,SqL.of upd_same,hv,q _ _ (qj hp _) (.str w)⟩)⟩⟩
theorem qev {x:V} {a b c1 c2 d:Aa} (e:σ[i]?=some (some x)) (r:Rep K H0 x (.tuple [a,b,.tuple [.tuple [c1,c2,d]]])) (s:Tre.Sn k z d) (hn:k≤n:=by omega):
  Mk K (tOp (rIx K) (tOp (rIx K) (tOp (rIx K) (qG i) (tC (.int 2))) (tC (.int 0))) (tC (.int 2))) σ H0 n z:=fun H Q g q=>by
 cases r with
 | tup h1 r1=>
  obtain ⟨_,_,x2,_,_,_,rfl,e1,_,_,r2⟩:=ZQ r1 rfl;cases e1;cases r2 with
  | tup h2 r3=>
   cases r3 with
   | cons r4 r5=>
    cases r5;cases r4 with
    | tup h4 r6=>
     obtain ⟨_,_,x3,_,_,_,rfl,e2,_,_,r7⟩:=ZQ r6 rfl;cases e2;exact ⟨_,e,.inr (.inl ⟨_,_,2,_,rfl,rfl,g.sqT h1,rfl,.inr (.inl ⟨_,_,0,_,rfl,rfl,g.sqT h2,rfl,.inr (.inl ⟨_,_,2,_,rfl,rfl,g.sqT h4,rfl,q x3 H d (qp.refl _) (r7.same g) (s.mono hn (Aj _))⟩)⟩)⟩)⟩
theorem bB {B:Bool→Hp→Prop} {b:Bool} {H:Hp} (h1:B true H) (h0:B false H):B b H:=by
 cases b with
 | false=>exact h0
 | true=>exact h1
theorem sn_w {a b w:Str} (h:w=a∨w=b) (ha:(PyData.strOk a&&decide (a.length≤9))=true:=by decide+kernel) (hb:(PyData.strOk b&&decide (b.length≤9))=true:=by decide+kernel):Tre.Sn 0 92 (.str w):=by
 rcases h with rfl | rfl
 ·exact .word ha
 ·exact .word hb
end
def Wv (K:Frag):Sp:=fun vs H Q _=>∃ goal num:Int,vs=[.int goal,.int num]∧goal≤19∧∀ H' x d,qp H H'→Rep K H' x d→Tre.Sn 38 200000 d→Q x H'
theorem WN (F:Fun K "_law_chain" "_law_chain" J1 f fd) (c:Cs K mg ad):FnOk P w K mg base CX0 1 f fd ["_law_goal","_law_number_here"] (Wv K):=by
 refine F.ok qJ (fun vs H Q E h=>?_) (fun cdv A outer s H vs Q E hr h=>?_)
 ·obtain ⟨goal,num,rfl,_⟩:=h;rfl
 obtain ⟨goal,num,rfl,hg,q⟩:=h;refine ⟨_,(qg (pst 2 qJ.nd (qi (qc qh (qc qf qd))))
   (qg (pst 3 qJ.nd (pv 2))
   (qg (pst 4 qJ.nd qf)
   (qg (wq Df (qq Jf (pv 4) (pv 0) (qv _)) (qg (pst 1 qJ.nd (qm qA (qm J6 (pv 1) qf) qf))
   (qg (pst 5 qJ.nd (qm qA (qm qQ (pv 1) qf) qf))
   (ql (qE (PW.pt (Jx (qq VE (qm qY (pv 4) qf) (pv 0) (qv _)) (jJ (qq VF (pv 5) qf (qv _))))) (qg (pst 6 qJ.nd (qi (qc qh (qc (pv 3) qd))))
   (qg (pst 7 qJ.nd (qX (qc (qi (qc qh (qc (pv 2) (qc (qi (qc (pv 6) qd)) qd)))) (qc (qi (qc qh (qc (pv 2) (qc (qi qd) (qc (qi (qc (pv 6) qd)) qd))))) (qc (qi (qc qh (qc (qi (qc (pv 6) qd)) (qc qh (qc qh (qc (qi qd) (qc (qi qd) qd))))))) qd)))))
   (qg (pst 7 qJ.nd (qm qY (pv 7) (qX (qc (qi (qc qh (qc (qi qd) (qc qh (qc qh (qc (qi (qc (pv 6) qd)) (qc (qi qd) qd))))))) (qc (qi (qc qh (qc (qi qd) (qc qh (qc qh (qc (qi qd) (qc (qi (qc (pv 6) qd)) qd))))))) qd)))))
   (qg (zJ (wG (K:=K) rfl B1 Ce Cf jZ (pv 7) (qc (qi (qc qh (qc (pv 2) (qc (qi (qc (pv 6) qd)) (qc (qi qd) qd))))) qd)))
   (qg (pst 3 qJ.nd (qi (qc qh (qc (qi qd) (qc (qi (qc (pix K (pv 7) (qm qA (qm qQ (pv 1) qf) qf)) qd)) qd)))))
   (ql (pst 4 qJ.nd (qm qY (pv 4) qf)))))))) (ql (qE (PW.pt (Jx (qq VE (qm qY (pv 4) qf) (pv 0) (qv _)) (jJ (qq VF (pv 5) qf (qv _))))) (qg (pst 3 qJ.nd (qi (qc qh (qc (qi qd) (qc (qi (qc (qi (qc (pix K (qX (qc qh (qc qh qd))) (qm qA (qm qQ (pv 1) qf) qf)) (qc qh (qc (pv 3) qd)))) qd)) qd)))))
   (qg (qE (qq qT (qm qA (qm qQ (pv 1) qf) qf) qf (qv _)) (ql (pst 3 qJ.nd (qi (qc qh (qc (qi qd) (qc (qi (qc (qi (qc (pix K (qX (qc qh (qc qh qd))) (qm qA (qm qQ (pv 1) qf) qf)) (qc (pix K (pix K (pix K (pv 3) qf) qf) qf) qd))) qd)) qd)))))) qy)
   (ql (pst 4 qJ.nd (qm qY (pv 4) qf))))) (qg (pst 7 qJ.nd (qX (qc (qi (qc qh (qc qh (qc (pv 3) (qc (pv 2) qd))))) (qc (qi (qc qh (qc (pv 2) (qc (pv 3) qd)))) (qc (qi (qc qh (qc (pv 3) (qc (qi qd) qd)))) (qc (qi (qc qh (qc (pv 2) (qc (qi (qc (pv 2) (qc (pv 3) qd))) qd)))) qd))))))
   (qg (pst 3 qJ.nd (pix K (pv 7) (qm qA (qm qQ (pv 1) qf) qf)))
   (ql (pst 4 qJ.nd (qm qY (pv 4) qf))))))))))))
   (ql (qt (pv 3))))))),?_⟩
 refine Mk.set (K:=K) 1 (qC (qe qI (qe qco qk))) fun one H1 d1 g1 r_o s_o=>?_;refine zq fun D2 h2 q2=>⟨_,rfl,h2 _ _ ?_⟩;refine zq fun D3 h3 q3=>h3 _ _ ?_;refine zq fun D4 h4 q4=>?_;refine ⟨fun m σ H'=>∃ (num:Int) (k:Nat) (x:V) (d:Aa) (o5 o6 o7:Option V),σ=[some (.int goal),some (.int num),some one,some x,some (.int k),o5,o6,o7]∧qp H1 H'∧Rep K H' x d∧Tre.Sn (2*k) (10000*k) d∧1≤k∧k≤19∧m=(goal - k).toNat,⟨_,num,1,one,d1,none,none,none,rfl,qp.refl _,r_o,s_o.mono ⋯ ⋯,⋯,⋯,rfl⟩,?_⟩;rintro m σ H2 ⟨num,k,x,d,o5,o6,o7,rfl,g2,r_d,s_d,k1,k19,rfl⟩;clear q2 q3 h2 h3
 replace r_o:=r_o.same g2
 have g12:=g1.trans g2;refine ⟨_,rfl,_,rfl,_,_,rfl,rfl,_,rfl,?_⟩;refine vt (fun c1=>wh_g fun N hN=>?_) (fun c1=>h4 _ _ ⟨_,rfl,q _ _ _ g12 r_d (s_d.mono ⋯ ⋯)⟩);have c1':=A1 c1;refine zq fun Da ha qa=>⟨_,rfl,_,_,rfl,rfl,.inr ⟨O0,O0⟩,_,_,rfl,rfl,(show (0:Int)<2147483647 from O0),ha _ _ ?_⟩;refine zq fun Db hb qb=>⟨_,rfl,_,_,rfl,rfl,⟨O0,O0⟩,_,_,rfl,rfl,(show (0:Int)<6 from O0),hb _ _ ?_⟩;clear ha qa hb qb h4 q4 q;show JU _ _ _ _ [some (.int goal),some (.int (num*48271 % 2147483647)),some one,some x,some (.int k),some (.int (num*48271 % 2147483647 / 7 % 6)),o6,o7] H2;generalize num*48271 % 2147483647=nu;have fin:∀ (j:Nat) (y:V) (e:Aa) (o5 o6 o7:Option V) (H':Hp),k<j→j≤19→qp H2 H'→Rep K H' y e→Tre.Sn (2*j) (10000*j) e→N [some (.int goal),some (.int nu),some one,some y,some (.int j),o5,o6,o7] H':=fun j y e o5 o6 o7 H' a b g r t=>hN _ _ ⟨_,⋯,nu,j,y,e,o5,o6,o7,rfl,g2.trans g,r,t,⋯,b,rfl⟩;clear hN;have m42:∀ b:Int,0<b→0≤nu / 42 % b∧nu / 42 % b<b:=fun b h=>⟨Az _ ⋯,Aw _ h⟩;refine vv fun B t1 t2=>⟨_,rfl,.inl ⟨_,_,rfl,rfl,_,rfl,_,_,rfl,rfl,_,rfl,?_⟩⟩;have low:B false H2:=t2 _ ?_
 ·refine vt (fun c2=>⟨_,rfl,_,_,rfl,rfl,_,rfl,?_⟩) (fun _=>low);have c2':(k:Int)+3≤goal:=A1 c2;refine bB (t1 _ ?_) low;clear low t1 t2;refine Mk.set (K:=K) (2*k+1) (qC (qe qI (qe (zm rfl r_d s_d) qk))) fun hold H3 d3 g3 r_h s_h=>?_
  replace r_o:=r_o.same g3
  refine WU (K:=K) (2*k+3) (10000*k+5000) (qH (qC (qe qI (qe (zm rfl r_o s_o) (qe (qC (qe (zm rfl r_h s_h) qk)) qk)))) (qH (qC (qe qI (qe (zm rfl r_o s_o) (qe (qC qk) (qe (qC (qe (zm rfl r_h s_h) qk)) qk))))) (qH (qC (qe qI (qe (qC (qe (zm rfl r_h s_h) qk)) (qe qI (qe qI (qe (qC qk) (qe (qC qk) qk))))))) jg))) fun p4 H4 g4 n4 l4=>?_
  replace r_o:=r_o.same g4
  replace r_h:=r_h.same g4
  refine Y8 (K:=K) rfl l4 (qH (qC (qe qI (qe (qC qk) (qe qI (qe qI (qe (qC (qe (zm rfl r_h s_h) qk)) (qe (qC qk) qk))))))) (qH (qC (qe qI (qe (qC qk) (qe qI (qe qI (qe (qC qk) (qe (qC (qe (zm rfl r_h s_h) qk)) qk))))))) jg)) fun p5 H5 g5 n5 l5=>?_
  replace r_o:=r_o.same g5
  replace r_h:=r_h.same g5
  refine Y9 (K:=K) rfl l5 (qC (qe qI (qe (zm rfl r_o s_o) (qe (qC (qe (zm rfl r_h s_h) qk)) (qe (qC qk) qk))))) (g4.trans g5) (g4.free n5) fun H6 g6 l6=>?_;refine Mk.set (K:=K) (2*k+5) (qC (qe qI (qe (qC qk) (qe (qC (qe (qak rfl l6 (fun _ _ h=>⟨_,rfl,_,_,rfl,rfl,⟨O0,O0⟩,_,_,rfl,rfl,(show (0:Int)<6 from O0),h⟩) (m42 6 O0).1 (m42 6 O0).2) qk)) qk)))) fun y H7 e g7 r7 s7=>?_;exact ⟨_,rfl,.inl ⟨_,_,rfl,rfl,fin (k+3) _ _ _ _ _ _ ⋯ ⋯ ((g3.trans g6).trans g7) r7 (s7.mono ⋯ ⋯)⟩⟩
 clear t1 t2;refine vv fun B t1 t2=>⟨_,rfl,.inl ⟨_,_,rfl,rfl,_,rfl,_,_,rfl,rfl,_,rfl,?_⟩⟩;have low:B false H2:=t2 _ ?_
 ·refine vt (fun c2=>⟨_,rfl,_,_,rfl,rfl,_,rfl,?_⟩) (fun _=>low);have c2':(k:Int)+2≤goal:=A1 c2;refine bB (t1 _ ?_) low;clear low t1 t2;obtain ⟨w1,hw1,mw1⟩:=qcq (K:=K) (σ:=[some (.int goal),some (.int nu),some one,some x,some (.int k),some (.int (nu / 7 % 6)),o6,o7]) (H0:=H2) (a:="let") (b:="set") (tk:=tOp (rI (fun x j=>0<j) fun i j=>V.int (i % j)) (tOp (rI Za fun i j=>V.int (i / j)) (qG 1) (tC (V.int 42))) (tC (V.int 2))) (fun _ _ h=>⟨_,rfl,_,_,rfl,rfl,⟨O0,O0⟩,_,_,rfl,rfl,(show (0:Int)<2 from O0),h⟩) (m42 2 O0).1 (m42 2 O0).2;have s_l:=Tre.Sn.tup (Tre.Sns.cons (.word (x:="loop") ∅) (.cons (.tup .nil) (.cons (.tup (.cons (.tup (.cons (sn_w hw1) (.cons (.word (x:="x") ∅) (.cons s_d .nil)))) .nil)) .nil)));refine zq fun Da ha qa=>Me.go (K:=K) (d:= .tuple [.str "loop",.tuple [],.tuple [.tuple [.str w1,.str "x",d]]]) (Vb (qM WS (qM (Vb zT) (qM (Vb (qM (Vb (qM (mw1) (qM WS (qM (Qb rfl r_d) zT)))) zT)) zT)))) fun y H3 g3 r3=>ha _ _ ?_;refine zq fun Db hb qb=>vv fun B t1 t2=>⟨_,rfl,_,_,rfl,rfl,⟨O0,O0⟩,_,_,rfl,rfl,(show (0:Int)<3 from O0),rfl,_,rfl,?_⟩;refine bB (t1 _ ?_) (t2 _ (hb _ _ ⟨_,rfl,.inl ⟨_,_,rfl,rfl,fin (k+2) _ _ _ _ _ _ ⋯ ⋯ g3 r3 (s_l.mono ⋯ ⋯)⟩⟩));refine Mk.go (K:=K) (n:=2*k+4) (qC (qe qI (qe (qC qk) (qe (qC (qe (qC (qe (Yr (z:=92) (qH qI (qH qI jg)) (fun _ _ h=>⟨_,rfl,_,_,rfl,rfl,⟨O0,O0⟩,_,_,rfl,rfl,(show (0:Int)<2 from O0),h⟩) (m42 2 O0).1 (m42 2 O0).2) (qe (qev rfl r3 s_d) qk))) qk)) qk)))) fun y2 H4 e g4 r4 s4=>hb _ _ ?_;exact ⟨_,rfl,.inl ⟨_,_,rfl,rfl,fin (k+2) _ _ _ _ _ _ ⋯ ⋯ (g3.trans g4) r4 (s4.mono ⋯ ⋯)⟩⟩
 clear t1 t2;refine WU (K:=K) (2*k+2) (10000*k+9000) (qH (qC (qe qI (qe qI (qe (zm rfl r_d s_d) (qe (zm rfl r_o s_o) qk))))) (qH (qC (qe qI (qe (zm rfl r_o s_o) (qe (zm rfl r_d s_d) qk)))) (qH (qC (qe qI (qe (zm rfl r_d s_d) (qe (qC qk) qk)))) (qH (qC (qe qI (qe (zm rfl r_o s_o) (qe (qC (qe (zm rfl r_o s_o) (qe (zm rfl r_d s_d) qk))) qk)))) jg)))) fun p4 H4 g4 n4 l4=>?_;refine Mk.set (K:=K) (2*k+2) (qak rfl l4 (fun _ _ h=>⟨_,rfl,_,_,rfl,rfl,⟨O0,O0⟩,_,_,rfl,rfl,(show (0:Int)<4 from O0),h⟩) (m42 4 O0).1 (m42 4 O0).2) fun y H7 e g7 r7 s7=>?_;exact ⟨_,rfl,.inl ⟨_,_,rfl,rfl,fin (k+1) _ _ _ _ _ _ ⋯ ⋯ (g4.trans g7) r7 (s7.mono ⋯ ⋯)⟩⟩
def Mt (K:Frag) (t:TE) (σ:St) (H0:Hp) (m n z:Nat):Prop:=∀ H Q,qp H0 H→(∀ a H' xs ds,qp H H'→SqT K H' a xs→Reps K H' xs ds→ds.length≤m→Tre.Sns n z ds→Q (.ref a) H')→t σ H Q
section
variable {t u tk:TE} {ts:TA} {σ:St} {H0:Hp} {n z m y k i:Nat} {x:V} {j:Int}
theorem Mt.mk (h:Mt K t σ H0 m n z):Mk K t σ H0 (n+1) (z+3):=fun H Q g q=>h H Q g fun a H' xs ds g1 sq rs _ ss=>q _ _ _ g1 (.tup sq rs) (.tup ss)
theorem qah (h:Mks K ts σ H0 m n z) (hm:m≤100:=by decide):Mt K (JT ts) σ H0 m n z:=fun H Q g q=>h H _ g fun xs H1 ds g1 rs l ss=>⟨As (show xs.length≤100 by rw [rs.length,l];exact hm) O0,fun p hp=>q _ _ _ _ (g1.trans (qj hp _)) (SqT.of upd_same) (rs.same (qj hp _)) ⋯ ss⟩
theorem qes {a:Ac} {xs:List V} {ds:List Aa} (e:σ[i]?=some (some (.ref a))) (sq:SqT K H0 a xs) (rs:Reps K H0 xs ds) (l:ds.length≤m) (ss:Tre.Sns k z ds) (hn:k≤n:=by omega):Mt K (qG i) σ H0 m n z:=fun H Q g q=>⟨_,e,q a H xs ds (qp.refl _) (g.sqT sq) (rs.same g) l (ss.mono hn (Aj _))⟩
theorem qaj (h1:Mt K t σ H0 m n z) (h2:Mt K u σ H0 k n y) (hm:m+k≤10000000:=by decide):Mt K (tOp (fun x y H Q=>vz x y H Q∨wT K x y H Q) t u) σ H0 (m+k) n (z+y):=fun H Q g q=>h1 H _ g fun a H1 xs ds g1 sq rs l ss=>h2 H1 _ (g.trans g1) fun b H2 ys es g2 sq2 rs2 l2 ss2=>
 .inr ⟨a,b,xs,ys,rfl,rfl,g2.sqT sq,sq2,As (show xs.length+ys.length≤10000000 by rw [rs.length,rs2.length];omega) O0,fun c H3 g3 sq3=>q c H3 _ (ds++es) ((g1.trans g2).trans g3) sq3 ((((rs.same g2).append rs2)).same g3) (by rw [A8];omega) ((ss.app ss2).mono ⋯ (Aj _))⟩
theorem ym {H:Hp} {xs:List V} {ds:List Aa} (r:Reps K H xs ds):∀ k:Nat,Reps K H (List.replicate k xs).flatten (List.replicate k ds).flatten
 | 0=> .nil
 | k+1=>by
  rw [B9,B9,C1,C1];exact r.append (ym r k)
theorem YV {ds:List Aa} (s:Tre.Sns n z ds):∀ k:Nat,Tre.Sns n (k*z) (List.replicate k ds).flatten
 | 0=>Tre.Sns.nil.mono (A7 _) (A7 _)
 | k+1=>by
  rw [B9,C1];refine (s.app (YV s k)).mono ⋯ ?_;rw [Nat.succ_mul];omega
theorem XF (J:Nat) (h:Mks K ts σ H0 1 n z) (ek:∀ H R,R (.int j) H→tk σ H R) (h0:0≤j) (h1:j≤J) (hJ:J≤100:=by decide):Mt K (tOp (qa8 K) (JT ts) tk) σ H0 J n (J*z):=fun H Q g q=>
 h H _ g fun xs H1 ds g1 rs l ss=>⟨As (show xs.length≤1 by rw [rs.length,l];exact Aj _) O0,fun p hp=>ek _ _ ⟨p,j,xs,rfl,rfl,SqT.of upd_same,(fun e=>by rw [e] at rs;have:=rs.length;rw [l] at this;cases this),h0,⋯,(by rw [rs.length,l];decide),fun c H2 g2 sq2=>
  q c H2 _ _ ((g1.trans (qj hp _)).trans g2) sq2 ((ym (rs.same (qj hp _)) j.toNat).same g2) (by rw [WW,l];omega) ((YV ss j.toNat).mono (Aj _) (Nat.mul_le_mul_right _ ⋯))⟩⟩
theorem J4 {H:Hp}:∀ {xs:List V} {ds:List Aa} (a b:Nat),Reps K H xs ds→Reps K H ((xs.drop a).take b) ((ds.drop a).take b)
 | _,_,_,_,.nil=>by
  rw [List.drop_nil,List.take_nil,List.drop_nil,List.take_nil];exact .nil
 | _,_,0,0,.cons _ _=> .nil
 | _,_,0,b+1,.cons h t=> .cons h (by
  have q:=J4 0 b t;rw [Dx,Dx] at q;exact q)
 | _,_,a+1,b,.cons h t=>J4 a b t
theorem QO {ds:List Aa} (a b:Nat) (s:Tre.Sns n z ds):Tre.Sns n z ((ds.drop a).take b):=by
 have e1:ds=ds.take a++ds.drop a:=(List.take_append_drop a ds).symm;have e2:ds.drop a=(ds.drop a).take b++(ds.drop a).drop b:=(List.take_append_drop b _).symm;have n1:∀ {l r:List Aa},Tre.jP (l++r)=true→Tre.jP l=true∧Tre.jP r=true:=by
  intro l
  induction l with
  | nil=>exact fun h=>⟨rfl,h⟩
  | cons d l ih=>
   intro r h;rw [D6,Tre.jP,Ao] at h;obtain ⟨p,q⟩:=ih h.2;exact ⟨by rw [Tre.jP,h.1,p];rfl,q⟩
 obtain ⟨s1,s2⟩:=s;rw [e1] at s1 s2;obtain ⟨u,v,_,q,e⟩:=s1.split;have q2:=(n1 s2).2;rw [e2] at q q2;obtain ⟨u',v',p',_,e'⟩:=q.split;exact ⟨p'.mono (Aj _) ⋯,(n1 q2).1⟩
theorem qcm {lo hi:Option Int} {tl th:TO} (h:Mt K t σ H0 m n z) (el:∀ H R,R lo H→tl σ H R) (eh:∀ H R,R hi H→th σ H R):Mt K (tSl (qd0 K) t tl th) σ H0 m n z:=fun H Q g q=>h H _ g fun a H1 xs ds g1 sq rs l ss=>el _ _ (eh _ _ ⟨a,xs,rfl,sq,fun c H2 g2 sq2=>
 q c H2 _ _ (g1.trans g2) sq2 ((J4 _ _ rs).same g2) (by rw [Bq,C8];omega) (QO _ _ ss)⟩)
theorem qal:Mk K (tOp qa7 (tC (.str "a")) (tC (.int 9))) σ H0 n 92:=fun H Q _ q=>⟨"a",9,rfl,rfl,⟨O0,fun _ _=>∅,fun _ _=>∅⟩,q _ H _ (qp.refl _) (.str _) ((Tre.Sn.word ∅).mono (A7 _) (Aj _))⟩
end
theorem Y6 {t tk:TE} {σ:St} {H0:Hp} {n z:Nat} {way:Int} {b:Bool} (h:Mk K t σ H0 n z) (ek:∀ H R,R (.int way) H→tk σ H R):Mk K (zB (Wu K) [] E0 (qw t (qw tk (qw (tC (.bl b)) zf)))) σ H0 (n+10) (z+10000):=fun H Q g q=>
 h H _ g fun x H1 d g1 r s=>ek _ _ ⟨x,d,way,b,n,z,rfl,r,s,fun H2 y e g2 r2 s2=>q _ _ _ (g1.trans g2) r2 s2⟩
def ZG (K:Frag):Sp:=fun vs H Q _=>∃ (num:Int) (x:V) (d:Aa),vs=[.int num,x]∧Rep K H x d∧Tre.Sn 1 3000 d∧∀ H' y e,qp H H'→Rep K H' y e→Tre.Sn 30 100000 e→Q y H'
theorem em2 {σ:St} {i:Nat} {a:Int} {b:Int} (e:σ[i]?=some (some (.int a))) (hb:0<b):∀ H (R:VK),R (.int (a % b)) H→tOp (rI (fun _ j=>0<j) fun i j=>V.int (i % j)) (qG i) (tC (.int b)) σ H R:=fun _ _ h=>⟨_,e,_,_,rfl,rfl,hb,h⟩
theorem Jz (a:Int) {b:Int} (hb:0<b):0≤a % b∧a % b<b:=⟨Az _ ⋯,Aw _ hb⟩
theorem VU (F:Fun K "_law_near_one" "_law_near_one" j8 f fd) (c:Cs K mg ad) (d_law_held:Def P w K mg base 1 "_law_held" ["_law_body_here","_law_way","_law_may_hand"] (Wu K)):FnOk P w K mg base CX0 2 f fd ["_law_number_here","_law_one"] (ZG K):=by
 refine F.ok zM (fun vs H Q E h=>?_) (fun cdv A outer s H vs Q E hr h=>?_)
 ·obtain ⟨num,x,d,rfl,_⟩:=h;rfl
 obtain ⟨num,x,d,rfl,r_o,s_o,q⟩:=h;refine ⟨_,(qg (pst 2 zM.nd (qm qQ (pv 0) qf))
   (qg (qE (qq qT (qm qA (pv 0) qf) qf (qv _)) (qg (pst 3 zM.nd (pdf d_law_held (qc (qi (qc (qi (qc qh (qc (pv 1) qd))) qd)) (qc (qm qQ (pv 2) qf) (qc zr qd)))))
   (ql (qt (qi (qc qh (qc (qi qd) (qc (qi (qc (qi (qc qh (qc (qi (qc (pix K (qX (qc qh (qc qh qd))) (qm qA (pv 2) qf)) (qc (qi qd) (qc (pv 3) qd)))) qd))) qd)) qd))))))) qy)
   (qg (qE (qq qT (qm qA (pv 0) qf) qf (qv _)) (qg (pst 4 zM.nd (pix K (qX (qc qh (qc qh (qc qh (qc (qm qaa qh qf) qd))))) (qm qA (pv 2) qf)))
   (ql (qt (qi (qc qh (qc (qi qd) (qc (pix K (qX (qc (qi (qc (qi (qc qh (qc (pv 4) (qc (pv 1) qd)))) qd)) (qc (qi (qc (qi (qc qh (qc (qi qd) (qc (pv 4) (qc qh (qc (qi qd) (qc (qi qd) qd))))))) qd)) qd))) (qm qA (qm qQ (pv 2) qf) qf)) qd))))))) qy)
   (qg (pst 5 zM.nd (pix K (qX (qc (qi (qc qh (qc qh (qc qh qd)))) (qc (qi (qc qh (qc qh qd))) (qc (qi (qc qh (qc qh qd))) (qc (qi (qc qh (qc qh (qc qh (qc qh qd))))) qd))))) (qm qA (pv 2) qf)))
   (ql (qt (pix K (qX (qc (qi (qc qh (qc (pv 5) (qc (qi qd) qd)))) (qc (qi (qc qh (qc (qi qd) (qc (qi (qc (qi (qc qh (qc (qi (qc qh (qc (pv 5) (qc (qi qd) qd)))) qd))) qd)) qd)))) qd))) (qm qA (qm qQ (pv 2) qf) qf)))))))),?_⟩
 refine zq fun D2 h2 q2=>⟨_,rfl,_,_,rfl,rfl,⟨O0,O0⟩,h2 _ _ ?_⟩;refine zq fun D3 h3 q3=>vv fun B t1 t2=>⟨_,rfl,_,_,rfl,rfl,(show (0:Int)<8 from O0),rfl,_,rfl,bB (t1 _ ?_) (t2 _ (h3 _ _ ?_))⟩
 ·refine Mk.set (K:=K) 14 (Y6 (qC (qe (qC (qe qI (qe (zm rfl r_o s_o) qk))) qk)) fun _ _ h=>⟨_,rfl,_,_,rfl,rfl,⟨O0,O0⟩,h⟩) fun y3 H3 e3 g3 r_y s_y=>?_;refine Mk.ret (K:=K) 30 (qC (qe qI (qe (qC qk) (qe (qC (qe (qC (qe qI (qe (qC (qe (Yr (z:=92) (qH qI (qH qI jg)) (em2 rfl O0) (Jz _ O0).1 (Jz _ O0).2) (qe (qC qk) (qe (zm rfl r_y s_y) qk)))) qk))) qk)) qk)))) fun y4 H4 e4 g4 r4 s4=>q3 _ _ (q _ _ _ (g3.trans g4) r4 (s4.mono ⋯ ⋯))
 refine zq fun D4 h4 q4=>vv fun B t1 t2=>⟨_,rfl,_,_,rfl,rfl,(show (0:Int)<8 from O0),rfl,_,rfl,bB (t1 _ ?_) (t2 _ (h4 _ _ ?_))⟩
 ·refine Mk.set (K:=K) 0 (Yr (z:=92) (qH qI (qH qI (qH qI (qH qal jg)))) (em2 rfl O0) (Jz _ O0).1 (Jz _ O0).2) fun y H2 e g2 r_w s_w=>?_
  replace r_o:=r_o.same g2
  refine Mk.ret (K:=K) 30 (qC (qe qI (qe (qC qk) (qe (Yr (z:=5000) (qH (qC (qe (qC (qe qI (qe (zm rfl r_w s_w) (qe (zm rfl r_o s_o) qk)))) qk)) (qH (qC (qe (qC (qe qI (qe (qC qk) (qe (zm rfl r_w s_w) (qe qI (qe (qC qk) (qe (qC qk) qk))))))) qk)) jg)) (fun _ _ h=>⟨_,rfl,_,_,rfl,rfl,⟨O0,O0⟩,_,_,rfl,rfl,(show (0:Int)<2 from O0),h⟩) (Jz _ O0).1 (Jz _ O0).2) qk)))) fun y4 H4 e4 g4 r4 s4=>q4 _ _ (q _ _ _ (g2.trans g4) r4 (s4.mono ⋯ ⋯))
 refine Mk.set (K:=K) 4 (Yr (z:=1000) (qH (qC (qe qI (qe qI (qe qI qk)))) (qH (qC (qe qI (qe qI qk))) (qH (qC (qe qI (qe qI qk))) (qH (qC (qe qI (qe qI (qe qI (qe qI qk))))) jg)))) (em2 rfl O0) (Jz _ O0).1 (Jz _ O0).2) fun y H2 e g2 r_n s_n=>?_;refine Mk.ret (K:=K) 30 (Yr (z:=5000) (qH (qC (qe qI (qe (zm rfl r_n s_n) (qe (qC qk) qk)))) (qH (qC (qe qI (qe (qC qk) (qe (qC (qe (qC (qe qI (qe (qC (qe qI (qe (zm rfl r_n s_n) (qe (qC qk) qk)))) qk))) qk)) qk)))) jg)) (fun _ _ h=>⟨_,rfl,_,_,rfl,rfl,⟨O0,O0⟩,_,_,rfl,rfl,(show (0:Int)<2 from O0),h⟩) (Jz _ O0).1 (Jz _ O0).2) fun y4 H4 e4 g4 r4 s4=>q _ _ _ (g2.trans g4) r4 (s4.mono ⋯ ⋯)
theorem Z9 {tg tk:TE} {σ:St} {H0:Hp} {goal way:Int} (eg:∀ H R,R (.int goal) H→tg σ H R) (ek:∀ H R,R (.int way) H→tk σ H R) (hg:goal≤19):Mk K (zB (Wv K) [] E0 (qw tg (qw tk zf))) σ H0 38 200000:=fun H Q g q=>
 eg _ _ (ek _ _ ⟨goal,way,rfl,hg,fun H2 y e g2 r2 s2=>q _ _ _ g2 r2 s2⟩)
theorem Mk.up {t:TE} {σ:St} {H0:Hp} {n z k:Nat} (h:Mk K t σ H0 k z) (hn:k≤n:=by omega):Mk K t σ H0 n z:=fun H Q g q=>h H Q g fun x H' d g1 r s=>q _ _ _ g1 r (s.mono hn (Aj _))
theorem Mt.set {t:TE} {σ:St} {H:Hp} {z m i:Nat} {r:TS} {D:Ends} (n:Nat) (h:Mt K t σ H m n z) (q:∀ a H' xs ds,qp H H'→SqT K H' a xs→Reps K H' xs ds→ds.length≤m→Tre.Sns n z ds→r D (σ.set i (some (.ref a))) H'):jA (vD t (zC i)) r D σ H:=h H _ (qp.refl _) q
def YU (K:Frag):Sp:=fun vs H Q _=>∃ num:Int,vs=[.int num]∧∀ H' y e,qp H H'→Rep K H' y e→Tre.Sn 46 1000000 e→Q y H'
theorem v8 (F:Fun K "_law_at_a_bound" "_law_at_a_bound" jE f fd) (c:Cs K mg ad) (d_law_chain:Def P w K mg base 1 "_law_chain" ["_law_goal","_law_number_here"] (Wv K)) (d_law_held:Def P w K mg base 1 "_law_held" ["_law_body_here","_law_way","_law_may_hand"] (Wu K)) (d_law_near_one:Def P w K mg base 2 "_law_near_one" ["_law_number_here","_law_one"] (ZG K)):FnOk P w K mg base CX0 3 f fd ["_law_number_here"] (YU K):=by
 refine F.ok zu (fun vs H Q E h=>?_) (fun cdv A outer s H vs Q E hr h=>?_)
 ·obtain ⟨num,rfl,_⟩:=h;rfl
 obtain ⟨num,rfl,q⟩:=h;refine ⟨_,(qg (pst 1 zu.nd (qm zl (qm qA (qm qQ (pv 0) qf) qf) qf))
   (qg (pst 2 zu.nd (qi (qc qh (qc qf qd))))
   (qg (qE (qq qT (qm qA (pv 0) qf) qf (qv _)) (ql (qt (qi (qc qh (qc (qi qd) (qc (qi (qc (qi (qc qh (qc (pdf d_law_chain (qc (qm (zS (K:=K) rfl) qf (pv 1)) (qc (qm qQ (pv 0) qf) qd))) qd))) qd)) qd)))))) qy)
   (qg (qE (qq qT (qm qA (pv 0) qf) qf (qv _)) (qg (pst 3 zu.nd (qi (qc qh (qc (pv 2) (qc (qi (qc (pv 2) (qc (pv 2) (qc (pv 2) (qc (pv 2) qd))))) qd)))))
   (qg (pst 4 zu.nd (qm (zS (K:=K) rfl) (qm (Vt (K:=K) rfl) (qi (qc (qi (qc qh (qc (qi (qc qh (qc (qi qd) (qc (qm (Vt (K:=K) rfl) (qi (qc (qi (qc qh (qc (pv 3) qd))) qd)) qf) qd)))) qd))) qd)) qf) (qm (Vt (K:=K) rfl) (qi (qc (qi (qc qh (qc (pv 3) qd))) qd)) qf)))
   (ql (qt (qi (qc qh (qc (qi qd) (qc (qm (zS (K:=K) rfl) (pv 4) (qi (qc (qi (qc qh (qc (qi (qc qh (qc (pv 2) (qc (qm (Vt (K:=K) rfl) (qi (qc (pv 2) qd)) (qm (zS (K:=K) rfl) qf (pv 1))) qd)))) qd))) qd))) qd)))))))) qy)
   (qg (qE (qq qT (qm qA (pv 0) qf) qf (qv _)) (ql (qt (qi (qc qh (qc (qi qd) (qc (pdf d_law_held (qc (qm (Vt (K:=K) rfl) (qi (qc (qi (qc qh (qc (pv 2) qd))) qd)) (qm (zS (K:=K) rfl) qf (pv 1))) (qc (qm qQ (pv 0) qf) (qc zr qd)))) qd)))))) qy)
   (qg (qE (qq qT (qm qA (pv 0) qf) qf (qv _)) (ql (qt (qi (qc qh (qc (qi qd) (qc (qi (qc (qi (qc qh (qc (qi (qc qh (qc (pv 2) (qc (qm (Vt (K:=K) rfl) (qi (qc (pv 2) qd)) (qm (zS (K:=K) rfl) qf (pv 1))) qd)))) qd))) qd)) qd)))))) qy)
   (qg (qE (qq qT (qm qA (pv 0) qf) qf (qv _)) (ql (qt (qi (qc qh (qc (zX (ZJ (K:=K) rfl) (qi (qc qh (qc qh (qc qh (qc qh (qc qh qd)))))) jK (je (qm (zS (K:=K) rfl) qf (pv 1)))) (qc (qi qd) qd)))))) qy)
   (ql (qt (pdf d_law_near_one (qc (pv 0) (qc (pv 2) qd)))))))))))),?_⟩
 refine zq fun D1 h1 q1=>⟨_,rfl,_,_,rfl,rfl,⟨O0,O0⟩,_,_,rfl,rfl,(show (0:Int)<3 from O0),_,_,rfl,rfl,h1 _ _ ?_⟩;have e0:=Az (num / 8) (show (3:Int)≠0 from O0);have e1:=Aw (num / 8) (show (0:Int)<3 from O0);show jA _ _ _ [some (.int num),some (.int (num / 8 % 3 - 1)),none,none,none] H;generalize hm:num / 8 % 3 - 1=more;have m0: -1≤more:=⋯;have m1:more≤1:=⋯;clear e0 e1 hm h1 q1;refine Mk.set (K:=K) 1 (qC (qe qI (qe qco qk))) fun one H1 d1 g1 r_o s_o=>?_;have pl:∀ {a:Int} {o2 o3 o4:Option V} (H:Hp) (R:VK),R (.int (a+more)) H→tOp (fun x y H Q=>vz x y H Q∨wT K x y H Q) (tC (.int a)) (qG 1) [some (.int num),some (.int more),o2,o3,o4] H R:=fun H R h=>⟨_,rfl,.inl (.inl ⟨_,_,rfl,rfl,h⟩)⟩;have dv:∀ {a:Int} {o2 o3 o4:Option V} (_:Za num a) (H:Hp) (R:VK),R (.int (num / a)) H→tOp (rI Za fun i j=>V.int (i / j)) (qG 0) (tC (.int a)) [some (.int num),some (.int more),o2,o3,o4] H R:=fun cd H R h=>⟨_,rfl,_,_,rfl,rfl,cd,h⟩;refine zq fun D3 h3 q3=>vv fun B t1 t2=>⟨_,rfl,_,_,rfl,rfl,(show (0:Int)<8 from O0),rfl,_,rfl,bB (t1 _ ?_) (t2 _ (h3 _ _ ?_))⟩
 ·exact Mk.ret (K:=K) 46 (qC (qe qI (qe (qC qk) (qe (qC (qe (qC (qe qI (qe ((Z9 pl (dv ⟨O0,O0⟩) ⋯).up) qk))) qk)) qk)))) fun y H4 e g4 r4 s4=>q3 _ _ (q _ _ _ (g1.trans g4) r4 (s4.mono ⋯ ⋯))
 clear t1 t2 h3 q3;refine zq fun D3 h3 q3=>vv fun B t1 t2=>⟨_,rfl,_,_,rfl,rfl,(show (0:Int)<8 from O0),rfl,_,rfl,bB (t1 _ ?_) (t2 _ (h3 _ _ ?_))⟩
 ·refine Mk.set (K:=K) 3 (qC (qe qI (qe (zm rfl r_o s_o) (qe (qC (qe (zm rfl r_o s_o) (qe (zm rfl r_o s_o) (qe (zm rfl r_o s_o) (qe (zm rfl r_o s_o) qk))))) qk)))) fun long H2 d2 g2 r_l s_l=>?_
  replace r_o:=r_o.same g2
  refine Mt.set (K:=K) 7 (qaj (XF 4 (qe (qC (qe qI (qe (qC (qe qI (qe (qC qk) (qe ((XF 9 (qe (qC (qe qI (qe (zm rfl r_l s_l) qk))) qk) (fun _ _ h=>h) O0 O0).mk) qk)))) qk))) qk) (fun _ _ h=>h) O0 O0) (XF 5 (qe (qC (qe qI (qe (zm rfl r_l s_l) qk))) qk) (fun _ _ h=>h) O0 O0)) fun a H3 xs ds g3 sq rs lm ss=>?_
  replace r_o:=r_o.same g3
  exact Mk.ret (K:=K) 46 (qC (qe qI (qe (qC qk) (qe ((qaj (qes rfl sq rs lm ss) (qah (qe (qC (qe qI (qe (qC (qe qI (qe (zm rfl r_o s_o) (qe ((XF 2 (qe (zm rfl r_o s_o) qk) pl ⋯ ⋯).mk) qk)))) qk))) qk))).mk) qk)))) fun y H4 e g4 r4 s4=>q3 _ _ (q _ _ _ (((g1.trans g2).trans g3).trans g4) r4 (s4.mono ⋯ ⋯))
 clear t1 t2 h3 q3;refine zq fun D3 h3 q3=>vv fun B t1 t2=>⟨_,rfl,_,_,rfl,rfl,(show (0:Int)<8 from O0),rfl,_,rfl,bB (t1 _ ?_) (t2 _ (h3 _ _ ?_))⟩
 ·exact Mk.ret (K:=K) 46 (qC (qe qI (qe (qC qk) (qe ((Y6 (XF (n:=3) 13 (qe (qC (qe qI (qe (zm rfl r_o s_o) qk))) qk) pl ⋯ ⋯).mk (dv ⟨O0,O0⟩)).up) qk)))) fun y H4 e g4 r4 s4=>q3 _ _ (q _ _ _ (g1.trans g4) r4 (s4.mono ⋯ ⋯))
 clear t1 t2 h3 q3;refine zq fun D3 h3 q3=>vv fun B t1 t2=>⟨_,rfl,_,_,rfl,rfl,(show (0:Int)<8 from O0),rfl,_,rfl,bB (t1 _ ?_) (t2 _ (h3 _ _ ?_))⟩
 ·exact Mk.ret (K:=K) 46 (qC (qe qI (qe (qC qk) (qe (qC (qe (qC (qe qI (qe (qC (qe qI (qe (zm rfl r_o s_o) (qe ((XF 5 (qe (zm rfl r_o s_o) qk) pl ⋯ ⋯).mk) qk)))) qk))) qk)) qk)))) fun y H4 e g4 r4 s4=>q3 _ _ (q _ _ _ (g1.trans g4) r4 (s4.mono ⋯ ⋯))
 clear t1 t2 h3 q3;refine zq fun D3 h3 q3=>vv fun B t1 t2=>⟨_,rfl,_,_,rfl,rfl,(show (0:Int)<8 from O0),rfl,_,rfl,bB (t1 _ ?_) (t2 _ (h3 _ _ ?_))⟩
 ·exact Mk.ret (K:=K) 46 (qC (qe qI (qe ((qcm (qah (qe qI (qe qI (qe qI (qe qI (qe qI qk)))))) (fun _ _ h=>h) (fun _ _ h=>pl _ _ ⟨_,rfl,h⟩)).mk) (qe (qC qk) qk)))) fun y H4 e g4 r4 s4=>q3 _ _ (q _ _ _ (g1.trans g4) r4 (s4.mono ⋯ ⋯))
 clear t1 t2 h3 q3;exact ⟨_,rfl,_,rfl,num,one,d1,rfl,r_o,s_o.mono ⋯ ⋯,fun H4 y e g4 r4 s4=>q _ _ _ (g1.trans g4) r4 (s4.mono ⋯ ⋯)⟩
def Ml (K:Frag) (t:TE) (σ:St) (H0:Hp) (n z:Nat):Prop:=∀ H Q,qp H0 H→(∀ x H' d,qp H H'→Rep K H' x d→Tre.Sl n z d→Q x H')→t σ H Q
def X9 (K:Frag) (t:TA) (σ:St) (H0:Hp) (m n z:Nat):Prop:=∀ H Q,qp H0 H→(∀ xs H' ds,qp H H'→Reps K H' xs ds→ds.length=m→(∀ d∈ds,Tre.Sl n z d)→Q xs H')→t σ H Q
def Lu (K:Frag) (H:Hp) (p:Ac) (m n z:Nat):Prop:=∃ Hb vs ds,H p=some (.lst vs)∧Hb p=none∧qp Hb H∧Reps K Hb vs ds∧ds.length=m∧∀ d∈ds,Tre.Sl n z d
section
variable {t:TE} {ts:TA} {σ:St} {H H0:Hp} {n z m y k j i:Nat} {p:Ac} {Q:VK} {r:TS} {D:Ends}
theorem Mk.ml (h:Mk K t σ H0 n y) (hy:y≤z:=by omega):Ml K t σ H0 n z:=fun H Q g q=>h H Q g fun x H' d g1 r s=>q _ _ _ g1 r (s.sl.mono (Aj _) hy)
theorem qcn:Ml K (vC zf) σ H0 (n+1) (z+3):=fun H Q g q=>⟨A7 _,fun p hp=>q _ _ (.list []) (qj hp _) (.lst (SqL.of upd_same) .nil) ((Tre.Sl.lst .nil).mono ⋯ ⋯)⟩
theorem yH:X9 K zf σ H0 0 n z:=fun H Q _ q=>q _ H [] (qp.refl _) .nil rfl fun d hd=>(by cases hd)
theorem za (h:Ml K t σ H0 n z) (r:X9 K ts σ H0 m n z):X9 K (qw t ts) σ H0 (m+1) n z:=fun H Q g q=>h H _ g fun x H1 d g1 rx s=>r H1 _ (g.trans g1) fun xs H2 ds g2 rs l ss=>q _ _ (d::ds) (g1.trans g2) (.cons (rx.same g2) rs) (by rw [A5,l]) fun e he=>by
 rcases Av.mp he with rfl | he
 ·exact s
 ·exact ss e he
theorem Qd (h:X9 K ts σ H m n z) (q:∀ p H',qp H H'→H p=none→Lu K H' p m n z→Q (.ref p) H') (hm:m≤100:=by decide):vC ts σ H Q:=
 h H _ (qp.refl _) fun xs H1 ds g1 rs l ss=>⟨As (show xs.length≤100 by rw [rs.length,l];exact hm) O0,fun p hp=>q p _ (g1.trans (qj hp _)) (g1.free hp) ⟨H1,xs,ds,upd_same,hp,qj hp _,rs,l,ss⟩⟩
theorem qam (n z:Nat) (h:X9 K ts σ H m n z) (q:∀ p H',qp H H'→H p=none→Lu K H' p m n z→r D (σ.set i (some (.ref p))) H') (hm:m≤100:=by decide):jA (vD (vC ts) (zC i)) r D σ H:=Qd (Q:=fun x H1=>r D (σ.set i (some x)) H1) h q hm
theorem qct (e:σ[j]?=some (some (.ref p))) (l:Lu K H p m n z) (h:X9 K ts σ H k n z) (q:∀ p H',qp H H'→H p=none→Lu K H' p (m+k) n z→r D (σ.set i (some (.ref p))) H') (hm:m+k≤100:=by decide):jA (vD (tOp (fun x y H Q=>vz x y H Q∨wT K x y H Q) (qG j) (vC ts)) (zC i)) r D σ H:=by
 obtain ⟨Hb,vs,ds,hp,_,gb,rs,a,b⟩:=l;refine ⟨_,e,Qd h (fun p2 H2 g2 n2 l2=> .inl ?_) ⋯⟩;obtain ⟨Hc,ws,es,hp2,_,gc,r2,a2,b2⟩:=l2;have hl:vs.length+ws.length≤100:=by rw [rs.length,r2.length,a,a2];exact hm
 refine qe9 (g2 _ _ hp) hp2 (As hl O0) fun p3 hp3=>?_;exact q p3 _ (g2.trans (qj hp3 _)) (g2.free hp3) ⟨H2,_,ds++es,upd_same,hp3,qj hp3 _,((rs.same gb).same g2).append (r2.same gc),by rw [A8,a,a2],fun d hd=>(Cr.mp hd).elim (b d) (b2 d)⟩
theorem qcu (e:σ[i]?=some (some (.ref p))) (l:Lu K H p m n z) (h:Mk K t σ H n y) (q:∀ H' vs ds,(∀ b o,b≠p→H b=some o→H' b=some o)→H' p=some (.lst vs)→Reps K H' vs ds→ds.length=m+1→(∀ d∈ds,Tre.Sl n z d)→r D σ H') (hy:y≤z:=by omega) (hm:m≤100:=by decide):jA (YK (tBM K "list" V0 (qG i) (qw t zf))) r D σ H:=by
 obtain ⟨Hb,vs,ds,hp,nb,gb,rs,a,b⟩:=l;refine ⟨_,e,.inl ⟨rfl,_,SqL.of hp⟩,h.go fun x H1 d g1 rx s=>⟨p,vs,x,rfl,rfl,g1 _ _ hp,Bx (show vs.length≤100 by rw [rs.length,a];exact hm) O0,q _ (vs++[x]) (ds++[d]) (fun b o ne eb=>by rw [qB ne];exact g1 _ _ eb) upd_same ?_ (by rw [A8,a];rfl) fun e he=>?_⟩⟩
 ·exact Reps.append (rs.same (jC (gb.trans g1) nb _)) (.cons (Rep.put (g1 _ _ hp) rx s.nol) .nil)
 ·rcases Cr.mp he with he | he
  ·exact b e he
  ·cases B5.mp he;exact s.sl.mono (Aj _) hy
end
theorem qet {σ:St} {H0:Hp} {n z i:Nat} {a:Ac} {xs:List V} {ds:List Aa} (e:σ[i]?=some (some (.ref a))) (sq:SqT K H0 a xs) (rs:Reps K H0 xs ds) (ss:Tre.Sls n z ds):Ml K (tCB (fun xs H Q=>∃ p ys,xs=[.ref p]∧(SqL K H p ys∨SqT K H p ys)∧∀ l,H l=none→Q (.ref l) (upd H l (.lst ys))) (qw (qG i) zf)) σ H0 (n+1) (z+3):=fun H Q g q=>
 ⟨_,e,a,xs,rfl,.inr (g.sqT sq),fun l hl=>q _ _ (.list ds) (qj hl _) (.lst (SqL.of upd_same) ((rs.same g).same (qj hl _))) (.lst ss)⟩
theorem qcp {σ:St} {H0:Hp} {n:Nat}:Mk K (tOp (fun x y H Q=>vz x y H Q∨wT K x y H Q) (tOp (rI QH fun i j=>V.int (i ^ j.toNat)) (tC (V.int 10)) (tC (V.int 12))) (tC (V.int 1))) σ H0 n 1921:=fun H Q _ q=>
 ⟨_,_,rfl,rfl,⟨O0,O0,O0⟩,.inl (.inl ⟨_,_,rfl,rfl,q _ H _ (qp.refl _) (.int _) ((Tre.Sn.int ∅).mono (A7 _) (Aj _))⟩)⟩
theorem VZ {H:Hp} {y:V} {es:List Aa} (h:Rep K H y (.tuple es)):∃ a xs,y= .ref a∧SqT K H a xs∧Reps K H xs es:=by
 cases h with
 | tup a b=>exact ⟨_,_,rfl,a,b⟩
def ZF (K:Frag):Sp:=fun vs H Q _=>∃ st a nm ns names k y es,vs=[.ref st,y]∧DIn K H st a nm ns names k 10∧0≤k∧k≤200∧Rep K H y (.tuple es)∧Tre.Sn 24 3060000 (.tuple es)∧es≠[]∧∀ H' x d,Stay st H H'→Rep K H' x d→Tre.Sl 24 3061000 d→Q x H'
theorem Yo (F:Fun K "_law_odd" "_law_odd" Vo f fd) (c:Cs K mg ad) (d_law_next:Def P w K mg base 2 "_law_next" ["_law_state"] (Jt K)) (d_law_term:Def P w K mg base 32 "_law_term" ["_law_state","_law_deep"] (JA K 7)) (d_law_statement:Def P w K mg base 33 "_law_statement" ["_law_state","_law_deep","_law_may_hand"] (wS K 7)):FnOk P w K mg base CX0 34 f fd ["_law_state","_law_part"] (ZF K):=by
 refine F.ok jB (fun vs H Q E h=>?_) (fun cdv A outer s H vs Q E hr h=>?_)
 ·obtain ⟨st,a,nm,ns,names,k,y,es,rfl,_⟩:=h;rfl
 obtain ⟨st,a,nm,ns,names,k,y,es,rfl,di,k0,k2,ry,sy,hne,q⟩:=h;refine ⟨_,(qg (pst 2 jB.nd (pdf d_law_next (qc (pv 0) qd)))
   (qg (pst 3 jB.nd (pdf d_law_term (qc (pv 0) (qc qf qd))))
   (qg (pst 4 jB.nd (pdf d_law_statement (qc (pv 0) (qc qf (qc zr qd)))))
   (qg (pst 5 jB.nd (qX (qc (pv 3) (qc (pv 4) (qc (qi (qc (pv 4) qd)) (qc qh (qc qh (qc (qm (zS (K:=K) rfl) (qm Vq qf qf) qf) (qc zr (qc zY (qc (qX qd) (qc (qi qd) (qc (qm (zS (K:=K) rfl) (pv 1) (qi (qc zY qd))) (qc (zX (ZJ (K:=K) rfl) (pv 1) jK (je (qba Ze qf))) (qc (zt (Qe (K:=K) rfl) (by rfl) c.list_ qaw (qc (pv 1) qd)) qd)))))))))))))))
   (qg (pst 5 jB.nd (qm (zS (K:=K) rfl) (pv 5) (qX (qc (qm (zS (K:=K) rfl) (qi (qc qh qd)) (zX (ZJ (K:=K) rfl) (pv 1) (je qf) jK)) (qc (qi (qc qh (qc (pv 3) qd))) (qc (qi (qc qh (qc qh qd))) (qc (qi (qc qh (qc zr qd))) qd)))))))
   (qg (zJ (wG (K:=K) rfl B1 Ce Cf jZ (pv 5) (qc (qi (qc qh (qc qh (qc (pv 3) (qc (pv 3) qd))))) qd)))
   (ql (qt (pix K (pv 5) (qm qA (pv 2) (qu (ja (K:=K) rfl) (by rfl) c.len_ zp (qc (pv 5) qd)))))))))))),?_⟩
 refine zq fun D1 h1 q1=>⟨_,rfl,st,a,nm,ns,k,10,rfl,di.dict,di.cells,k0,⋯,fun z H1 hz0 hz1 e1=>h1 _ _ ?_⟩;have di1:DIn K H1 st a nm ns names (k+1) 10:=e1▸di.put;have st1:Stay st H H1:=e1▸Stay.put di.dict;clear e1 h1 q1;refine zq fun D2 h2 q2=>⟨_,rfl,st,a,nm,ns,names,k+1,10,_,rfl,di1,⟨⋯,⋯,⋯,⋯,⋯⟩,fun H2 x2 d2 s2 t2 k2' l2 sy2 di2 r2 ft2 pt2 bt=>h2 _ _ ?_⟩;obtain ⟨b1,b2,b3,b4,b5,b6,_⟩:=bt;refine zq fun D3 h3 q3=>⟨_,rfl,st,a,nm,ns,names,k2',l2,_,true,rfl,di2,⟨⋯,⋯,⋯,⋯,⋯⟩,fun H3 x3 d3 s3 t3 k3 l3 sy3 di3 r3 ft3 pt3 bs=>h3 _ _ ?_⟩;obtain ⟨c1,c2,c3,c4,c5,c6⟩:=bs;have s_t:Tre.Sn 18 1260000 d2:=(Tre.Tr.sn (pt2 true).tr ft2.fit).mono ⋯ ⋯;have s_o:Tre.Sn 18 1260000 d3:=(Tre.Tr.sn pt3.tr ft3.fit).mono ⋯ ⋯;have st3:=(st1.trans sy2).trans sy3;have r_t:=r2.stay sy3;have r_o:=r3;have r_p:=ry.stay st3;clear h2 q2 h3 q3 b1 b2 b3 b4 b5 b6 c1 c2 c3 c4 c5 c6 r2 r3 di1 di2 ry;obtain ⟨pa,xs,rfl,sq,rs⟩:=VZ r_p;have si:=Tre.Sn.items sy;have hl:=si.sl.len2;have part:∀ {H':Hp} {σ:St} (_:σ[1]?=some (some (.ref pa))) (_:qp H3 H'),Mt K (qG 1) σ H' 1530000 23 3060000:=fun e g=>qes e (g.sqT sq) (rs.same g) ⋯ si;clear r_p;refine qam (K:=K) 24 3061000 (za (Mk.ml (zm rfl r_t s_t)) (za (Mk.ml (zm rfl r_o s_o)) (za (Mk.ml (qC (qe (zm rfl r_o s_o) qk))) (za (Mk.ml qI) (za (Mk.ml qI) (za (Mk.ml qcp) (za (Mk.ml qew) (za (Mk.ml qeu) (za qcn (za (Mk.ml (qC qk))
  (za (Mk.ml (qaj (part rfl (qp.refl _)) (qah (qe qeu qk))).mk) (za (Mk.ml (qcm (part rfl (qp.refl _)) (fun _ _ h=>h) (fun _ _ h=>⟨_,rfl,_,rfl,h⟩)).mk) (za (qet rfl sq rs (si.sl.mono (Aj _) (show 3060000≤3060997 from O0))) yH))))))))))))) fun p4 H4 g4 n4 l4=>?_
 replace r_t:=r_t.same g4
 refine qct (K:=K) rfl l4 (za (Mk.ml (qaj (qah (qe qI qk)) (qcm (part rfl g4) (fun _ _ h=>⟨_,rfl,h⟩) (fun _ _ h=>h))).mk) (za (Mk.ml (qC (qe qI (qe (zm rfl r_t s_t) qk)))) (za (Mk.ml (qC (qe qI (qe qI qk)))) (za (Mk.ml (qC (qe qI (qe qew qk)))) yH)))) fun p5 H5 g5 n5 l5=>?_
 replace r_t:=r_t.same g5
 refine qcu (K:=K) rfl l5 (qC (qe qI (qe qI (qe (zm rfl r_t s_t) (qe (zm rfl r_t s_t) qk))))) fun H6 vs ds g6 h6 r6 l6 s6=>?_;have g36:qp H3 H6:=fun b o e=>g6 b o (qD (g4 _ _ e) n5) (g5 _ _ (g4 _ _ e));have lv:vs.length=18:=by rw [r6.length,l6]
 have i0:=Az z (show ((vs.length:Nat):Int)≠0 from ⋯);have i1:=Aw z (show (0:Int)<((vs.length:Nat):Int) from ⋯);obtain ⟨v,hv⟩:=Vw (l:=vs) (i:=(z % ((vs.length:Nat):Int)).toNat) ⋯;obtain ⟨d,hd,rv⟩:=r6.get hv;have ei:z % ((vs.length:Nat):Int)=(((z % ((vs.length:Nat):Int)).toNat:Nat):Int):=⋯;refine ⟨_,rfl,_,rfl,_,rfl,_,_,rfl,.inl ⟨_,SqL.of h6,rfl⟩,_,_,rfl,rfl,(show (0:Int)<((vs.length:Nat):Int) from ⋯),.inl ⟨p5,vs,_,v,rfl,rfl,SqL.of h6,?_,q _ _ _ (st3.then g36) rv (s6 d (Bi hd))⟩⟩;rw [ei];exact qS hv
def YQ (K:Frag) (n:Nat):Sp:=fun vs H Q _=>∃ st a nm ns names k x d y es z,vs=[.ref st,x,y]∧DIn K H st a nm ns names k 10∧0≤k∧k+n≤190∧n≤24∧Rep K H x d∧Tre.Sn n z d∧z≤3060000∧Rep K H y (.tuple es)∧Tre.Sn 24 3060000 (.tuple es)∧es≠[]∧
 ∀ H' x' d',Stay st H H'→Rep K H' x' d'→Tre.Sl (n+24) (z+3061000+3*n) d'→Q x' H'
theorem Qx (xs:List V) (k:Nat):JP xs (some ((k:Int)+1)) none=xs.drop (k+1):=by
 have e:(k:Int)+1=((k+1:Nat):Int):=rfl;unfold JP;rw [e,HT.sIx_nat,HT.sIx_none]
 by_cases h:k+1≤xs.length
 ·rw [Nat.min_eq_left h,← C8,Bv]
 ·rw [Nat.min_eq_right ⋯,List.drop_length,List.drop_eq_nil_of_le ⋯,List.take_nil]
theorem Zz {α:Type} {l:List α} {i:Nat} {x:α} (h:l[i]?=some x):l=l.take i++x::l.drop (i+1):=by
 rw [← Qu h,List.take_append_drop]
theorem vA (F:Fun K "_law_spoilt" "_law_spoilt" jW f fd) (c:Cs K mg ad) (n kl:Nat) (spR:Sp) (hR:∀ m,n=m+1→spR=YQ K m) (d_law_next:Def P w K mg base 2 "_law_next" ["_law_state"] (Jt K)) (d_law_odd:Def P w K mg base 34 "_law_odd" ["_law_state","_law_part"] (ZF K))
  (d_law_spoilt:Def P w K mg base (kl+34) "_law_spoilt" ["_law_state","_law_thing","_law_part"] spR):FnOk P w K mg base CX0 (kl+35) f fd ["_law_state","_law_thing","_law_part"] (YQ K n):=by
 refine F.ok (k:=kl+34) jH (fun vs H Q E h=>?_) (fun cdv A outer s H vs Q E hr h=>?_)
 ·obtain ⟨st,a,nm,ns,names,k,x,d,y,es,z,rfl,_⟩:=h;rfl
 obtain ⟨st,a,nm,ns,names,k,x,d,y,es,z,rfl,di,k0,k2,n24,rx,sx,hz,ry,sy,hne,q⟩:=h;have hu64:=hr.units;refine ⟨_,(qg (pst 3 jH.nd (pdf d_law_next (qc (pv 0) qd)))
   (qg (qE (PW.pt (jd (zI (zh (qu (zK (K:=K) rfl) (by rfl) c.isinstance_ qz (qc (pv 1) (qc (jn c.tuple_ zO) qd))))) (jd (qq (yW (K:=K) rfl hu64) (pv 1) (qi qd) (qv _)) (jt (qq qT (qm qA (pv 3) qf) qf (qv _)))))) (ql (qt (pdf d_law_odd (qc (pv 0) (qc (pv 2) qd))))) qy)
   (qg (pst 4 jH.nd (qm qA (qm qQ (pv 3) qf) (qu (ja (K:=K) rfl) (by rfl) c.len_ zp (qc (pv 1) qd))))
   (qg (pst 5 jH.nd (Je (zh (qu (zK (K:=K) rfl) (by rfl) c.isinstance_ qz (qc (pix K (pv 1) qf) (qc (jn c.str_ Jh) qd)))) (pv 1) (pv 2)))
   (ql (qt (qm (zS (K:=K) rfl) (qm (zS (K:=K) rfl) (zX (ZJ (K:=K) rfl) (pv 1) jK (je (pv 4))) (qi (qc (pdf d_law_spoilt (qc (pv 0) (qc (pix K (pv 1) (pv 4)) (qc (pv 5) qd)))) qd))) (zX (ZJ (K:=K) rfl) (pv 1) (je (qm (zS (K:=K) rfl) (pv 4) qf)) jK)))))))),?_⟩
 clear hu64;refine zq fun D1 h1 q1=>⟨_,rfl,st,a,nm,ns,k,10,rfl,di.dict,di.cells,k0,⋯,fun nu H1 hz0 hz1 e1=>h1 _ _ ?_⟩;have di1:DIn K H1 st a nm ns names (k+1) 10:=e1▸di.put;have st1:Stay st H H1:=e1▸Stay.put di.dict;clear e1 h1 q1
 replace rx:=rx.stay st1
 replace ry:=ry.stay st1
 refine zq fun D2 h2 q2=>vv fun B t1 t2=>?_;have odd:∀ H2,qp H1 H2→B true H2:=fun H2 g2=>t1 _ ⟨_,rfl,_,rfl,st,a,nm,ns,names,k+1,y,es,rfl,di1.same g2,⋯,⋯,ry.same g2,sy,hne,fun H3 x' d' st3 r3 s3=>q2 _ _ (q _ _ _ ((st1.then g2).trans st3) r3 (s3.mono ⋯ ⋯))⟩;refine ⟨_,rfl,x,d,"tuple",rfl,rx,O0,?_⟩;cases rx with
 | @tup pa xs ds sq rs=>
  obtain ⟨m,rfl⟩:∃ m,n=m+1:=by
   have:=sx.sl.dep;rw [PyData.depth] at this;exact ⟨n - 1,⋯⟩
  cases hR m rfl;have hlen:=rs.length;refine ⟨_,rfl,jl ⟨_,rfl,(show 0≤Af from A7 _),fun p hp=>?_⟩⟩;have g2:=qj hp (.tup []);refine ⟨pa,p,xs,rfl,rfl,g2.sqT sq,SqT.of upd_same,_,rfl,?_⟩;generalize upd H1 p (.tup [])=H2 at g2 ⊢;clear t1 hR;have sq2:=g2.sqT sq;have rs2:=rs.same g2;have di2:=di1.same g2;have st2:=st1.then g2;have ry2:=ry.same g2
  by_cases he:ds=[]
  ·have:xs=[]:=List.eq_nil_of_length_eq_zero (by rw [hlen,he];rfl)
   exact zg (by rw [this];rfl) (odd _ g2)
  have lp:0<ds.length:=List.length_pos_iff.mpr he;refine zn (by cases xs with | nil=>exact absurd lp (by rw [← hlen];decide) | cons _ _=>rfl) ⟨_,rfl,_,_,rfl,rfl,(show (0:Int)<4 from O0),rfl,_,rfl,bB (odd _ g2) (t2 _ (h2 _ _ ?_))⟩
  clear odd t2 h2 q2 di1 di st1 ry rs sq g2;have lpi:(0:Int)<((xs.length:Nat):Int):=⋯;refine zq fun D3 h3 q3=>⟨_,rfl,_,_,rfl,rfl,⟨O0,O0⟩,_,rfl,_,_,rfl,.inr ⟨_,sq2,rfl⟩,_,_,rfl,rfl,lpi,h3 _ _ ?_⟩;have i0:=Az (nu / 4) (show ((xs.length:Nat):Int)≠0 from ⋯);have i1:=Aw (nu / 4) lpi;show jA _ _ _ [some (.ref st),some (.ref pa),some y,some (.int nu),some (.int (nu / 4 % ((xs.length:Nat):Int))),none] H2;obtain ⟨i,ei⟩:∃ i:Nat,nu / 4 % ((xs.length:Nat):Int)=(i:Int):=⟨_,(Int.toNat_of_nonneg i0).symm⟩;rw [ei] at i0 i1 ⊢;obtain ⟨xi,hxi⟩:=Vw (l:=xs) (i:=i) ⋯;obtain ⟨di',hdi,rxi⟩:=rs2.get hxi;obtain ⟨x0,hx0⟩:=Vw (l:=xs) (i:=0) ⋯;obtain ⟨d0,hd0,rx0⟩:=rs2.get hx0;clear h3 q3 i0;obtain ⟨sn1,sn2⟩:=sx.item (Bi hdi);refine zq fun D4 h4 q4=>⟨_,rfl,.inr (.inl ⟨pa,xs,0,x0,rfl,rfl,sq2,qS (j:=0) hx0,x0,d0,"str",rfl,rx0,O0,_,rfl,?_⟩)⟩;have fin:∀ v fs,Rep K H2 v (.tuple fs)→Tre.Sn 24 3060000 (.tuple fs)→fs≠[]→D4.nx [some (.ref st),some (.ref pa),some y,some (.int nu),some (.int i),some v] H2:=fun v fs rv sv hfs=>h4 _ _ ?_
  ·refine vt (fun _=>⟨_,rfl,fin _ ds (.tup sq2 rs2) (sx.mono n24 hz) he⟩) (fun _=>⟨_,rfl,fin _ es ry2 sy hne⟩)
  clear h4 q4;refine ⟨_,rfl,_,rfl,_,rfl,pa,xs,rfl,sq2,fun c1 H3 g3 sc1=>?_⟩;rw [Ve _ _ i rfl] at sc1;refine ⟨_,rfl,_,rfl,_,rfl,.inr (.inl ⟨pa,xs,i,xi,rfl,rfl,g3.sqT sq2,qS hxi,_,rfl,?_⟩)⟩;refine ⟨st,a,nm,ns,names,k+1,xi,di',v,fs,Tre.sz di',rfl,di2.same g3,⋯,⋯,⋯,rxi.same g3,sn1,As sn2 hz,rv.same g3,sv,hfs,fun H4 x' d' st4 r4 s4=>⟨(O0:1≤Af),fun p5 hp5=>?_⟩⟩;have g5:=qj hp5 (.tup [x']);have h5:upd H4 p5 (.tup [x']) p5=some (.tup [x']):=upd_same;generalize upd H4 p5 (.tup [x'])=H5 at g5 h5 ⊢;have st5:=st4.then g5;have small:xs.length≤2000000:=by
   have:=sx.items.sl.len2;omega
  refine .inr ⟨c1,p5,xs.take i,[x'],rfl,rfl,st5.sqT sc1,SqT.of h5,As (show (xs.take i).length+1≤2000001 by rw [Bq];omega) O0,fun c6 H6 g6 sc6=>?_⟩
  have st6:=st5.then g6;refine ⟨_,rfl,_,rfl,.inl (.inl ⟨_,_,rfl,rfl,_,rfl,pa,xs,rfl,st6.sqT (g3.sqT sq2),fun c7 H7 g7 sc7=>?_⟩)⟩;rw [Qx] at sc7;have st7:=st6.then g7;refine .inr ⟨c6,c7,_,_,rfl,rfl,g7.sqT sc6,sc7,As (show (xs.take i++[x']).length+(xs.drop (i+1)).length≤4000001 by rw [A8,Bq,C8];show _+1+_≤_;omega) O0,fun c8 H8 g8 sc8=>?_⟩
  have st8:=st7.then g8;refine q _ _ (.tuple (ds.take i++d'::ds.drop (i+1))) ((st2.then g3).trans st8) (.tup sc8 ?_) ?_
  ·rw [List.append_assoc];have r8:=(rs2.same g3).stay st8;have t8:=J4 0 i r8;have u8:=J4 (i+1) xs.length r8;rw [Dx,Dx] at t8;rw [Du (by rw [C8];omega),Du (by rw [C8];omega)] at u8
   exact t8.append (.cons (((r4.same g5).same g6).same g7 |>.same g8) u8)
  ·have e:=Zz hdi;have sx':=sx.sl;rw [e] at sx';exact (Tre.Sl.swap (w:=3061000+3*m) sx' (s4.mono (Aj _) ⋯) ⋯).mono ⋯ ⋯
 | _=>exact ⟨_,rfl,zV (odd _ (qp.refl _))⟩
theorem YO {fS:Ac} {dS:FuncData} (FS:Fun K "_law_spoilt" "_law_spoilt" jW fS dS) (kS:Known K mg "_law_spoilt" ["_law_state","_law_thing","_law_part"] fS dS) (c:Cs K mg ad) (d_law_next:Def P w K mg base 2 "_law_next" ["_law_state"] (Jt K)) (d_law_odd:Def P w K mg base 34 "_law_odd" ["_law_state","_law_part"] (ZF K)):
  ∀ n:Nat,Def P w K mg base (n+35) "_law_spoilt" ["_law_state","_law_thing","_law_part"] (YQ K n)
 | 0=>kS.out (vA FS c 0 0 _ (fun m h=>nomatch h) d_law_next d_law_odd (kS.out v9))
 | n+1=>kS.out (vA FS c (n+1) (n+1) _ (fun m h=>by cases h;rfl) d_law_next d_law_odd (Def.up (YO FS kS c d_law_next d_law_odd n) ⋯))
def spLaw (K:Frag):Sp:=fun vs H Q _=>∃ (a:Ac) (ns:List Int),vs=[.ref a]∧SqL K H a (ns.map V.int)∧ns.length≤63∧∀ H',Q (.bl true) H'
theorem nms3:Nms ["a","b","ab"]:=⟨O0,∅,∅⟩
theorem qci (F:Fun K "law" "law" vY f fd) (c:Cs K mg ad) (d_law_cell_at:Def P w K mg base 1 "_law_cell_at" ["_law_script","_law_k"] (Ww K)) (d_law_tower_refused:Def P w K mg base 10 "_law_tower_refused" ["_law_cell"] qa4) (d_law_next:Def P w K mg base 2 "_law_next" ["_law_state"] (Jt K))
  (d_law_program:Def P w K mg base 34 "_law_program" ["_law_script","_law_most"] (ZD K)) (d_law_at_a_bound:Def P w K mg base 3 "_law_at_a_bound" ["_law_number_here"] (YU K)) (d_law_spoilt:Def P w K mg base 59 "_law_spoilt" ["_law_state","_law_thing","_law_part"] (YQ K 24))
  (d_law_is_program:Def P w K mg base 195 "_law_is_program" ["_law_thing"] (qa5 K 47)) (d_need_program:DefX P w K mg base 6 "need_program" ["thing"] (we K ad)) (d_law_refused:Def P w K mg base 9 "_law_refused" ["_law_way","_law_thing"] (ZC K)):FnOkG P w K mg base CX0 196 f fd ["_law_script"] (spLaw K):=by
 refine F.okG vE (fun vs H Q E h=>?_) (fun cdv A outer s H vs Q E hgd hr h=>?_)
 ·obtain ⟨a,ns,rfl,_⟩:=h;rfl
 obtain ⟨a,ns,rfl,hS,_,q⟩:=h;have hu80:(A.deeper (PyProof.Rows.envOfC "law" (qo vY) s.heap.objs.size f cdv)).units+80<cLine:=by have:=hr.un;omega
 refine ⟨_,(qg (qE (qq qT (qm qA (pdf d_law_cell_at (qc (pv 0) (qc qf qd))) qf) qf (qv _)) (ql (qt (pdf d_law_tower_refused (qc (pdf d_law_cell_at (qc (pv 0) (qc qf qd))) qd)))) qy)
   (qg (pst 1 vE.nd (v6 (qW qh (pv 0) (qW qh qf (qW qh qf (qW qh (qX (qc qh (qc qh (qc qh qd)))) v3)))) rfl rfl (by intro z;cases z) O0))
   (qg (pst 2 vE.nd (pdf d_law_next (qc (pv 1) qd)))
   (qg (pst 3 vE.nd (pdf d_law_program (qc (pv 0) (qc qf qd))))
   (qg (qE (qq qT (qm qA (pv 2) qf) qf (qv _)) (ql (pst 3 vE.nd (pdf d_law_at_a_bound (qc (pdf d_law_next (qc (pv 1) qd)) qd)))) (ql (qE (qq Jf (qm qA (pv 2) qf) qf (qv _)) (ql (pst 3 vE.nd (pdf d_law_spoilt (qc (pv 1) (qc (pv 3) (qc (pv 3) qd)))))) qy)))
   (qg (pst 4 vE.nd (zt (Zp (K:=K) rfl hgd hu80) (by rfl) c.str_ Jh (qc (pv 3) qd)))
   (qg (qE (zh (pdf d_law_is_program (qc (pv 3) qd))) (ql (qt (jF (zF Ym (Jo d_need_program (hr.mono (by first | decide | omega)) qel (qc (pv 3) qd)) zY (qv _)) (Jd (zF qT (zt (Zp (K:=K) rfl hgd hu80) (by rfl) c.str_ Jh (qc (pv 3) qd)) (pv 4) (qv _)))))) qy)
   (ql (qt (jF (qu (Wp (K:=K) rfl rfl) (by rfl) c.all_ Vx (qc (zx (sc:=qo vY) (NX:=["_law_script","_law_state","_law_way","_law_thing","_law_kept"]) (N:=["_law_k","_law_thing","_law_way"]) (js:=[none,some 3,some 2]) (zP rfl c.range_ (qc qf qd)) (fun _ _ _ _ _=>(zb (i:=0) (show (["_law_k","_law_thing","_law_way"]:List Str).Nodup from ∅) rfl (Or.inl rfl))) (fun _ _ _ _ _=>zG) (fun _ _ _ _ _=>(pdf d_law_refused (qc (qm qA (qm qY (pv 2) (pv 0)) qf) (qc (pv 1) qd)))) (zd rfl) ⟨∅,rfl,∅,∅,rfl,∅⟩) qd)) (Jd (zF qT (zt (Zp (K:=K) rfl hgd hu80) (by rfl) c.str_ Jh (qc (pv 3) qd)) (pv 4) (qv _))))))))))))),?_⟩
 clear hu80;refine zq fun D1 h1 q1=>vv fun B t1 t2=>⟨_,rfl,a,ns,5,rfl,hS,O0,fun cell=>⟨_,_,rfl,rfl,(show (0:Int)<16 from O0),rfl,_,rfl,bB (t1 _ ?_) (t2 _ (h1 _ _ ?_))⟩⟩
 ·exact ⟨_,rfl,a,ns,6,rfl,hS,O0,fun c6=>⟨c6,rfl,fun H'=>q1 _ _ (q H')⟩⟩
 clear t1 t2 h1 q1;refine zq fun D1 h1 q1=>fun st hst=>⟨_,rfl,(O0:3≤Af),fun pn hpn=>?_⟩;have nps:pn≠st:=fun e=>by rw [e,upd_same] at hpn;cases hpn
 refine ⟨(by rw [qB (Ne.symm nps)];exact upd_same),stK a 40 10 pn,rfl,(O0:4≤15),h1 _ _ ?_⟩
 rw [yJ];clear h1 q1;have hpn0:H pn=none:=by rw [qB nps] at hpn;exact hpn
 have g1:qp H (upd (upd (upd H st (.dK [])) pn (.lst [.str "a",.str "b",.str "ab"])) st (.dK (stK a 40 10 pn))):=fun b o e=>by
  rw [qB (qD e hst),qB (qD e hpn0),qB (qD e hst)];exact e
 have di1:DIn K (upd (upd (upd H st (.dK [])) pn (.lst [.str "a",.str "b",.str "ab"])) st (.dK (stK a 40 10 pn))) st a pn ns ["a","b","ab"] 40 10:=⟨upd_same,g1.seq hS,SqL.of (by rw [qB nps];exact upd_same),nms3⟩
 generalize upd (upd (upd H st (.dK [])) pn (.lst [.str "a",.str "b",.str "ab"])) st (.dK (stK a 40 10 pn))=H1 at g1 di1 ⊢;refine zq fun D1 h1 q1=>⟨_,rfl,st,a,pn,ns,40,10,rfl,di1.dict,di1.cells,O0,O0,fun way H2 w0 w1 e2=>h1 _ _ ?_⟩;have di2:DIn K H2 st a pn ns ["a","b","ab"] 41 10:=e2▸di1.put;clear e2 h1 q1 di1 g1;refine zq fun D1 h1 q1=>⟨_,rfl,a,ns,25,O0,O0,rfl,di2.cells,fun H3 x d s t names g3 r3 _ ft pt hs ht=>h1 _ _ ?_⟩;clear h1 q1;have di3:=di2.same g3;have sd:Tre.Sn 24 3060000 d:=(Tre.Tr.sn pt.tr ft.fit).mono ⋯ ⋯;refine zq fun D1 h1 q1=>?_;have fin:∀ H4 y e,Rep K H4 y e→Tre.Sl 48 7000000 e→D1.nx [some (.ref a),some (.ref st),some (.int way),some y,none] H4:=fun H4 y e r4 s4=>h1 _ _ ?_
 ·clear h1 q1;refine vv fun B t1 t2=>⟨_,rfl,_,_,rfl,rfl,(show (0:Int)<4 from O0),rfl,_,rfl,bB (t1 _ ?_) (t2 _ ?_)⟩
  ·exact ⟨_,rfl,st,a,pn,ns,41,10,rfl,di3.dict,di3.cells,O0,O0,fun nu H4 _ _ _=>⟨nu,rfl,fun H5 y e g5 r5 s5=>fin _ _ _ r5 (s5.sl.mono ⋯ ⋯)⟩⟩
  clear t1 t2;refine vv fun B t1 t2=>⟨_,rfl,_,_,rfl,rfl,(show (0:Int)<4 from O0),_,_,rfl,rfl,_,rfl,bB (t1 _ ?_) (t2 _ ?_)⟩
  ·obtain ⟨h0,ts,rfl⟩:∃ h0 ts,d= .tuple (.str h0::ts):=by
    cases pt with
    | mk hf _=>
     obtain ⟨hd,ts,fs,l,rfl,_⟩:=Tre.z3 hf;exact ⟨_,_,rfl⟩
   exact ⟨_,rfl,_,rfl,_,rfl,st,a,pn,ns,["a","b","ab"],41,x,_,x,_,3060000,rfl,di3,O0,O0,O0,r3,sd,O0,r3,sd,List.cons_ne_nil _ _,fun H5 y e _ r5 s5=>fin _ _ _ r5 (s5.mono ⋯ ⋯)⟩
  ·exact fin _ _ _ r3 (sd.sl.mono ⋯ ⋯)
 clear h1 q1 r3 sd di3 di2 hst hpn hpn0;have fits:e.shown.length≤Af:=As s4.len O0;have dp:e.depth≤64:=As s4.dep O0;refine zq fun D1 h1 q1=>⟨_,rfl,y,e,rfl,r4,s4.able,s4.nod,dp,fits,h1 _ _ ?_⟩;clear h1 q1;refine zq fun D1 h1 q1=>vv fun B t1 t2=>⟨_,rfl,y,e,rfl,r4,s4.ft,s4.dep,fun H5 g5=>⟨_,rfl,?_⟩⟩;cases hp:Tre.qR e with
 | true=>
  refine t1 _ ?_;clear t1 t2 h1;refine ⟨_,rfl,y,e,rfl,r4.same g5,s4.ft,fun _ H6 g6=>⟨rfl,?_⟩,fun z=>absurd (hp.symm.trans z) O0⟩;refine ⟨true,rfl,zg rfl ⟨_,rfl,y,e,rfl,r4.same (g5.trans g6),s4.able,s4.nod,dp,fits,_,rfl,rfl,?_⟩⟩;rw [Ai rfl];exact q1 _ _ (q _)
 | false=>
  refine t2 _ (h1 _ _ ?_);clear t1 t2 h1 q1;refine ⟨4,rfl,O0,O0,qbh (fun i H hi=>hi) (fun H=>Aj _) (fun i H6 hi g6 v H7 yl R hR=>?_) (fun H6 D g6 hD=>?_)⟩
  ·obtain ⟨rfl,rfl⟩:=yl;exact ⟨_,rfl,_,rfl,.inl ⟨_,_,rfl,rfl,_,_,rfl,rfl,(show (0:Int)<4 from O0),_,rfl,_,y,e,rfl,r4.same (g5.trans g6),s4.ft,hp,fun H8 g8=>hR H8 (g6.trans g8)⟩⟩
  ·refine ⟨D,List.replicate 4 true,rfl,SqL.of upd_same,?_⟩;refine ⟨true,rfl,zg rfl ⟨_,rfl,y,e,rfl,r4.same ((g5.trans g6).trans (qj hD _)),s4.able,s4.nod,dp,fits,_,rfl,rfl,?_⟩⟩;rw [Ai rfl];exact q _
end
theorem qdh {l:PySem.W.OpenLaw} {w:World} {K:Frag} {h:Heap} {mg:Str→Option Ab} {fa f0 f1 f2 f3 f4 f5 f6 f7 f8 f9 f10 f11 f12 f13 f14 f15 f16 f17 f18 f19 f20 f21 f22 f23 f24 f25 f26 f27 f28 f29 f30 f31 f32 f33 f34 f35 f36 f37:Ac} (X:K.In h) (G:h.Ns Ak mg) (hfa:mg "law"=some (.ref fa))
  {cd_BadTree:ClassData}
  {c_LoomError c_BadTree c_BadText c_BadName c_BadCount c_BadCode c_NoThing c_Scope:Ac}
  {a_SIGNS:Ac} {n_SIGNS:Nat} {k_SIGNS_0 k_SIGNS_1 k_SIGNS_2 k_SIGNS_3 k_SIGNS_4:Tok} {a_FORMS:Ac} {n_FORMS:Nat} {k_FORMS_0 k_FORMS_1 k_FORMS_2 k_FORMS_3 k_FORMS_4 k_FORMS_5 k_FORMS_6 k_FORMS_7 k_FORMS_8 k_FORMS_9 k_FORMS_10 k_FORMS_11 k_FORMS_12 k_FORMS_13 k_FORMS_14 k_FORMS_15 k_FORMS_16:Tok} {a_FORMS0:Ac} {n_FORMS0:Nat} {k_FORMS0_0 k_FORMS0_1:Tok} {a_FORMS1:Ac} {n_FORMS1:Nat} {k_FORMS1_0:Tok} {a_FORMS2:Ac} {n_FORMS2:Nat} {k_FORMS2_0:Tok} {a_FORMS3:Ac} {n_FORMS3:Nat} {k_FORMS3_0 k_FORMS3_1 k_FORMS3_2:Tok} {a_FORMS4:Ac} {n_FORMS4:Nat} {k_FORMS4_0 k_FORMS4_1:Tok} {a_FORMS5:Ac} {n_FORMS5:Nat} {k_FORMS5_0 k_FORMS5_1:Tok} {a_FORMS6:Ac} {n_FORMS6:Nat} {k_FORMS6_0 k_FORMS6_1:Tok} {a_FORMS7:Ac} {n_FORMS7:Nat} {k_FORMS7_0 k_FORMS7_1:Tok} {a_FORMS8:Ac} {n_FORMS8:Nat} {k_FORMS8_0 k_FORMS8_1:Tok} {a_FORMS9:Ac} {n_FORMS9:Nat} {k_FORMS9_0 k_FORMS9_1:Tok} {a_FORMS10:Ac} {n_FORMS10:Nat} {k_FORMS10_0:Tok} {a_FORMS11:Ac} {n_FORMS11:Nat} {k_FORMS11_0 k_FORMS11_1 k_FORMS11_2:Tok} {a_FORMS12:Ac} {n_FORMS12:Nat} {k_FORMS12_0 k_FORMS12_1:Tok} {a_FORMS13:Ac} {n_FORMS13:Nat} {k_FORMS13_0:Tok} {a_FORMS14:Ac} {n_FORMS14:Nat} {k_FORMS14_0:Tok} {a_FORMS15:Ac} {n_FORMS15:Nat} {k_FORMS15_0 k_FORMS15_1:Tok} {a_FORMS16:Ac} {n_FORMS16:Nat} {k_FORMS16_0 k_FORMS16_1 k_FORMS16_2 k_FORMS16_3 k_FORMS16_4:Tok} {a_HEADS:Ac} {n_HEADS:Nat} {k_HEADS_0 k_HEADS_1 k_HEADS_2:Tok} {a_HEADS0:Ac} {n_HEADS0:Nat} {k_HEADS0_0:Tok} {a_HEADS1:Ac} {n_HEADS1:Nat} {k_HEADS1_0 k_HEADS1_1 k_HEADS1_2 k_HEADS1_3 k_HEADS1_4 k_HEADS1_5 k_HEADS1_6:Tok} {a_HEADS2:Ac} {n_HEADS2:Nat} {k_HEADS2_0 k_HEADS2_1 k_HEADS2_2 k_HEADS2_3 k_HEADS2_4 k_HEADS2_5 k_HEADS2_6 k_HEADS2_7 k_HEADS2_8:Tok} {a_MEMBERS:Ac} {n_MEMBERS:Nat} {k_MEMBERS_0 k_MEMBERS_1 k_MEMBERS_2:Tok} {w_MEMBERS_0 w_MEMBERS_1 w_MEMBERS_2:Tok}
  {t_MOST_LETTERS t_GREATEST_NUMBER t_MOST_NAMES t_MOST_TERMS t_MOST_STATEMENTS t_MOST_DEPTH t_MOST_PARTS:Tok}
  (a0:PySem.W.nsIn K Ak "is_name"=some (some (.ref f0))) (l0:FA K f0 "is_name" "is_name" vj)
  (a1:PySem.W.nsIn K Ak "is_number"=some (some (.ref f1))) (l1:FA K f1 "is_number" "is_number" J2)
  (a2:PySem.W.nsIn K Ak "is_row"=some (some (.ref f2))) (l2:FA K f2 "is_row" "is_row" wn)
  (a3:PySem.W.nsIn K Ak "are_names"=some (some (.ref f3))) (l3:FA K f3 "are_names" "are_names" Jn)
  (a4:PySem.W.nsIn K Ak "has_shape"=some (some (.ref f4))) (l4:FA K f4 "has_shape" "has_shape" J3)
  (a5:PySem.W.nsIn K Ak "has_form"=some (some (.ref f5))) (l5:FA K f5 "has_form" "has_form" JJ)
  (a6:PySem.W.nsIn K Ak "inner_with_shapes"=some (some (.ref f6))) (l6:FA K f6 "inner_with_shapes" "inner_with_shapes" zE)
  (a7:PySem.W.nsIn K Ak "hands_within"=some (some (.ref f7))) (l7:FA K f7 "hands_within" "hands_within" Jb)
  (a8:PySem.W.nsIn K Ak "is_program"=some (some (.ref f8))) (l8:FA K f8 "is_program" "is_program" jX)
  (a9:PySem.W.nsIn K Ak "need_program"=some (some (.ref f9))) (l9:FA K f9 "need_program" "need_program" j5)
  (a10:PySem.W.nsIn K Ak "functions_of"=some (some (.ref f10))) (l10:FA K f10 "functions_of" "functions_of" Jc)
  (a11:PySem.W.nsIn K Ak "scopes_of"=some (some (.ref f11))) (l11:FA K f11 "scopes_of" "scopes_of" Jm)
  (a12:PySem.W.nsIn K Ak "shown"=some (some (.ref f12))) (l12:FA K f12 "shown" "shown" WB)
  (a13:PySem.W.nsIn K Ak "_law_cell_at"=some (some (.ref f13))) (l13:FA K f13 "_law_cell_at" "_law_cell_at" Jw)
  (a14:PySem.W.nsIn K Ak "_law_next"=some (some (.ref f14))) (l14:FA K f14 "_law_next" "_law_next" vG)
  (a15:PySem.W.nsIn K Ak "_law_names"=some (some (.ref f15))) (l15:FA K f15 "_law_names" "_law_names" jO)
  (a16:PySem.W.nsIn K Ak "_law_number"=some (some (.ref f16))) (l16:FA K f16 "_law_number" "_law_number" JI)
  (a17:PySem.W.nsIn K Ak "_law_term"=some (some (.ref f17))) (l17:FA K f17 "_law_term" "_law_term" j6)
  (a18:PySem.W.nsIn K Ak "_law_body"=some (some (.ref f18))) (l18:FA K f18 "_law_body" "_law_body" Ja)
  (a19:PySem.W.nsIn K Ak "_law_statement"=some (some (.ref f19))) (l19:FA K f19 "_law_statement" "_law_statement" zN)
  (a20:PySem.W.nsIn K Ak "_law_program"=some (some (.ref f20))) (l20:FA K f20 "_law_program" "_law_program" Jv)
  (a21:PySem.W.nsIn K Ak "_law_is_name"=some (some (.ref f21))) (l21:FA K f21 "_law_is_name" "_law_is_name" jI)
  (a22:PySem.W.nsIn K Ak "_law_forms"=some (some (.ref f22))) (l22:FA K f22 "_law_forms" "_law_forms" J0)
  (a23:PySem.W.nsIn K Ak "_law_statement_forms"=some (some (.ref f23))) (l23:FA K f23 "_law_statement_forms" "_law_statement_forms" zQ)
  (a24:PySem.W.nsIn K Ak "_law_fits"=some (some (.ref f24))) (l24:FA K f24 "_law_fits" "_law_fits" j9)
  (a25:PySem.W.nsIn K Ak "_law_many"=some (some (.ref f25))) (l25:FA K f25 "_law_many" "_law_many" jk)
  (a26:PySem.W.nsIn K Ak "_law_of"=some (some (.ref f26))) (l26:FA K f26 "_law_of" "_law_of" j7)
  (a27:PySem.W.nsIn K Ak "_law_is_program"=some (some (.ref f27))) (l27:FA K f27 "_law_is_program" "_law_is_program" jD)
  (a28:PySem.W.nsIn K Ak "_law_odd"=some (some (.ref f28))) (l28:FA K f28 "_law_odd" "_law_odd" Vo)
  (a29:PySem.W.nsIn K Ak "_law_spoilt"=some (some (.ref f29))) (l29:FA K f29 "_law_spoilt" "_law_spoilt" jW)
  (a30:PySem.W.nsIn K Ak "_law_chain"=some (some (.ref f30))) (l30:FA K f30 "_law_chain" "_law_chain" J1)
  (a31:PySem.W.nsIn K Ak "_law_held"=some (some (.ref f31))) (l31:FA K f31 "_law_held" "_law_held" vH)
  (a32:PySem.W.nsIn K Ak "_law_at_a_bound"=some (some (.ref f32))) (l32:FA K f32 "_law_at_a_bound" "_law_at_a_bound" jE)
  (a33:PySem.W.nsIn K Ak "_law_near_one"=some (some (.ref f33))) (l33:FA K f33 "_law_near_one" "_law_near_one" j8)
  (a34:PySem.W.nsIn K Ak "_law_word"=some (some (.ref f34))) (l34:FA K f34 "_law_word" "_law_word" vF)
  (a35:PySem.W.nsIn K Ak "_law_refused"=some (some (.ref f35))) (l35:FA K f35 "_law_refused" "_law_refused" Ju)
  (a36:PySem.W.nsIn K Ak "_law_tower_refused"=some (some (.ref f36))) (l36:FA K f36 "_law_tower_refused" "_law_tower_refused" zD)
  (a37:PySem.W.nsIn K Ak "law"=some (some (.ref f37))) (l37:FA K f37 "law" "law" vY)
  (z_all:PySem.W.nsIn K Ak "all"=some none)
  (z_isinstance:PySem.W.nsIn K Ak "isinstance"=some none)
  (z_str:PySem.W.nsIn K Ak "str"=some none)
  (z_len:PySem.W.nsIn K Ak "len"=some none)
  (z_bool:PySem.W.nsIn K Ak "bool"=some none)
  (z_int:PySem.W.nsIn K Ak "int"=some none)
  (z_tuple:PySem.W.nsIn K Ak "tuple"=some none)
  (z_set:PySem.W.nsIn K Ak "set"=some none)
  (z_zip:PySem.W.nsIn K Ak "zip"=some none)
  (z_reversed:PySem.W.nsIn K Ak "reversed"=some none)
  (z_range:PySem.W.nsIn K Ak "range"=some none)
  (z_enumerate:PySem.W.nsIn K Ak "enumerate"=some none)
  (z_max:PySem.W.nsIn K Ak "max"=some none)
  (z_abs:PySem.W.nsIn K Ak "abs"=some none)
  (z_sum:PySem.W.nsIn K Ak "sum"=some none)
  (z_list:PySem.W.nsIn K Ak "list"=some none)
  (z_ValueError:PySem.W.nsIn K Ak "ValueError"=some none)
  (g_MOST_LETTERS:PySem.W.nsIn K Ak "MOST_LETTERS"=some (some (.int 8 t_MOST_LETTERS)))
  (g_GREATEST_NUMBER:PySem.W.nsIn K Ak "GREATEST_NUMBER"=some (some (.int 1000000000000 t_GREATEST_NUMBER)))
  (g_MOST_NAMES:PySem.W.nsIn K Ak "MOST_NAMES"=some (some (.int 4 t_MOST_NAMES)))
  (g_MOST_TERMS:PySem.W.nsIn K Ak "MOST_TERMS"=some (some (.int 4 t_MOST_TERMS)))
  (g_MOST_STATEMENTS:PySem.W.nsIn K Ak "MOST_STATEMENTS"=some (some (.int 12 t_MOST_STATEMENTS)))
  (g_MOST_DEPTH:PySem.W.nsIn K Ak "MOST_DEPTH"=some (some (.int 20 t_MOST_DEPTH)))
  (g_MOST_PARTS:PySem.W.nsIn K Ak "MOST_PARTS"=some (some (.int 300 t_MOST_PARTS)))
  (n_LoomError:PySem.W.nsIn K Ak "LoomError"=some (some (.ref c_LoomError)))
  (n_BadTree:PySem.W.nsIn K Ak "BadTree"=some (some (.ref c_BadTree)))
  (n_BadText:PySem.W.nsIn K Ak "BadText"=some (some (.ref c_BadText)))
  (n_BadName:PySem.W.nsIn K Ak "BadName"=some (some (.ref c_BadName)))
  (n_BadCount:PySem.W.nsIn K Ak "BadCount"=some (some (.ref c_BadCount)))
  (n_BadCode:PySem.W.nsIn K Ak "BadCode"=some (some (.ref c_BadCode)))
  (n_NoThing:PySem.W.nsIn K Ak "NoThing"=some (some (.ref c_NoThing)))
  (n_Scope:PySem.W.nsIn K Ak "Scope"=some (some (.ref c_Scope)))
  (x_own:PySem.W.excIn K c_BadTree bmVE "ValueError.__new__"=true)
  (k_ga:PySem.W.findIn K (.ref c_BadTree) "__getattribute__"=some (some (.builtin "BaseException.__getattribute__")))
  (k_gt:PySem.W.findIn K (.ref c_BadTree) "__getattr__"=some none)
  (k_be:PySem.W.mroIn K c_BadTree (.type "BaseException")=some true)
  (k_cl:PySem.W.clsIn K c_BadTree=some cd_BadTree)
  (k_fd:PySem.W.findIn K (.ref c_BadTree) "__class__"=some (some (.builtin "object.__class__")))
  (k_sp:PySem.W.specialIn K (.builtin "object.__class__") "__get__"=some (some (.builtin "getset_descriptor.__get__")))
  (k_tk:PySem.W.takesIn K (.builtin "object.__class__")=some true)
  (k_ob:PySem.W.mroIn K c_BadTree (.type "object")=some true)
  (x_e1:PySem.W.exmOne K (.ref c_BadTree) (.ref c_LoomError)=some true)
  (x_i1:PySem.W.kitAny K (.ref c_BadTree) [.ref c_BadText,.ref c_BadName,.ref c_BadCount]=some false)
  (x_i2:PySem.W.kitAny K (.ref c_BadTree) [.ref c_BadCode,.ref c_NoThing]=some false)
  (x_i3:PySem.W.kitOne K (.ref c_BadTree) (.ref c_BadTree)=some true)
  (x_i4:PySem.W.kitOne K (.ref c_BadTree) (.type "ValueError")=some true)
  (g_SIGNS:PySem.W.nsIn K Ak "SIGNS"=some (some (.ref a_SIGNS)))
  (l_SIGNS:K.lookup a_SIGNS=some {cls:= .type "tuple",data:= .seq ([.str "+" k_SIGNS_0,.str "-" k_SIGNS_1,.str "*" k_SIGNS_2,.str "<" k_SIGNS_3,.str "=" k_SIGNS_4]:List Ab).toArray n_SIGNS})
  (g_FORMS:PySem.W.nsIn K Ak "FORMS"=some (some (.ref a_FORMS)))
  (l_FORMS:K.lookup a_FORMS=some {cls:= .type "dict",data:= .dict ([⟨PyData.keyHash w.params "main",.str "main" k_FORMS_0,.ref a_FORMS0⟩,⟨PyData.keyHash w.params "number",.str "number" k_FORMS_1,.ref a_FORMS1⟩,⟨PyData.keyHash w.params "name",.str "name" k_FORMS_2,.ref a_FORMS2⟩,⟨PyData.keyHash w.params "two",.str "two" k_FORMS_3,.ref a_FORMS3⟩,⟨PyData.keyHash w.params "fun",.str "fun" k_FORMS_4,.ref a_FORMS4⟩,⟨PyData.keyHash w.params "loop",.str "loop" k_FORMS_5,.ref a_FORMS5⟩,⟨PyData.keyHash w.params "call",.str "call" k_FORMS_6,.ref a_FORMS6⟩,⟨PyData.keyHash w.params "step",.str "step" k_FORMS_7,.ref a_FORMS7⟩,⟨PyData.keyHash w.params "let",.str "let" k_FORMS_8,.ref a_FORMS8⟩,⟨PyData.keyHash w.params "set",.str "set" k_FORMS_9,.ref a_FORMS9⟩,⟨PyData.keyHash w.params "do",.str "do" k_FORMS_10,.ref a_FORMS10⟩,⟨PyData.keyHash w.params "if",.str "if" k_FORMS_11,.ref a_FORMS11⟩,⟨PyData.keyHash w.params "while",.str "while" k_FORMS_12,.ref a_FORMS12⟩,⟨PyData.keyHash w.params "hand",.str "hand" k_FORMS_13,.ref a_FORMS13⟩,⟨PyData.keyHash w.params "back",.str "back" k_FORMS_14,.ref a_FORMS14⟩,⟨PyData.keyHash w.params "fault",.str "fault" k_FORMS_15,.ref a_FORMS15⟩,⟨PyData.keyHash w.params "try",.str "try" k_FORMS_16,.ref a_FORMS16⟩]:List DictEntry).toArray n_FORMS})
  (l_FORMS0:K.lookup a_FORMS0=some {cls:= .type "tuple",data:= .seq ([.str "names" k_FORMS0_0,.str "body" k_FORMS0_1]:List Ab).toArray n_FORMS0})
  (l_FORMS1:K.lookup a_FORMS1=some {cls:= .type "tuple",data:= .seq ([.str "number" k_FORMS1_0]:List Ab).toArray n_FORMS1})
  (l_FORMS2:K.lookup a_FORMS2=some {cls:= .type "tuple",data:= .seq ([.str "name" k_FORMS2_0]:List Ab).toArray n_FORMS2})
  (l_FORMS3:K.lookup a_FORMS3=some {cls:= .type "tuple",data:= .seq ([.str "sign" k_FORMS3_0,.str "term" k_FORMS3_1,.str "term" k_FORMS3_2]:List Ab).toArray n_FORMS3})
  (l_FORMS4:K.lookup a_FORMS4=some {cls:= .type "tuple",data:= .seq ([.str "names" k_FORMS4_0,.str "body" k_FORMS4_1]:List Ab).toArray n_FORMS4})
  (l_FORMS5:K.lookup a_FORMS5=some {cls:= .type "tuple",data:= .seq ([.str "names" k_FORMS5_0,.str "body" k_FORMS5_1]:List Ab).toArray n_FORMS5})
  (l_FORMS6:K.lookup a_FORMS6=some {cls:= .type "tuple",data:= .seq ([.str "term" k_FORMS6_0,.str "terms" k_FORMS6_1]:List Ab).toArray n_FORMS6})
  (l_FORMS7:K.lookup a_FORMS7=some {cls:= .type "tuple",data:= .seq ([.str "term" k_FORMS7_0,.str "term" k_FORMS7_1]:List Ab).toArray n_FORMS7})
  (l_FORMS8:K.lookup a_FORMS8=some {cls:= .type "tuple",data:= .seq ([.str "name" k_FORMS8_0,.str "term" k_FORMS8_1]:List Ab).toArray n_FORMS8})
  (l_FORMS9:K.lookup a_FORMS9=some {cls:= .type "tuple",data:= .seq ([.str "name" k_FORMS9_0,.str "term" k_FORMS9_1]:List Ab).toArray n_FORMS9})
  (l_FORMS10:K.lookup a_FORMS10=some {cls:= .type "tuple",data:= .seq ([.str "term" k_FORMS10_0]:List Ab).toArray n_FORMS10})
  (l_FORMS11:K.lookup a_FORMS11=some {cls:= .type "tuple",data:= .seq ([.str "term" k_FORMS11_0,.str "body" k_FORMS11_1,.str "body" k_FORMS11_2]:List Ab).toArray n_FORMS11})
  (l_FORMS12:K.lookup a_FORMS12=some {cls:= .type "tuple",data:= .seq ([.str "term" k_FORMS12_0,.str "body" k_FORMS12_1]:List Ab).toArray n_FORMS12})
  (l_FORMS13:K.lookup a_FORMS13=some {cls:= .type "tuple",data:= .seq ([.str "term" k_FORMS13_0]:List Ab).toArray n_FORMS13})
  (l_FORMS14:K.lookup a_FORMS14=some {cls:= .type "tuple",data:= .seq ([.str "term" k_FORMS14_0]:List Ab).toArray n_FORMS14})
  (l_FORMS15:K.lookup a_FORMS15=some {cls:= .type "tuple",data:= .seq ([.str "word" k_FORMS15_0,.str "term" k_FORMS15_1]:List Ab).toArray n_FORMS15})
  (l_FORMS16:K.lookup a_FORMS16=some {cls:= .type "tuple",data:= .seq ([.str "body" k_FORMS16_0,.str "name" k_FORMS16_1,.str "name" k_FORMS16_2,.str "body" k_FORMS16_3,.str "body" k_FORMS16_4]:List Ab).toArray n_FORMS16})
  (g_HEADS:PySem.W.nsIn K Ak "HEADS"=some (some (.ref a_HEADS)))
  (l_HEADS:K.lookup a_HEADS=some {cls:= .type "dict",data:= .dict ([⟨PyData.keyHash w.params "program",.str "program" k_HEADS_0,.ref a_HEADS0⟩,⟨PyData.keyHash w.params "term",.str "term" k_HEADS_1,.ref a_HEADS1⟩,⟨PyData.keyHash w.params "statement",.str "statement" k_HEADS_2,.ref a_HEADS2⟩]:List DictEntry).toArray n_HEADS})
  (l_HEADS0:K.lookup a_HEADS0=some {cls:= .type "tuple",data:= .seq ([.str "main" k_HEADS0_0]:List Ab).toArray n_HEADS0})
  (l_HEADS1:K.lookup a_HEADS1=some {cls:= .type "tuple",data:= .seq ([.str "number" k_HEADS1_0,.str "name" k_HEADS1_1,.str "two" k_HEADS1_2,.str "fun" k_HEADS1_3,.str "loop" k_HEADS1_4,.str "call" k_HEADS1_5,.str "step" k_HEADS1_6]:List Ab).toArray n_HEADS1})
  (l_HEADS2:K.lookup a_HEADS2=some {cls:= .type "tuple",data:= .seq ([.str "let" k_HEADS2_0,.str "set" k_HEADS2_1,.str "do" k_HEADS2_2,.str "if" k_HEADS2_3,.str "while" k_HEADS2_4,.str "hand" k_HEADS2_5,.str "back" k_HEADS2_6,.str "fault" k_HEADS2_7,.str "try" k_HEADS2_8]:List Ab).toArray n_HEADS2})
  (g_MEMBERS:PySem.W.nsIn K Ak "MEMBERS"=some (some (.ref a_MEMBERS)))
  (l_MEMBERS:K.lookup a_MEMBERS=some {cls:= .type "dict",data:= .dict ([⟨PyData.keyHash w.params "names",.str "names" k_MEMBERS_0,.str "name" w_MEMBERS_0⟩,⟨PyData.keyHash w.params "terms",.str "terms" k_MEMBERS_1,.str "term" w_MEMBERS_1⟩,⟨PyData.keyHash w.params "body",.str "body" k_MEMBERS_2,.str "statement" w_MEMBERS_2⟩]:List DictEntry).toArray n_MEMBERS}):
  ∃ fd:FuncData,(∀ (s:Ae) (v:Ab),BindsTo s fd ⟨[v],[]⟩ [("_law_script",v)])∧∀ base:Heap,K.In base→base.Ns Ak mg→FnOkG l.prog w K mg base CX0 196 fa fd ["_law_script"] (spLaw K):=by
 have e:=hfa.symm.trans (Aq X G a37);cases e;obtain ⟨_,kV37,dc37,pm37,an37,cd37,ct37,_,l37,c37,k37⟩:=l37;have c:Cs K mg ⟨c_LoomError,c_BadTree,c_BadText,c_BadName,c_BadCount,c_BadCode,c_NoThing,c_Scope⟩:=⟨Be X G z_all,Be X G z_isinstance,Be X G z_str,Be X G z_len,Be X G z_bool,Be X G z_int,Be X G z_tuple,Be X G z_set,Be X G z_zip,Be X G z_reversed,Be X G z_range,Be X G z_enumerate,Be X G z_max,Be X G z_abs,Be X G z_sum,Be X G z_list,Be X G z_ValueError,⟨_,Aq X G g_MOST_LETTERS,⟨_,rfl⟩⟩,⟨_,Aq X G g_GREATEST_NUMBER,⟨_,rfl⟩⟩,⟨_,Aq X G g_MOST_NAMES,⟨_,rfl⟩⟩,⟨_,Aq X G g_MOST_TERMS,⟨_,rfl⟩⟩,⟨_,Aq X G g_MOST_STATEMENTS,⟨_,rfl⟩⟩,⟨_,Aq X G g_MOST_DEPTH,⟨_,rfl⟩⟩,⟨_,Aq X G g_MOST_PARTS,⟨_,rfl⟩⟩,Aq X G n_LoomError,Aq X G n_BadTree,Aq X G n_BadText,Aq X G n_BadName,Aq X G n_BadCount,Aq X G n_BadCode,Aq X G n_NoThing,Aq X G n_Scope,QI x_own,⟨k_ga,k_gt,k_be,by rw [k_cl];rfl,k_fd,k_sp,k_tk,k_ob⟩,x_e1,x_i1,x_i2,x_i3,x_i4⟩
 refine ⟨PySem.W.fnOf "law" "law" (jL vY) (zU vY) (qo vY) .none kV37 dc37 pm37 an37 cd37 ct37,fun s v=> .of_eq rfl,fun base _ _=>?_⟩;have T:Tb l.prog w K mg:=⟨⟨_,Aq X G g_SIGNS,(zz (l:=["+","-","*","<","="]) l_SIGNS (.cons ⟨_,rfl⟩ (.cons ⟨_,rfl⟩ (.cons ⟨_,rfl⟩ (.cons ⟨_,rfl⟩ (.cons ⟨_,rfl⟩ .nil))))) (O0:(5:Nat)≤1000))⟩,⟨_,_,Aq X G g_FORMS,wz l_FORMS (.cons (.cons (.cons (.cons (.cons (.cons (.cons (.cons (.cons (.cons (.cons (.cons (.cons (.cons (.cons (.cons (.cons .nil))))))))))))))))) (show (["main","number","name","two","fun","loop","call","step","let","set","do","if","while","hand","back","fault","try"]:List Str).Nodup from ∅),(.cons (zz (l:=["names","body"]) l_FORMS0 (.cons ⟨_,rfl⟩ (.cons ⟨_,rfl⟩ .nil)) (O0:(2:Nat)≤1000)) (.cons (zz (l:=["number"]) l_FORMS1 (.cons ⟨_,rfl⟩ .nil) (O0:(1:Nat)≤1000)) (.cons (zz (l:=["name"]) l_FORMS2 (.cons ⟨_,rfl⟩ .nil) (O0:(1:Nat)≤1000)) (.cons (zz (l:=["sign","term","term"]) l_FORMS3 (.cons ⟨_,rfl⟩ (.cons ⟨_,rfl⟩ (.cons ⟨_,rfl⟩ .nil))) (O0:(3:Nat)≤1000)) (.cons (zz (l:=["names","body"]) l_FORMS4 (.cons ⟨_,rfl⟩ (.cons ⟨_,rfl⟩ .nil)) (O0:(2:Nat)≤1000)) (.cons (zz (l:=["names","body"]) l_FORMS5 (.cons ⟨_,rfl⟩ (.cons ⟨_,rfl⟩ .nil)) (O0:(2:Nat)≤1000)) (.cons (zz (l:=["term","terms"]) l_FORMS6 (.cons ⟨_,rfl⟩ (.cons ⟨_,rfl⟩ .nil)) (O0:(2:Nat)≤1000)) (.cons (zz (l:=["term","term"]) l_FORMS7 (.cons ⟨_,rfl⟩ (.cons ⟨_,rfl⟩ .nil)) (O0:(2:Nat)≤1000)) (.cons (zz (l:=["name","term"]) l_FORMS8 (.cons ⟨_,rfl⟩ (.cons ⟨_,rfl⟩ .nil)) (O0:(2:Nat)≤1000)) (.cons (zz (l:=["name","term"]) l_FORMS9 (.cons ⟨_,rfl⟩ (.cons ⟨_,rfl⟩ .nil)) (O0:(2:Nat)≤1000)) (.cons (zz (l:=["term"]) l_FORMS10 (.cons ⟨_,rfl⟩ .nil) (O0:(1:Nat)≤1000)) (.cons (zz (l:=["term","body","body"]) l_FORMS11 (.cons ⟨_,rfl⟩ (.cons ⟨_,rfl⟩ (.cons ⟨_,rfl⟩ .nil))) (O0:(3:Nat)≤1000)) (.cons (zz (l:=["term","body"]) l_FORMS12 (.cons ⟨_,rfl⟩ (.cons ⟨_,rfl⟩ .nil)) (O0:(2:Nat)≤1000)) (.cons (zz (l:=["term"]) l_FORMS13 (.cons ⟨_,rfl⟩ .nil) (O0:(1:Nat)≤1000)) (.cons (zz (l:=["term"]) l_FORMS14 (.cons ⟨_,rfl⟩ .nil) (O0:(1:Nat)≤1000)) (.cons (zz (l:=["word","term"]) l_FORMS15 (.cons ⟨_,rfl⟩ (.cons ⟨_,rfl⟩ .nil)) (O0:(2:Nat)≤1000)) (.cons (zz (l:=["body","name","name","body","body"]) l_FORMS16 (.cons ⟨_,rfl⟩ (.cons ⟨_,rfl⟩ (.cons ⟨_,rfl⟩ (.cons ⟨_,rfl⟩ (.cons ⟨_,rfl⟩ .nil))))) (O0:(5:Nat)≤1000)) .nil)))))))))))))))))⟩,⟨_,_,Aq X G g_HEADS,wz l_HEADS (.cons (.cons (.cons .nil))) (show (["program","term","statement"]:List Str).Nodup from ∅),(.cons (zz (l:=["main"]) l_HEADS0 (.cons ⟨_,rfl⟩ .nil) (O0:(1:Nat)≤1000)) (.cons (zz (l:=["number","name","two","fun","loop","call","step"]) l_HEADS1 (.cons ⟨_,rfl⟩ (.cons ⟨_,rfl⟩ (.cons ⟨_,rfl⟩ (.cons ⟨_,rfl⟩ (.cons ⟨_,rfl⟩ (.cons ⟨_,rfl⟩ (.cons ⟨_,rfl⟩ .nil))))))) (O0:(7:Nat)≤1000)) (.cons (zz (l:=["let","set","do","if","while","hand","back","fault","try"]) l_HEADS2 (.cons ⟨_,rfl⟩ (.cons ⟨_,rfl⟩ (.cons ⟨_,rfl⟩ (.cons ⟨_,rfl⟩ (.cons ⟨_,rfl⟩ (.cons ⟨_,rfl⟩ (.cons ⟨_,rfl⟩ (.cons ⟨_,rfl⟩ (.cons ⟨_,rfl⟩ .nil))))))))) (O0:(9:Nat)≤1000)) .nil)))⟩,⟨_,_,Aq X G g_MEMBERS,wz l_MEMBERS (.cons (.cons (.cons .nil))) (show (["names","terms","body"]:List Str).Nodup from ∅),(.cons (.cons (.cons .nil)))⟩⟩;obtain ⟨_,F0,k0⟩:=l0.fn;have b0:=F0.b1 "thing" fun _ _ _ _ _ _ _=>rfl;have d_is_name:Def l.prog w K mg base _ "is_name" ["thing"] _:=⟨_,_,Yp (P:=l.prog) (w:=w) (base:=base) F0 c,b0,k0,Aq X G a0⟩;obtain ⟨_,F1,k1⟩:=l1.fn;have b1:=F1.b1 "thing" fun _ _ _ _ _ _ _=>rfl;have d_is_number:Def l.prog w K mg base _ "is_number" ["thing"] _:=⟨_,_,WO (P:=l.prog) (w:=w) (base:=base) F1 c,b1,k1,Aq X G a1⟩;obtain ⟨_,F2,k2⟩:=l2.fn;have b2:=F2.b2 "thing" "most" fun _ _ _ _ _ _ _ _=>rfl;have d_is_row:Def l.prog w K mg base _ "is_row" ["thing","most"] _:=⟨_,_,XD (P:=l.prog) (w:=w) (base:=base) F2 c,b2,k2,Aq X G a2⟩;obtain ⟨_,F3,k3⟩:=l3.fn;have b3:=F3.b1 "thing" fun _ _ _ _ _ _ _=>rfl;have d_are_names:Def l.prog w K mg base _ "are_names" ["thing"] _:=⟨_,_,WQ (P:=l.prog) (w:=w) (base:=base) F3 c d_is_name d_is_row,b3,k3,Aq X G a3⟩;obtain ⟨_,F4,k4⟩:=l4.fn;have b4:=F4.b2 "thing" "shape" fun _ _ _ _ _ _ _ _=>rfl;have d_has_shape:Def l.prog w K mg base _ "has_shape" ["thing","shape"] _:=⟨_,_,WP (P:=l.prog) (w:=w) (base:=base) F4 c T d_is_name d_is_number d_is_row d_are_names,b4,k4,Aq X G a4⟩;obtain ⟨_,F5,k5⟩:=l5.fn;have b5:=F5.b3 "thing" "shape" "hands" fun _ _ _ _ _ _ _ _ _=>rfl;have d_has_form:Def l.prog w K mg base _ "has_form" ["thing","shape","hands"] _:=⟨_,_,yA (P:=l.prog) (w:=w) (base:=base) F5 c T d_has_shape,b5,k5,Aq X G a5⟩;obtain ⟨_,F6,k6⟩:=l6.fn;have b6:=F6.b1 "part" fun _ _ _ _ _ _ _=>rfl;have d_inner_with_shapes:Def l.prog w K mg base _ "inner_with_shapes" ["part"] _:=⟨_,_,J8 (P:=l.prog) (w:=w) (base:=base) F6 c T,b6,k6,Aq X G a6⟩;obtain ⟨_,F7,k7⟩:=l7.fn;have b7:=F7.b2 "part" "hands" fun _ _ _ _ _ _ _ _=>rfl;have d_hands_within:Def l.prog w K mg base _ "hands_within" ["part","hands"] _:=⟨_,_,VW (P:=l.prog) (w:=w) (base:=base) F7 c,b7,k7,Aq X G a7⟩;obtain ⟨_,F8,k8⟩:=l8.fn;have b8:=F8.b1 "thing" fun _ _ _ _ _ _ _=>rfl;have d_is_program:Def l.prog w K mg base _ "is_program" ["thing"] _:=⟨_,_,wK (P:=l.prog) (w:=w) (base:=base) F8 c d_has_form d_hands_within d_inner_with_shapes,b8,k8,Aq X G a8⟩;obtain ⟨_,F9,k9⟩:=l9.fn;have b9:=F9.b1 "thing" fun _ _ _ _ _ _ _=>rfl;have d_need_program:DefX l.prog w K mg base _ "need_program" ["thing"] _:=⟨_,_,VT (P:=l.prog) (w:=w) (base:=base) F9 c d_is_program,b9,k9,Aq X G a9⟩;obtain ⟨_,F10,k10⟩:=l10.fn;have b10:=F10.b1 "program" fun _ _ _ _ _ _ _=>rfl;have d_functions_of:DefX l.prog w K mg base _ "functions_of" ["program"] _:=⟨_,_,VX (P:=l.prog) (w:=w) (base:=base) F10 c d_need_program,b10,k10,Aq X G a10⟩;obtain ⟨_,F11,k11⟩:=l11.fn;have b11:=F11.b1 "program" fun _ _ _ _ _ _ _=>rfl;have d_scopes_of:DefX l.prog w K mg base _ "scopes_of" ["program"] _:=⟨_,_,WK (P:=l.prog) (w:=w) (base:=base) F11 c d_functions_of,b11,k11,Aq X G a11⟩;obtain ⟨_,F12,k12⟩:=l12.fn;have b12:=F12.b1 "program" fun _ _ _ _ _ _ _=>rfl;have d_shown:DefX l.prog w K mg base _ "shown" ["program"] _:=⟨_,_,Z3 (P:=l.prog) (w:=w) (base:=base) F12 c d_need_program,b12,k12,Aq X G a12⟩;obtain ⟨_,F13,k13⟩:=l13.fn;have b13:=F13.b2 "_law_script" "_law_k" fun _ _ _ _ _ _ _ _=>rfl;have d_law_cell_at:Def l.prog w K mg base _ "_law_cell_at" ["_law_script","_law_k"] _:=⟨_,_,wx (P:=l.prog) (w:=w) (base:=base) F13 c,b13,k13,Aq X G a13⟩;obtain ⟨_,F14,k14⟩:=l14.fn;have b14:=F14.b1 "_law_state" fun _ _ _ _ _ _ _=>rfl;have d_law_next:Def l.prog w K mg base _ "_law_next" ["_law_state"] _:=⟨_,_,yu (P:=l.prog) (w:=w) (base:=base) F14 c d_law_cell_at,b14,k14,Aq X G a14⟩;obtain ⟨_,F15,k15⟩:=l15.fn;have b15:=F15.b2 "_law_cell" "_law_many_here" fun _ _ _ _ _ _ _ _=>rfl;have d_law_names:Def l.prog w K mg base _ "_law_names" ["_law_cell","_law_many_here"] _:=⟨_,_,WL (P:=l.prog) (w:=w) (base:=base) F15 c,b15,k15,Aq X G a15⟩;obtain ⟨_,F16,k16⟩:=l16.fn;have b16:=F16.b1 "_law_more" fun _ _ _ _ _ _ _=>rfl;have d_law_number:Def l.prog w K mg base _ "_law_number" ["_law_more"] _:=⟨_,_,wJ (P:=l.prog) (w:=w) (base:=base) F16 c,b16,k16,Aq X G a16⟩;obtain ⟨_,F17,k17⟩:=l17.fn;have b17:=F17.b2 "_law_state" "_law_deep" fun _ _ _ _ _ _ _ _=>rfl;have kn_law_term:Known K mg "_law_term" ["_law_state","_law_deep"] f17 _:=⟨b17,k17,Aq X G a17⟩;have F_law_term:=F17;obtain ⟨_,F18,k18⟩:=l18.fn;have b18:=F18.b3 "_law_state" "_law_deep" "_law_may_hand" fun _ _ _ _ _ _ _ _ _=>rfl;have kn_law_body:Known K mg "_law_body" ["_law_state","_law_deep","_law_may_hand"] f18 _:=⟨b18,k18,Aq X G a18⟩;have F_law_body:=F18;obtain ⟨_,F19,k19⟩:=l19.fn;have b19:=F19.b3 "_law_state" "_law_deep" "_law_may_hand" fun _ _ _ _ _ _ _ _ _=>rfl;have kn_law_statement:Known K mg "_law_statement" ["_law_state","_law_deep","_law_may_hand"] f19 _:=⟨b19,k19,Aq X G a19⟩;have F_law_statement:=F19;have dr:=drawn (P:=l.prog) (w:=w) (base:=base) F_law_term F_law_statement F_law_body kn_law_term kn_law_statement kn_law_body c d_law_next d_law_number 7;have d_law_term:=dr.1;have d_law_statement:=dr.2.1;obtain ⟨_,F20,k20⟩:=l20.fn;have b20:=F20.b2 "_law_script" "_law_most" fun _ _ _ _ _ _ _ _=>rfl;have d_law_program:Def l.prog w K mg base _ "_law_program" ["_law_script","_law_most"] _:=⟨_,_,wv (P:=l.prog) (w:=w) (base:=base) F20 c d_law_cell_at d_law_names d_law_next d_law_statement,b20,k20,Aq X G a20⟩;obtain ⟨_,F21,k21⟩:=l21.fn;have b21:=F21.b1 "_law_thing" fun _ _ _ _ _ _ _=>rfl;have d_law_is_name:Def l.prog w K mg base _ "_law_is_name" ["_law_thing"] _:=⟨_,_,ww (P:=l.prog) (w:=w) (base:=base) F21 c,b21,k21,Aq X G a21⟩;obtain ⟨_,F22,k22⟩:=l22.fn;have b22:=F22.b1 "_law_word_here" fun _ _ _ _ _ _ _=>rfl;have d_law_forms:Def l.prog w K mg base _ "_law_forms" ["_law_word_here"] _:=⟨_,_,WM (P:=l.prog) (w:=w) (base:=base) F22 c,b22,k22,Aq X G a22⟩;obtain ⟨_,F23,k23⟩:=l23.fn;have b23:=F23.b1 "_law_word_here" fun _ _ _ _ _ _ _=>rfl;have d_law_statement_forms:Def l.prog w K mg base _ "_law_statement_forms" ["_law_word_here"] _:=⟨_,_,JK (P:=l.prog) (w:=w) (base:=base) F23 c,b23,k23,Aq X G a23⟩;obtain ⟨_,F24,k24⟩:=l24.fn;have b24:=F24.b3 "_law_thing" "_law_form" "_law_may_hand" fun _ _ _ _ _ _ _ _ _=>rfl;have kn_law_fits:Known K mg "_law_fits" ["_law_thing","_law_form","_law_may_hand"] f24 _:=⟨b24,k24,Aq X G a24⟩;have F_law_fits:=F24;obtain ⟨_,F25,k25⟩:=l25.fn;have b25:=F25.b4 "_law_thing" "_law_most" "_law_are_statements" "_law_may_hand" fun _ _ _ _ _ _ _ _ _ _=>rfl;have kn_law_many:Known K mg "_law_many" ["_law_thing","_law_most","_law_are_statements","_law_may_hand"] f25 _:=⟨b25,k25,Aq X G a25⟩;have F_law_many:=F25;obtain ⟨_,F26,k26⟩:=l26.fn;have b26:=F26.b3 "_law_thing" "_law_is_one" "_law_may_hand" fun _ _ _ _ _ _ _ _ _=>rfl;have kn_law_of:Known K mg "_law_of" ["_law_thing","_law_is_one","_law_may_hand"] f26 _:=⟨b26,k26,Aq X G a26⟩;have F_law_of:=F26;have d_law_fits:=looks (P:=l.prog) (w:=w) (base:=base) F_law_of F_law_many F_law_fits kn_law_of kn_law_many kn_law_fits c d_law_is_name d_law_forms d_law_statement_forms 47;obtain ⟨_,F27,k27⟩:=l27.fn;have b27:=F27.b1 "_law_thing" fun _ _ _ _ _ _ _=>rfl;have d_law_is_program:Def l.prog w K mg base _ "_law_is_program" ["_law_thing"] _:=⟨_,_,v7 (P:=l.prog) (w:=w) (base:=base) F27 c 47 194 d_law_fits,b27,k27,Aq X G a27⟩;obtain ⟨_,F28,k28⟩:=l28.fn;have b28:=F28.b2 "_law_state" "_law_part" fun _ _ _ _ _ _ _ _=>rfl;have d_law_odd:Def l.prog w K mg base _ "_law_odd" ["_law_state","_law_part"] _:=⟨_,_,Yo (P:=l.prog) (w:=w) (base:=base) F28 c d_law_next d_law_term d_law_statement,b28,k28,Aq X G a28⟩;obtain ⟨_,F29,k29⟩:=l29.fn;have b29:=F29.b3 "_law_state" "_law_thing" "_law_part" fun _ _ _ _ _ _ _ _ _=>rfl;have kn_law_spoilt:Known K mg "_law_spoilt" ["_law_state","_law_thing","_law_part"] f29 _:=⟨b29,k29,Aq X G a29⟩;have F_law_spoilt:=F29;have d_law_spoilt:=YO (P:=l.prog) (w:=w) (base:=base) F_law_spoilt kn_law_spoilt c d_law_next d_law_odd 24;obtain ⟨_,F30,k30⟩:=l30.fn;have b30:=F30.b2 "_law_goal" "_law_number_here" fun _ _ _ _ _ _ _ _=>rfl;have d_law_chain:Def l.prog w K mg base _ "_law_chain" ["_law_goal","_law_number_here"] _:=⟨_,_,WN (P:=l.prog) (w:=w) (base:=base) F30 c,b30,k30,Aq X G a30⟩;obtain ⟨_,F31,k31⟩:=l31.fn;have b31:=F31.b3 "_law_body_here" "_law_way" "_law_may_hand" fun _ _ _ _ _ _ _ _ _=>rfl;have d_law_held:Def l.prog w K mg base _ "_law_held" ["_law_body_here","_law_way","_law_may_hand"] _:=⟨_,_,yx (P:=l.prog) (w:=w) (base:=base) F31 c,b31,k31,Aq X G a31⟩;obtain ⟨_,F33,k33⟩:=l33.fn;have b33:=F33.b2 "_law_number_here" "_law_one" fun _ _ _ _ _ _ _ _=>rfl;have d_law_near_one:Def l.prog w K mg base _ "_law_near_one" ["_law_number_here","_law_one"] _:=⟨_,_,VU (P:=l.prog) (w:=w) (base:=base) F33 c d_law_held,b33,k33,Aq X G a33⟩;obtain ⟨_,F32,k32⟩:=l32.fn;have b32:=F32.b1 "_law_number_here" fun _ _ _ _ _ _ _=>rfl;have d_law_at_a_bound:Def l.prog w K mg base _ "_law_at_a_bound" ["_law_number_here"] _:=⟨_,_,v8 (P:=l.prog) (w:=w) (base:=base) F32 c d_law_chain d_law_held d_law_near_one,b32,k32,Aq X G a32⟩;obtain ⟨_,F34,k34⟩:=l34.fn;have b34:=F34.b1 "_law_e" fun _ _ _ _ _ _ _=>rfl;have d_law_word:DefS l.prog w K mg base _ "_law_word" ["_law_e"] _:=⟨_,_,yt (P:=l.prog) (w:=w) (base:=base) F34 c,b34,k34,Aq X G a34⟩;obtain ⟨_,F35,k35⟩:=l35.fn;have b35:=F35.b2 "_law_way" "_law_thing" fun _ _ _ _ _ _ _ _=>rfl;have d_law_refused:Def l.prog w K mg base _ "_law_refused" ["_law_way","_law_thing"] _:=⟨_,_,wu (P:=l.prog) (w:=w) (base:=base) F35 c d_need_program d_shown d_functions_of d_scopes_of d_law_word,b35,k35,Aq X G a35⟩;obtain ⟨_,F36,k36⟩:=l36.fn;have b36:=F36.b1 "_law_cell" fun _ _ _ _ _ _ _=>rfl;have d_law_tower_refused:Def l.prog w K mg base _ "_law_tower_refused" ["_law_cell"] _:=⟨_,_,J7 (P:=l.prog) (w:=w) (base:=base) F36 c d_law_refused,b36,k36,Aq X G a36⟩;have F37:=Qp (st:=vY) l37 c37 k37;exact qci F37 c d_law_cell_at d_law_tower_refused d_law_next d_law_program d_law_at_a_bound d_law_spoilt d_law_is_program d_need_program d_law_refused
theorem walk {l:PySem.W.OpenLaw} {q:Program} {loose:List Str} {XP:(Str→Option Ab)→Heap→Prop} {YP:World→Heap→Prop} {d:DefRec} {K:Params→Frag} (hn:l.most=some 63) (hdf:d.params.defaults=[])
  (hY:∀ (w:World) (h:Heap),YP w h→(K w.params).In h)
  (F:∀ (w:World) (mg:Str→Option Ab) (fa:Ac) (h:Heap),(K w.params).In h→h.Ns Ak mg→mg d.name=some (.ref fa)→
   ∃ fd:FuncData,(∀ (s:Ae) (u:Ab),BindsTo s fd ⟨[u],[]⟩ [("_law_script",u)])∧∀ base:Heap,(K w.params).In base→base.Ns Ak mg→FnOkG l.prog w (K w.params) mg base CX0 196 fa fd ["_law_script"] (spLaw (K w.params))):
  PySem.W.WalkO q loose XP YP l.row.toRowW d [] (fun f vs=>PySem.call f vs):=
 L2.Zc (n:=63) (k:=196) (x:="_law_script") (CX:=fun _=>CX0) (sp:=fun w=>spLaw (K w.params)) hn O0 hdf ⟨rfl,O0,O0⟩ hY F (fun _ _ a ns hl _ hS=>⟨a,ns,rfl,hS,hl,fun _=>rfl⟩) fun _ _ _ _ _ z=>z
end Mine
set_option Elab.async true
namespace PySem.Challenge.cw_waitloom_k03_no_program_holds
theorem te14231996714090489949:True:=trivial
theorem te17985665134248688384:True:=trivial
theorem te9229567104688556422:True:=trivial
theorem te1307493292331066224:True:=trivial
theorem te16124694723109928489:True:=trivial
theorem te1052348361614107555:True:=trivial
theorem te15924019293623277918:True:=trivial
theorem te5214099181175365800:True:=trivial
theorem te8605940004690095290:True:=trivial
theorem te11579909264471163873:True:=trivial
theorem te3537940169297117336:True:=trivial
theorem te12378924475407217248:True:=trivial
theorem te2549234789509482081:True:=trivial
theorem te10670627397801888112:True:=trivial
theorem te9945168826989715318:True:=trivial
theorem te6926803282352407229:True:=trivial
theorem te7147770965340416038:True:=trivial
theorem te4423756671154094361:True:=trivial
theorem te16088366156145367424:True:=trivial
theorem te5424333194093593179:True:=trivial
theorem te4524808455100474773:True:=trivial
theorem te13326539711509744624:True:=trivial
theorem te14887054191895087153:True:=trivial
theorem te9194976079294573748:True:=trivial
theorem te17120272674290183105:True:=trivial
theorem te10563217858134329539:True:=trivial
theorem te11325078935875374073:True:=trivial
theorem te7824671540270682770:True:=trivial
theorem te883402325966633987:True:=trivial
theorem te8715940224008904440:True:=trivial
theorem te9861301004653311343:True:=trivial
theorem te7712728869899541242:True:=trivial
theorem te8060436423731522725:True:=trivial
theorem te15881940038802432300:True:=trivial
theorem te9545372824635129514:True:=trivial
theorem te10604096299687900063:True:=trivial
theorem te986938425196556144:True:=trivial
theorem te7714574070385077445:True:=trivial
theorem te16057095906901378183:True:=trivial
theorem te8353019328050003031:True:=trivial
theorem te4870760116935797535:True:=trivial
theorem te6288025615346781234:True:=trivial
theorem te18050242516877806096:True:=trivial
theorem te3487139930622401332:True:=trivial
theorem te12911695597087057112:True:=trivial
theorem te7664899795175394252:True:=trivial
theorem te15684140510363690897:True:=trivial
theorem te2338825997459323958:True:=trivial
theorem te15319438422988869943:True:=trivial
theorem te12322567811836974021:True:=trivial
theorem te17529253215063870662:True:=trivial
theorem te15863444147740830747:True:=trivial
theorem te9947084885093182755:True:=trivial
theorem te778288893728293199:True:=trivial
theorem te11443214383757159387:True:=trivial
theorem te4583513510839183214:True:=trivial
theorem te8638771469395916093:True:=trivial
theorem te11794655650783836375:True:=trivial
theorem te12615101641469828603:True:=trivial
theorem te3532174414537337246:True:=trivial
theorem te14019362279070367538:True:=trivial
theorem te7633432956064262687:True:=trivial
theorem te12126437763785798027:True:=trivial
theorem te11189766038375298228:True:=trivial
theorem te8557859177154110007:True:=trivial
theorem te13196319880826596825:True:=trivial
theorem te3395661175118115525:True:=trivial
theorem te8507086938187533268:True:=trivial
theorem te8003527162514324319:True:=trivial
theorem te3460790709042148798:True:=trivial
theorem te11290070360989530647:True:=trivial
theorem te10196612163445496129:True:=trivial
theorem te5030061247330214306:True:=trivial
theorem te9827780245151933873:True:=trivial
theorem te17122399054001807835:True:=trivial
theorem te7877596800794361552:True:=trivial
theorem te5481895360096071898:True:=trivial
theorem te3019420917498137759:True:=trivial
theorem te1336781666346535772:True:=trivial
theorem te10321842706320226048:True:=trivial
theorem te9952288497812763808:True:=trivial
theorem te11134225190782860838:True:=trivial
theorem te11201338722636160952:True:=trivial
theorem te16341450370765305550:True:=trivial
theorem te6070137362883157889:True:=trivial
theorem te11905735797436955656:True:=trivial
theorem te15051632163789047434:True:=trivial
theorem te12047115870116306841:True:=trivial
theorem te4815154771054641246:True:=trivial
theorem te5576169219963469850:True:=trivial
theorem te9859172152077074011:True:=trivial
theorem te748027316397947778:True:=trivial
theorem te14972638846818652727:True:=trivial
theorem te8685715889834194964:True:=trivial
theorem te18213655654226701150:True:=trivial
theorem te13133378573256364138:True:=trivial
theorem te10129885164145641847:True:=trivial
theorem te7848674965732668541:True:=trivial
theorem te18265293819520532527:True:=trivial
theorem te4894599811688074951:True:=trivial
theorem te17134834904633605632:True:=trivial
theorem te9846827376675684106:True:=trivial
theorem te2271465649267147081:True:=trivial
theorem te3248849279995440108:True:=trivial
theorem te14400891878289839015:True:=trivial
theorem te6637913739631348155:True:=trivial
theorem te9387491006687569362:True:=trivial
theorem te223178766909099029:True:=trivial
theorem te12954526058594445896:True:=trivial
theorem te5118693175590481955:True:=trivial
theorem te9112283648927057022:True:=trivial
theorem te11472753485443782641:True:=trivial
theorem te1570413118739006344:True:=trivial
theorem te14131212262664557231:True:=trivial
theorem te9529350970468252507:True:=trivial
theorem te7536784131708483137:True:=trivial
theorem te17839024871157564499:True:=trivial
theorem te5119134340252515643:True:=trivial
theorem te6749855473145411753:True:=trivial
theorem te7373224641970735867:True:=trivial
theorem te3289605818899562322:True:=trivial
theorem te17564465346281872193:True:=trivial
theorem te3168093678062004896:True:=trivial
theorem te7945050538202645012:True:=trivial
theorem te2120615829346053442:True:=trivial
theorem te3217476394689866417:True:=trivial
theorem te15891659309818211127:True:=trivial
theorem te9352015373316220651:True:=trivial
theorem te13440061692567528696:True:=trivial
theorem te1196279411708099738:True:=trivial
theorem te12706623294650462924:True:=trivial
theorem te6296008667102613652:True:=trivial
theorem te17836194227856747854:True:=trivial
theorem te8177965331773315641:True:=trivial
theorem te13426540265673556465:True:=trivial
theorem te3429820467057820408:True:=trivial
theorem te12756274551267725064:True:=trivial
theorem te307947992150185282:True:=trivial
theorem te74502886080276957:True:=trivial
theorem te15989536722587558105:True:=trivial
theorem te16308734382367624615:True:=trivial
theorem te7041054172342834343:True:=trivial
theorem te9685150927203389781:True:=trivial
theorem te9890139386110752958:True:=trivial
theorem te17603990308122067522:True:=trivial
theorem te4385584894854973762:True:=trivial
theorem te10970583224689249222:True:=trivial
theorem te6402648930870643577:True:=trivial
theorem te8854084247995338798:True:=trivial
theorem te2857290548103605022:True:=trivial
theorem te15584019297004177927:True:=trivial
theorem te1918597042473267908:True:=trivial
theorem te6663696430581887511:True:=trivial
theorem te12227292037916840201:True:=trivial
theorem te5017347877623876888:True:=trivial
theorem te18139617180326352914:True:=trivial
theorem te1385556088659074127:True:=trivial
theorem te15034212458821190658:True:=trivial
theorem te13984329237896896123:True:=trivial
theorem te3293161607916715498:True:=trivial
theorem te10286719548265087786:True:=trivial
theorem te3021040696140655468:True:=trivial
theorem te12213150288180845097:True:=trivial
theorem te14859210929123953875:True:=trivial
theorem te14679473809558007185:True:=trivial
theorem te5725930415679953213:True:=trivial
theorem te450645665454446019:True:=trivial
theorem te8929778229075104560:True:=trivial
theorem te11363880794974538235:True:=trivial
theorem te9600697526520221004:True:=trivial
theorem te6219647615558409357:True:=trivial
theorem te7335382432588449129:True:=trivial
theorem te18183653279777197451:True:=trivial
theorem te5423533160365763002:True:=trivial
theorem te14783368114961335527:True:=trivial
theorem te15111276028960796856:True:=trivial
theorem te13122198848623306672:True:=trivial
theorem te11577645990073799461:True:=trivial
theorem te12988084557194301802:True:=trivial
theorem te13913119123748232149:True:=trivial
theorem te1978032815248338801:True:=trivial
theorem te17577770360826229325:True:=trivial
theorem te14973947414591835219:True:=trivial
theorem te3453888121200885040:True:=trivial
theorem te8647999860038275833:True:=trivial
theorem te4613952126144462102:True:=trivial
theorem te9403359117349597041:True:=trivial
theorem te5951121921052812883:True:=trivial
theorem te203345523018974009:True:=trivial
theorem te6034784405727153901:True:=trivial
theorem te12511216562301550542:True:=trivial
theorem te5064236698226281634:True:=trivial
theorem te16884182577860100972:True:=trivial
theorem te3270517030048251505:True:=trivial
theorem te11148034920146014608:True:=trivial
theorem te9025405694915218799:True:=trivial
theorem te11714264824569548004:True:=trivial
theorem te8030115263017950683:True:=trivial
theorem te7706179240452223756:True:=trivial
theorem te15480738048402372431:True:=trivial
theorem te1751351684504199854:True:=trivial
theorem te16244662195567477911:True:=trivial
theorem te11474995032782864221:True:=trivial
theorem te4971248727210322264:True:=trivial
theorem te2102692572521092708:True:=trivial
theorem te2023315586916205812:True:=trivial
theorem te14538834870427200216:True:=trivial
theorem te3795273643910361240:True:=trivial
theorem te1487901261409832147:True:=trivial
theorem te13034530154317727157:True:=trivial
theorem te15740244234253418594:True:=trivial
theorem te15636434629086643720:True:=trivial
theorem te4616413082528188799:True:=trivial
theorem te7572263599178794355:True:=trivial
theorem te3845310095558668574:True:=trivial
theorem te10735250568341365451:True:=trivial
theorem te17545577660142547206:True:=trivial
theorem te13145070751291964406:True:=trivial
theorem te10033128162898632937:True:=trivial
theorem te9606238137628245875:True:=trivial
theorem te748544525248943183:True:=trivial
theorem te16644756826486618473:True:=trivial
theorem te6790744716447926973:True:=trivial
theorem te338728220458071171:True:=trivial
theorem te1832362019075742837:True:=trivial
theorem te7496926689615805566:True:=trivial
theorem te7554066722670034056:True:=trivial
theorem te8688894472361723776:True:=trivial
theorem te9974720857707716320:True:=trivial
theorem te14428338382899894907:True:=trivial
theorem te9957358881746409123:True:=trivial
theorem te2674503309724806802:True:=trivial
theorem te10897774170231437924:True:=trivial
theorem te6158703499760650397:True:=trivial
theorem te11863059630949304143:True:=trivial
theorem te10247851509062936824:True:=trivial
theorem te4713396574095121051:True:=trivial
theorem te9102477981382585941:True:=trivial
theorem te16729230558555531540:True:=trivial
theorem te4595589764729619249:True:=trivial
theorem te12905601804893619641:True:=trivial
theorem te8727942159747288676:True:=trivial
theorem te4407535964499108949:True:=trivial
theorem te13493783941451122103:True:=trivial
theorem te15242700234168629311:True:=trivial
theorem te11281542015872935588:True:=trivial
theorem te7839513015120089305:True:=trivial
theorem te15940562301663682978:True:=trivial
theorem te7078622634913400883:True:=trivial
theorem te5198632457797634250:True:=trivial
theorem te3921965567944568608:True:=trivial
theorem te18333808225929311316:True:=trivial
theorem te16300493328468081136:True:=trivial
theorem te5468871041638965579:True:=trivial
theorem te16791153954475789365:True:=trivial
theorem te16468470207936042703:True:=trivial
theorem te4291996581638770428:True:=trivial
theorem te16543073200584998913:True:=trivial
theorem te15983203149932286111:True:=trivial
theorem te11070248276676438036:True:=trivial
theorem te12502267028426374983:True:=trivial
theorem te1813402053406936714:True:=trivial
theorem te2793751085704918958:True:=trivial
theorem te13224795724545297722:True:=trivial
theorem te184029548720026250:True:=trivial
theorem te7941125014798543351:True:=trivial
theorem te10675578130940809185:True:=trivial
theorem te14417336296443049296:True:=trivial
theorem te14091732598093975970:True:=trivial
theorem te12171787688703694026:True:=trivial
theorem te4686642310790513285:True:=trivial
theorem te441953377031249865:True:=trivial
theorem te9841262447202709515:True:=trivial
theorem te15528485852850754011:True:=trivial
theorem te5409183778559429609:True:=trivial
theorem te4153524271526342630:True:=trivial
theorem te8338047614011850621:True:=trivial
theorem te10801199373924947701:True:=trivial
theorem te14403447842056907637:True:=trivial
theorem te9546552516725922710:True:=trivial
theorem te2168297877425706117:True:=trivial
theorem te889196162457820347:True:=trivial
theorem te15571130400489474888:True:=trivial
theorem te2136725183082445548:True:=trivial
theorem te15088889002606646377:True:=trivial
theorem te9461259509621810397:True:=trivial
theorem te2971368286812317076:True:=trivial
theorem te2900678672726292770:True:=trivial
theorem te10954145561171442364:True:=trivial
theorem te5693247524804957985:True:=trivial
theorem te1075063632939666001:True:=trivial
theorem te6504882062208188198:True:=trivial
theorem te4900392912893475276:True:=trivial
theorem te15207910325655661989:True:=trivial
theorem te12854386659897003902:True:=trivial
theorem te10853554560881082212:True:=trivial
theorem te5005252531469172016:True:=trivial
theorem te13792602910489802581:True:=trivial
theorem te1480213735434263886:True:=trivial
theorem te4052788197155980709:True:=trivial
theorem te17727717072672482550:True:=trivial
theorem te14078094723389886717:True:=trivial
theorem te14784337917603041009:True:=trivial
theorem te9262753214742374676:True:=trivial
theorem te17513942508119413144:True:=trivial
theorem te12924581696948509236:True:=trivial
theorem te17803672697141251941:True:=trivial
theorem te5980559530677201754:True:=trivial
theorem te2747830204363201600:True:=trivial
theorem te7618232163740413232:True:=trivial
theorem te15586860009210193043:True:=trivial
theorem te2535260808900590919:True:=trivial
theorem te2761394132113021079:True:=trivial
theorem te7647888541872928827:True:=trivial
theorem te12539123259934353192:True:=trivial
theorem te1132583618372928356:True:=trivial
theorem te16604156068433889999:True:=trivial
theorem te5043248400037038096:True:=trivial
theorem te10594297105929506637:True:=trivial
theorem te3195661771494247242:True:=trivial
theorem te3604762793410178312:True:=trivial
theorem te4472577447909887519:True:=trivial
theorem te13180851330828830253:True:=trivial
theorem te6619394518198025900:True:=trivial
theorem te17597744233256684794:True:=trivial
theorem te16118820652800255586:True:=trivial
theorem te9166872451150625324:True:=trivial
theorem te18083638657186616259:True:=trivial
theorem te5307462758266751261:True:=trivial
theorem te18232499018122652401:True:=trivial
theorem te14677536201514326311:True:=trivial
theorem te2781706012035727853:True:=trivial
theorem te5713727390883051321:True:=trivial
theorem te3680570067702563892:True:=trivial
theorem te1282592040338161151:True:=trivial
theorem te18145147332163956236:True:=trivial
theorem te15414066253200089143:True:=trivial
theorem te9122993631213676765:True:=trivial
theorem te10748538478232792238:True:=trivial
theorem te11891490754174831826:True:=trivial
theorem te9336853907360833078:True:=trivial
theorem te4926016071628411809:True:=trivial
theorem te6121042109107818235:True:=trivial
theorem te15348886460069271499:True:=trivial
theorem te17473607290676904022:True:=trivial
theorem te12411679732883267781:True:=trivial
theorem te15504159276902580610:True:=trivial
theorem te16496329100569625249:True:=trivial
theorem te5395480461831084783:True:=trivial
theorem te13422322531372645286:True:=trivial
theorem te10515341791882819802:True:=trivial
theorem te10843970049312015978:True:=trivial
theorem te2764548694821083859:True:=trivial
theorem te8053609633096144321:True:=trivial
theorem te12407867655045062412:True:=trivial
theorem te9822693434343032141:True:=trivial
theorem te5865545676291914220:True:=trivial
theorem te8400834071782217319:True:=trivial
theorem te16054185568977366714:True:=trivial
theorem te18145915910804698240:True:=trivial
theorem te12981533149653926621:True:=trivial
theorem te4830230608071646809:True:=trivial
theorem te11968831560376094331:True:=trivial
theorem te9670270850138997239:True:=trivial
theorem te12708498288619388684:True:=trivial
theorem te16246201987421346771:True:=trivial
theorem te611041870652823493:True:=trivial
theorem te12618815130876178838:True:=trivial
theorem te10214853405776213426:True:=trivial
theorem te11882972187731508661:True:=trivial
theorem te16500628593943596666:True:=trivial
theorem te1065712681453722869:True:=trivial
theorem te2730885266303452958:True:=trivial
theorem te4242008125797718955:True:=trivial
theorem te17898329861015621067:True:=trivial
theorem te7581348909190096537:True:=trivial
theorem te8908586246345516554:True:=trivial
theorem te12884408160266130851:True:=trivial
theorem te775256016496299546:True:=trivial
theorem te12421329274297492104:True:=trivial
theorem te1689710603274057269:True:=trivial
theorem te14950497722793354504:True:=trivial
theorem te4260120505500629350:True:=trivial
theorem te6304109952741905211:True:=trivial
theorem te9981166437970631551:True:=trivial
theorem te8077110106810749115:True:=trivial
theorem te14876242114968003479:True:=trivial
theorem te18424676264092524714:True:=trivial
theorem te203872093243772113:True:=trivial
theorem te15274511360304951025:True:=trivial
theorem te891622301146298116:True:=trivial
theorem te785681885726171229:True:=trivial
theorem te14158580746498586232:True:=trivial
theorem te7909312001454898194:True:=trivial
theorem te9291216937347391727:True:=trivial
theorem te14210826890218308181:True:=trivial
theorem te5143612448734803089:True:=trivial
theorem te15426984966957731550:True:=trivial
theorem te14588514027994557734:True:=trivial
theorem te16541212131744431075:True:=trivial
theorem te18027941788863029375:True:=trivial
theorem te4131185358850762900:True:=trivial
theorem te9323327419664732081:True:=trivial
theorem te2560210744330474781:True:=trivial
theorem te3981218213660683312:True:=trivial
theorem te17652537089961312167:True:=trivial
theorem te15964871201564605061:True:=trivial
theorem te9583268671835188995:True:=trivial
end PySem.Challenge.cw_waitloom_k03_no_program_holds
def PySem.Challenge.cw_waitloom_k03_no_program_holds.tw4443311255586784850:PySem.Program:=PySem.Challenge.pw_waitloom_k03_no_program
theorem PySem.Challenge.cw_waitloom_k03_no_program_holds.te4443311255586784850:PySem.Challenge.pw_waitloom_k03_no_program=PySem.Challenge.cw_waitloom_k03_no_program_holds.tw4443311255586784850:=rfl
open PySem PySem.W PyProof.Rows
set_option maxRecDepth 100000 in
set_option maxHeartbeats 0 in
theorem PySem.Challenge.cw_waitloom_k03_no_program_holds : PySem.Challenge.rw_waitloom_k03_no_program.Holds := by
 w_on;o_law;k_head;(case hw=>w_witness2)
 k_fill
 refine Mine.walk (l:=PySem.Challenge.rw_waitloom_k03_no_program) rfl rfl (fun w h Y=>PySem.W.kIn_of Y) ?F
 case F=>
  intro w mg fa h KX G hmg;refine' Mine.qdh KX G hmg ?a0 ?l0 ?a1 ?l1 ?a2 ?l2 ?a3 ?l3 ?a4 ?l4 ?a5 ?l5 ?a6 ?l6 ?a7 ?l7 ?a8 ?l8 ?a9 ?l9 ?a10 ?l10 ?a11 ?l11 ?a12 ?l12 ?a13 ?l13 ?a14 ?l14 ?a15 ?l15 ?a16 ?l16 ?a17 ?l17 ?a18 ?l18 ?a19 ?l19 ?a20 ?l20 ?a21 ?l21 ?a22 ?l22 ?a23 ?l23 ?a24 ?l24 ?a25 ?l25 ?a26 ?l26 ?a27 ?l27 ?a28 ?l28 ?a29 ?l29 ?a30 ?l30 ?a31 ?l31 ?a32 ?l32 ?a33 ?l33 ?a34 ?l34 ?a35 ?l35 ?a36 ?l36 ?a37 ?l37 ?z_all ?z_isinstance ?z_str ?z_len ?z_bool ?z_int ?z_tuple ?z_set ?z_zip ?z_reversed ?z_range ?z_enumerate ?z_max ?z_abs ?z_sum ?z_list ?z_ValueError ?g_MOST_LETTERS ?g_GREATEST_NUMBER ?g_MOST_NAMES ?g_MOST_TERMS ?g_MOST_STATEMENTS ?g_MOST_DEPTH ?g_MOST_PARTS ?n_LoomError ?n_BadTree ?n_BadText ?n_BadName ?n_BadCount ?n_BadCode ?n_NoThing ?n_Scope ?x_own ?k_ga ?k_gt ?k_be ?k_cl ?k_fd ?k_sp ?k_tk ?k_ob ?x_e1 ?x_i1 ?x_i2 ?x_i3 ?x_i4 ?g_SIGNS ?l_SIGNS ?g_FORMS ?l_FORMS ?l_FORMS0 ?l_FORMS1 ?l_FORMS2 ?l_FORMS3 ?l_FORMS4 ?l_FORMS5 ?l_FORMS6 ?l_FORMS7 ?l_FORMS8 ?l_FORMS9 ?l_FORMS10 ?l_FORMS11 ?l_FORMS12 ?l_FORMS13 ?l_FORMS14 ?l_FORMS15 ?l_FORMS16 ?g_HEADS ?l_HEADS ?l_HEADS0 ?l_HEADS1 ?l_HEADS2 ?g_MEMBERS ?l_MEMBERS
  (case n_LoomError=>k_is)
  (case n_BadTree=>k_is)
  (case n_BadText=>k_is)
  (case n_BadName=>k_is)
  (case n_BadCount=>k_is)
  (case n_BadCode=>k_is)
  (case n_NoThing=>k_is)
  (case n_Scope=>k_is)
  (case a0=>k_is)
  (case l0=>exact ⟨_,_,_,_,_,_,_,_,by k_is,by k_is,by k_is⟩)
  (case a1=>k_is)
  (case l1=>exact ⟨_,_,_,_,_,_,_,_,by k_is,by k_is,by k_is⟩)
  (case a2=>k_is)
  (case l2=>exact ⟨_,_,_,_,_,_,_,_,by k_is,by k_is,by k_is⟩)
  (case a3=>k_is)
  (case l3=>exact ⟨_,_,_,_,_,_,_,_,by k_is,by k_is,by k_is⟩)
  (case a4=>k_is)
  (case l4=>exact ⟨_,_,_,_,_,_,_,_,by k_is,by k_is,by k_is⟩)
  (case a5=>k_is)
  (case l5=>exact ⟨_,_,_,_,_,_,_,_,by k_is,by k_is,by k_is⟩)
  (case a6=>k_is)
  (case l6=>exact ⟨_,_,_,_,_,_,_,_,by k_is,by k_is,by k_is⟩)
  (case a7=>k_is)
  (case l7=>exact ⟨_,_,_,_,_,_,_,_,by k_is,by k_is,by k_is⟩)
  (case a8=>k_is)
  (case l8=>exact ⟨_,_,_,_,_,_,_,_,by k_is,by k_is,by k_is⟩)
  (case a9=>k_is)
  (case l9=>exact ⟨_,_,_,_,_,_,_,_,by k_is,by k_is,by k_is⟩)
  (case a10=>k_is)
  (case l10=>exact ⟨_,_,_,_,_,_,_,_,by k_is,by k_is,by k_is⟩)
  (case a11=>k_is)
  (case l11=>exact ⟨_,_,_,_,_,_,_,_,by k_is,by k_is,by k_is⟩)
  (case a12=>k_is)
  (case l12=>exact ⟨_,_,_,_,_,_,_,_,by k_is,by k_is,by k_is⟩)
  (case a13=>k_is)
  (case l13=>exact ⟨_,_,_,_,_,_,_,_,by k_is,by k_is,by k_is⟩)
  (case a14=>k_is)
  (case l14=>exact ⟨_,_,_,_,_,_,_,_,by k_is,by k_is,by k_is⟩)
  (case a15=>k_is)
  (case l15=>exact ⟨_,_,_,_,_,_,_,_,by k_is,by k_is,by k_is⟩)
  (case a16=>k_is)
  (case l16=>exact ⟨_,_,_,_,_,_,_,_,by k_is,by k_is,by k_is⟩)
  (case a17=>k_is)
  (case l17=>exact ⟨_,_,_,_,_,_,_,_,by k_is,by k_is,by k_is⟩)
  (case a18=>k_is)
  (case l18=>exact ⟨_,_,_,_,_,_,_,_,by k_is,by k_is,by k_is⟩)
  (case a19=>k_is)
  (case l19=>exact ⟨_,_,_,_,_,_,_,_,by k_is,by k_is,by k_is⟩)
  (case a20=>k_is)
  (case l20=>exact ⟨_,_,_,_,_,_,_,_,by k_is,by k_is,by k_is⟩)
  (case a21=>k_is)
  (case l21=>exact ⟨_,_,_,_,_,_,_,_,by k_is,by k_is,by k_is⟩)
  (case a22=>k_is)
  (case l22=>exact ⟨_,_,_,_,_,_,_,_,by k_is,by k_is,by k_is⟩)
  (case a23=>k_is)
  (case l23=>exact ⟨_,_,_,_,_,_,_,_,by k_is,by k_is,by k_is⟩)
  (case a24=>k_is)
  (case l24=>exact ⟨_,_,_,_,_,_,_,_,by k_is,by k_is,by k_is⟩)
  (case a25=>k_is)
  (case l25=>exact ⟨_,_,_,_,_,_,_,_,by k_is,by k_is,by k_is⟩)
  (case a26=>k_is)
  (case l26=>exact ⟨_,_,_,_,_,_,_,_,by k_is,by k_is,by k_is⟩)
  (case a27=>k_is)
  (case l27=>exact ⟨_,_,_,_,_,_,_,_,by k_is,by k_is,by k_is⟩)
  (case a28=>k_is)
  (case l28=>exact ⟨_,_,_,_,_,_,_,_,by k_is,by k_is,by k_is⟩)
  (case a29=>k_is)
  (case l29=>exact ⟨_,_,_,_,_,_,_,_,by k_is,by k_is,by k_is⟩)
  (case a30=>k_is)
  (case l30=>exact ⟨_,_,_,_,_,_,_,_,by k_is,by k_is,by k_is⟩)
  (case a31=>k_is)
  (case l31=>exact ⟨_,_,_,_,_,_,_,_,by k_is,by k_is,by k_is⟩)
  (case a32=>k_is)
  (case l32=>exact ⟨_,_,_,_,_,_,_,_,by k_is,by k_is,by k_is⟩)
  (case a33=>k_is)
  (case l33=>exact ⟨_,_,_,_,_,_,_,_,by k_is,by k_is,by k_is⟩)
  (case a34=>k_is)
  (case l34=>exact ⟨_,_,_,_,_,_,_,_,by k_is,by k_is,by k_is⟩)
  (case a35=>k_is)
  (case l35=>exact ⟨_,_,_,_,_,_,_,_,by k_is,by k_is,by k_is⟩)
  (case a36=>k_is)
  (case l36=>exact ⟨_,_,_,_,_,_,_,_,by k_is,by k_is,by k_is⟩)
  (case a37=>k_is)
  (case l37=>exact ⟨_,_,_,_,_,_,_,_,by k_is,by k_is,by k_is⟩)
  (case z_all=>k_is)
  (case z_isinstance=>k_is)
  (case z_str=>k_is)
  (case z_len=>k_is)
  (case z_bool=>k_is)
  (case z_int=>k_is)
  (case z_tuple=>k_is)
  (case z_set=>k_is)
  (case z_zip=>k_is)
  (case z_reversed=>k_is)
  (case z_range=>k_is)
  (case z_enumerate=>k_is)
  (case z_max=>k_is)
  (case z_abs=>k_is)
  (case z_sum=>k_is)
  (case z_list=>k_is)
  (case z_ValueError=>k_is)
  (case g_MOST_LETTERS=>k_is)
  (case g_GREATEST_NUMBER=>k_is)
  (case g_MOST_NAMES=>k_is)
  (case g_MOST_TERMS=>k_is)
  (case g_MOST_STATEMENTS=>k_is)
  (case g_MOST_DEPTH=>k_is)
  (case g_MOST_PARTS=>k_is)
  (case x_own=>k_exc)
  (case k_ga=>k_is)
  (case k_gt=>k_is)
  (case k_be=>k_is)
  (case k_cl=>k_is)
  (case k_fd=>k_is)
  (case k_sp=>k_is)
  (case k_tk=>k_is)
  (case k_ob=>k_is)
  (case x_e1=>kts_exm)
  (case x_i1=>kit_is)
  (case x_i2=>kit_is)
  (case x_i3=>kit_is)
  (case x_i4=>kit_is)
  (case g_SIGNS=>k_is)
  (case l_SIGNS=>k_is)
  (case g_FORMS=>k_is)
  (case l_FORMS=>k_is)
  (case l_FORMS0=>k_is)
  (case l_FORMS1=>k_is)
  (case l_FORMS2=>k_is)
  (case l_FORMS3=>k_is)
  (case l_FORMS4=>k_is)
  (case l_FORMS5=>k_is)
  (case l_FORMS6=>k_is)
  (case l_FORMS7=>k_is)
  (case l_FORMS8=>k_is)
  (case l_FORMS9=>k_is)
  (case l_FORMS10=>k_is)
  (case l_FORMS11=>k_is)
  (case l_FORMS12=>k_is)
  (case l_FORMS13=>k_is)
  (case l_FORMS14=>k_is)
  (case l_FORMS15=>k_is)
  (case l_FORMS16=>k_is)
  (case g_HEADS=>k_is)
  (case l_HEADS=>k_is)
  (case l_HEADS0=>k_is)
  (case l_HEADS1=>k_is)
  (case l_HEADS2=>k_is)
  (case g_MEMBERS=>k_is)
  (case l_MEMBERS=>k_is)
