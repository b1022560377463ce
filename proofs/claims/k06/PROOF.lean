import PyProof.Rows.All
import Wide.All
import OpenK.AllK
import Wide.FinOn
import Lean
import PyProof.EqAt
import PyProof.EqKinds
import PyProof.TupleCall
import PyProof.EqLayable
import PyProof.FitsBits
import PyProof.FitsInt
import PyProof.ReprLen
import PyProof.ReprReads
import PyProof.StrLawsRepr
import KE.KRevIter
import KE.KDictSum
import KE.KRevSl
import PyProof.Rows.ZipGen
import PyProof.Rows.SortWalk
import KE.KDictList
import PyProof.Rows.Tup
import PyProof.Rows.Range3
import PyProof.EnumMake
import PyProof.EnumFor
import PyProof.Rows.SortStr
import PyProof.Rows.SeqMore2
import PyProof.Rows.StrInSeq3
import KE.KIntText
import PyProof.StrCalls
import PyProof.Cells
import PyProof.Rows.SeqMore
import PyProof.ListMulAny
import PyProof.DictUpdate
import KE.KMinKey
import PySem.Challenge.RW_waitloom_k06_texts_refused
set_option Elab.async false
set_option linter.all false
set_option genSizeOf false
set_option maxRecDepth 100000
noncomputable section
open PySem.W(Frag)
local macro_rules|`(∅)=>`(by decide+kernel)
local macro_rules|`(⋯)=>`(by omega)
theorem O0 {p:Prop} (h:p:=by decide):p:=h
open PySem renaming PyData→Aa,Value→Ac,Addr→Ae,Shared→Af,sizeLine→Ag,mainGlobals→Aq,wpAny_bind→An,wpAny_pure→A9,mem_of_lookup→Bc,wpAny_truthy_bool→Cv,wpAny_field→C4,wpAny_mono→Di,call_meets→Dj,wpAny_loadPart'→Dp,wpAny_newObj_type→Dr,wpAny_holding→Ds,wpAny_callSpecial?_slot→Dt,wpAny_seqItems→Dv,wpAny_setField_rec→Dz,wpAny_passesOwn→Eb,wpAny_getItem_str_slice→Eh,sizeLine_eq→En,typeIs_str→Es,wpAny_call_entry→Et,codeAny_mono→E4,wpAny_Call_Name_kw→E5,wpAny_pyIter_tuple→E6,typeIs_int→E7
open Bool renaming false_ne_true→Ai,and_eq_true→Al,eq_false_iff→Bs,true_and→Bu,false_and→B1,or_eq_true→Cb,eq_iff_iff→Cf,and_true→C1,false_eq_true→Dl,or_true→Do,false_or→Ev,not_false→E8
open List renaming length_map→Aj,length_cons→Ak,length_append→Am,mem_cons_of_mem→Au,mem_cons→Av,mem_cons_self→Ay,length_nil→A2,mem_singleton→A3,map_cons→A4,map_append→A5,all_eq_true→A6,size_toArray→Ba,not_mem_nil→Be,getElem?_eq_getElem→Bl,length_take→Bm,mem_append_right→Bn,append_nil→Bo,mem_append→Bp,append_assoc→Bq,mem_of_getElem?→Br,getElem?_map→Bt,flatten_cons→Bx,replicate_succ→By,mem_map→B0,mem_append_left→B3,contains_iff_mem→B4,length_drop→B5,lookup_cons→B6,all_cons→B9,countP_append→Cc,length_take_le→Ce,take_add_one→Cg,mem_of_mem_take→Ch,map_nil→Cj,map_map→Ck,nil_append→Cn,eq_nil_of_length_eq_zero→Cp,take_length→Cu,nodup_cons→Cy,of_mem_zip→Cz,getElem?_eq_some_iff→C0,eq_of_mem_replicate→C2,take_append_drop→C3,foldl_cons→C5,find?_cons→C6,mem_of_mem_drop→C7,mem_flatMap→C9,cons_append→Dc,take_of_length_le→Dd,mem_range→De,flatMap_cons→Df,any_eq_true→Dg,length_replicate→Dm,length_singleton→Dn,sum_append→Dq,mem_map_of_mem→Du,all_map→Dy,singleton_append→D0,length_set→Ea,getElem?_set_ne→Ee,getElem?_zip_eq_some→Ef,filterMap_cons→Eg,forIn_cons→Ei,length_zip→Ek,drop_of_length_le→El,reverse_cons→Eo,length_range→Er,any_cons→Ew,length_reverse→Ey,mem_filter→E2,map_take→Fc,sum_cons→Fd
open Nat renaming le_trans→Ar,le_refl→Aw,lt_of_lt_of_le→Bv,ne_of_lt→Bz,zero_le→B2,le_succ_of_le→Co,lt_of_le_of_lt→Cq,succ_le_succ→C8,max_le→Dw,lt_irrefl→Ec,le_max_left→E3,le_succ→Fb,ne_of_gt→Fe
open PySem.Heap renaming get?_push_of_some→As,lt_size→Bf,get?_push_size→Bk,size_push→Dk
open PySem.W renaming mg_of→Ax,mg_none_of→B8,kia_one→Cm,looks_findIn→Eu
open Int renaming emod_lt_of_pos→Az,emod_nonneg→A7,le_trans→Cd,toNat_natCast→E9
open Option.some renaming inj→Bg
open Array renaming length_toList→Bh,toList_push→Ep,toList_append→Ez
open Option renaming isSome_iff_exists→Bw
open PySem.F renaming plainAttrs_list→B7,plainAttrs_str→Ci,slot_list_append→Cr,type_list_append→Ct,type_str_join→D8,slot_str_join→D9,slot_tuple_iterator_next→Ed,slot_int_rmul→Ej,entry_str_split→Fa
open PySem.Paired renaming length→Cw
open PySem.PassesOwn renaming never→Dh
open PyProof.Rows.F renaming plain_set_update_loop→Dx
open PySem.Calls renaming callWith_builtin→Em
def Ao:=@decide_eq_true
def Ap:=@decide_eq_false
def A8:=@beq_iff_eq
def Bb:=@of_decide_eq_true
def Bi:=@beq_eq_false_iff_ne
def Bj:=@decide_eq_true_eq
def Ex:=@ne_true_of_eq_false
namespace L2
open PySem PySem.Spec PyProof.Rows
set_option tactic.hygienic false
abbrev Key:=Sum Int Str
def yp:Key→Ac→Bool
 | .inl k,v=>Value.isInt k v
 | .inr x,v=>Value.isStrOf x v
def keyH (w:World):Key→Int
 | .inl k=>hashInt k
 | .inr x=>hashStr w x
theorem zL:∀ {k:Key} {v:Ac},yp k v=true→(∃ i t,k=Sum.inl i∧v=Value.int i t)∨(∃ x t,k=Sum.inr x∧v=Value.str x t)
 | .inl i,v,h=>by
  obtain ⟨t,e⟩:=Value.isInt_shape (k:=i) (v:=v) h;exact .inl ⟨i,t,rfl,e⟩
 | .inr x,v,h=>by
  obtain ⟨t,e⟩:=Value.isStrOf_shape (x:=x) (v:=v) h;exact .inr ⟨x,t,rfl,e⟩
theorem qas (i:Int) (t:Tok):yp (.inl i) (.int i t)=true:=by simp [yp,Value.isInt]
theorem JZ (x:Str) (t:Tok):yp (.inr x) (.str x t)=true:=by simp [yp,Value.isStrOf]
theorem qif (a b:Int):decide ((Sum.inl a:Key)=Sum.inl b)=(a==b):=by
 by_cases e:a=b
 ·subst e;simp
 ·have h:¬ (Sum.inl a:Key)=Sum.inl b:=fun q=>e (Sum.inl.inj q);rw [Ap h];exact (Bi.mpr e).symm
theorem qic (a b:Str):decide ((Sum.inr a:Key)=Sum.inr b)=decide (a=b):=by
 by_cases e:a=b
 ·subst e;simp
 ·have h:¬ (Sum.inr a:Key)=Sum.inr b:=fun q=>e (Sum.inr.inj q);rw [Ap h,Ap e]
theorem qie (a:Int) (b:Str):decide ((Sum.inl a:Key)=Sum.inr b)=false:=Ap (fun q=>nomatch q)
theorem qid (a:Str) (b:Int):decide ((Sum.inr a:Key)=Sum.inl b)=false:=Ap (fun q=>nomatch q)
def zp (prog:Program) (w:World):PySem.KeyKind prog w Key where
 is:=yp
 hash:=keyH w
 inj:=fun v a b ha hb=>by
  rcases zL ha with ⟨i,t,rfl,rfl⟩ | ⟨x,t,rfl,rfl⟩
  ·rcases zL hb with ⟨j,u,rfl,e⟩ | ⟨y,u,rfl,e⟩
   ·injection e with e1 _;rw [e1]
   ·exact nomatch e
  ·rcases zL hb with ⟨j,u,rfl,e⟩ | ⟨y,u,rfl,e⟩
   ·exact nomatch e
   ·injection e with e1 _;rw [e1]
 byValue:=fun k v h=>by
  rcases zL h with ⟨i,t,rfl,rfl⟩ | ⟨x,t,rfl,rfl⟩ <;> rfl
 pyHash:=fun hv h=>by
  rcases zL hv with ⟨i,t,rfl,rfl⟩ | ⟨x,t,rfl,rfl⟩
  ·exact wpAny_pyHash_int h
  ·exact wpAny_pyHash_str h
 eqBool:=fun hu hv h=>by
  rcases zL hu with ⟨i,t,rfl,rfl⟩ | ⟨x,t,rfl,rfl⟩
  ·rcases zL hv with ⟨j,u,rfl,rfl⟩ | ⟨y,u,rfl,rfl⟩
   ·rw [qif] at h;exact wpAny_eqBool_int h
   ·rw [qie] at h;exact SeqAt.EqAt.int_str i t y u _ _ _ _ h
  ·rcases zL hv with ⟨j,u,rfl,rfl⟩ | ⟨y,u,rfl,rfl⟩
   ·rw [qid] at h;exact SeqAt.EqAt.str_int x t j u _ _ _ _ h
   ·rw [qic] at h;exact wpAny_eqBool_str h
 «strs» :=fun k x t v h=>by
  rcases zL h with ⟨i,u,rfl,e⟩ | ⟨y,u,rfl,e⟩
  ·exact nomatch e
  ·injection e with e1 _
   subst e1;cases v <;> rfl
theorem XD (prog:Program) (w:World) (i:Int) (t:Tok):(zp prog w).is (.inl i) (.int i t)=true:=qas i t
theorem wz (prog:Program) (w:World) (x:Str) (t:Tok):(zp prog w).is (.inr x) (.str x t)=true:=JZ x t
inductive V where
 | non | bl (b:Bool) | int (i:Int) | str (x:Str) | byt (b:Array UInt8) | flt (b:UInt64) | ref (a:Ae) | ty (n:String)
 deriving DecidableEq
def qS:V→Ac→Prop
 | .non,u=>u=Value.none
 | .bl b,u=>u=Value.bool b
 | .int i,u=>∃ t,u=Value.int i t
 | .str x,u=>∃ t,u=Value.str x t
 | .byt b,u=>∃ t,u=Value.bytes b t
 | .flt b,u=>∃ t,u=Value.float b t
 | .ref a,u=>u=Value.ref a
 | .ty n,u=>u=Value.type n
abbrev qT:List V→List Ac→Prop:=Paired qS
theorem qT.length {xs:List V} {us:List Ac} (r:qT xs us):xs.length=us.length:=Cw r
theorem qT.get:∀ {xs:List V} {us:List Ac} {i:Nat} {x:V},qT xs us→xs[i]?=some x→∃ u,us[i]?=some u∧qS x u
 | _,_,_,_,.nil,e=>by simp at e
 | _,_,0,_,.cons r _,e=>by simp at e;subst e;exact ⟨_,rfl,r⟩
 | _,_,i+1,x,.cons _ t,e=>by
  obtain ⟨u,h1,h2⟩:=qT.get (i:=i) (x:=x) t (by simpa using e)
  exact ⟨u,by simpa using h1,h2⟩
theorem qT.set {x:V} {u:Ac} (r:qS x u):∀ {xs:List V} {us:List Ac} (i:Nat),qT xs us→qT (xs.set i x) (us.set i u)
 | _,_,_,.nil=> .nil
 | _,_,0,.cons _ t=> .cons r t
 | _,_,i+1,.cons q t=> .cons q (qT.set r i t)
theorem qT.append:∀ {xs ys:List V} {us ws:List Ac},qT xs us→qT ys ws→qT (xs++ys) (us++ws)
 | _,_,_,_,.nil,s=>s
 | _,_,_,_,.cons r t,s=> .cons r (qT.append t s)
theorem qT.take:∀ {xs:List V} {us:List Ac} (n:Nat),qT xs us→qT (xs.take n) (us.take n)
 | _,_,0,_=> .nil
 | _,_,_+1,.nil=> .nil
 | _,_,n+1,.cons r t=> .cons r (qT.take n t)
theorem qT.drop:∀ {xs:List V} {us:List Ac} (n:Nat),qT xs us→qT (xs.drop n) (us.drop n)
 | _,_,0,r=>r
 | _,_,_+1,.nil=> .nil
 | _,_,n+1,.cons _ t=>qT.drop n t
theorem qT.none_of:∀ {xs:List V} {us:List Ac} {i:Nat},qT xs us→xs[i]?=none→us[i]?=none:=fun {xs us i} r e=>by
 have h1:=r.length;have h2:xs.length≤i:=List.getElem?_eq_none_iff.mp e;exact List.getElem?_eq_none_iff.mpr ⋯
def Vh:Option V→Option Ac→Prop
 | some v,some u=>qS v u
 | none,none=>True
 | _,_=>False
def KV {κ:Type}:List (κ×V)→List (κ×Ac)→Prop:=Paired fun (p:κ×V) (q:κ×Ac)=>p.1=q.1∧qS p.2 q.2
def kV:Key→V
 | .inl i=> .int i
 | .inr x=> .str x
inductive HO where
 | lst (xs:List V)
 | tup (xs:List V)
 | dK (kvs:List (Key×V)) | dT (kvs:List (List Key×V))
 | set (S:Int→Bool) (n:Nat)
 | ins (C dx:Ae) (fs:List (Str×V))
 | own (x:Ae)
 | xd (fs:List (Str×V))
 | met (f x:Ae)
 | rng (lo hi:Int)
 | frz (o:Obj) (u:HO)
 | tbl (ps:Array Ac)
 | ext (φ:Heap→Prop)
abbrev Hp:=Ae→Option HO
def upd (H:Hp) (a:Ae) (o:HO):Hp:=fun b=>if b=a then some o else H b
theorem upd_same {H:Hp} {a:Ae} {o:HO}:upd H a o a=some o:=by unfold upd;rw [if_pos rfl]
theorem qG {H:Hp} {a b:Ae} {o:HO} (h:b≠a):upd H a o b=H b:=by unfold upd;rw [if_neg h]
theorem yj {H:Hp} {a b:Ae} {o u:HO} (h:H a=some o) (h':H b=some u) (d:o≠u):a≠b:=by
 intro e;subst e;rw [h] at h';exact d (Bg h')
theorem qK {H:Hp} {a b:Ae} {o:HO} (h:H a=some o) (h':H b=none):a≠b:=by
 intro e;subst e;rw [h] at h';cases h'
section
variable (P:Program) (w:World)
def zw (H:Hp) (h:Heap) (a:Ae):HO→Prop
 | .lst xs=>xs.length≤Ag∧∃ (its:List Ac) (n:Nat),qT xs its∧h.get? a=some {cls:= .type "list",data:= .seq its.toArray n}
 | .tup xs=>xs.length≤Ag∧∃ its:List Ac,qT xs its∧IsTup h a its.toArray
 | .dK kvs=>kvs.length≤Ag∧(a==sysModules)=false∧∃ vs,KV kvs vs∧h.DictOf (zp P w) a vs
 | .dT kvs=>kvs.length≤Ag∧(a==sysModules)=false∧∃ xs:List (List Key×Ae×Ac),
   Paired (fun (p:List Key×V) (q:List Key×Ae×Ac)=>p.1=q.1∧H q.2.1=some (.tup (p.1.map kV))∧qS p.2 q.2.2) kvs xs∧
   ∃ o es ep,h.get? a=some o∧o.ExactDict∧o.data= .dict es ep∧es.toList=xs.map (entryOfKey (tupleKind (zp P w)))∧(xs.map (·.1)).Nodup
 | .set S n=>h.SetOf (intKind P w) a S n
 | .ins C dx fs=>H dx=some (.own a)∧fs.length≤1000∧dx≠a∧h.get? a=some (PySem.W.instObj C dx)∧
   ∃ mA,h.Ns1 dx mA∧(∀ f,Vh (fs.lookup f) (mA f))∧PySem.Within mA (fs.map (·.1))
 | .own _=>∃ o,h.get? a=some o
 | .xd fs=>∃ mA,h.Ns1 a mA∧∀ f,Vh (fs.lookup f) (mA f)
 | .rng lo hi=>∃ t u v,h.get? a=some {cls:= .type "range",data:= .fields #[.int lo t,.int hi u,.int 1 v]}
 | .frz o u=>h.get? a=some o∧zw H h a u
 | .tbl ps=>h.get? a=some {cls:= .none,data:= .fields ps}
 | .met f x=>h.get? a=some (PySem.W.methodObj (.ref f) (.ref x))
 | .ext φ=>φ h∧(∃ o,h.get? a=some o)∧∀ h1 h2:Heap,φ h1→(∀ o,h1.get? a=some o→h2.get? a=some o)→φ h2
def HOk (H:Hp) (h:Heap):Prop:=∀ a o,H a=some o→zw P w H h a o
end
section
variable {P:Program} {w:World} {H H':Hp} {h h':Heap} {a:Ae} {o:HO}
theorem zw.lt (x:zw P w H h a o):a<h.objs.size:=by
 cases o with
 | lst xs=>obtain ⟨_,_,_,_,e⟩:=x;exact Bf e
 | tup xs=>obtain ⟨_,_,_,p⟩:=x;exact p.lt
 | dK kvs=>obtain ⟨_,_,_,_,o,_,_,e,_⟩:=x;exact Bf e
 | dT kvs=>obtain ⟨_,_,_,_,o,_,_,e,_⟩:=x;exact Bf e
 | set S n=>obtain ⟨o,_,_,_,e,_⟩:=x;exact Bf e
 | ins C dx fs=>obtain ⟨_,_,_,e,_⟩:=x;exact Bf e
 | own y=>obtain ⟨_,e⟩:=x;exact Bf e
 | xd fs=>obtain ⟨_,⟨_,_,_,e,_⟩,_⟩:=x;exact Bf e
 | rng lo hi=>obtain ⟨_,_,_,e⟩:=x;exact Bf e
 | frz ob u=>obtain ⟨e,_⟩:=x;exact Bf e
 | tbl ps=>exact Bf (show h.get? a=some _ from x)
 | met f y=>exact Bf (show h.get? a=some _ from x)
 | ext φ=>obtain ⟨_,⟨_,e⟩,_⟩:=x;exact Bf e
theorem Paired.mapP {α β:Type} {F G:α→β→Prop}:∀ {l₁:List α} {l₂:List β},Paired F l₁ l₂→(∀ a b,F a b→G a b)→Paired G l₁ l₂
 | _,_,.nil,_=> .nil
 | _,_,.cons r t,f=> .cons (f _ _ r) (Paired.mapP t f)
theorem zw.stay (x:zw P w H h a o) (k:∀ b u,(b=a∨H b=some (.own a))→h.get? b=some u→h'.get? b=some u)
  (ho:∀ b,H b=some (.own a)→H' b=some (.own a)) (ht:∀ b xs,H b=some (.tup xs)→H' b=some (.tup xs)):zw P w H' h' a o:=by
 induction o with
 | lst xs=>obtain ⟨z,its,n,r,e⟩:=x;exact ⟨z,its,n,r,k _ _ (.inl rfl) e⟩
 | tup xs=>obtain ⟨z,its,r,ob,e,c⟩:=x;exact ⟨z,its,r,ob,k _ _ (.inl rfl) e,c⟩
 | dK kvs=>obtain ⟨z,y,vs,r,ob,es,ep,e,c⟩:=x;exact ⟨z,y,vs,r,ob,es,ep,k _ _ (.inl rfl) e,c⟩
 | dT kvs=>
  obtain ⟨z,y,xs,r,ob,es,ep,e,c⟩:=x;exact ⟨z,y,xs,Paired.mapP r fun p q z=>⟨z.1,ht _ _ z.2.1,z.2.2⟩,ob,es,ep,k _ _ (.inl rfl) e,c⟩
 | set S n=>obtain ⟨ob,es,ep,t,e,c⟩:=x;exact ⟨ob,es,ep,t,k _ _ (.inl rfl) e,c⟩
 | ins C dx fs=>
  obtain ⟨d,z,ne,e,mA,⟨od,es,ep,e2,c⟩,r⟩:=x;exact ⟨ho _ d,z,ne,k _ _ (.inl rfl) e,mA,⟨od,es,ep,k _ _ (.inr d) e2,c⟩,r⟩
 | own y=>obtain ⟨ob,e⟩:=x;exact ⟨ob,k _ _ (.inl rfl) e⟩
 | xd fs=>obtain ⟨mA,⟨od,es,ep,e,c⟩,r⟩:=x;exact ⟨mA,⟨od,es,ep,k _ _ (.inl rfl) e,c⟩,r⟩
 | rng lo hi=>obtain ⟨t,u,v,e⟩:=x;exact ⟨t,u,v,k _ _ (.inl rfl) e⟩
 | frz ob u ih=>obtain ⟨e,q⟩:=x;exact ⟨k _ _ (.inl rfl) e,ih q⟩
 | tbl ps=>
  have e:h.get? a=some {cls:= .none,data:= .fields ps}:=x;show h'.get? a=some {cls:= .none,data:= .fields ps};exact k a _ (.inl rfl) e
 | met f y=>
  have e:h.get? a=some (PySem.W.methodObj (.ref f) (.ref y)):=x;show h'.get? a=some (PySem.W.methodObj (.ref f) (.ref y));exact k a _ (.inl rfl) e
 | ext φ=>obtain ⟨p,⟨o,e⟩,st⟩:=x;exact ⟨st _ _ p fun o q=>k _ _ (.inl rfl) q,⟨o,k _ _ (.inl rfl) e⟩,st⟩
theorem HOk.lt (x:HOk P w H h) (e:H a=some o):a<h.objs.size:=(x a o e).lt
theorem HOk.fresh (x:HOk P w H h) (e:h.objs.size≤a):H a=none:=by
 cases q:H a with
 | none=>rfl
 | some u=>exact absurd (Bv (x.lt q) e) (Ec _)
theorem HOk.kept (x:HOk P w H h) (k:∀ b u,h.get? b=some u→h'.get? b=some u):HOk P w H h':=fun a o e=>
 (x a o e).stay (fun b u _ q=>k b u q) (fun _ q=>q) fun _ _ q=>q
theorem HOk.laid (x:HOk P w H h) (k:∀ b u,h.get? b=some u→h'.get? b=some u) (hp:h.objs.size≤a) (new:zw P w (upd H a o) h' a o):HOk P w (upd H a o) h':=fun b u e=>by
 have hn:=x.fresh hp
 by_cases hb:b=a
 ·subst hb;rw [upd_same] at e;cases e;exact new
 ·rw [qG hb] at e;exact (x b u e).stay (fun c v _ q=>k c v q) (fun c q=>by rw [qG (qK q hn)];exact q) fun c xs q=>by rw [qG (qK q hn)];exact q
end
def Rd (H:Hp) (a:Ae) (u:HO):Prop:=H a=some u∨∃ o,H a=some (.frz o u)
theorem Rd.ok {P:Program} {w:World} {H:Hp} {h:Heap} {a:Ae} {u:HO} (r:Rd H a u) (x:HOk P w H h):zw P w H h a u:=by
 rcases r with r | ⟨o,r⟩
 ·exact x a u r
 ·obtain ⟨_,q⟩:=x a _ r;exact q
def Mut:Option HO→Prop
 | some (.lst _)=>True
 | some (.dK _)=>True
 | some (.dT _)=>True
 | some (.set _ _)=>True
 | some (.ins _ _ _)=>True
 | some (.ext _)=>True
 | _=>False
section
variable {P:Program} {w:World} {H:Hp} {h h':Heap} {x e:Ae} {o':HO}
theorem HOk.write (ok:HOk P w H h) (mu:Mut (H x)) (he:e=x∨H e=some (.own x)) (k:∀ b u,b≠e→h.get? b=some u→h'.get? b=some u) (heo:∃ u,h'.get? e=some u)
  (new:zw P w (upd H x o') h' x o'):HOk P w (upd H x o') h':=fun b u q=>by
 have nown:∀ c y,H c=some (.own y)→c≠x:=fun c y r z=>by subst z;rw [r] at mu;exact mu
 have ntup:∀ c xs,H c=some (.tup xs)→c≠x:=fun c xs r z=>by subst z;rw [r] at mu;exact mu
 by_cases hb:b=x
 ·subst hb;rw [upd_same] at q;cases q;exact new
 ·rw [qG hb] at q
  by_cases hbe:b=e
  ·have q':H b=some (.own x):=by
    rcases he with z | z
    ·exact absurd (hbe.trans z) hb
    ·rw [hbe];exact z
   rw [q] at q';cases q';obtain ⟨v,hv⟩:=heo;exact ⟨v,by rw [hbe];exact hv⟩
  ·refine (ok b u q).stay (fun c v hc r=>k c v ?_ r) (fun c r=>by rw [qG (nown c b r)];exact r) fun c xs r=>by rw [qG (ntup c xs r)];exact r
   rcases hc with rfl | hc
   ·exact hbe
   ·rintro rfl;rcases he with z | z
    ·exact nown c b hc z
    ·rw [hc] at z;cases z;exact hb rfl
end
structure Un (fs ex:List Ae) (H H':Hp) (h h':Heap):Prop where
 keep:∀ b o,h.get? b=some o→H b=none→b∉fs→b∉ex→h'.get? b=some o
 slot:∀ b o,h.get? b=some o→H b=none→b∈fs→b∉ex→∃ sl,h'.get? b=some {o with slots:=sl}
 free:∀ b o,h.get? b=some o→H b=none→b∉ex→H' b=none
 there:∀ b o,h.get? b=some o→b∉ex→∃ o',h'.get? b=some o'
 tups:∀ b xs,H b=some (.tup xs)→H' b=some (.tup xs)
 frzs:∀ b o u,H b=some (.frz o u)→H' b=some (.frz o u)
 tbls:∀ b ps,H b=some (.tbl ps)→∃ more,H' b=some (.tbl (ps++more))
section
variable {fs fs' ex ex':List Ae} {H H1 H2:Hp} {h h1 h2 h':Heap} {a x e:Ae} {o:HO}
theorem Un.any (u:Un fs ex H H1 h h1) {b:Ae} {ob:Obj} (q:h.get? b=some ob) (n:H b=none) (hx:b∉ex):∃ sl,h1.get? b=some {ob with slots:=sl}:=by
 by_cases hb:b∈fs
 ·exact u.slot b ob q n hb hx
 ·exact ⟨ob.slots,u.keep b ob q n hb hx⟩
theorem Un.kept (k:∀ b u,h.get? b=some u→h'.get? b=some u):Un fs ex H H h h':=
 ⟨fun b ob q _ _ _=>k b ob q,fun b ob q _ _ _=>⟨ob.slots,k b ob q⟩,fun _ _ _ n _=>n,fun b ob q _=>⟨ob,k b ob q⟩,fun _ _ q=>q,fun _ _ _ q=>q,fun _ ps q=>⟨#[],by rw [q];simp⟩⟩
theorem Un.refl:Un fs ex H H h h:=Un.kept fun _ _ q=>q
theorem Un.laid (k:∀ b u,h.get? b=some u→h'.get? b=some u) (hp:h.objs.size≤a) (hn:H a=none):Un fs ex H (upd H a o) h h' where
 keep:=fun b u q _ _ _=>k b u q
 slot:=fun b u q _ _ _=>⟨u.slots,k b u q⟩
 free:=fun b u q n _=>by rw [qG (Bz (Bv (Bf q) hp))];exact n
 there:=fun b u q _=>⟨u,k b u q⟩
 tups:=fun b xs q=>by rw [qG (qK q hn)];exact q
 frzs:=fun b u xs q=>by rw [qG (qK q hn)];exact q
 tbls:=fun b ps q=>⟨#[],by rw [qG (qK q hn),q];simp⟩
theorem Un.write (mu:Mut (H x)) (he:e=x∨H e=some (.own x)) (k:∀ b u,b≠e→h.get? b=some u→h'.get? b=some u) (heo:∃ u,h'.get? e=some u):Un fs ex H (upd H x o) h h':=by
 have hx:∀ b,H b=none→b≠x:=fun b n z=>by subst z;rw [n] at mu;exact mu
 have hb:∀ b,H b=none→b≠e:=fun b n z=>by
  subst z;rcases he with r | r
  ·exact hx b n r
  ·rw [n] at r;cases r
 have hm:∀ b u,H b=some u→¬ Mut (some u)→b≠x:=fun b u q nm z=>by subst z;rw [q] at mu;exact nm mu
 refine ⟨fun b u q n _ _=>k b u (hb b n) q,fun b u q n _ _=>⟨u.slots,k b u (hb b n) q⟩,fun b u q n _=>by rw [qG (hx b n)];exact n,fun b u q _=>?_,
  fun b xs q=>by rw [qG (hm b _ q fun z=>z)];exact q,fun b u xs q=>by rw [qG (hm b _ q fun z=>z)];exact q,fun b ps q=>⟨#[],by rw [qG (hm b _ q fun z=>z),q];simp⟩⟩
 by_cases hbe:b=e
 ·subst hbe;exact heo
 ·exact ⟨u,k b u hbe q⟩
end
def trk (h:Heap) (H:Hp):List Ae:=(List.range h.objs.size).filter fun a=>(H a).isSome
def Yz (h:Heap) (H:Hp):Heap:=PySem.W.hideAll h (trk h H)
theorem qau (h:Heap) (H:Hp):(Yz h H).objs.size=h.objs.size:=PySem.W.hideAll_size _ _
theorem qdz {h:Heap} {H:Hp} {b:Ae} {o:Obj} (e:h.get? b=some o) (n:H b=none):(Yz h H).get? b=some o:=
 PySem.W.hideAll_get _ e fun hm=>by
  have q:(H b).isSome=true:=(E2.mp hm).2;rw [n] at q;simp at q
theorem qfj {h:Heap} {H:Hp} {b:Ae} {o:Obj} (e:(Yz h H).get? b=some o):h.get? b=some o∧H b=none:=by
 have e':h.get? b=some o:=PySem.W.of_hideAll (trk h H) e;refine ⟨e',?_⟩;cases q:H b with
 | none=>rfl
 | some x=>
  have hm:b∈trk h H:=E2.mpr ⟨De.mpr (Bf e'),by simp [q]⟩
  have z:(Yz h H).get? b=none:=PySem.W.hideAll_none (trk h H) hm;rw [z] at e;cases e
def qgg (g h:Heap) (L:Ae):List (Ae×Obj):=(List.range h.objs.size).filterMap fun a=>if a=L∨(g.get? a).isSome=true then none else (h.get? a).map fun o=>(a,o)
def rest (g h:Heap) (L d:Ae):List (Ae×Obj):=(qgg g h L).filter fun p=>decide (p.1≠d)
structure Mod (K:Frag) (mg:Str→Option Ac) (base:Heap):Prop where
 kin:K.In base
 glob:base.Ns Aq mg
 blt:∃ mb,base.Ns builtinsNs mb∧∀ x:Str,x≠"__name__"→mb x=bootBuiltins x
 nolimit:base.NoLimit
structure Cx where
 prog:Program
 w:World
 K:Frag
 mg:Str→Option Ac
 base:Heap
 A:Around
 N:List Str
 s₀:Af
 H₀:Hp
 env:Env
 outer:List Env
 stack:List Env
 ex:List Ae
 fn:Str→Bool
 calm:Bool
 pn:List (Ae×Obj)
 xe:Ac→Af→Prop
def frs (l:List Env):List Ae:=l.filterMap (·.frame)
abbrev Cx.fs (X:Cx):List Ae:=frs X.outer
def Vis (sc:Scope) (x:Str):Prop:=sc.names.lookup x=some .local∨sc.names.lookup x=some .cell∨sc.names.lookup x=some .free
def Loc (sc:Scope) (x:Str):Prop:=sc.names.lookup x=some .local∨sc.names.lookup x=some .cell
def Look (env:Env) (h:Heap) (m:Str→Option Ac) (x:Str) (u:Ac):Prop:=
 (env.kindOf x=some .local∧m x=some u)∨((env.kindOf x=some .cell∨env.kindOf x=some .free)∧∃ c,env.cells.lookup x=some c∧h.IsCell c (some u))
structure Cx.Ok (X:Cx):Prop where
 mod:Mod X.K X.mg X.base
 kind:X.env.scope.kind= .function
 glob:X.env.globals=Aq
 blt:X.env.builtins=builtinsNs
 above:X.s₀.heap.objs.size≤X.env.locals
 inj:∀ x y c,X.env.cells.lookup x=some c→X.env.cells.lookup y=some c→x=y
 has:∀ x,(X.env.kindOf x=some .cell∨X.env.kindOf x=some .free)→∃ c,X.env.cells.lookup x=some c
 cab:∀ x c,X.fn x=true→X.env.cells.lookup x=some c→X.s₀.heap.objs.size≤c
 hd:X.calm=true→X.A.handled=none
 frames:X.A.frames=some X.stack
 stk:X.stack=X.outer∨(X.stack=X.env::X.outer∧X.env.frame=some X.env.locals)
 exf:∀ b∈X.ex,b≠X.env.locals∧∀ x c,X.env.cells.lookup x=some c→c≠b
 bs:∀ b o,X.base.get? b=some o→X.s₀.heap.get? b=some o∧X.H₀ b=none
 bsz:X.base.objs.size≤X.s₀.heap.objs.size
 noex:∀ b o,X.base.get? b=some o→b∉X.ex
 exfs:∀ b∈X.ex,b∉X.fs
 funs:X.s₀.heap.FunFrames X.base X.outer
 frf:∀ b∈X.fs,X.H₀ b=none
structure Inv (X:Cx) (pins:List (Ae×Obj)) (σ:List (Option V)) (H:Hp) (s:Af):Prop where
 ok:X.Ok
 os:s.os=X.s₀.os
 bare:AllBare s.gens
 base:Un X.fs X.ex X.H₀ H X.s₀.heap s.heap
 loc:∃ m,s.heap.Ns X.env.locals m∧∀ (i:Nat) (x:Str) (v:V),X.N[i]?=some x→σ[i]?=some (some v)→Vis X.env.scope x→∃ u,qS v u∧Look X.env s.heap m x u
 cell:∀ x c,X.env.cells.lookup x=some c→∃ v,s.heap.IsCell c v
 free:H X.env.locals=none
 freeC:∀ x c,X.env.cells.lookup x=some c→H c=none
 pin:∀ p∈X.pn++pins,s.heap.get? p.1=some p.2∧H p.1=none∧p.1≠X.env.locals∧p.1∉X.fs∧∀ v,p.2.data≠ .cell v
 hok:HOk X.prog X.w H s.heap
 len:σ.length=X.N.length
section
variable {X:Cx} {pins:List (Ae×Obj)} {σ:List (Option V)} {H H':Hp} {s:Af} {h':Heap}
theorem Cx.Ok.nofr (ok:X.Ok) {b:Ae} {o:Obj} (e:X.base.get? b=some o):b∉X.fs:=fun hb=>by
 have:=(ok.funs.mem hb).1;rw [e] at this;cases this
theorem Inv.bs (I:Inv X pins σ H s):∀ b o,X.base.get? b=some o→s.heap.get? b=some o∧H b=none:=fun b o e=>
 ⟨I.base.keep b o (I.ok.bs b o e).1 (I.ok.bs b o e).2 (I.ok.nofr e) (I.ok.noex b o e),I.base.free b o (I.ok.bs b o e).1 (I.ok.bs b o e).2 (I.ok.noex b o e)⟩
theorem Inv.bk (I:Inv X pins σ H s):∀ b o,X.base.get? b=some o→s.heap.get? b=some o:=fun b o e=>(I.bs b o e).1
theorem Inv.mod (I:Inv X pins σ H s):Mod X.K X.mg X.base:=I.ok.mod
theorem Inv.kIn (I:Inv X pins σ H s):X.K.In s.heap:=I.ok.mod.kin.keeps I.bk
theorem Inv.fr (I:Inv X pins σ H s):∃ m,Fr X.base X.env.locals s.heap m:=
 let ⟨m,hn,_⟩:=I.loc
 ⟨m,hn,I.bk,Ar I.ok.bsz I.ok.above⟩
theorem Inv.lt (I:Inv X pins σ H s):X.env.locals<s.heap.objs.size:=let ⟨_,hn,_⟩:=I.loc;hn.lt
theorem Inv.sz (I:Inv X pins σ H s):X.s₀.heap.objs.size≤s.heap.objs.size:=Ar I.ok.above (Nat.le_of_lt I.lt)
theorem Inv.nofs (I:Inv X pins σ H s) {a:Ae} (h:s.heap.objs.size≤a):a∉X.fs:=fun hb=>by
 obtain ⟨_,o,ho,_⟩:=I.ok.funs.mem hb;exact absurd (Bv (Bf ho) (Ar I.sz h)) (Ec _)
theorem Inv.cne (I:Inv X pins σ H s):∀ x c,X.env.cells.lookup x=some c→c≠X.env.locals:=fun x c e z=>by
 obtain ⟨v,o,ho,hd⟩:=I.cell x c e;obtain ⟨m,⟨o',es,ep,ho',hd',_⟩,_⟩:=I.loc;rw [z,ho'] at ho;cases ho;rw [hd'] at hd;cases hd
theorem Inv.funs (I:Inv X pins σ H s):s.heap.FunFrames X.base X.outer:=by
 have all:∀ (l:List Env),(∀ b∈frs l,b∈X.fs)→X.s₀.heap.FunFrames X.base l→s.heap.FunFrames X.base l:=by
  intro l
  induction l with
  | nil=>intro _ _;trivial
  | cons env r ih=>
   intro hs hl;obtain ⟨hk,⟨L,o,hf,hn,ho,hd⟩,hr⟩:=hl;have hL:L∈X.fs:=hs L (by unfold frs;rw [Eg,hf];exact Ay)
   obtain ⟨sl,e⟩:=I.base.slot L o ho (I.ok.frf L hL) hL fun z=>I.ok.exfs L z hL;exact ⟨hk,⟨L,_,hf,hn,e,hd⟩,ih (fun b hb=>hs b (by unfold frs;rw [Eg,hf];exact Au _ hb)) hr⟩
 exact all X.outer (fun _ hb=>hb) I.ok.funs
theorem Inv.stack (I:Inv X pins σ H s):s.heap.FunFrames X.base X.stack:=by
 rcases I.ok.stk with e | ⟨e,hf⟩
 ·rw [e];exact I.funs
 ·rw [e];obtain ⟨m,hn,_⟩:=I.loc;refine .cons (by rw [I.ok.kind];decide) hf hn ?_ I.funs
  exact Heap.get?_none_of_le (Ar I.ok.bsz I.ok.above)
theorem Inv.stkSub (I:Inv X pins σ H s):∀ b∈frs X.stack,b∈X.env.locals::X.fs:=fun b hb=>by
 rcases I.ok.stk with e | ⟨e,hf⟩
 ·rw [e] at hb;exact Au _ hb
 ·rw [e] at hb;unfold frs at hb;rw [Eg,hf] at hb;exact hb
theorem Inv.stkFree (I:Inv X pins σ H s):∀ b∈frs X.stack,H b=none:=fun b hb=>by
 rcases Av.mp (I.stkSub b hb) with e | hb
 ·rw [e];exact I.free
 ·obtain ⟨_,o,ho,_⟩:=I.ok.funs.mem hb;exact I.base.free b o ho (I.ok.frf b hb) fun z=>I.ok.exfs b z hb
theorem Inv.step {g':Array GenState} {t':Nat} {d':Drawn} {ch:List Ae} (I:Inv X pins σ H s)
  (hch:∀ b∈ch,(b∈X.ex∨X.s₀.heap.objs.size≤b)∧b≠X.env.locals∧(∀ x c,X.env.cells.lookup x=some c→c≠b)∧∀ p∈X.pn++pins,p.1≠b)
  (keep:∀ b o,b≠X.env.locals→b∉X.fs→b∉ch→s.heap.get? b=some o→H b=none→h'.get? b=some o)
  (slot:∀ b o,b≠X.env.locals→b∈X.fs→b∉ch→s.heap.get? b=some o→H b=none→∃ sl,h'.get? b=some {o with slots:=sl}) (free:∀ b o,b∉ch→s.heap.get? b=some o→H b=none→H' b=none)
  (there:∀ b o,b∉ch→s.heap.get? b=some o→∃ o',h'.get? b=some o')
  (tups:∀ b xs,H b=some (.tup xs)→H' b=some (.tup xs)) (frzs:∀ b o u,H b=some (.frz o u)→H' b=some (.frz o u)) (tbls:∀ b ps,H b=some (.tbl ps)→∃ more,H' b=some (.tbl (ps++more)))
  (ns:∀ m,s.heap.Ns X.env.locals m→h'.Ns X.env.locals m) (hok:HOk X.prog X.w H' h') (hg:AllBare g'):
  Inv X pins σ H' {s with heap:=h',gens:=g',drawn:=d',toks:=t'}:=by
 have neL:∀ b o,X.s₀.heap.get? b=some o→b≠X.env.locals:=fun b o e=>Bz (Bv (Bf e) I.ok.above);have neC:∀ b o,X.s₀.heap.get? b=some o→b∉X.ex→b∉ch:=fun b o e hx hb=>by
  rcases (hch b hb).1 with z | z
  ·exact hx z
  ·exact absurd (Bv (Bf e) z) (Ec _)
 have cellK:∀ x c,X.env.cells.lookup x=some c→∀ v,s.heap.IsCell c v→h'.IsCell c v:=fun x c e v ⟨o,ho,hd⟩=>by
  have nch:c∉ch:=fun z=>(hch c z).2.2.1 x c e rfl
  by_cases hc:c∈X.fs
  ·obtain ⟨sl,q⟩:=slot c o (I.cne x c e) hc nch ho (I.freeC x c e);exact ⟨_,q,hd⟩
  ·exact ⟨o,keep c o (I.cne x c e) hc nch ho (I.freeC x c e),hd⟩
 refine ⟨I.ok,I.os,hg,⟨fun b o e n hb hx=>?_,fun b o e n hb hx=>?_,fun b o e n hx=>?_,fun b o e hx=>?_,fun b xs e=>tups b xs (I.base.tups b xs e),fun b o xs e=>frzs b o xs (I.base.frzs b o xs e),fun b ps e=>?_⟩,?_,fun x c e=>?_,?_,fun x c e=>?_,fun p hp=>?_,hok,I.len⟩
 ·exact keep b o (neL b o e) hb (neC b o e hx) (I.base.keep b o e n hb hx) (I.base.free b o e n hx)
 ·obtain ⟨sl,e1⟩:=I.base.slot b o e n hb hx;obtain ⟨sl',e2⟩:=slot b _ (neL b o e) hb (neC b o e hx) e1 (I.base.free b o e n hx);exact ⟨sl',e2⟩
 ·obtain ⟨o',e1⟩:=I.base.there b o e hx;exact free b o' (neC b o e hx) e1 (I.base.free b o e n hx)
 ·obtain ⟨o',e1⟩:=I.base.there b o e hx;exact there b o' (neC b o e hx) e1
 ·obtain ⟨m1,e1⟩:=I.base.tbls b ps e;obtain ⟨m2,e2⟩:=tbls b _ e1;exact ⟨m1++m2,by rw [e2,Array.append_assoc]⟩
 ·obtain ⟨m,hn,hl⟩:=I.loc;refine ⟨m,ns m hn,fun i x v e1 e2 e3=>?_⟩;obtain ⟨u,r,l⟩:=hl i x v e1 e2 e3;refine ⟨u,r,?_⟩;rcases l with l | ⟨k,c,e,z⟩
  ·exact .inl l
  ·exact .inr ⟨k,c,e,cellK x c e _ z⟩
 ·obtain ⟨v,z⟩:=I.cell x c e;exact ⟨v,cellK x c e v z⟩
 ·obtain ⟨m,⟨o,_,_,ho,_⟩,_⟩:=I.loc;exact free _ o (fun z=>(hch _ z).2.1 rfl) ho I.free
 ·obtain ⟨v,o,ho,hd⟩:=I.cell x c e;exact free c o (fun z=>(hch c z).2.2.1 x c e rfl) ho (I.freeC x c e)
 ·obtain ⟨e,n,ne,nf,d⟩:=I.pin p hp;have nch:p.1∉ch:=fun z=>(hch p.1 z).2.2.2 p hp rfl;exact ⟨keep p.1 p.2 ne nf nch e n,free p.1 p.2 nch e n,ne,nf,d⟩
theorem Inv.un {t':Nat} (I:Inv X pins σ H s) (u:Un X.fs [] H H' s.heap h') (hok:HOk X.prog X.w H' h'):Inv X pins σ H' {s with heap:=h',toks:=t'}:=by
 obtain ⟨m,⟨o,es,ep,ho,r⟩,_⟩:=id I.loc;obtain ⟨sl,hL⟩:=u.any ho I.free (by simp)
 exact I.step (g':=s.gens) (d':=s.drawn) (ch:=[]) (fun _ z=>nomatch z) (fun b o _ hb _ e n=>u.keep b o e n hb (by simp)) (fun b o _ hb _ e n=>u.slot b o e n hb (by simp)) (fun b o _ e n=>u.free b o e n (by simp)) (fun b o _ e=>u.there b o e (by simp)) u.tups u.frzs u.tbls (fun m' hm=>by
  obtain ⟨o',es',ep',ho',r'⟩:=hm;rw [ho] at ho';cases ho';exact ⟨_,es',ep',hL,r'⟩) hok I.bare
theorem Inv.call {g':Array GenState} {t':Nat} {d':Drawn} {ch:List Ae} (I:Inv X pins σ H s) (u:Un (frs X.stack) ch H H' s.heap h') (hok:HOk X.prog X.w H' h') (hg:AllBare g')
  (hch:∀ b∈ch,(b∈X.ex∨X.s₀.heap.objs.size≤b)∧b≠X.env.locals∧(∀ x c,X.env.cells.lookup x=some c→c≠b)∧∀ p∈X.pn++pins,p.1≠b):
  Inv X pins σ H' {s with heap:=h',gens:=g',drawn:=d',toks:=t'}:=by
 obtain ⟨m,⟨o,es,ep,ho,r⟩,_⟩:=id I.loc;obtain ⟨sl,hL⟩:=u.any ho I.free fun z=>(hch _ z).2.1 rfl;exact I.step (ch:=ch) hch (fun b o hL hb hc e n=>u.keep b o e n (fun z=>(Av.mp (I.stkSub b z)).elim hL hb) hc) (fun b o _ _ hc e n=>u.any e n hc) (fun b o hc e n=>u.free b o e n hc) (fun b o hc e=>u.there b o e hc) u.tups u.frzs u.tbls (fun m' hm=>by
  obtain ⟨o',es',ep',ho',r'⟩:=hm;rw [ho] at ho';cases ho';exact ⟨_,es',ep',hL,r'⟩) hok hg
theorem Inv.turned {t':Nat} {it:Ae} (I:Inv X pins σ H s) (k:∀ b o,b≠it→s.heap.get? b=some o→h'.get? b=some o) (hn:H it=none) (hL:it≠X.env.locals)
  (h1:it∈X.ex∨X.s₀.heap.objs.size≤it) (h2:∀ x c,X.env.cells.lookup x=some c→c≠it) (h3:∀ p∈X.pn++pins,p.1≠it):Inv X pins σ H {s with heap:=h',toks:=t'}:=by
 have nit:∀ b u,H b=some u→b≠it:=fun b u e z=>by rw [z,hn] at e;cases e
 refine I.step (g':=s.gens) (d':=s.drawn) (ch:=[it]) (fun b hb=>?_) (fun b o _ _ hc e _=>k b o (fun z=>hc (by simp [z])) e) (fun b o _ _ hc e _=>⟨o.slots,k b o (fun z=>hc (by simp [z])) e⟩) (fun _ _ _ _ n=>n)
  (fun b o hc e=>⟨o,k b o (fun z=>hc (by simp [z])) e⟩) (fun _ _ e=>e) (fun _ _ _ e=>e) (fun b ps e=>⟨#[],by rw [e];simp⟩) (fun m hm=>?_) (fun b u e=>?_) I.bare
 ·have e:b=it:=by simpa using hb
  subst e;exact ⟨h1,hL,h2,h3⟩
 ·obtain ⟨o,es,ep,ho,r⟩:=hm;exact ⟨o,es,ep,k _ o (Ne.symm hL) ho,r⟩
 ·refine (I.hok b u e).stay (fun c v hc q=>k c v ?_ q) (fun _ q=>q) fun _ _ q=>q;rcases hc with z | z
  ·rw [z];exact nit b u e
  ·exact nit c _ z
theorem Inv.tok (I:Inv X pins σ H s) (t:Nat):Inv X pins σ H {s with toks:=t}:=I.un (h':=s.heap) (t':=t) Un.refl I.hok
theorem Inv.kept {t':Nat} (I:Inv X pins σ H s) (k:∀ b u,s.heap.get? b=some u→h'.get? b=some u):Inv X pins σ H {s with heap:=h',toks:=t'}:=I.un (Un.kept k) (I.hok.kept k)
theorem Inv.laid {a:Ae} {o:HO} {t':Nat} (I:Inv X pins σ H s) (k:∀ b u,s.heap.get? b=some u→h'.get? b=some u) (hp:s.heap.objs.size≤a) (new:zw X.prog X.w (upd H a o) h' a o):
  Inv X pins σ (upd H a o) {s with heap:=h',toks:=t'}:=I.un (Un.laid k hp (I.hok.fresh hp)) (I.hok.laid k hp new)
theorem Inv.write {x e:Ae} {o:HO} {t':Nat} (I:Inv X pins σ H s) (mu:Mut (H x)) (he:e=x∨H e=some (.own x)) (k:∀ b u,b≠e→s.heap.get? b=some u→h'.get? b=some u) (heo:∃ u,h'.get? e=some u)
  (new:zw X.prog X.w (upd H x o) h' x o):Inv X pins σ (upd H x o) {s with heap:=h',toks:=t'}:=I.un (Un.write mu he k heo) (I.hok.write mu he k heo new)
theorem Inv.weak {σ':List (Option V)} (I:Inv X pins σ H s) (hl:σ'.length=σ.length) (w:∀ (i:Nat) v,σ'[i]?=some (some v)→σ[i]?=some (some v)):Inv X pins σ' H s:=
 ⟨I.ok,I.os,I.bare,I.base,let ⟨m,hn,hl'⟩:=I.loc;⟨m,hn,fun i x v e1 e2 e3=>hl' i x v e1 (w i v e2) e3⟩,I.cell,I.free,I.freeC,I.pin,I.hok,hl.trans I.len⟩
theorem Inv.pins_of {pins':List (Ae×Obj)} (I:Inv X pins σ H s) (h:∀ p∈pins',s.heap.get? p.1=some p.2∧H p.1=none∧p.1≠X.env.locals∧p.1∉X.fs∧∀ v,p.2.data≠ .cell v):Inv X pins' σ H s:=
 ⟨I.ok,I.os,I.bare,I.base,I.loc,I.cell,I.free,I.freeC,fun p hp=>(Bp.mp hp).elim (fun z=>I.pin p (B3 _ z)) (h p),I.hok,I.len⟩
theorem Xx {N:List Str} (hN:N.Nodup) {i j:Nat} {x:Str} (a:N[i]?=some x) (b:N[j]?=some x):i=j:=by
 obtain ⟨h1,e1⟩:=C0.mp a;obtain ⟨h2,e2⟩:=C0.mp b;exact (List.getElem_inj hN).mp (e1.trans e2.symm)
theorem ya {M:Model} {A:Around} {E:Ac→Af→Prop} {i:Nat} {x:Str} {v:V} {u:Ac} {Q:Unit→Af→Prop} (I:Inv X pins σ H s) (hN:X.N.Nodup) (hi:X.N[i]?=some x) (hx:Loc X.env.scope x) (r:qS v u)
  (h:∀ s',Inv X pins (σ.set i (some v)) H s'→(∃ a,Heap.SameBut a s.heap s'.heap∧(a=X.env.locals∨X.env.cells.lookup x=some a))→Q () s') (hf:X.fn x=true∨X.env.scope.names.lookup x=some .local:=by first | exact .inl rfl | exact .inr rfl | assumption):wpAny M A (storeName X.env x u) Q E s:=by
 obtain ⟨m,hn,hl⟩:=id I.loc;have hcls:(X.env.scope.kind== .class||(X.env.scope.kind== .module&&X.env.locals !=X.env.globals))=false:=by rw [I.ok.kind];rfl
 have hiσ:i<σ.length:=by rw [I.len];exact (C0.mp hi).1
 have cne:=I.cne;have tracked:∀ {a:Ae} {h':Heap},(∃ o,s.heap.get? a=some o∧H a=none)→Heap.SameBut a s.heap h'→HOk X.prog X.w H h':=fun {a h'} ha hs b ob e=>by
  obtain ⟨_,_,hfree⟩:=ha;refine (I.hok b ob e).stay (fun c w' hc q=>(hs.2 c ?_).trans q) (fun _ q=>q) fun _ _ q=>q;rintro rfl;rcases hc with rfl | hc
  ·rw [hfree] at e;cases e
  ·rw [hfree] at hc;cases hc
 rcases hx with hk | hk
 ·refine wpAny_storeName_local hk hn (fun h' hn' hs=>?_) hcls;obtain ⟨oL,_,_,hoL,_⟩:=id hn;refine h _ ⟨I.ok,I.os,I.bare,⟨fun b o e n hb hx=>?_,fun b o e n hb hx=>?_,I.base.free,fun b o e hx=>?_,I.base.tups,I.base.frzs,I.base.tbls⟩,⟨_,hn',fun j y v' e1 e2 e3=>?_⟩,fun y c e=>?_,I.free,I.freeC,fun p hp=>?_,tracked ⟨oL,hoL,I.free⟩ hs,by simpa using I.len⟩ ⟨_,hs,.inl rfl⟩
  ·exact (hs.2 b (Bz (Bv (Bf e) I.ok.above))).trans (I.base.keep b o e n hb hx)
  ·obtain ⟨sl,e1⟩:=I.base.slot b o e n hb hx;exact ⟨sl,(hs.2 b (Bz (Bv (Bf e) I.ok.above))).trans e1⟩
  ·obtain ⟨o',e1⟩:=I.base.there b o e hx;exact ⟨o',(hs.2 b (Bz (Bv (Bf e) I.ok.above))).trans e1⟩
  ·by_cases hj:j=i
   ·subst hj;rw [hi] at e1;cases e1;rw [List.getElem?_set_self hiσ] at e2;cases e2;exact ⟨u,r,.inl ⟨hk,by simp⟩⟩
   ·rw [Ee (Ne.symm hj)] at e2;obtain ⟨u',r',q⟩:=hl j y v' e1 e2 e3;refine ⟨u',r',?_⟩;rcases q with ⟨k,e⟩ | ⟨k,c,e,z⟩
    ·refine .inl ⟨k,?_⟩;have:y≠x:=fun e=>hj (Xx hN e1 (e▸hi));simp [this,e]
    ·exact .inr ⟨k,c,e,z.sameBut hs (cne y c e)⟩
  ·obtain ⟨w',z⟩:=I.cell y c e;exact ⟨w',z.sameBut hs (cne y c e)⟩
  ·obtain ⟨e,n,ne,nf,d⟩:=I.pin p hp;exact ⟨(hs.2 p.1 ne).trans e,n,ne,nf,d⟩
 ·have hfn:X.fn x=true:=by
   rcases hf with z | z
   ·exact z
   ·rw [z] at hk;cases hk
  obtain ⟨c,hc⟩:=I.ok.has x (.inl hk);obtain ⟨w',z⟩:=I.cell x c hc;refine wpAny_storeName_cell I.ok.kind hk hc z (fun h' hc' hs=>?_);obtain ⟨oc,hoc,hocd⟩:=id z;refine h {s with heap:=h'} ⟨I.ok,I.os,I.bare,⟨fun b o e n hb hx=>?_,fun b o e n hb hx=>?_,I.base.free,fun b o e hx=>?_,I.base.tups,I.base.frzs,I.base.tbls⟩,⟨m,hn.sameBut hs (Ne.symm (cne x c hc)),fun j y v' e1 e2 e3=>?_⟩,fun y c' e=>?_,I.free,I.freeC,fun p hp=>?_,tracked ⟨oc,hoc,I.freeC x c hc⟩ hs,by simpa using I.len⟩ ⟨c,hs,.inr hc⟩
  ·exact (hs.2 b (Bz (Bv (Bf e) (I.ok.cab x c hfn hc)))).trans (I.base.keep b o e n hb hx)
  ·obtain ⟨sl,e1⟩:=I.base.slot b o e n hb hx;exact ⟨sl,(hs.2 b (Bz (Bv (Bf e) (I.ok.cab x c hfn hc)))).trans e1⟩
  ·obtain ⟨o',e1⟩:=I.base.there b o e hx;exact ⟨o',(hs.2 b (Bz (Bv (Bf e) (I.ok.cab x c hfn hc)))).trans e1⟩
  ·by_cases hj:j=i
   ·subst hj;rw [hi] at e1;cases e1;rw [List.getElem?_set_self hiσ] at e2;cases e2;exact ⟨u,r,.inr ⟨.inl hk,c,hc,hc'⟩⟩
   ·rw [Ee (Ne.symm hj)] at e2;obtain ⟨u',r',q⟩:=hl j y v' e1 e2 e3;refine ⟨u',r',?_⟩;rcases q with q | ⟨k,c',e,z'⟩
    ·exact .inl q
    ·refine .inr ⟨k,c',e,z'.sameBut hs ?_⟩;rintro rfl;exact hj (Xx hN e1 (I.ok.inj _ _ _ e hc▸hi))
  ·by_cases hcc:c'=c
   ·subst hcc;exact ⟨_,hc'⟩
   ·obtain ⟨w2,z2⟩:=I.cell y c' e;exact ⟨w2,z2.sameBut hs hcc⟩
  ·obtain ⟨e,n,ne,nf,d⟩:=I.pin p hp;refine ⟨(hs.2 p.1 ?_).trans e,n,ne,nf,d⟩;intro q;rw [q,hoc] at e;have q':oc=p.2:=Bg e;exact d w' (by rw [← q'];exact hocd)
theorem VG {M:Model} {A:Around} {E:Ac→Af→Prop} {i:Nat} {x:Str} {v:V} {u:Ac} {Q:Unit→Af→Prop} (I:Inv X pins σ H s) (hN:X.N.Nodup) (hi:X.N[i]?=some x) (hx:Loc X.env.scope x) (r:qS v u)
  (h:∀ s',Inv X pins (σ.set i (some v)) H s'→Q () s') (hf:X.fn x=true∨X.env.scope.names.lookup x=some .local:=by first | exact .inl rfl | exact .inr rfl | assumption):wpAny M A (storeName X.env x u) Q E s:=
 ya I hN hi hx r (fun s' I' _=>h s' I') hf
theorem Inv.call' {s':Af} {ch:List Ae} (I:Inv X pins σ H s) (ho:s'.os=s.os) (u:Un (frs X.stack) ch H H' s.heap s'.heap) (hok:HOk X.prog X.w H' s'.heap) (hg:AllBare s'.gens)
  (hch:∀ b∈ch,(b∈X.ex∨X.s₀.heap.objs.size≤b)∧b≠X.env.locals∧(∀ x c,X.env.cells.lookup x=some c→c≠b)∧∀ p∈X.pn++pins,p.1≠b):Inv X pins σ H' s':=by
 obtain ⟨h',g',d',t',o'⟩:=s';have e:o'=s.os:=ho;subst e;exact I.call (g':=g') (t':=t') (d':=d') u hok hg hch
end
abbrev XK:=Ac→Option Ae→Hp→Prop
abbrev St:=List (Option V)
abbrev VK:=V→Hp→Prop
abbrev TE:=St→Hp→VK→Prop
abbrev TT:=St→Hp→(Bool→Hp→Prop)→Prop
abbrev TA:=St→Hp→(List V→Hp→Prop)→Prop
structure Ends where
 nx:St→Hp→Prop
 rt:VK
 bk:St→Hp→Prop:=fun _ _=>False
 ct:St→Hp→Prop:=fun _ _=>False
abbrev TS:=Ends→St→Hp→Prop
def EP (X:Cx) (pins:List (Ae×Obj)) (σ:St) (Q:VK) (u:Ac) (s':Af):Prop:=∃ v H',Inv X pins σ H' s'∧qS v u∧Q v H'
def TP (X:Cx) (pins:List (Ae×Obj)) (σ:St) (Q:Bool→Hp→Prop) (b:Bool) (s':Af):Prop:=∃ H',Inv X pins σ H' s'∧Q b H'
def AP (X:Cx) (pins:List (Ae×Obj)) (σ:St) (Q:List V→Hp→Prop) (us:List Ac) (s':Af):Prop:=∃ vs H',Inv X pins σ H' s'∧qT vs us∧Q vs H'
def SP (X:Cx) (pins:List (Ae×Obj)) (D:Ends) (f:Flow) (s':Af):Prop:=
 match f with
 | .next=>∃ σ' H',Inv X pins σ' H' s'∧D.nx σ' H'
 | .brk=>∃ σ' H',Inv X pins σ' H' s'∧D.bk σ' H'
 | .cont=>∃ σ' H',Inv X pins σ' H' s'∧D.ct σ' H'
 | .ret u=>∃ v σ' H',Inv X pins σ' H' s'∧qS v u∧D.rt v H'
def PE (X:Cx) (e:Expr) (t:TE):Prop:=
 ∀ (pins:List (Ae×Obj)) (s:Af) (σ:St) (H:Hp) (Q:VK),Inv X pins σ H s→t σ H Q→wpAny (model X.prog X.w) X.A (eval e X.env) (EP X pins σ Q) X.xe s
def PT (X:Cx) (e:Expr) (t:TT):Prop:=
 ∀ (pins:List (Ae×Obj)) (s:Af) (σ:St) (H:Hp) (Q:Bool→Hp→Prop),Inv X pins σ H s→t σ H Q→wpAny (model X.prog X.w) X.A (isTrue e X.env (eval e X.env)) (TP X pins σ Q) X.xe s
def PW (X:Cx) (e:Expr) (t:TT):Prop:=
 ∀ (whole:Sem Ac) (pins:List (Ae×Obj)) (s:Af) (σ:St) (H:Hp) (Q:Bool→Hp→Prop),Inv X pins σ H s→t σ H Q→wpAny (model X.prog X.w) X.A (isTrue e X.env whole) (TP X pins σ Q) X.xe s
theorem PW.pt {X:Cx} {e:Expr} {t:TT} (h:PW X e t):PT X e t:=h _
def PA (X:Cx) (es:List Expr) (t:TA):Prop:=
 ∀ (pos:Pos) (pins:List (Ae×Obj)) (s:Af) (σ:St) (H:Hp) (Q:List V→Hp→Prop),Inv X pins σ H s→t σ H Q→wpAny (model X.prog X.w) X.A (spliced (backTo pos (starEach es X.env))) (AP X pins σ Q) X.xe s
def PS (X:Cx) (st:Stmt) (t:TS):Prop:=
 ∀ (pins:List (Ae×Obj)) (s:Af) (σ:St) (H:Hp) (D:Ends),Inv X pins σ H s→t D σ H→wpAny (model X.prog X.w) X.A (exec st X.env) (SP X pins D) X.xe s
def PSs (X:Cx) (st:List Stmt) (t:TS):Prop:=
 ∀ (pins:List (Ae×Obj)) (s:Af) (σ:St) (H:Hp) (D:Ends),Inv X pins σ H s→t D σ H→wpAny (model X.prog X.w) X.A (execs st X.env) (SP X pins D) X.xe s
theorem thn {α:Type} {t:Sem α} {Q Q':α→Af→Prop} {M:Model} {A:Around} {E:Ac→Af→Prop} {s:Af} (h:wpAny M A t Q E s) (hQ:∀ a s,Q a s→Q' a s):wpAny M A t Q' E s:=Di h hQ fun _ _ x=>x
section
variable {X:Cx}
def qN (i:Nat):TE:=fun σ H Q=>∃ v,σ[i]?=some (some v)∧Q v H
def tC (v:V):TE:=fun _ H Q=>Q v H
theorem qhv {i:Nat} {x:Str} {pos:Pos} (hN:X.N[i]?=some x) (hv:Vis X.env.scope x) (hd:(x==("__debug__":Str))=false:=by decide) (hcd:(x==("__classdict__":Str))=false:=by decide):PE X (.Name x pos) (qN i):=by
 intro pins s σ H Q I h;obtain ⟨v,e,h⟩:=h;obtain ⟨m,hn,hl⟩:=I.loc;obtain ⟨u,r,l⟩:=hl i x v hN e hv;have fin:EP X pins σ Q u s:=⟨v,H,I,r,h⟩;rcases l with ⟨hk,hm⟩ | ⟨hk,c,hc,hcell⟩
 ·exact wpAny_Name (wpAny_loadName_local I.ok.kind hk hn hm fin) hd
 ·rcases hk with hk | hk
  ·exact wpAny_Name (wpAny_loadName_cell I.ok.kind hk hc hcell fin) hd
  ·exact wpAny_Name (wpAny_loadName_free I.ok.kind hk hc hcell fin hcd) hd
theorem qi {i j pos}:PE X (.Constant (.int i) j pos) (tC (.int i)):=fun _ _ _ H _ I h=>wpAny_Constant_int ⟨.int i,H,I.tok _,⟨_,rfl⟩,h⟩
theorem jI {b j pos}:PE X (.Constant (.bool b) j pos) (tC (.bl b)):=fun _ _ _ H _ I h=>Constant_bool ⟨.bl b,H,I,rfl,h⟩
theorem qhw {j pos}:PE X (.Constant .none j pos) (tC .non):=fun _ _ _ H _ I h=>Constant_none ⟨.non,H,I,rfl,h⟩
theorem qg {x j pos}:PE X (.Constant (.str x) j pos) (tC (.str x)):=fun _ _ _ H _ I h=>Calls.Constant_str ⟨.str x,H,I.tok _,⟨_,rfl⟩,h⟩
def Gl (X:Cx) (x:Str):Prop:=X.env.kindOf x=some .globalImplicit
theorem JF {E:Ac→Af→Prop} {pins:List (Ae×Obj)} {s:Af} {σ:St} {H:Hp} {x:Str} {u:Ac} {pos:Pos} {Q:Ac→Af→Prop} (I:Inv X pins σ H s) (hg:Gl X x) (hm:X.mg x=some u) (h:Q u s)
  (hd:(x==("__debug__":Str))=false:=by decide):wpAny (model X.prog X.w) X.A (eval (.Name x pos) X.env) Q E s:=
 Calls.Name_function_global I.ok.kind hg (Calls.loadGlobal_global (by rw [I.ok.glob];exact I.mod.glob.keeps I.bk) hm h) hd
theorem WK {E:Ac→Af→Prop} {pins:List (Ae×Obj)} {s:Af} {σ:St} {H:Hp} {x:Str} {u:Ac} {pos:Pos} {Q:Ac→Af→Prop} (I:Inv X pins σ H s) (hg:Gl X x) (hm:X.mg x=none) (hv:bootBuiltins x=some u) (h:Q u s)
  (hn:x≠"__name__":=by decide) (hd:(x==("__debug__":Str))=false:=by decide):wpAny (model X.prog X.w) X.A (eval (.Name x pos) X.env) Q E s:=by
 obtain ⟨mb,h1,h2⟩:=I.mod.blt;exact Calls.Name_function_global I.ok.kind hg (Calls.loadGlobal_builtin (by rw [I.ok.glob];exact I.mod.glob.keeps I.bk) hm (by rw [I.ok.blt];exact h1.keeps I.bk) ((h2 x hn).trans hv) h) hd
theorem Qr {x:Str} {v:V} {u:Ac} {pos:Pos} (hg:Gl X x) (hm:X.mg x=some u) (r:qS v u) (hd:(x==("__debug__":Str))=false:=by decide):PE X (.Name x pos) (tC v):=
 fun _ _ _ H _ I h=>JF I hg hm ⟨v,H,I,r,h⟩ hd
theorem qfb {x:Str} {v:V} {u:Ac} {pos:Pos} (hg:Gl X x) (hm:X.mg x=none) (hv:bootBuiltins x=some u) (r:qS v u) (hn:x≠"__name__":=by decide) (hd:(x==("__debug__":Str))=false:=by decide):PE X (.Name x pos) (tC v):=
 fun _ _ _ H _ I h=>WK I hg hm hv ⟨v,H,I,r,h⟩ hn hd
variable {a b:Expr} {ta tb:TE} {pos:Pos}
def PC (X:Cx) (op:CmpOp) (a b:Expr) (t:TE):Prop:=
 ∀ (pins:List (Ae×Obj)) (s:Af) (σ:St) (H:Hp) (Q:VK),Inv X pins σ H s→t σ H Q→
  wpAny (model X.prog X.w) X.A (eval a X.env) (fun v s₁=>wpAny (model X.prog X.w) X.A (eval b X.env) (fun u s₂=>wpAny (model X.prog X.w) X.A (compareOp op v u) (EP X pins σ Q) X.xe s₂) X.xe s₁) X.xe s
def tB (t:TE):TT:=fun σ H Q=>t σ H fun x H1=>∃ c,x= .bl c∧Q c H1
theorem qc2 {op:CmpOp} {t:TE} (h:PC X op a b t) (h1:behindInMarks op b=false:=by first | exact nobehind _ O0 O0 | rfl):PT X (.Compare a [op] [b] pos) (tB t):=by
 intro pins s σ H Q I hw;refine wpAny_isTrue_Compare1 (thn (h pins s σ H _ I hw) fun v s1 h1=>thn h1 fun u s2 h2=>thn h2 fun c s3 ⟨x,H1,I1,r1,q1⟩=>?_) h1;obtain ⟨d,rfl,q⟩:=q1;cases r1;exact Cv ⟨H1,I1,q⟩
theorem zS {e:Expr} {t:TE} (h:PE X e t) (he:∀ whole,isTrue e X.env whole=(do let v ← whole;standAt e.pos;holding [v] (truthy v)):=by intro _;rfl):PT X e (tB t):=by
 intro pins s σ H Q I hw;refine isTrue_plain (thn (h pins s σ H _ I hw) fun v s1 ⟨x,H1,I1,r1,q1⟩=>?_) (he _);obtain ⟨d,rfl,q⟩:=q1;cases r1;exact Cv ⟨H1,I1,q⟩
variable {tA tB':TT} {rest:List Expr}
def qjd (t u:TT):TT:=fun σ H Q=>t σ H fun c H1=>if c=true then u σ H1 Q else Q false H1
def tOr (t u:TT):TT:=fun σ H Q=>t σ H fun c H1=>if c=true then Q true H1 else u σ H1 Q
def qi9 (t:TT):TT:=fun σ H Q=>t σ H fun c H1=>Q (!c) H1
theorem JD (ha:PT X a tA):PW X (.BoolOp .And [a] pos) tA:=by
 intro wh pins s σ H Q I h;refine isTrue_and (thn (ha pins s σ H Q I h) fun c s1 e=>?_);cases c with
 | true=>exact isTrue_and_nil e
 | false=>exact e
theorem Jq (ha:PT X a tA):PW X (.BoolOp .Or [a] pos) tA:=by
 intro wh pins s σ H Q I h;refine isTrue_or (thn (ha pins s σ H Q I h) fun c s1 e=>?_);cases c with
 | false=>exact isTrue_or_nil e
 | true=>exact e
theorem vJ (ha:PT X a tA) (hb:PW X (.BoolOp .And (b::rest) pos) tB'):PW X (.BoolOp .And (a::b::rest) pos) (qjd tA tB'):=by
 intro wh pins s σ H Q I h;refine isTrue_and (thn (ha pins s σ H _ I h) fun c s1 ⟨H1,I1,q1⟩=>?_);cases c with
 | true=>exact hb wh pins s1 σ H1 Q I1 q1
 | false=>exact ⟨H1,I1,q1⟩
theorem JT (ha:PT X a tA) (hb:PW X (.BoolOp .Or (b::rest) pos) tB'):PW X (.BoolOp .Or (a::b::rest) pos) (tOr tA tB'):=by
 intro wh pins s σ H Q I h;refine isTrue_or (thn (ha pins s σ H _ I h) fun c s1 ⟨H1,I1,q1⟩=>?_);cases c with
 | true=>exact ⟨H1,I1,q1⟩
 | false=>exact hb wh pins s1 σ H1 Q I1 q1
theorem ju (ha:PT X a tA):PT X (.UnaryOp .Not a pos) (qi9 tA):=by
 intro pins s σ H Q I h;exact isTrue_not (ha pins s σ H (fun c H1=>Q (!c) H1) I h)
def qjc (ta tb:TE):TE:=fun σ H Q=>ta σ H fun x H1=>∃ c,x= .bl c∧if c=true then tb σ H1 Q else Q (.bl false) H1
def tOrV (ta tb:TE):TE:=fun σ H Q=>ta σ H fun x H1=>∃ c,x= .bl c∧if c=true then Q (.bl true) H1 else tb σ H1 Q
def qi8 (ta:TE):TE:=fun σ H Q=>ta σ H fun x H1=>∃ c,x= .bl c∧Q (.bl (!c)) H1
theorem JP {op} {t:TE} (h:PE X a t):PE X (.BoolOp op [a] pos) t:=fun pins s σ H Q I hw=>BoolOp_one (h pins s σ H Q I hw)
theorem Vx (ha:PE X a ta) (hb:PE X (.BoolOp .And (b::rest) pos) tb):PE X (.BoolOp .And (a::b::rest) pos) (qjc ta tb):=by
 intro pins s σ H Q I h;refine BoolOp_and (thn (ha pins s σ H _ I h) fun v s1 ⟨x,H1,I1,r1,q1⟩=>?_);obtain ⟨c,rfl,q1⟩:=q1;cases r1;refine Cv ?_;cases c with
 | true=>exact hb pins s1 σ H1 Q I1 q1
 | false=>exact ⟨.bl false,H1,I1,rfl,q1⟩
theorem Qq (ha:PE X a ta) (hb:PE X (.BoolOp .Or (b::rest) pos) tb):PE X (.BoolOp .Or (a::b::rest) pos) (tOrV ta tb):=by
 intro pins s σ H Q I h;refine BoolOp_or (thn (ha pins s σ H _ I h) fun v s1 ⟨x,H1,I1,r1,q1⟩=>?_);obtain ⟨c,rfl,q1⟩:=q1;cases r1;refine Cv ?_;cases c with
 | false=>exact hb pins s1 σ H1 Q I1 q1
 | true=>exact ⟨.bl true,H1,I1,rfl,q1⟩
theorem qda (ha:PE X a ta):PE X (.UnaryOp .Not a pos) (qi8 ta):=by
 intro pins s σ H Q I h;refine UnaryOp_ (thn (ha pins s σ H _ I h) fun v s1 ⟨x,H1,I1,r1,q1⟩=>?_);obtain ⟨c,rfl,q1⟩:=q1;cases r1;exact not_of (Cv ⟨.bl (!c),H1,I1,rfl,q1⟩)
def tIf (t:TT) (ta tb:TE):TE:=fun σ H Q=>t σ H fun c H1=>if c=true then ta σ H1 Q else tb σ H1 Q
theorem VL {c:Expr} (hc:PT X c tA) (ha:PE X a ta) (hb:PE X b tb):PE X (.IfExp c a b pos) (tIf tA ta tb):=by
 intro pins s σ H Q I h;refine wpAny_IfExp (thn (hc pins s σ H _ I h) fun d s1 ⟨H1,I1,q1⟩=>?_);cases d with
 | true=>exact ha pins s1 σ H1 Q I1 q1
 | false=>exact hb pins s1 σ H1 Q I1 q1
end
def SqL (K:Frag) (H:Hp) (a:Ae) (xs:List V):Prop:=
 Rd H a (.lst xs)∨
  ∃ (o:Obj) (its:Array Ac) (n:Nat),K.lookup a=some o∧o.cls= .type "list"∧o.dict=none∧o.data= .seq its n∧its.size≤Ag∧qT xs its.toList
def SqT (K:Frag) (H:Hp) (a:Ae) (xs:List V):Prop:=
 Rd H a (.tup xs)∨
  ∃ (o:Obj) (its:Array Ac) (n:Nat),K.lookup a=some o∧o.cls= .type "tuple"∧o.data= .seq its n∧its.size≤Ag∧qT xs its.toList
def absV:Ac→Option V
 | .none=>some .non
 | .bool b=>some (.bl b)
 | .int i _=>some (.int i)
 | .str x _=>some (.str x)
 | .bytes b _=>some (.byt b)
 | .float b _=>some (.flt b)
 | .ref a=>some (.ref a)
 | .type n=>some (.ty n)
 | _=>none
theorem qS.abs {x:V} {u:Ac} (r:qS x u):absV u=some x:=by
 cases x with
 | non=>cases r;rfl
 | bl _=>cases r;rfl
 | int _=>obtain ⟨t,rfl⟩:=r;rfl
 | str _=>obtain ⟨t,rfl⟩:=r;rfl
 | byt _=>obtain ⟨t,rfl⟩:=r;rfl
 | flt _=>obtain ⟨t,rfl⟩:=r;rfl
 | ref _=>cases r;rfl
 | ty _=>cases r;rfl
theorem qS.inj {x y:V} {u:Ac} (r:qS x u) (q:qS y u):x=y:=Bg (r.abs.symm.trans q.abs)
theorem qT.inj:∀ {xs ys:List V} {us:List Ac},qT xs us→qT ys us→xs=ys
 | _,_,_,.nil,.nil=>rfl
 | _,_,_,.cons r t,.cons r' t'=>by rw [r.inj r',qT.inj t t']
section
variable {X:Cx} {pins:List (Ae×Obj)} {σ:St} {H:Hp} {s:Af} {a:Ae} {xs ys:List V}
theorem SqL.of {K:Frag} (h:H a=some (.lst xs)):SqL K H a xs:= .inl (.inl h)
theorem SqT.of {K:Frag} (h:H a=some (.tup xs)):SqT K H a xs:= .inl (.inl h)
theorem Inv.list (I:Inv X pins σ H s) (h:SqL X.K H a xs):∃ its:List Ac,qT xs its∧PlainL s.heap a its.toArray∧xs.length≤Ag:=by
 rcases h with h | ⟨o,its,n,hk,hc,hd,hs,hz,r⟩
 ·obtain ⟨z,its,n,r,e⟩:=h.ok I.hok;exact ⟨its,r,⟨_,n,e,rfl,rfl,rfl⟩,z⟩
 ·refine ⟨its.toList,r,⟨o,n,I.kIn a o hk,hc,hd,by simpa using hs⟩,?_⟩
  have e:=r.length;simp only [Bh] at e;omega
theorem Inv.tuple (I:Inv X pins σ H s) (h:SqT X.K H a xs):∃ its:List Ac,qT xs its∧IsTup s.heap a its.toArray∧xs.length≤Ag:=by
 rcases h with h | ⟨o,its,n,hk,hc,hs,hz,r⟩
 ·obtain ⟨z,its,r,p⟩:=h.ok I.hok;exact ⟨its,r,p,z⟩
 ·refine ⟨its.toList,r,⟨o,I.kIn a o hk,hc,n,by simpa using hs⟩,?_⟩
  have e:=r.length;simp only [Bh] at e;omega
theorem Inv.list_inj (I:Inv X pins σ H s) (h:SqL X.K H a xs) (h':SqL X.K H a ys):xs=ys:=by
 obtain ⟨its,r,⟨o,n,e,_,_,d⟩,_⟩:=I.list h;obtain ⟨its',r',⟨o',n',e',_,_,d'⟩,_⟩:=I.list h';rw [e] at e';cases e';rw [d] at d';injection d' with d1 _
 have:its=its':=by simpa using congrArg Array.toList d1
 subst this;exact r.inj r'
theorem Inv.tuple_inj (I:Inv X pins σ H s) (h:SqT X.K H a xs) (h':SqT X.K H a ys):xs=ys:=by
 obtain ⟨its,r,⟨o,e,_,n,d⟩,_⟩:=I.tuple h;obtain ⟨its',r',⟨o',e',_,n',d'⟩,_⟩:=I.tuple h';rw [e] at e';cases e';rw [d] at d';injection d' with d1 _
 have:its=its':=by simpa using congrArg Array.toList d1
 subst this;exact r.inj r'
end
abbrev Cx.wish (X:Cx) (E:Ac→Af→Prop):Cx:={X with xe:=E}
abbrev Cx.nox (X:Cx):Cx:=X.wish fun _ _=>False
theorem Cx.Ok.wish {X:Cx} (ok:X.Ok) (E:Ac→Af→Prop):(X.wish E).Ok:=
 ⟨ok.mod,ok.kind,ok.glob,ok.blt,ok.above,ok.inj,ok.has,ok.cab,ok.hd,ok.frames,ok.stk,ok.exf,ok.bs,ok.bsz,ok.noex,ok.exfs,ok.funs,ok.frf⟩
theorem Cx.Ok.unwish {X:Cx} {E:Ac→Af→Prop} (ok:(X.wish E).Ok):X.Ok:=
 ⟨ok.mod,ok.kind,ok.glob,ok.blt,ok.above,ok.inj,ok.has,ok.cab,ok.hd,ok.frames,ok.stk,ok.exf,ok.bs,ok.bsz,ok.noex,ok.exfs,ok.funs,ok.frf⟩
section
variable {X:Cx} {pins:List (Ae×Obj)} {σ:St} {H:Hp} {s:Af} {E:Ac→Af→Prop}
theorem Inv.wish (I:Inv X pins σ H s) (E:Ac→Af→Prop):Inv (X.wish E) pins σ H s:=⟨I.ok.wish E,I.os,I.bare,I.base,I.loc,I.cell,I.free,I.freeC,I.pin,I.hok,I.len⟩
theorem Inv.unwish (I:Inv (X.wish E) pins σ H s):Inv X pins σ H s:=⟨I.ok.unwish,I.os,I.bare,I.base,I.loc,I.cell,I.free,I.freeC,I.pin,I.hok,I.len⟩
theorem SP.unwish {D:Ends} {f:Flow} {s':Af} (h:SP (X.wish E) pins D f s'):SP X pins D f s':=by
 cases f with
 | next=>obtain ⟨σ',H',I,q⟩:=h;exact ⟨σ',H',I.unwish,q⟩
 | brk=>obtain ⟨σ',H',I,q⟩:=h;exact ⟨σ',H',I.unwish,q⟩
 | cont=>obtain ⟨σ',H',I,q⟩:=h;exact ⟨σ',H',I.unwish,q⟩
 | ret u=>obtain ⟨v,σ',H',I,r,q⟩:=h;exact ⟨v,σ',H',I.unwish,r,q⟩
theorem PSs.nox {st:List Stmt} {t:TS} (h:PSs X.nox st t):PSs X st t:=fun pins s σ H D I hw=>
 Di (h pins s σ H D (I.wish _) hw) (fun _ _ q=>q.unwish) fun _ _ z=>False.elim z
end
section
variable {X:Cx} {st:Stmt} {rest:List Stmt} {t u:TS} {e:Expr} {te:TE} {pos:Pos}
def vq:TS:=fun D σ H=>D.nx σ H
def jO (t u:TS):TS:=fun D σ H=>t {D with nx:=u D} σ H
theorem qB:PSs X [] vq:=fun _ _ σ H _ I h=>wpAny_execs_nil ⟨σ,H,I,h⟩
theorem qh (h1:PS X st t) (h2:PSs X rest u):PSs X (st::rest) (jO t u):=by
 intro pins s σ H D I h;refine wpAny_execs_cons (thn (h1 pins s σ H {D with nx:=u D} I h) fun f s1 q=>?_)
 cases f with
 | next=>
  obtain ⟨σ',H',I',q⟩:=q;exact h2 pins s1 σ' H' D I' q
 | ret v=>exact q
 | brk=>exact q
 | cont=>exact q
theorem ql (h1:PS X st t):PSs X [st] t:=by
 intro pins s σ H D I h;refine wpAny_execs_cons (thn (h1 pins s σ H D I h) fun f s1 q=>?_);cases f with
 | next=>exact wpAny_execs_nil q
 | ret v=>exact q
 | brk=>exact q
 | cont=>exact q
theorem Inv.quiet {pins:List (Ae×Obj)} {σ:St} {H:Hp} {s:Af} (I:Inv X pins σ H s):interactive X.env=false:=by simp [interactive,I.ok.kind]
def qgo (te:TE):TS:=fun D σ H=>te σ H fun _ H1=>D.nx σ H1
theorem jk (he:PE X e te) (hs:swapsWith e none pos.line X.env=pure false:=by rfl):PS X (.Expr e pos) (qgo te):=by
 intro pins s σ H D I h;exact wpAny_Expr_any (thn (he pins s σ H _ I h) fun v s1 ⟨x,H1,I1,r1,q1⟩=>⟨σ,H1,I1,q1⟩) I.quiet hs
def J3 (te:TE):TS:=fun D σ H=>te σ H D.rt
theorem qx (he:PE X e te):PS X (.Return (some e) pos) (J3 te):=by
 intro pins s σ H D I h;exact wpAny_Return_some (thn (he pins s σ H _ I h) fun v s1 ⟨x,H1,I1,r1,q1⟩=>⟨x,σ,H1,I1,r1,q1⟩)
def Vg (c:TT) (t u:TS):TS:=fun D σ H=>c σ H fun b H1=>if b=true then t D σ H1 else u D σ H1
theorem qJ {c:Expr} {a b:List Stmt} {tc:TT} (hc:PT X c tc) (ha:PSs X a t) (hb:PSs X b u):PS X (.If c a b pos) (Vg tc t u):=by
 intro pins s σ H D I h;refine wpAny_If (thn (hc pins s σ H _ I h) fun d s1 ⟨H1,I1,q1⟩=>?_);cases d with
 | true=>exact ha pins s1 σ H1 D I1 q1
 | false=>exact hb pins s1 σ H1 D I1 q1
end
abbrev TG:=V→St→Hp→(St→Hp→Prop)→Prop
abbrev TGs:=List V→St→Hp→(St→Hp→Prop)→Prop
def PG (X:Cx) (target:Expr) (t:TG):Prop:=
 ∀ (pins:List (Ae×Obj)) (s:Af) (σ:St) (H:Hp) (v:V) (u:Ac) (Q:St→Hp→Prop),Inv X pins σ H s→qS v u→t v σ H Q→
  wpAny (model X.prog X.w) X.A (assign target X.env u) (fun _ s'=>∃ σ' H',Inv X pins σ' H' s'∧Q σ' H') X.xe s
def PGs (X:Cx) (ts:List Expr) (t:TGs):Prop:=
 ∀ (pins:List (Ae×Obj)) (s:Af) (σ:St) (H:Hp) (vs:List V) (us:List Ac) (Q:St→Hp→Prop),Inv X pins σ H s→qT vs us→t vs σ H Q→
  wpAny (model X.prog X.w) X.A (assignInOrder ((assignEach ts X.env).map (·.2)) us) (fun _ s'=>∃ σ' H',Inv X pins σ' H' s'∧Q σ' H') X.xe s
abbrev qi1:=V→V→V→Hp→(Hp→Prop)→Prop
def qkq (X:Cx) (t:qi1):Prop:=
 ∀ (pins:List (Ae×Obj)) (s:Af) (σ:St) (H:Hp) (o i v:V) (ov iv u:Ac) (Q:Hp→Prop),Inv X pins σ H s→qS o ov→qS i iv→qS v u→t o i v H Q→
  wpAny (model X.prog X.w) X.A (setItem ov iv u) (fun _ s'=>∃ H',Inv X pins σ H' s'∧Q H') X.xe s
abbrev TIp:=V→V→Hp→VK→Prop
def PIp (X:Cx) (op:Operator) (t:TIp):Prop:=
 ∀ (pins:List (Ae×Obj)) (s:Af) (σ:St) (H:Hp) (x y:V) (v u:Ac) (Q:VK),Inv X pins σ H s→qS x v→qS y u→t x y H Q→
  wpAny (model X.prog X.w) X.A (inplaceOp op v u) (EP X pins σ Q) X.xe s
section
variable {X:Cx} {pos:Pos}
def zD (i:Nat):TG:=fun v σ H Q=>Q (σ.set i (some v)) H
theorem zK {i:Nat} {x:Str} (hN:X.N.Nodup) (hi:X.N[i]?=some x) (hx:Loc X.env.scope x) (hf:X.fn x=true∨X.env.scope.names.lookup x=some .local:=by first | exact .inl rfl | exact .inr rfl | assumption):PG X (.Name x pos) (zD i):=by
 intro pins s σ H v u Q I r h;exact wpAny_assign_Name (VG I hN hi hx r (fun s' I'=>⟨_,H,I',h⟩) hf)
def qim:TGs:=fun vs σ H Q=>vs=[]∧Q σ H
def XM (t:TG) (u:TGs):TGs:=fun vs σ H Q=>∃ v r,vs=v::r∧t v σ H fun σ' H'=>u r σ' H' Q
theorem wW:PGs X [] qim:=by
 intro pins s σ H vs us Q I r h;obtain ⟨e,h⟩:=h;subst e;cases r;exact assignInOrder_nil ⟨σ,H,I,h⟩
theorem jH {e:Expr} {es:List Expr} {t:TG} {u:TGs} (h1:PG X e t) (h2:PGs X es u)
  (hs:(assignEach (e::es) X.env).map (·.2)=assign e X.env::(assignEach es X.env).map (·.2):=by rfl):PGs X (e::es) (XM t u):=by
 intro pins s σ H vs us Q I r h;obtain ⟨v,vr,e1,h⟩:=h;subst e1;cases r with
 | cons r rr=>
  rw [hs];refine assignInOrder_cons (thn (h1 pins s σ H _ _ _ I r h) fun _ s1 ⟨σ1,H1,I1,q1⟩=>?_);exact h2 pins s1 σ1 H1 _ _ Q I1 rr q1
def qf3 (K:Frag) (n:Nat) (t:TGs):TG:=fun v σ H Q=>∃ a xs,v= .ref a∧SqT K H a xs∧xs.length=n∧t xs σ H Q
theorem qht {es:List Expr} {k:Nat} {t:TGs} {n:Nat} (hc:X.calm=true) (h:PGs X es t)
  (hn:(assignEach es X.env).length=n:=by rfl) (hst:(assignEach es X.env).findIdx? (·.1)=none:=by rfl):PG X (.Tuple es k pos) (qf3 X.K n t):=by
 intro pins s σ H v u Q I r hw;obtain ⟨a,xs,e1,hq,hl,hw⟩:=hw;subst e1;cases r;obtain ⟨its,rv,ht,hz⟩:=I.tuple hq;refine assign_Tuple_tuple (I.ok.hd hc) ht (by simp [hn,← hl,rv.length]) hst fun h' hx=>?_
 have I1:Inv X pins σ H {s with heap:=h'}:=I.kept (t':=s.toks) fun b o e=>hx b o (Bz (Bf e)) e
 exact h pins _ σ H xs _ Q I1 (by simpa using rv) hw
def gSub (to ti:TE) (t:qi1):TG:=fun v σ H Q=>to σ H fun o H1=>ti σ H1 fun i H2=>t o i v H2 fun H3=>Q σ H3
theorem qhu {o i:Expr} {to ti:TE} {t:qi1} (ho:PE X o to) (hi:PE X i ti) (hs:qkq X t)
  (ha:∀ v,assign (.Subscript o i pos) X.env v=(do
   let ov ← holding [v] (eval o X.env)
   let iv ← holding [v,ov] (eval i X.env)
   standAt pos
   holding [v,ov,iv] (setItem ov iv v)
   release [v,ov,iv] []):=by intro _;rfl):PG X (.Subscript o i pos) (gSub to ti t):=by
 intro pins s σ H v u Q I r h;rw [ha];refine An (Ds (thn (ho pins s σ H _ I h) fun ov s1 ⟨x,H1,I1,r1,q1⟩=>?_));refine An (Ds (thn (hi pins s1 σ H1 _ I1 q1) fun iv s2 ⟨y,H2,I2,r2,q2⟩=>?_));refine An (wpAny_standAt (An (Ds (thn (hs pins s2 σ H2 x y v ov iv u _ I2 r1 r2 r q2) fun _ s3 ⟨H3,I3,q3⟩=>?_))));exact wpAny_release ⟨σ,H3,I3,q3⟩
def vz (te:TE) (g:TG):TS:=fun D σ H=>te σ H fun x H1=>g x σ H1 D.nx
theorem qhr {tg e:Expr} {te:TE} {g:TG} (he:PE X e te) (hg:PG X tg g) (hs:swapsWithSole [tg] e pos.line X.env=pure false:=by rfl) (hw:swappedStores [tg] e X.env=pure none:=by rfl)
  (h1:(assignEach [tg] X.env).map (·.2)=[assign tg X.env]:=by rfl):PS X (.Assign [tg] e pos) (vz te g):=by
 intro pins s σ H D I h;refine wpAny_Assign_stores (thn (he pins s σ H _ I h) fun v s1 ⟨x,H1,I1,r1,q1⟩=>?_) hs hw;rw [h1];exact thn (hg pins s1 σ H1 x v _ I1 r1 q1) fun _ s2 q=>q
theorem qhq {i:Nat} {x:Str} {e:Expr} {te:TE} {pos':Pos} (hN:X.N.Nodup) (hi:X.N[i]?=some x) (hx:Loc X.env.scope x) (he:PE X e te) (hs:swapsWith e (some (.Name x pos')) pos.line X.env=pure false:=by rfl) (hf:X.fn x=true∨X.env.scope.names.lookup x=some .local:=by first | exact .inl rfl | exact .inr rfl | assumption):
  PS X (.Assign [.Name x pos'] e pos) (vz te (zD i)):=by
 intro pins s σ H D I h;refine wpAny_Assign_Name (thn (he pins s σ H _ I h) fun v s1 ⟨y,H1,I1,r1,q1⟩=>?_) hs;exact VG I1 hN hi hx r1 (fun s2 I2=>⟨_,H1,I2,q1⟩) hf
def tAug (i:Nat) (te:TE) (ti:TIp):TS:=fun D σ H=>∃ x,σ[i]?=some (some x)∧te σ H fun y H1=>ti x y H1 fun z H2=>D.nx (σ.set i (some z)) H2
theorem qc7 {i:Nat} {x:Str} {e:Expr} {te:TE} {op:Operator} {ti:TIp} {pos':Pos} (hN:X.N.Nodup) (hi:X.N[i]?=some x) (hx:Loc X.env.scope x) (he:PE X e te) (ho:PIp X op ti) (hf:X.fn x=true∨X.env.scope.names.lookup x=some .local:=by first | exact .inl rfl | exact .inr rfl | assumption):
  PS X (.AugAssign (.Name x pos') op e pos) (tAug i te ti):=by
 intro pins s σ H D I h;obtain ⟨v,e1,h⟩:=h;obtain ⟨m,hn,hl⟩:=I.loc;have vis:Vis X.env.scope x:=by rcases hx with k | k;exact .inl k;exact .inr (.inl k)
 obtain ⟨u,r,l⟩:=hl i x v hi e1 vis;refine wpAny_AugAssign_Name ?_;have go:wpAny (model X.prog X.w) X.A (eval e X.env) (fun w s₂=>wpAny (model X.prog X.w) X.A (inplaceOp op u w) (fun r s₃=>wpAny (model X.prog X.w) X.A (storeName X.env x r) (fun _=>SP X pins D .next) X.xe s₃) X.xe s₂) X.xe s:=by
  refine thn (he pins s σ H _ I h) fun w s1 ⟨y,H1,I1,r1,q1⟩=>?_;refine thn (ho pins s1 σ H1 v y u w _ I1 r r1 q1) fun z s2 ⟨zv,H2,I2,r2,q2⟩=>?_;exact VG I2 hN hi hx r2 (fun s3 I3=>⟨_,H2,I3,q2⟩) hf
 rcases l with ⟨hk,hm⟩ | ⟨hk,c,hc,hcell⟩
 ·exact wpAny_loadName_local I.ok.kind hk hn hm go
 ·rcases hk with hk | hk
  ·exact wpAny_loadName_cell I.ok.kind hk hc hcell go
  ·rcases hx with k | k
   ·have:X.env.scope.names.lookup x=some .free:=hk;rw [k] at this;cases this
   ·have:X.env.scope.names.lookup x=some .free:=hk;rw [k] at this;cases this
def ipI (f:Int→Int→Int):TIp:=fun x y H Q=>∃ i j,x= .int i∧y= .int j∧Q (.int (f i j)) H
theorem qdv:PIp X .Add (ipI fun i j=>i+j):=by
 intro pins s σ H x y v u Q I r1 r2 h;obtain ⟨i,j,e1,e2,q⟩:=h;subst e1;subst e2;obtain ⟨t,rfl⟩:=r1;obtain ⟨t',rfl⟩:=r2;exact iadd_int ⟨.int _,H,I.tok _,⟨_,rfl⟩,q⟩
end
section
variable {X:Cx} {pos:Pos}
def qg6 (c:TT) (tb:TS):TS:=fun D σ H=>∃ W:Nat→St→Hp→Prop,(∃ m,W m σ H)∧∀ m σ H,W m σ H→
 c σ H fun b H1=>if b=true then ∃ N:St→Hp→Prop,(∀ σ' H',N σ' H'→∃ m',m'<m∧W m' σ' H')∧tb {D with nx:=N,ct:=N,bk:=D.nx} σ H1 else D.nx σ H1
theorem Wv {c:Expr} {body:List Stmt} {tc:TT} {tb:TS} (hp:PassesOwn (model X.prog X.w) X.A X.env X.xe) (hc:PT X c tc) (hb:PSs X body tb):PS X (.While c body [] pos) (qg6 tc tb):=by
 intro pins s σ H D I h;obtain ⟨W,⟨m0,w0⟩,turn⟩:=h;refine wpAny_While (codeAny_whileLoop (fun n s'=>∃ σ' H',Inv X pins σ' H' s'∧W n σ' H') ?_ m0 ⟨σ,H,I,w0⟩);rintro n s1 ⟨σ1,H1,I1,w1⟩;refine Eb hp (thn (hc pins s1 σ1 H1 _ I1 (turn n σ1 H1 w1)) fun b s2 ⟨H2,I2,q2⟩=>?_);cases b with
 | true=>
  obtain ⟨N,hN,q2⟩:=q2;rw [if_pos rfl];refine Eb hp (thn (hb pins s2 σ1 H2 _ I2 q2) fun f s3 q3=>?_);cases f with
  | next=>
   obtain ⟨σ3,H3,I3,n3⟩:=q3;obtain ⟨m',hm,w3⟩:=hN σ3 H3 n3;exact ⟨m',hm,σ3,H3,I3,w3⟩
  | cont=>
   obtain ⟨σ3,H3,I3,n3⟩:=q3;obtain ⟨m',hm,w3⟩:=hN σ3 H3 n3;exact ⟨m',hm,σ3,H3,I3,w3⟩
  | brk=>exact q3
  | ret v=>exact q3
 | false=>
  rw [if_neg Ai];exact wpAny_execs_nil ⟨σ1,H2,I2,q2⟩
end
structure It where
 go:Nat→Hp→Prop
 yld:Nat→Hp→V→Hp→Prop
 stop:Nat→Hp→Prop
def VY (X:Cx) (pins:List (Ae×Obj)) (H:Hp) (b:Ae):Prop:=
 H b=none∧b≠X.env.locals∧b∉X.fs∧(b∈X.ex∨X.s₀.heap.objs.size≤b)∧(∀ x c,X.env.cells.lookup x=some c→c≠b)∧∀ p∈X.pn++pins,p.1≠b
theorem Inv.fpOk {X:Cx} {pins:List (Ae×Obj)} {σ:St} {H H':Hp} {s:Af} {b:Ae} (I:Inv X pins σ H s) (hb:s.heap.objs.size≤b) (hn:H' b=none):VY X pins H' b:=by
 refine ⟨hn,Fe (Bv I.lt hb),I.nofs hb,.inr (Ar I.sz hb),fun x c e z=>?_,fun p hp z=>?_⟩
 ·obtain ⟨v,q⟩:=I.cell x c e;exact absurd (Bv q.lt (by rw [z];exact hb)) (Ec _)
 ·exact absurd (Bv (Bf (I.pin p hp).1) (by rw [z];exact hb)) (Ec _)
structure Turn (P:Program) (w:World) (K:Frag) (tg:Expr) (J:It) (fp:List Ae) (it:Ae) (tn:Nat→Heap→Prop):Prop where
 mem:it∈fp
 obj:∀ i h,tn i h→∀ b∈fp,∃ o,h.get? b=some o∧∀ v,o.data≠ .cell v
 keep:∀ i h h',tn i h→(∀ b∈fp,∀ o,h.get? b=some o→h'.get? b=some o)→tn i h'
 item:∀ (X:Cx),X.prog=P→X.w=w→X.K=K→X.calm=true→∀ (i:Nat) (pins:List (Ae×Obj)) (s:Af) (σ:St) (H:Hp) (E:Ac→Af→Prop),Inv X pins σ H s→(∀ b∈fp,VY X pins H b)→tn i s.heap→J.go i H→
  wpAny (model P w) X.A (pyNext (.ref it)) (fun r s1=>∃ u,r=some u∧
   wpAny (model P w) X.A (letOwnedTupleGo tg (.ref it) u) (fun _ s2=>∃ x H',Inv X pins σ H' s2∧qS x u∧J.yld i H x H'∧tn (i+1) s2.heap∧∀ b∈fp,H' b=none) E s1) E s
 done:∀ (X:Cx),X.prog=P→X.w=w→X.K=K→X.calm=true→∀ (i:Nat) (pins:List (Ae×Obj)) (s:Af) (σ:St) (H:Hp) (E:Ac→Af→Prop),Inv X pins σ H s→(∀ b∈fp,VY X pins H b)→tn i s.heap→J.stop i H→
  wpAny (model P w) X.A (pyNext (.ref it)) (fun r s1=>r=none∧Inv X pins σ H s1) E s
 self:∀ (A:Around) (i:Nat) (s:Af) (Q:Ac→Af→Prop) (E:Ac→Af→Prop),tn i s.heap→Q (.ref it) s→wpAny (model P w) A (pyIter (.ref it)) Q E s
abbrev TI:=St→Hp→(It→Hp→Prop)→Prop
def PIE (X:Cx) (pins:List (Ae×Obj)) (σ:St) (tg:Expr) (R:It→Hp→Prop) (itv:Ac) (s2:Af):Prop:=
 ∃ (it:Ae) (fp:List Ae) (tn:Nat→Heap→Prop) (J:It) (H':Hp),itv= .ref it∧Inv X pins σ H' s2∧Turn X.prog X.w X.K tg J fp it tn∧tn 0 s2.heap∧(∀ b∈fp,VY X pins H' b)∧R J H'
def PI (X:Cx) (tg iter:Expr) (wi:TI):Prop:=
 ∀ (pins:List (Ae×Obj)) (s:Af) (σ:St) (H:Hp) (R:It→Hp→Prop),Inv X pins σ H s→wi σ H R→
  wpAny (model X.prog X.w) X.A (eval iter X.env) (fun v s1=>wpAny (model X.prog X.w) X.A (pyIter v) (PIE X pins σ tg R) X.xe s1) X.xe s
theorem QI {M:Model} {A:Around} {E:Ac→Af→Prop} {s:Af} {tg:Expr} {it:Ae} {u:Ac} {o:Obj} {n:String} {vs:Array Ac} {Q:Unit→Af→Prop} (ho:s.heap.get? it=some o) (hc:o.cls= .type n) (hd:o.data= .fields vs)
  (hn:["enumerate","zip","dict_itemiterator","dict_reverseitemiterator","odict_iterator","itertools.zip_longest","itertools.pairwise"].contains n=false) (hQ:Q () s):wpAny M A (letOwnedTupleGo tg (.ref it) u) Q E s:=by
 unfold letOwnedTupleGo;cases tg <;> first
  | exact A9 hQ
  | (cases u <;> first
    | exact A9 hQ
    | (refine An (wpAny_load ho ?_)
       rw [hc,hd];show wpAny M A (if (["enumerate","zip","dict_itemiterator","dict_reverseitemiterator","odict_iterator","itertools.zip_longest","itertools.pairwise"].contains n&&vs[0]?==some (rawInt _))=true then _ else _) Q E s
       rw [if_neg (by intro h;rw [hn,B1] at h;cases h)]
       exact A9 hQ))
def Itl (K:Frag) (a:Ae):It:=
 ⟨fun i H=>∃ xs x,SqL K H a xs∧xs[i]?=some x,fun i H x H'=>H'=H∧∀ xs,SqL K H a xs→xs[i]?=some x,fun i H=>∃ xs,SqL K H a xs∧xs.length≤i⟩
def Itt (K:Frag) (a:Ae):It:=
 ⟨fun i H=>∃ xs x,SqT K H a xs∧xs[i]?=some x,fun i H x H'=>H'=H∧∀ xs,SqT K H a xs→xs[i]?=some x,fun i H=>∃ xs,SqT K H a xs∧xs.length≤i⟩
def Itr (lo:Int) (n:Nat):It:=⟨fun i _=>i<n,fun i H x H'=>H'=H∧x= .int (lo+i),fun i _=>n≤i⟩
theorem QZ {P:Program} {w:World} {K:Frag} {tg:Expr} (a it:Ae):Turn P w K tg (Itl K a) [it] it (fun i h=>h.IsListIter it a i) where
 mem:=by simp
 obj:=fun i h st b hb=>by
  have e:b=it:=by simpa using hb
  subst e;obtain ⟨o,e,c,d⟩:=st;exact ⟨o,e,fun v z=>by rw [d] at z;cases z⟩
 keep:=fun i h h' st k=>st.at fun o e=>k it (by simp) o e
 item:=by
  intro X hP hw hK hc i pins s σ H E I hf st hg;subst hP hw hK;obtain ⟨xs,x,hq,hx⟩:=hg;obtain ⟨its,rv,p,hz⟩:=I.list hq;obtain ⟨u,hu,ru⟩:=rv.get hx;obtain ⟨f0,f1,f2,f3,f4,f5⟩:=hf it (by simp)
  refine wpAny_pyNext_list_item st p.isList (x:=u) (by simpa using hu) fun h' st' sb=>?_
  have I1:Inv X pins σ H {s with heap:=h'}:=I.turned (t':=s.toks) (fun b o hb e=>(sb.2 b hb).trans e) f0 f1 f3 f4 f5
  obtain ⟨o,e,c,d⟩:=id st';exact ⟨u,rfl,QI (s:={s with heap:=h'}) e c d O0 ⟨x,H,I1,ru,⟨rfl,fun ys hy=>by rw [I.list_inj hy hq];exact hx⟩,st',fun b hb=>(hf b hb).1⟩⟩
 done:=by
  intro X hP hw hK hc i pins s σ H E I hf st hg;subst hP hw hK;obtain ⟨xs,hq,hx⟩:=hg;obtain ⟨its,rv,p,hz⟩:=I.list hq;obtain ⟨f0,f1,f2,f3,f4,f5⟩:=hf it (by simp)
  have hl:=rv.length;exact wpAny_pyNext_list_end (I.ok.hd hc) st p.isList (by simp;omega) fun h' eb=>⟨rfl,I.turned (t':=s.toks) (fun b o hb e=>eb b o hb e) f0 f1 f3 f4 f5⟩
 self:=fun _ _ _ _ _ st h=>wpAny_pyIter_listiter st h
theorem X7 {P:Program} {w:World} {K:Frag} {tg:Expr} (a it:Ae):Turn P w K tg (Itt K a) [it] it (fun i h=>h.IsTupleIter it a i) where
 mem:=by simp
 obj:=fun i h st b hb=>by
  have e:b=it:=by simpa using hb
  subst e;obtain ⟨o,e,c,d⟩:=st;exact ⟨o,e,fun v z=>by rw [d] at z;cases z⟩
 keep:=fun i h h' st k=>st.at fun o e=>k it (by simp) o e
 item:=by
  intro X hP hw hK hc i pins s σ H E I hf st hg;subst hP hw hK;obtain ⟨xs,x,hq,hx⟩:=hg;obtain ⟨its,rv,p,hz⟩:=I.tuple hq;obtain ⟨u,hu,ru⟩:=rv.get hx;obtain ⟨f0,f1,f2,f3,f4,f5⟩:=hf it (by simp)
  refine wpAny_pyNext_tuple_item st (show s.heap.IsTuple a its.toArray from p) (x:=u) (by simpa using hu) fun h' st' sb=>?_
  have I1:Inv X pins σ H {s with heap:=h'}:=I.turned (t':=s.toks) (fun b o hb e=>(sb.2 b hb).trans e) f0 f1 f3 f4 f5
  obtain ⟨o,e,c,d⟩:=id st';exact ⟨u,rfl,QI (s:={s with heap:=h'}) e c d O0 ⟨x,H,I1,ru,⟨rfl,fun ys hy=>by rw [I.tuple_inj hy hq];exact hx⟩,st',fun b hb=>(hf b hb).1⟩⟩
 done:=by
  intro X hP hw hK hc i pins s σ H E I hf st hg;subst hP hw hK;obtain ⟨xs,hq,hx⟩:=hg;obtain ⟨its,rv,p,hz⟩:=I.tuple hq;obtain ⟨f0,f1,f2,f3,f4,f5⟩:=hf it (by simp)
  have hl:=rv.length;exact wpAny_pyNext_tuple_end (I.ok.hd hc) st (show s.heap.IsTuple a its.toArray from p) (by simp;omega) fun h' eb=>⟨rfl,I.turned (t':=s.toks) (fun b o hb e=>eb b o hb e) f0 f1 f3 f4 f5⟩
 self:=fun _ _ _ _ _ st h=>wpAny_pyIter_tupleiter st h
theorem X8 {P:Program} {w:World} {K:Frag} {tg:Expr} (it:Ae) (lo:Int) (n:Nat):Turn P w K tg (Itr lo n) [it] it (fun i h=>IsRangeIter h it (lo+(i:Nat)*1) ((n:Int) - (i:Nat)) 1) where
 mem:=by simp
 obj:=fun i h st b hb=>by
  have e:b=it:=by simpa using hb
  subst e;exact ⟨_,st,fun v z=>by
   have z':Data.fields _=Data.cell v:=z;cases z'⟩
 keep:=fun i h h' st k=>k it (by simp) _ st
 item:=by
  intro X hP hw hK hc i pins s σ H E I hf st hg;subst hP hw hK;obtain ⟨f0,f1,f2,f3,f4,f5⟩:=hf it (by simp)
  have W:=Walks.range (prog:=X.prog) (w:=X.w) (I.ok.hd hc) it lo 1 n;refine W.item i s _ _ hg st fun v h' tk hv st' kk=>?_;obtain ⟨t,rfl⟩:=hv;have I1:Inv X pins σ H {s with heap:=h',toks:=tk}:=I.turned (fun b o hb e=>kk b o (by simpa using hb) e) f0 f1 f3 f4 f5
  refine ⟨_,rfl,QI (s:={s with heap:=h',toks:=tk}) (n:="range_iterator") st' rfl rfl O0 ⟨.int (lo+i),H,I1,⟨t,?_⟩,⟨rfl,rfl⟩,st',fun b hb=>(hf b hb).1⟩⟩
  rw [Int.mul_one]
 done:=by
  intro X hP hw hK hc i pins s σ H E I hf st hg;subst hP hw hK;obtain ⟨f0,f1,f2,f3,f4,f5⟩:=hf it (by simp)
  exact wpAny_pyNext_range_end (I.ok.hd hc) st (by have:n≤i:=hg;omega) fun h' eb=>⟨rfl,I.turned (t':=s.toks) (fun b o hb e=>eb b o hb e) f0 f1 f3 f4 f5⟩
 self:=fun _ _ _ _ _ st h=>wpAny_pyIter_rangeiter st h
section
variable {X:Cx} {tg:Expr}
theorem qcu {pins:List (Ae×Obj)} {σ:St} {H:Hp} {s:Af} {R:It→Hp→Prop} {E:Ac→Af→Prop} {lo hi:Int} {t u v:Tok} {tk:Nat} (I:Inv X pins σ H s) (h1: -(2 ^ 62)≤lo) (h2:lo<2 ^ 62) (h3: -(2 ^ 62)≤hi) (h4:hi<2 ^ 62)
  (q:R (Itr lo (hi - lo).toNat) H):wpAny (model X.prog X.w) X.A (pyIter (.ref s.heap.objs.size)) (PIE X pins σ tg R) E {s with heap:=s.heap.push {cls:= .type "range",data:= .fields #[.int lo t,.int hi u,.int 1 v]},toks:=tk}:=by
 refine wpAny_pyIter_range (IsRange.new ..) (small_one h1 h2 h3 h4) ?_;have I1:Inv X pins σ H {s with heap:=s.heap.push {cls:= .type "range",data:= .fields #[.int lo t,.int hi u,.int 1 v]},toks:=tk}:=I.kept fun b o e=>As _ e
 refine ⟨(s.heap.push {cls:= .type "range",data:= .fields #[.int lo t,.int hi u,.int 1 v]}).objs.size,[(s.heap.push {cls:= .type "range",data:= .fields #[.int lo t,.int hi u,.int 1 v]}).objs.size],_,_,H,rfl,
  I1.kept (t':=tk) fun b o e=>As _ e,X8 _ lo (hi - lo).toNat,?_,fun b hb=>?_,q⟩
 ·have e1:lo+((0:Nat):Int)*1=lo:=by simp
  have e2:(((hi - lo).toNat:Nat):Int) - ((0:Nat):Int)=Builtin.Range.rangeSize lo hi 1:=by rw [rangeSize_one];split <;> omega
  show IsRangeIter _ _ (lo+((0:Nat):Int)*1) ((((hi - lo).toNat:Nat):Int) - ((0:Nat):Int)) 1;rw [e1,e2];exact Bk _ rfl
 ·have e:b=(s.heap.push {cls:= .type "range",data:= .fields #[.int lo t,.int hi u,.int 1 v]}).objs.size:=by simpa using hb
  subst e;exact I1.fpOk (Aw _) (I1.hok.fresh (Aw _))
def QH (ta:TA):TI:=fun σ H R=>ta σ H fun vs H1=>∃ j:Int,vs=[.int j]∧ -(2 ^ 62)≤j∧j<2 ^ 62∧R (Itr 0 j.toNat) H1
theorem zW {a:Expr} {ta:TA} {p pos:Pos} (hg:Gl X "range") (hm:X.mg "range"=none) (ha:PA X [a] ta) (hs:starEach [a] X.env=[(false,eval a X.env)]:=by rfl):PI X tg (.Call (.Name "range" p) [a] [] pos) (QH ta):=by
 intro pins s σ H R I h;refine Call_ (WK I hg hm boot_range (PyProof.Rows.callWith_type1 (thn (ha pos pins s σ H _ I h) fun us s1 ⟨vs,H1,I1,r1,q1⟩=>?_) hs rfl));obtain ⟨j,e,q1,q2,q⟩:=q1;subst e;cases r1 with
 | cons r rr=>
  cases rr;obtain ⟨t,rfl⟩:=r;exact call_range_1 (qcu I1 ⋯ ⋯ q1 q2 (by simpa using q))
def tFor (wi:TI) (g:TG) (tb:TS):TS:=fun D σ H=>wi σ H fun J H1=>∃ W:Nat→Nat→St→Hp→Prop,(∃ m,W 0 m σ H1)∧∀ i m σ H,W i m σ H→
 (J.stop i H∧D.nx σ H)∨(J.go i H∧∃ N:St→Hp→Prop,(∀ σ' H',N σ' H'→∃ m',m'<m∧W (i+1) m' σ' H')∧∀ x H',J.yld i H x H'→g x σ H' fun σ2 H2=>tb {D with nx:=N,ct:=N,bk:=D.nx} σ2 H2)
def Vw (fp:List Ae) (h:Heap):List (Ae×Obj):=fp.filterMap fun b=>(h.get? b).map fun o=>(b,o)
theorem vk {fp:List Ae} {h:Heap} {b:Ae} {o:Obj} (hb:b∈fp) (e:h.get? b=some o):(b,o)∈Vw fp h:=List.mem_filterMap.mpr ⟨b,hb,by rw [e];rfl⟩
theorem qam {fp:List Ae} {h:Heap} {p:Ae×Obj} (hp:p∈Vw fp h):p.1∈fp∧h.get? p.1=some p.2:=by
 obtain ⟨b,hb,e⟩:=List.mem_filterMap.mp hp;cases q:h.get? b with
 | none=>rw [q] at e;cases e
 | some o=>
  rw [q] at e;have e':(b,o)=p:=Bg e;subst e';exact ⟨hb,q⟩
theorem Inv.pinned {pins:List (Ae×Obj)} {σ:St} {H:Hp} {s:Af} {fp:List Ae} (I:Inv X pins σ H s) (hf:∀ b∈fp,VY X pins H b) (ho:∀ b∈fp,∃ o,s.heap.get? b=some o∧∀ v,o.data≠ .cell v):Inv X (pins++Vw fp s.heap) σ H s:=
 I.pins_of fun p hp=>(Bp.mp hp).elim (fun z=>I.pin p (Bn _ z)) fun z=>by
  obtain ⟨hb,e⟩:=qam z;obtain ⟨f0,f1,f2,_⟩:=hf p.1 hb;obtain ⟨o,e',d⟩:=ho p.1 hb;rw [e] at e';cases e';exact ⟨e,f0,f1,f2,d⟩
theorem Inv.unpinned {pins pl:List (Ae×Obj)} {σ:St} {H:Hp} {s:Af} (I:Inv X (pins++pl) σ H s):Inv X pins σ H s:=I.pins_of fun p hp=>I.pin p (Bn _ (B3 _ hp))
theorem Vv {iter:Expr} {body:List Stmt} {wi:TI} {g:TG} {tb:TS} {pos:Pos} (hp:PassesOwn (model X.prog X.w) X.A X.env X.xe) (hc:X.calm=true) (hi:PI X tg iter wi) (hg:PG X tg g) (hb:PSs X body tb)
  (hs:∀ x,foldedSetIterable iter X.env x=pure x:=by intro _;rfl):PS X (.For tg iter body [] pos) (tFor wi g tb):=by
 intro pins s σ H D I h;refine wpAny_For (thn (hi pins s σ H _ I h) fun v s1 h1=>thn h1 fun itv s2 h2=>?_) hs;obtain ⟨it,fp,tn,J,H2,e,I2,T,st2,f2,W,⟨m0,w0⟩,turn⟩:=h2;subst e;have stat:∀ {H':Hp},(∀ b∈fp,H' b=none)→∀ b∈fp,VY X pins H' b:=fun hn b hb=>⟨hn b hb,(f2 b hb).2⟩;refine codeAny_forLoop_any (fun n s'=>∃ i σ' H',Inv X pins σ' H' s'∧tn i s'.heap∧(∀ b∈fp,H' b=none)∧W i n σ' H') ?_ m0 ⟨0,σ,H2,I2,st2,fun b hb=>(f2 b hb).1,w0⟩;rintro n s3 ⟨i,σ3,H3,I3,st3,fr3,w3⟩;rcases turn i n σ3 H3 w3 with ⟨stop,qn⟩ | ⟨go,N,hN,step⟩
 ·refine Eb hp (thn (T.done X rfl rfl rfl hc i pins s3 σ3 H3 X.xe I3 (stat fr3) st3 stop) fun r s4 ⟨hr,I4⟩=>?_);subst hr;exact wpAny_execs_nil ⟨σ3,H3,I4,qn⟩
 ·refine Eb hp (thn (T.item X rfl rfl rfl hc i pins s3 σ3 H3 X.xe I3 (stat fr3) st3 go) fun r s4 ⟨u,hr,h4⟩=>?_);subst hr;refine Eb hp (thn h4 fun _ s5 ⟨x,H5,I5,r5,y5,st5,fr5⟩=>?_);have I5':=I5.pinned (stat fr5) (T.obj _ _ st5);refine Eb hp (thn (hg _ s5 σ3 H5 x u _ I5' r5 (step x H5 y5)) fun _ s6 ⟨σ6,H6,I6,q6⟩=>?_);refine Eb hp (thn (hb _ s6 σ6 H6 _ I6 q6) fun f s7 q7=>?_);have again:∀ {σ7:St} {H7:Hp},Inv X (pins++Vw fp s5.heap) σ7 H7 s7→N σ7 H7→∃ m,m<n∧∃ i σ' H',Inv X pins σ' H' s7∧tn i s7.heap∧(∀ b∈fp,H' b=none)∧W i m σ' H':=fun {σ7 H7} I7 n7=>by
   obtain ⟨m',hm,w7⟩:=hN σ7 H7 n7;refine ⟨m',hm,i+1,σ7,H7,I7.unpinned,T.keep _ _ _ st5 fun b hb o e=>(I7.pin (b,o) (Bn _ (Bn _ (vk hb e)))).1,fun b hb=>?_,w7⟩;obtain ⟨o,e,d⟩:=T.obj _ _ st5 b hb;exact (I7.pin (b,o) (Bn _ (Bn _ (vk hb e)))).2.1
  cases f with
  | next=>obtain ⟨σ7,H7,I7,n7⟩:=q7;exact again I7 n7
  | cont=>obtain ⟨σ7,H7,I7,n7⟩:=q7;exact again I7 n7
  | brk=>obtain ⟨σ7,H7,I7,q7⟩:=q7;exact ⟨σ7,H7,I7.unpinned,q7⟩
  | ret v=>obtain ⟨x7,σ7,H7,I7,r7,q7⟩:=q7;exact ⟨x7,σ7,H7,I7.unpinned,r7,q7⟩
end
abbrev R2:=V→V→Hp→VK→Prop
def OpR (X:Cx) (f:Ac→Ac→Sem Ac) (r:R2):Prop:=
 ∀ (pins:List (Ae×Obj)) (s:Af) (σ:St) (H:Hp) (x y:V) (v u:Ac) (Q:VK),Inv X pins σ H s→qS x v→qS y u→r x y H Q→
  wpAny (model X.prog X.w) X.A (f v u) (EP X pins σ Q) X.xe s
def UnR (X:Cx) (f:Ac→Sem Ac) (r:V→Hp→VK→Prop):Prop:=
 ∀ (pins:List (Ae×Obj)) (s:Af) (σ:St) (H:Hp) (x:V) (v:Ac) (Q:VK),Inv X pins σ H s→qS x v→r x H Q→
  wpAny (model X.prog X.w) X.A (f v) (EP X pins σ Q) X.xe s
def jN (X:Cx) (f:Ac) (r:List V→Hp→VK→Prop):Prop:=
 ∀ (pins:List (Ae×Obj)) (s:Af) (σ:St) (H:Hp) (xs:List V) (us:List Ac) (Q:VK),Inv X pins σ H s→qT xs us→r xs H Q→
  wpAny (model X.prog X.w) X.A (call f us) (EP X pins σ Q) X.xe s
def TruR (X:Cx) (r:V→Hp→(Bool→Hp→Prop)→Prop):Prop:=
 ∀ (pins:List (Ae×Obj)) (s:Af) (σ:St) (H:Hp) (x:V) (v:Ac) (Q:Bool→Hp→Prop),Inv X pins σ H s→qS x v→r x H Q→
  wpAny (model X.prog X.w) X.A (truthy v) (TP X pins σ Q) X.xe s
def tOp (r:R2) (ta tb:TE):TE:=fun σ H Q=>ta σ H fun x H1=>tb σ H1 fun y H2=>r x y H2 Q
def tUn (r:V→Hp→VK→Prop) (ta:TE):TE:=fun σ H Q=>ta σ H fun x H1=>r x H1 Q
def rI (C:Int→Int→Prop) (g:Int→Int→V):R2:=fun x y H Q=>∃ i j,x= .int i∧y= .int j∧C i j∧Q (g i j) H
def rI0 (g:Int→Int→V):R2:=fun x y H Q=>∃ i j,x= .int i∧y= .int j∧Q (g i j) H
def rU (g:Int→V):V→Hp→VK→Prop:=fun x H Q=>∃ i,x= .int i∧Q (g i) H
section
variable {X:Cx} {a b c:Expr} {ta tb tc:TE} {pos:Pos}
theorem qix (ha:PE X a ta) (hb:PE X b tb) {pins:List (Ae×Obj)} {s:Af} {σ:St} {H:Hp} {R:V→V→Hp→Prop} (I:Inv X pins σ H s)
  (h:ta σ H fun x H1=>tb σ H1 fun y H2=>R x y H2) {Q:Ac→Af→Prop} {f:Ac→Ac→Sem Ac}
  (hf:∀ v u s2 x y H2,Inv X pins σ H2 s2→qS x v→qS y u→R x y H2→wpAny (model X.prog X.w) X.A (f v u) Q X.xe s2):
  wpAny (model X.prog X.w) X.A (eval a X.env) (fun v s₁=>wpAny (model X.prog X.w) X.A (eval b X.env) (fun u s₂=>wpAny (model X.prog X.w) X.A (f v u) Q X.xe s₂) X.xe s₁) X.xe s:=by
 refine thn (ha pins s σ H _ I h) fun v s1 ⟨x,H1,I1,r1,q1⟩=>?_;refine thn (hb pins s1 σ H1 _ I1 q1) fun u s2 ⟨y,H2,I2,r2,q2⟩=>?_;exact hf v u s2 x y H2 I2 r1 r2 q2
theorem qo {op:Operator} {r:R2} (ho:OpR X (binaryOp op) r) (ha:PE X a ta) (hb:PE X b tb):PE X (.BinOp a op b pos) (tOp r ta tb):=by
 intro pins s σ H Q I h;exact wpAny_BinOp (qix ha hb I h fun v u s2 x y H2 I2 rx ry q=>ho pins s2 σ H2 x y v u Q I2 rx ry q)
theorem Ww {op:UnaryOp} {r:V→Hp→VK→Prop} (ho:UnR X (unaryOp op) r) (ha:PE X a ta):PE X (.UnaryOp op a pos) (tUn r ta):=by
 intro pins s σ H Q I h;exact UnaryOp_ (thn (ha pins s σ H _ I h) fun v s1 ⟨x,H1,I1,r1,q1⟩=>ho pins s1 σ H1 x v Q I1 r1 q1)
theorem opI {f:Ac→Ac→Sem Ac} {C:Int→Int→Prop} {g:Int→Int→Int}
  (rule:∀ (i j:Int) (t u:Tok) (s:Af) (Q:Ac→Af→Prop) (E:Ac→Af→Prop),C i j→Q (.int (g i j) s.toks) {s with toks:=s.toks+1}→wpAny (model X.prog X.w) X.A (f (.int i t) (.int j u)) Q E s):
  OpR X f (rI C fun i j=> .int (g i j)):=by
 intro pins s σ H x y v u Q I rx ry h;obtain ⟨i,j,rfl,rfl,hc,q⟩:=h;obtain ⟨t,rfl⟩:=rx;obtain ⟨t',rfl⟩:=ry;exact rule i j t t' s _ _ hc ⟨.int (g i j),H,I.tok _,⟨_,rfl⟩,q⟩
theorem qj3 {f:Ac→Ac→Sem Ac} {g:Int→Int→Int}
  (rule:∀ (i j:Int) (t u:Tok) (s:Af) (Q:Ac→Af→Prop) (E:Ac→Af→Prop),Q (.int (g i j) s.toks) {s with toks:=s.toks+1}→wpAny (model X.prog X.w) X.A (f (.int i t) (.int j u)) Q E s):
  OpR X f (rI0 fun i j=> .int (g i j)):=by
 intro pins s σ H x y v u Q I rx ry h;obtain ⟨i,j,rfl,rfl,q⟩:=h;obtain ⟨t,rfl⟩:=rx;obtain ⟨t',rfl⟩:=ry;exact rule i j t t' s _ _ ⟨.int (g i j),H,I.tok _,⟨_,rfl⟩,q⟩
theorem qff {f:Ac→Ac→Sem Ac} {g:Int→Int→Bool}
  (rule:∀ (i j:Int) (t u:Tok) (s:Af) (Q:Ac→Af→Prop) (E:Ac→Af→Prop),Q (.bool (g i j)) s→wpAny (model X.prog X.w) X.A (f (.int i t) (.int j u)) Q E s):
  OpR X f (rI0 fun i j=> .bl (g i j)):=by
 intro pins s σ H x y v u Q I rx ry h;obtain ⟨i,j,rfl,rfl,q⟩:=h;obtain ⟨t,rfl⟩:=rx;obtain ⟨t',rfl⟩:=ry;exact rule i j t t' s _ _ ⟨.bl (g i j),H,I,rfl,q⟩
def YK (i j:Int):Prop:=0<j∧j<1073741824
def qkr (i j:Int):Prop:=0≤j∧j≤1000000∧i.natAbs<2 ^ 64
def qem (i j:Int):Prop:=(-(2 ^ 64)<i∧i<2 ^ 64)∨(-(2 ^ 64)<j∧j<2 ^ 64)
theorem qem.ok {i j:Int} (h:qem i j):IntMulOk i j:=by
 rcases h with ⟨h1,h2⟩ | ⟨h1,h2⟩
 ·exact .of_left (intBits_le_64 h1 h2)
 ·exact .of_right (intBits_le_64 h1 h2)
theorem qh1:OpR X (binaryOp .Add) (rI0 fun i j=> .int (i+j)):=qj3 fun _ _ _ _ _ _ _ q=>add_int q
theorem zy:OpR X (binaryOp .Sub) (rI0 fun i j=> .int (i - j)):=qj3 fun _ _ _ _ _ _ _ q=>sub_int q
theorem Js:OpR X (binaryOp .Mult) (rI qem fun i j=> .int (i*j)):=opI fun _ _ _ _ _ _ _ hc q=>mul_int q hc.ok
theorem zg:OpR X (binaryOp .FloorDiv) (rI YK fun i j=> .int (i / j)):=opI fun i j _ _ _ _ _ hc q=>by
 have h1:(0:Int)<j:=hc.1;have h2:j<1073741824:=hc.2;exact floordiv_int ⋯ (by rw [Int.fdiv_eq_ediv_of_nonneg i ⋯];exact q) (.inl (PyProof.noPylong_small ⋯))
theorem qL:OpR X (binaryOp .Mod) (rI (fun _ j=>0<j) fun i j=> .int (i % j)):=opI fun i j _ _ _ _ _ hc q=>by
 have h1:(0:Int)<j:=hc;exact mod_int' ⋯ (by rw [Int.fmod_eq_emod_of_nonneg i ⋯];exact q)
theorem Yc:OpR X (binaryOp .Pow) (rI qkr fun i j=> .int (i ^ j.toNat)):=opI fun _ _ _ _ _ _ _ hc q=>pow_int_small hc.1 hc.2.1 hc.2.2 q
theorem unI {f:Ac→Sem Ac} {g:Int→Int}
  (rule:∀ (i:Int) (t:Tok) (s:Af) (Q:Ac→Af→Prop) (E:Ac→Af→Prop),Q (.int (g i) s.toks) {s with toks:=s.toks+1}→wpAny (model X.prog X.w) X.A (f (.int i t)) Q E s):
  UnR X f (rU fun i=> .int (g i)):=by
 intro pins s σ H x v Q I rx h;obtain ⟨i,rfl,q⟩:=h;obtain ⟨t,rfl⟩:=rx;exact rule i t s _ _ ⟨.int (g i),H,I.tok _,⟨_,rfl⟩,q⟩
theorem Vp:UnR X (unaryOp .USub) (rU fun i=> .int (-i)):=unI fun _ _ _ _ _ q=>neg_int q
end
def qjj:V→V→Bool
 | .non,.non=>true | .non,.int _=>true | .int _,.non=>true | .non,.bl _=>true | .bl _,.non=>true | .non,.str _=>true | .str _,.non=>true
 | .int _,.int _=>true | .bl _,.bl _=>true | .str _,.str _=>true | .byt _,.byt _=>true
 | .int _,.str _=>true | .str _,.int _=>true | .bl _,.str _=>true | .str _,.bl _=>true
 | _,_=>false
def rEq:R2:=fun x y H Q=>qjj x y=true∧Q (.bl (decide (x=y))) H
def rNe:R2:=fun x y H Q=>qjj x y=true∧Q (.bl (!decide (x=y))) H
theorem QK {i j:Int}:decide (V.int i=V.int j)=(i==j):=by
 rw [Cf];simp
theorem qeb {i j:Bool}:decide (V.bl i=V.bl j)=(i==j):=by
 rw [Cf];simp
theorem QJ {i j:Str}:decide (V.str i=V.str j)=(i==j):=by
 rw [Cf];simp
theorem QL {i j:Array UInt8}:decide (V.byt i=V.byt j)=(i.toList==j.toList):=by
 rw [Cf];cases i;cases j;simp
section
variable {X:Cx} {a b c:Expr} {ta tb tc:TE} {pos:Pos}
theorem zc {pins:List (Ae×Obj)} {σ:St} {H:Hp} {s:Af} {Q:VK} {k k':Bool} (I:Inv X pins σ H s) (q:Q (.bl k) H) (e:k=k'):EP X pins σ Q (.bool k') s:=by
 subst e;exact ⟨.bl k,H,I,rfl,q⟩
theorem qZ:OpR X (compareOp .Eq) rEq:=by
 intro pins s σ H x y v u Q I rx ry h;obtain ⟨hs,q⟩:=h;cases x with
 | non=>
  cases rx;cases y with
  | non=>cases ry;exact PySem.EqNone.eq_none_none (zc I q (by simp))
  | bl j=>cases ry;exact PySem.EqNone.eq_none_bool (zc I q (by simp))
  | int j=>obtain ⟨t',rfl⟩:=ry;exact PySem.EqNone.eq_none_int (zc I q (by simp))
  | str j=>obtain ⟨t',rfl⟩:=ry;exact PySem.EqNone.eq_none_str (zc I q (by simp))
  | _=>exact absurd (show false=true from hs) Ai
 | bl i=>
  cases rx;cases y with
  | non=>cases ry;exact PySem.EqNone.eq_bool_none (zc I q (by simp))
  | bl j=>cases ry;exact eq_bool (zc I q qeb)
  | str j=>obtain ⟨t',rfl⟩:=ry;exact PySem.EqMixed.eq_bool_str (zc I q (by simp))
  | _=>exact absurd (show false=true from hs) Ai
 | int i=>
  obtain ⟨t,rfl⟩:=rx;cases y with
  | non=>cases ry;exact PySem.EqNone.eq_int_none (zc I q (by simp))
  | int j=>obtain ⟨t',rfl⟩:=ry;exact eq_int (zc I q QK)
  | str j=>obtain ⟨t',rfl⟩:=ry;exact PySem.EqMixed.eq_int_str (zc I q (by simp))
  | _=>exact absurd (show false=true from hs) Ai
 | str i=>
  obtain ⟨t,rfl⟩:=rx;cases y with
  | non=>cases ry;exact PySem.EqNone.eq_str_none (zc I q (by simp))
  | bl j=>cases ry;exact PySem.EqMixed.eq_str_bool (zc I q (by simp))
  | int j=>obtain ⟨t',rfl⟩:=ry;exact PySem.EqMixed.eq_str_int (zc I q (by simp))
  | str j=>obtain ⟨t',rfl⟩:=ry;exact eq_str (zc I q QJ)
  | _=>exact absurd (show false=true from hs) Ai
 | byt i=>
  obtain ⟨t,rfl⟩:=rx;cases y with
  | byt j=>obtain ⟨t',rfl⟩:=ry;exact PySem.W.eq_bytes (zc I q QL)
  | _=>exact absurd (show false=true from hs) Ai
 | _=>cases y <;> exact absurd (show false=true from hs) Ai
theorem Xn:OpR X (compareOp .NotEq) rNe:=by
 intro pins s σ H x y v u Q I rx ry h;obtain ⟨hs,q⟩:=h;cases x with
 | non=>
  cases rx;cases y with
  | non=>cases ry;exact PySem.EqNone.ne_none_none (zc I q (by simp))
  | bl j=>cases ry;exact PySem.EqNone.ne_none_bool (zc I q (by simp))
  | int j=>obtain ⟨t',rfl⟩:=ry;exact PySem.EqNone.ne_none_int (zc I q (by simp))
  | str j=>obtain ⟨t',rfl⟩:=ry;exact PySem.EqNone.ne_none_str (zc I q (by simp))
  | _=>exact absurd (show false=true from hs) Ai
 | bl i=>
  cases rx;cases y with
  | non=>cases ry;exact PySem.EqNone.ne_bool_none (zc I q (by simp))
  | bl j=>cases ry;exact ne_bool (zc I q (congrArg not qeb))
  | str j=>obtain ⟨t',rfl⟩:=ry;exact PySem.EqMixed.ne_bool_str (zc I q (by simp))
  | _=>exact absurd (show false=true from hs) Ai
 | int i=>
  obtain ⟨t,rfl⟩:=rx;cases y with
  | non=>cases ry;exact PySem.EqNone.ne_int_none (zc I q (by simp))
  | int j=>obtain ⟨t',rfl⟩:=ry;exact ne_int (zc I q (congrArg not QK))
  | str j=>obtain ⟨t',rfl⟩:=ry;exact PySem.EqMixed.ne_int_str (zc I q (by simp))
  | _=>exact absurd (show false=true from hs) Ai
 | str i=>
  obtain ⟨t,rfl⟩:=rx;cases y with
  | non=>cases ry;exact PySem.EqNone.ne_str_none (zc I q (by simp))
  | bl j=>cases ry;exact PySem.EqMixed.ne_str_bool (zc I q (by simp))
  | int j=>obtain ⟨t',rfl⟩:=ry;exact PySem.EqMixed.ne_str_int (zc I q (by simp))
  | str j=>obtain ⟨t',rfl⟩:=ry;exact ne_str (zc I q (congrArg not QJ))
  | _=>exact absurd (show false=true from hs) Ai
 | byt i=>
  obtain ⟨t,rfl⟩:=rx;cases y with
  | byt j=>obtain ⟨t',rfl⟩:=ry;exact PySem.W.ne_bytes (zc I q (congrArg not QL))
  | _=>exact absurd (show false=true from hs) Ai
 | _=>cases y <;> exact absurd (show false=true from hs) Ai
theorem vM:OpR X (compareOp .Lt) (rI0 fun i j=> .bl (decide (i<j))):=qff fun _ _ _ _ _ _ _ q=>lt_int q
theorem wv:OpR X (compareOp .LtE) (rI0 fun i j=> .bl (decide (i≤j))):=qff fun _ _ _ _ _ _ _ q=>le_int q
theorem Wz:OpR X (compareOp .Gt) (rI0 fun i j=> .bl (decide (j<i))):=qff fun _ _ _ _ _ _ _ q=>gt_int q
theorem qj2:OpR X (compareOp .GtE) (rI0 fun i j=> .bl (decide (j≤i))):=qff fun _ _ _ _ _ _ _ q=>ge_int q
theorem yg:OpR X (compareOp .In) (fun x y H Q=>∃ i j,x= .str i∧y= .str j∧Q (.bl (!(Builtin.Str.occurrences j i 0 j.length 1).isEmpty)) H):=by
 intro pins s σ H x y v u Q I rx ry h;obtain ⟨i,j,rfl,rfl,q⟩:=h;obtain ⟨t,rfl⟩:=rx;obtain ⟨t',rfl⟩:=ry;exact in_str (zc I q rfl)
theorem Yd:OpR X (compareOp .NotIn) (fun x y H Q=>∃ i j,x= .str i∧y= .str j∧Q (.bl (!(!(Builtin.Str.occurrences j i 0 j.length 1).isEmpty))) H):=by
 intro pins s σ H x y v u Q I rx ry h;obtain ⟨i,j,rfl,rfl,q⟩:=h;obtain ⟨t,rfl⟩:=rx;obtain ⟨t',rfl⟩:=ry;exact notIn_str (zc I q rfl)
theorem OpR.or {f:Ac→Ac→Sem Ac} {r r':R2} (h:OpR X f r) (h':OpR X f r'):OpR X f (fun x y H Q=>r x y H Q∨r' x y H Q):=by
 intro pins s σ H x y v u Q I rx ry q;rcases q with q | q
 ·exact h pins s σ H x y v u Q I rx ry q
 ·exact h' pins s σ H x y v u Q I rx ry q
theorem qD (b:Expr) {op:CmpOp} (h:op≠ .In:=by decide) (h2:op≠ .NotIn:=by decide):behindInMarks op b=false:=by
 have e1:(op==CmpOp.In)=false:=by cases op <;> first | rfl | exact absurd rfl h
 have e2:(op==CmpOp.NotIn)=false:=by cases op <;> first | rfl | exact absurd rfl h2
 cases b <;> simp [behindInMarks,e1,e2]
theorem jb {op:CmpOp} {r:R2} (ho:OpR X (compareOp op) r) (ha:PE X a ta) (hb:PE X b tb) (hm:behindInMarks op b=false):PE X (.Compare a [op] [b] pos) (tOp r ta tb):=by
 intro pins s σ H Q I h;exact wpAny_Compare1 (qix ha hb I h fun v u s2 x y H2 I2 rx ry q=>ho pins s2 σ H2 x y v u Q I2 rx ry q) hm
def Jg (t:TE):TT:=fun σ H Q=>t σ H fun x H'=>∃ k,x= .bl k∧Q k H'
theorem qv {op:CmpOp} {r:R2} (ho:OpR X (compareOp op) r) (ha:PE X a ta) (hb:PE X b tb) (hm:behindInMarks op b=false):PT X (.Compare a [op] [b] pos) (Jg (tOp r ta tb)):=by
 intro pins s σ H Q I h;refine wpAny_isTrue_Compare1 (thn (ha pins s σ H _ I h) fun v s1 ⟨x,H1,I1,r1,q1⟩=>thn (hb pins s1 σ H1 _ I1 q1) fun u s2 ⟨y,H2,I2,r2,q2⟩=>
  thn (ho pins s2 σ H2 x y v u _ I2 r1 r2 q2) fun c s3 ⟨z,H3,I3,r3,k,e,q3⟩=>?_) hm
 subst e;cases r3;exact Cv ⟨H3,I3,q3⟩
def qby (r r':R2) (ta tb tc:TE):TE:=fun σ H Q=>ta σ H fun x H1=>tb σ H1 fun y H2=>r x y H2 fun z H3=>∃ k,z= .bl k∧
 (if k=true then tc σ H3 fun w' H4=>r' y w' H4 Q else Q (.bl false) H3)
theorem Wx {op op':CmpOp} {r r':R2} (ho:OpR X (compareOp op) r) (ho':OpR X (compareOp op') r') (ha:PE X a ta) (hb:PE X b tb) (hc:PE X c tc)
  (hm:lastMarks [op,op'] [b,c]=false:=by with_unfolding_all rfl):PE X (.Compare a [op,op'] [b,c] pos) (qby r r' ta tb tc):=by
 intro pins s σ H Q I h;refine Compare_chain (thn (ha pins s σ H _ I h) fun v s1 ⟨x,H1,I1,r1,q1⟩=>chain_link (thn (hb pins s1 σ H1 _ I1 q1) fun u s2 ⟨y,H2,I2,r2,q2⟩=>
  thn (ho pins s2 σ H2 x y v u _ I2 r1 r2 q2) fun d s3 ⟨z,H3,I3,r3,k,e,q3⟩=>?_)) hm
 subst e;cases r3;refine Cv ?_;cases k with
 | false=>exact ite_ff ⟨.bl false,H3,I3,rfl,q3⟩
 | true=>exact ite_tt (chain_last (thn (hc pins s3 σ H3 _ I3 q3) fun w' s4 ⟨z',H4,I4,r4,q4⟩=>ho' pins s4 σ H4 y z' u w' Q I4 r2 r4 q4))
theorem qc3 {op op':CmpOp} {r r':R2} (ho:OpR X (compareOp op) r) (ho':OpR X (compareOp op') r') (ha:PE X a ta) (hb:PE X b tb) (hc:PE X c tc)
  (hm:lastMarks [op,op'] [b,c]=false:=by with_unfolding_all rfl):PT X (.Compare a [op,op'] [b,c] pos) (Jg (qby r r' ta tb tc)):=by
 intro pins s σ H Q I h;refine isTrue_chain (thn (ha pins s σ H _ I h) fun v s1 ⟨x,H1,I1,r1,q1⟩=>test_link (thn (hb pins s1 σ H1 _ I1 q1) fun u s2 ⟨y,H2,I2,r2,q2⟩=>
  thn (ho pins s2 σ H2 x y v u _ I2 r1 r2 q2) fun d s3 ⟨z,H3,I3,r3,k,e,q3⟩=>?_)) hm
 subst e;cases r3;refine Cv ?_;cases k with
 | false=>
  obtain ⟨k',e',q'⟩:=q3;cases e';exact ite_ff ⟨H3,I3,q'⟩
 | true=>
  refine ite_tt (test_last (thn (hc pins s3 σ H3 _ I3 q3) fun w' s4 ⟨z',H4,I4,r4,q4⟩=>thn (ho' pins s4 σ H4 y z' u w' _ I4 r2 r4 q4) fun d' s5 ⟨z2,H5,I5,r5,k2,e2,q5⟩=>?_));subst e2;cases r5;exact Cv ⟨H5,I5,q5⟩
def qi0 (K:Frag) (x:V) (H:Hp) (k:Bool):Prop:=
 match x with
 | .non=>k=false
 | .bl b=>k=b
 | .int i=>k=(i !=0)
 | .str y=>y.length≤Ag∧k=((y.length:Int) !=0)
 | .byt y=>y.size≤Ag∧k=((y.size:Int) !=0)
 | .ref p=>(∃ xs,SqL K H p xs∧k=!xs.isEmpty)∨(∃ xs,SqT K H p xs∧k=!xs.isEmpty)∨∃ kvs,H p=some (.dK kvs)∧k=!kvs.isEmpty
 | _=>False
theorem ZN {κ:Type} {kvs:List (κ×V)} {vs:List (κ×Ac)} (r:KV kvs vs):(!vs.isEmpty)=!kvs.isEmpty:=by
 cases r <;> rfl
theorem WN {xs:List V} {its:List Ac} (r:qT xs its):(!its.toArray.isEmpty)=!xs.isEmpty:=by
 cases r <;> simp
theorem V9:(Ag:Nat)<2 ^ 63:=by rw [En];decide
theorem qg3:TruR X (fun x H Q=>∃ k,qi0 X.K x H k∧Q k H):=by
 intro pins s σ H x v Q I rx h;obtain ⟨k,e,q⟩:=h;have hl:=V9;have hs:Ag=16777216:=En;cases x with
 | non=>
  cases rx;have e':k=false:=e;subst e';exact truthy_none ⟨H,I,q⟩
 | bl b=>
  cases rx;have e':k=b:=e;subst e';exact Cv ⟨H,I,q⟩
 | int i=>
  obtain ⟨t,rfl⟩:=rx;have e':k=(i !=0):=e;subst e';exact PySem.P.truthy_int ⟨H,I,q⟩
 | str y=>
  obtain ⟨t,rfl⟩:=rx;obtain ⟨hy,e'⟩:y.length≤Ag∧k=((y.length:Int) !=0):=e;subst e';exact PySem.P.truthy_str ⋯ ⟨H,I.tok _,q⟩
 | byt y=>
  obtain ⟨t,rfl⟩:=rx;obtain ⟨hy,e'⟩:y.size≤Ag∧k=((y.size:Int) !=0):=e;subst e';exact PySem.W.truthy_bytes ⋯ ⟨H,I.tok _,q⟩
 | ref p=>
  cases rx;have e':(∃ xs,SqL X.K H p xs∧k=!xs.isEmpty)∨(∃ xs,SqT X.K H p xs∧k=!xs.isEmpty)∨∃ kvs,H p=some (.dK kvs)∧k=!kvs.isEmpty:=e;rcases e' with ⟨xs,hx,e'⟩ | ⟨xs,hx,e'⟩ | ⟨kvs,hx,e'⟩
  ·subst e';obtain ⟨its,r,pl,hz⟩:=I.list hx;have hlen:=r.length;exact wpAny_truthy_list pl.isList (by simp only [Ba];omega) ⟨H,I.tok _,by rw [WN r];exact q⟩
  ·subst e';obtain ⟨its,r,pl,hz⟩:=I.tuple hx;have hlen:=r.length;exact truthy_tuple pl (by simp only [Ba];omega) ⟨H,I.tok _,by rw [WN r];exact q⟩
  ·subst e';obtain ⟨hz,hS,vs,r,m⟩:kvs.length≤Ag∧(p==sysModules)=false∧∃ vs,KV kvs vs∧s.heap.DictOf (zp X.prog X.w) p vs:=I.hok p _ hx;have hlen:kvs.length=vs.length:=Cw r;exact wpAny_truthy_dict hS m ⋯ ⟨H,I.tok _,by rw [ZN r];exact q⟩
 | _=>exact (show False from e).elim
theorem qcx (ha:PE X a ta) (he:∀ whole,isTrue a X.env whole=(do let v ← whole;standAt a.pos;holding [v] (truthy v))):
  PT X a (fun σ H Q=>ta σ H fun x H'=>∃ k,qi0 X.K x H' k∧Q k H'):=by
 intro pins s σ H Q I h;exact isTrue_plain (thn (ha pins s σ H _ I h) fun v s1 ⟨x,H1,I1,r1,q1⟩=>qg3 pins s1 σ H1 x v Q I1 r1 q1) (he _)
theorem Zw:OpR X (binaryOp .Add) (fun x y H Q=>∃ i j,x= .str i∧y= .str j∧i.length+j.length≤Ag∧Q (.str (i++j)) H):=by
 intro pins s σ H x y v u Q I rx ry h;obtain ⟨i,j,rfl,rfl,hz,q⟩:=h;obtain ⟨t,rfl⟩:=rx;obtain ⟨t',rfl⟩:=ry;exact add_str (fun t' tk=>⟨.str (i++j),H,I.tok _,⟨_,rfl⟩,q⟩) hz
theorem Je {x:V} {us:List Ac} (r:qT [x] us):∃ u,us=[u]∧qS x u:=by
 cases r with
 | cons r1 r2=>cases r2;exact ⟨_,rfl,r1⟩
theorem qbm {x y:V} {us:List Ac} (r:qT [x,y] us):∃ u w',us=[u,w']∧qS x u∧qS y w':=by
 cases r with
 | cons r1 r2=>
  cases r2 with
  | cons r3 r4=>cases r4;exact ⟨_,_,rfl,r1,r3⟩
theorem yD (hc:X.calm=true):jN X (.builtin "max") (fun xs H Q=>∃ i j,xs=[.int i,.int j]∧Q (.int (if j>i then j else i)) H):=by
 intro pins s σ H xs us Q I r h;obtain ⟨i,j,rfl,q⟩:=h;obtain ⟨u,w',rfl,⟨t,rfl⟩,⟨t',rfl⟩⟩:=qbm r;refine max_two_ints (I.ok.hd hc) fun h' tk k=>⟨_,H,I.kept k,?_,q⟩
 by_cases hj:j>i
 ·rw [if_pos hj,if_pos hj];exact ⟨_,rfl⟩
 ·rw [if_neg hj,if_neg hj];exact ⟨_,rfl⟩
theorem qba:jN X (.type "int") (fun xs H Q=>(∃ i,xs=[.int i]∧Q (.int i) H)∨∃ k,xs=[.bl k]∧Q (.int (if k then 1 else 0)) H):=by
 intro pins s σ H xs us Q I r h;rcases h with ⟨i,rfl,q⟩ | ⟨k,rfl,q⟩
 ·obtain ⟨u,rfl,t,rfl⟩:=Je r;exact call_int_int ⟨.int i,H,I,⟨_,rfl⟩,q⟩
 ·obtain ⟨u,rfl,r1⟩:=Je r;cases r1;exact call_int_bool ⟨.int (if k then 1 else 0),H,I.tok _,⟨_,rfl⟩,q⟩
theorem qef:jN X (.builtin "ord") (fun xs H Q=>∃ x,xs=[.str x]∧x.length=1∧Q (.int (x.cps.getD 0 0:Nat)) H):=by
 intro pins s σ H xs us Q I r h;obtain ⟨x,rfl,hz,q⟩:=h;obtain ⟨u,rfl,t,rfl⟩:=Je r;exact ord_of_one hz ⟨.int _,H,I.tok _,⟨_,rfl⟩,q⟩
def qbd (K:Frag) (x:V) (H:Hp) (n:Nat):Prop:=
 match x with
 | .str y=>y.length≤Ag∧n=y.length
 | .byt y=>y.size≤Ag∧n=y.size
 | .ref p=>(∃ xs,SqL K H p xs∧n=xs.length)∨∃ xs,SqT K H p xs∧n=xs.length
 | _=>False
theorem qeg:jN X (.builtin "len") (fun xs H Q=>∃ x n,xs=[x]∧qbd X.K x H n∧Q (.int n) H):=by
 intro pins s σ H xs us Q I r h;obtain ⟨x,n,rfl,e,q⟩:=h;obtain ⟨u,rfl,rx⟩:=Je r;have hl:=V9;have hs:Ag=16777216:=En;cases x with
 | str y=>
  obtain ⟨t,rfl⟩:=rx;obtain ⟨hy,e'⟩:y.length≤Ag∧n=y.length:=e;subst e';exact len_str ⋯ ⟨.int _,H,I.tok _,⟨_,rfl⟩,q⟩
 | byt y=>
  obtain ⟨t,rfl⟩:=rx;obtain ⟨hy,e'⟩:y.size≤Ag∧n=y.size:=e;subst e';exact PySem.W.len_bytes ⋯ ⟨.int _,H,I.tok _,⟨_,rfl⟩,q⟩
 | ref p=>
  cases rx;have e':(∃ xs,SqL X.K H p xs∧n=xs.length)∨∃ xs,SqT X.K H p xs∧n=xs.length:=e;rcases e' with ⟨xs,hx,e'⟩ | ⟨xs,hx,e'⟩
  ·subst e';obtain ⟨its,r',pl,hz⟩:=I.list hx;have hlen:=r'.length;exact Calls.call_len_list pl.isList (by simp only [Ba];omega) ⟨.int xs.length,H,I.tok _,⟨_,by simp only [Ba];rw [hlen]⟩,q⟩
  ·subst e';obtain ⟨its,r',pl,hz⟩:=I.tuple hx;have hlen:=r'.length;exact len_tuple pl (by simp only [Ba];omega) ⟨.int xs.length,H,I.tok _,⟨_,by simp only [Ba];rw [hlen]⟩,q⟩
 | _=>exact (show False from e).elim
end
structure ObjM (h:Heap) (x dx C:Ae) (mA:Str→Option Ac):Prop where
 obj:h.get? x=some (PySem.W.instObj C dx)
 ns:h.Ns1 dx mA
 ne:dx≠x
set_option tactic.hygienic true in
theorem qar {h:Heap} {dx:Ae} {mA:Str→Option Ac} (n:h.Ns1 dx mA):∃ od,h.get? dx=some od∧∀ name,PySem.W.lookIn name od=some (mA name):=by
 obtain ⟨o,es,ep,ho,hd,hk,_,hm⟩:=n;refine ⟨o,ho,fun name=>?_⟩;have e:=hm name;unfold nsFind findBy at e;rw [← Array.find?_toList] at e;unfold PySem.W.lookIn;rw [hd];dsimp only;split
 ·rename_i y q;rw [q] at e;exact congrArg some e
 ·rename_i q;rw [q] at e;have a:es.toList.any (·.refKey)=false:=by
   rw [List.any_eq_false];intro y hy;obtain ⟨z,t,hkey⟩:=hk y (Array.mem_toList_iff.mp hy);simp [DictEntry.refKey,hkey]
  have a':¬ es.toList.any (·.refKey)=true:=by rw [a];exact Ai
  rw [if_neg a'];exact congrArg some e
theorem ObjM.look {h:Heap} {x dx C:Ae} {mA:Str→Option Ac} (I:ObjM h x dx C mA):∃ od,PySem.W.InstAt h x (PySem.W.instObj C dx) C (some od)∧∀ name,PySem.W.lookIn name od=some (mA name):=
 let ⟨od,ho,hl⟩:=qar I.ns
 ⟨od,⟨I.obj,rfl,rfl,ho⟩,hl⟩
section
variable {prog:Program} {w:World} {A:Around} {E:Ac→Af→Prop} {s:Af} {K:Frag} {x dx C f:Ae} {mA:Str→Option Ac} {name:Str} {v:Ac}
theorem qf2 {expr:Bool} {Q:Ac→Af→Prop} (X:K.In s.heap) (I:ObjM s.heap x dx C mA) (hg:PySem.W.plainGet K C name=true) (hh:PySem.W.hasDictIn K C=true)
  (ha:PySem.W.findIn K (.ref C) name=some none) (hv:mA name=some v) (hv':PySem.W.handedIn v=true) (h:Q v {s with toks:=s.toks+1}):
  wpAny (model prog w) A (getAttr (.ref x) name expr) Q E s:=by
 obtain ⟨od,J,hl⟩:=I.look;exact PySem.W.get_value X J (PySem.W.plainGet_of hg).1 (PySem.W.findObj_own hh ha rfl (by rw [hl,hv])) hv' h
theorem qd0 {pl:Sem Bool} {Q:Ac×List Ac→Af→Prop} (X:K.In s.heap) (I:ObjM s.heap x dx C mA) (hg:PySem.W.plainGet K C name=true)
  (hf:PySem.W.findIn K (.ref C) name=some (some (.ref f))) (ht:PySem.W.isFn K (.ref f)=true) (hv:mA name=none) (h:Q (.ref f,[.ref x]) s):
  wpAny (model prog w) A (getMethod (.ref x) name pl) Q E s:=by
 obtain ⟨od,J,hl⟩:=I.look;exact PySem.W.method_fn X J (PySem.W.plainGet_of hg).1 (PySem.W.plainGet_of hg).2 hf (A8.mp ht) (by show (PySem.W.lookIn name od).map (·.isSome)=some false;rw [hl,hv];rfl) h
theorem qe2 {ns:List Str} {Q:Unit→Af→Prop} (X:K.In s.heap) (I:ObjM s.heap x dx C mA)
  (hs:PySem.W.findIn K (.ref C) "__setattr__"=some (some (.builtin "object.__setattr__"))) (hp:PySem.W.plainOver K C=true) (ht:PySem.W.takerIn K C name=some none) (hh:PySem.W.hasDictIn K C=true)
  (hw:PySem.Within mA ns) (hsz:ns.length≤Ag)
  (h:∀ h',ObjM h' x dx C (fun y=>if y=name then some v else mA y)→Heap.SameBut dx s.heap h'→Q () {s with heap:=h',toks:=s.toks+2}):
  wpAny (model prog w) A (setAttr (.ref x) name v) Q E s:=by
 obtain ⟨od,J,hl⟩:=I.look;refine PySem.W.set_plain X J hs (PySem.W.osa_open (s:={s with toks:=s.toks+1}) (r:=none) X J hp ht fun b=>?_)
 obtain ⟨cd,hc,hd'⟩:=PySem.W.any_some hh;have hx:s.heap.get? x=some ⟨.ref C,some dx,.plain,#[]⟩:=I.obj;refine An (A9 (An (An (wpAny_loadPart hx (An (PySem.W.Looks.here (s:={s with toks:=s.toks+1}) (PySem.W.looks_clsIn X hc) ?_))))))
 rw [hd'];refine A9 (a:=some dx) (An (A9 (An ?_)));refine wpAny_nsSet1 (s:={s with toks:=s.toks+1}) I.ns fun h' hn2 hs2=>?_
 obtain ⟨oD,esD,epD,hoD,hdD,hcD⟩:=hn2.count (PySem.Within.cons name v hw);refine An (wpAny_lookBehind hoD (by rw [hdD];exact pastItsLine_dict (Ar hcD (by rw [Ak];omega))) ?_)
 exact A9 (h _ ⟨(hs2.2 _ (Ne.symm I.ne)).trans I.obj,hn2,I.ne⟩ hs2)
theorem qdq {R:Result→Af→Prop} {vs:List Ac} {kw:List (Str×Ac)} (X:K.In s.heap) (hm:PySem.W.makesIn K C=true)
  (hi:PySem.W.findIn K (.ref C) "__init__"=some (some (.ref f))) (hf:PySem.W.typeIn K (.ref f)=some (.type "function"))
  (h:codeAny (model prog w) (A.under (.builtin "type.__call__" ⟨.ref C::vs,kw⟩)) (.call (.ref f) ⟨.ref (s.heap.objs.size+1)::vs,kw⟩) (PySem.W.InitBack (s.heap.objs.size+1) R)
   {s with heap:=(s.heap.push PySem.W.emptyDict).push (PySem.W.instObj C s.heap.objs.size)}):
  codeAny (model prog w) A (.call (.ref C) ⟨vs,kw⟩) R s:=by
 obtain ⟨hh,g,d,t,os⟩:=s;exact PySem.W.make_core (PySem.W.makes_of X hm) (Eu X hi) (fun self=>PySem.W.bind_fn X self hf) (.inl rfl) h
end
def vf (f:Str) (v:V):List (Str×V)→List (Str×V)
 | []=>[(f,v)]
 | (g,x)::r=>if g=f then (g,v)::r else (g,x)::vf f v r
theorem wA (f g:Str) (v:V):∀ fs:List (Str×V),(vf f v fs).lookup g=if g=f then some v else fs.lookup g
 | []=>by
  show List.lookup g [(f,v)]=_
  by_cases h:g=f
  ·have hb:(g==f)=true:=A8.mpr h;simp only [List.lookup,hb,if_pos h]
  ·have hb:(g==f)=false:=Bi.mpr h;simp only [List.lookup,hb,if_neg h]
 | (k,x)::r=>by
  have ih:=wA f g v r;rw [show vf f v ((k,x)::r)=(if k=f then (k,v)::r else (k,x)::vf f v r) from rfl]
  by_cases hk:k=f
  ·rw [if_pos hk]
   by_cases h:g=k
   ·have hb:(g==k)=true:=A8.mpr h;simp only [List.lookup,hb,if_pos (h.trans hk)]
   ·have hb:(g==k)=false:=Bi.mpr h;simp only [List.lookup,hb,if_neg (fun e:g=f=>h (e.trans hk.symm))]
  ·rw [if_neg hk]
   by_cases h:g=k
   ·have hb:(g==k)=true:=A8.mpr h;simp only [List.lookup,hb,if_neg (fun e:g=f=>hk (h.symm.trans e))]
   ·have hb:(g==k)=false:=Bi.mpr h;simp only [List.lookup,hb];exact ih
theorem wa (f:Str) (v:V):∀ fs:List (Str×V),f∈(vf f v fs).map (·.1)∧∀ g,g∈fs.map (·.1)→g∈(vf f v fs).map (·.1)
 | []=>⟨by simp [vf],fun g h=>by simp at h⟩
 | (k,x)::r=>by
  obtain ⟨i1,i2⟩:=wa f v r;rw [show vf f v ((k,x)::r)=(if k=f then (k,v)::r else (k,x)::vf f v r) from rfl]
  by_cases hk:k=f
  ·rw [if_pos hk];subst hk;exact ⟨by simp,fun g h=>by simpa using h⟩
  ·rw [if_neg hk];refine ⟨?_,fun g h=>?_⟩
   ·rw [A4];exact Au _ i1
   ·rw [A4] at h ⊢;rcases Av.mp h with e | e
    ·exact Av.mpr (.inl e)
    ·exact Au _ (i2 g e)
theorem wB (f:Str) (v:V):∀ fs:List (Str×V),(vf f v fs).length≤fs.length+1
 | []=>by simp [vf]
 | (k,x)::r=>by
  have ih:=wB f v r;rw [show vf f v ((k,x)::r)=(if k=f then (k,v)::r else (k,x)::vf f v r) from rfl]
  by_cases hk:k=f
  ·rw [if_pos hk,Ak,Ak];omega
  ·rw [if_neg hk,Ak,Ak];omega
theorem Vh.some_of {v:V} {o:Option Ac} (r:Vh (some v) o):∃ u,o=some u∧qS v u:=by
 cases o with
 | none=>exact (show False from r).elim
 | some u=>exact ⟨u,rfl,r⟩
theorem Vh.none_of {o:Option Ac} (r:Vh none o):o=none:=by
 cases o with
 | none=>rfl
 | some u=>exact (show False from r).elim
theorem qav {v:V} {u:Ac} (r:qS v u):PySem.W.handedIn u=true:=by
 cases v with
 | non=>cases (show u=Value.none from r);rfl
 | bl b=>cases (show u=Value.bool b from r);rfl
 | int i=>obtain ⟨t,e⟩:=(show ∃ t,u=Value.int i t from r);cases e;rfl
 | str x=>obtain ⟨t,e⟩:=(show ∃ t,u=Value.str x t from r);cases e;rfl
 | byt b=>obtain ⟨t,e⟩:=(show ∃ t,u=Value.bytes b t from r);cases e;rfl
 | flt b=>obtain ⟨t,e⟩:=(show ∃ t,u=Value.float b t from r);cases e;rfl
 | ref a=>cases (show u=Value.ref a from r);rfl
 | ty n=>cases (show u=Value.type n from r);rfl
section
variable {P:Program} {w:World} {H H':Hp} {h h':Heap} {a C dx:Ae} {fs fs':List (Str×V)}
theorem wX (hok:HOk P w H h) (e:H a=some (.ins C dx fs)):∃ mA,ObjM h a dx C mA∧(∀ f,Vh (fs.lookup f) (mA f))∧PySem.Within mA (fs.map (·.1))∧fs.length≤1000∧H dx=some (.own a):=by
 obtain ⟨d,z,ne,ob,mA,n,r,q⟩:=(show zw P w H h a (.ins C dx fs) from hok a _ e);exact ⟨mA,⟨ob,n,ne⟩,r,q,z,d⟩
end
structure Cls (K:Frag) (C:Ae):Prop where
 pg:PySem.W.plainGet K C Str.empty=true
 hd:PySem.W.hasDictIn K C=true
 po:PySem.W.plainOver K C=true
 sa:PySem.W.findIn K (.ref C) "__setattr__"=some (some (.builtin "object.__setattr__"))
theorem Cls.get {K:Frag} {C:Ae} (c:Cls K C) (f:Str):PySem.W.plainGet K C f=true:=c.pg
def wc (K:Frag) (C:Ae) (f:Str):Prop:=PySem.W.findIn K (.ref C) f=some none
theorem wc.taker {K:Frag} {C:Ae} {f:Str} (n:wc K C f):PySem.W.takerIn K C f=some none:=by
 unfold PySem.W.takerIn;rw [show PySem.W.findIn K (.ref C) f=some none from n];rfl
structure Meth (K:Frag) (C:Ae) (m:Str) (f:Ae):Prop where
 at_:PySem.W.findIn K (.ref C) m=some (some (.ref f))
 fn:PySem.W.isFn K (.ref f)=true
 kp:PySem.W.keepIn K (.ref f)=true
section
variable {X:Cx} {pins:List (Ae×Obj)} {σ:St} {H:Hp} {s:Af} {a C dx:Ae} {fs:List (Str×V)} {f:Str} {v:V} {A:Around} {E:Ac→Af→Prop}
theorem ZU {b:Bool} {Q:Ac→Af→Prop} (I:Inv X pins σ H s) (e:H a=some (.ins C dx fs)) (c:Cls X.K C) (n:wc X.K C f) (l:fs.lookup f=some v)
  (h:∀ u s',Inv X pins σ H s'→qS v u→Q u s'):wpAny (model X.prog X.w) A (getAttr (.ref a) f b) Q E s:=by
 obtain ⟨mA,O,r,_,_,_⟩:=wX I.hok e;obtain ⟨u,hu,ru⟩:=Vh.some_of (v:=v) (o:=mA f) (by rw [← l];exact r f)
 exact qf2 I.kIn O (c.get f) c.hd n hu (qav ru) (h u _ (I.tok _) ru)
theorem ZT {m:Str} {g:Ae} {pl:Sem Bool} {Q:Ac×List Ac→Af→Prop} (I:Inv X pins σ H s) (e:H a=some (.ins C dx fs)) (c:Cls X.K C) (k:Meth X.K C m g) (l:fs.lookup m=none)
  (h:Q (.ref g,[.ref a]) s):wpAny (model X.prog X.w) A (getMethod (.ref a) m pl) Q E s:=by
 obtain ⟨mA,O,r,_,_,_⟩:=wX I.hok e;have hn:mA m=none:=Vh.none_of (by rw [← l];exact r m)
 exact qd0 I.kIn O (c.get m) k.at_ k.fn hn h
theorem Zj {y:V} {u:Ac} {Q:Unit→Af→Prop} (I:Inv X pins σ H s) (e:H a=some (.ins C dx fs)) (c:Cls X.K C) (n:wc X.K C f) (hl:fs.length<1000) (ry:qS y u)
  (h:∀ s',Inv X pins σ (upd H a (.ins C dx (vf f y fs))) s'→Q () s'):wpAny (model X.prog X.w) A (setAttr (.ref a) f u) Q E s:=by
 obtain ⟨mA,O,r,wi,_,ho⟩:=wX I.hok e;have hz:(fs.map (·.1)).length≤Ag:=by rw [Aj,En];omega
 refine qe2 I.kIn O c.sa c.po n.taker c.hd wi hz fun h' O' sb=>h _ ?_;have hd:∃ o,h'.get? dx=some o:=let ⟨o,_,_,e',_⟩:=O'.ns;⟨o,e'⟩;refine I.write (x:=a) (e:=dx) (by rw [e];exact True.intro) (.inr ho) (fun b q hb z=>(sb.2 b hb).trans z) hd ?_
 refine ⟨by rw [qG O.ne];exact ho,?_,O.ne,O'.obj,_,O'.ns,fun g=>?_,fun g hg=>?_⟩
 ·have:=wB f y fs;omega
 ·show Vh ((vf f y fs).lookup g) (if g=f then some u else mA g)
  rw [wA]
  by_cases q:g=f
  ·rw [if_pos q,if_pos q];exact ry
  ·rw [if_neg q,if_neg q];exact r g
 ·by_cases q:g=f
  ·rw [q];exact (wa f y fs).1
  ·refine (wa f y fs).2 g (wi g fun z=>hg ?_);show (if g=f then some u else mA g)=none
   rw [if_neg q];exact z
theorem Inv.made (I:Inv X pins σ H s):Inv X pins σ (upd (upd H s.heap.objs.size (.own (s.heap.objs.size+1))) (s.heap.objs.size+1) (.ins C s.heap.objs.size []))
  {s with heap:=(s.heap.push PySem.W.emptyDict).push (PySem.W.instObj C s.heap.objs.size)}:=by
 have e1:(s.heap.push PySem.W.emptyDict).get? s.heap.objs.size=some PySem.W.emptyDict:=Bk s.heap rfl;have e2:((s.heap.push PySem.W.emptyDict).push (PySem.W.instObj C s.heap.objs.size)).get? (s.heap.objs.size+1)=some (PySem.W.instObj C s.heap.objs.size):=by
  have:=Bk (s.heap.push PySem.W.emptyDict) (o:=PySem.W.instObj C s.heap.objs.size) rfl
  rwa [Dk] at this
 have e3:(s.heap.push PySem.W.emptyDict).Ns s.heap.objs.size (fun _=>none):=⟨PySem.W.emptyDict,#[],_,e1,rfl,(fun e he=>absurd he (by simp)),fun _=>rfl⟩
 have I1:=I.laid (a:=s.heap.objs.size) (o:= .own (s.heap.objs.size+1)) (h':=s.heap.push PySem.W.emptyDict) (t':=s.toks) (fun b u q=>As _ q) (Aw _) ⟨_,e1⟩;refine I1.laid (a:=s.heap.objs.size+1) (o:= .ins C s.heap.objs.size []) (t':=s.toks) (fun b u q=>As _ q) (Nat.le_of_eq (Dk _ _)) ?_;have ne:s.heap.objs.size≠s.heap.objs.size+1:=Bz (Nat.lt_succ_self _);refine ⟨by rw [qG ne,upd_same],B2 _,ne,e2,fun _=>none,(Heap.Ns1.of_empty e3).at fun o q=>As _ q,fun _=>True.intro,fun y hy=>absurd rfl hy⟩
theorem qge {prog:Program} {w:World} {env:Env} {e:Expr} {f:Str} {pos:Pos} {s:Af} {Q:Ac→Af→Prop} (hb:attributeBase e f env (eval e env)=eval e env)
  (h:wpAny (model prog w) A (eval e env) (fun o s₁=>wpAny (model prog w) A (getAttr o f true) Q E s₁) E s):wpAny (model prog w) A (eval (.Attribute e f pos) env) Q E s:=
 Attribute_any_ h (by rw [arm_eval_Attribute,hb])
end
def tFld (K:Frag) (ta:TE) (f:Str):TE:=fun σ H Q=>ta σ H fun x H1=>∃ a C dx fs v,x= .ref a∧H1 a=some (.ins C dx fs)∧Cls K C∧wc K C f∧fs.lookup f=some v∧Q v H1
def sFld (K:Frag) (ta tv:TE) (f:Str):TS:=fun D σ H=>tv σ H fun y H1=>ta σ H1 fun x H2=>∃ a C dx fs,x= .ref a∧H2 a=some (.ins C dx fs)∧Cls K C∧wc K C f∧fs.length<1000∧
 D.nx σ (upd H2 a (.ins C dx (vf f y fs)))
section
variable {X:Cx} {o e value:Expr} {f:Str} {pos pos' tpos:Pos} {ta tv:TE}
theorem zY (he:PE X e ta) (hb:attributeBase e f X.env (eval e X.env)=eval e X.env):PE X (.Attribute e f pos) (tFld X.K ta f):=by
 intro pins s σ H Q I h;refine qge hb (thn (he pins s σ H _ I h) fun u s1 ⟨x,H1,I1,rx,a,C,dx,fs,v,ex,ea,c,n,l,q⟩=>?_);subst ex;obtain rfl:u=Value.ref a:=rx;exact ZU I1 ea c n l fun u' s2 I2 ru=>⟨v,H1,I2,ru,q⟩
theorem qc6 (ha:PE X o ta) (hv:PE X value tv) (hs:swapsWith value (some (.Attribute o f pos')) pos.line X.env=pure false):PS X (.Assign [.Attribute o f pos'] value pos) (sFld X.K ta tv f):=by
 intro pins s σ H D I h;refine plainObj_wpAny_Assign_Attribute (thn (hv pins s σ H _ I h) fun u s1 ⟨y,H1,I1,ry,q⟩=>thn (ha pins s1 σ H1 _ I1 q) fun ov s2 ⟨x,H2,I2,rx,a,C,dx,fs,ex,ea,c,n,l,q2⟩=>?_) hs;subst ex;obtain rfl:ov=Value.ref a:=rx;exact Zj I2 ea c n l ry fun s3 I3=>⟨σ,_,I3,q2⟩
end
section
variable {X:Cx} {pins:List (Ae×Obj)} {σ:St} {H:Hp} {s:Af} {A:Around} {E:Ac→Af→Prop} {Q:Ac→Af→Prop} {c:Ac} {b:Bool}
inductive TyOf (K:Frag) (H:Hp):V→Ac→Prop where
 | non:TyOf K H .non (.type "NoneType")
 | bl (x:Bool):TyOf K H (.bl x) (.type "bool")
 | int (i:Int):TyOf K H (.int i) (.type "int")
 | str (x:Str):TyOf K H (.str x) (.type "str")
 | flt (x:UInt64):TyOf K H (.flt x) (.type "float")
 | lst {a:Ae} {xs:List V} (e:H a=some (.lst xs)):TyOf K H (.ref a) (.type "list")
 | frz {a:Ae} {o:Obj} {xs:List V} (e:H a=some (.frz o (.lst xs))):TyOf K H (.ref a) (.type "list")
 | tup {a:Ae} {xs:List V} (e:H a=some (.tup xs)):TyOf K H (.ref a) (.type "tuple")
 | dK {a:Ae} {kvs:List (Key×V)} (e:H a=some (.dK kvs)):TyOf K H (.ref a) (.type "dict")
 | dT {a:Ae} {kvs:List (List Key×V)} (e:H a=some (.dT kvs)):TyOf K H (.ref a) (.type "dict")
 | ins {a C dx:Ae} {fs:List (Str×V)} (e:H a=some (.ins C dx fs)) (cl:Cls K C) (ha:PySem.W.findIn K (.ref C) "__class__"=some (some (.builtin "object.__class__")))
   (hn:PySem.W.specialIn K (.builtin "object.__class__") "__get__"=some (some (.builtin "getset_descriptor.__get__"))) (htk:PySem.W.takesIn K (.builtin "object.__class__")=some true)
   (hm:PySem.W.mroIn K C (.type "object")=some true):TyOf K H (.ref a) (.ref C)
theorem Vc {x:V} {u t:Ac} (I:Inv X pins σ H s) (rx:qS x u) (ty:TyOf X.K H x t) (e:PySem.W.kitOne X.K t c=some b) (h:∀ tk,Q (.bool b) {s with toks:=tk}):
  wpAny (model X.prog X.w) A (call (.builtin "isinstance") [u,c]) Q E s:=by
 cases ty with
 | non=>cases (show u=Value.none from rx);exact Cm PySem.W.kitx_none I.kIn True.intro e (fun z=>nomatch z) h
 | bl y=>cases (show u=Value.bool y from rx);exact Cm PySem.W.kitx_bool I.kIn True.intro e (fun z=>nomatch z) h
 | int i=>obtain ⟨t,q⟩:=(show ∃ t,u=Value.int i t from rx);cases q;exact Cm PySem.W.kitx_int I.kIn True.intro e (fun z=>nomatch z) h
 | str y=>obtain ⟨t,q⟩:=(show ∃ t,u=Value.str y t from rx);cases q;exact Cm PySem.W.kitx_str I.kIn True.intro e (fun z=>nomatch z) h
 | flt y=>obtain ⟨t,q⟩:=(show ∃ t,u=Value.float y t from rx);cases q;exact Cm PySem.W.kitx_float I.kIn True.intro e (fun z=>nomatch z) h
 | @lst a xs ea=>
  cases (show u=Value.ref a from rx);obtain ⟨_,_,n,_,h1⟩:=(show zw X.prog X.w H s.heap a (.lst xs) from I.hok a _ ea);exact Cm PySem.W.kitx_list I.kIn ⟨_,h1,rfl⟩ e (fun z=>nomatch z) h
 | @frz a ob xs ea=>
  cases (show u=Value.ref a from rx);obtain ⟨_,_,_,n,_,h1⟩:=(show zw X.prog X.w H s.heap a (.frz ob (.lst xs)) from I.hok a _ ea);exact Cm PySem.W.kitx_list I.kIn ⟨_,h1,rfl⟩ e (fun z=>nomatch z) h
 | @tup a xs ea=>
  cases (show u=Value.ref a from rx);obtain ⟨_,_,_,p⟩:=(show zw X.prog X.w H s.heap a (.tup xs) from I.hok a _ ea);obtain ⟨o,h1,h2,_⟩:=p;exact Cm PySem.W.kitx_tuple I.kIn ⟨o,h1,h2⟩ e (fun z=>nomatch z) h
 | @dK a kvs ea=>
  cases (show u=Value.ref a from rx);obtain ⟨_,_,vs,_,p⟩:=(show zw X.prog X.w H s.heap a (.dK kvs) from I.hok a _ ea);obtain ⟨o,es,ep,h1,h2,_⟩:=p;exact Cm PySem.W.kitx_dict I.kIn ⟨o,h1,h2.1⟩ e (fun z=>nomatch z) h
 | @dT a kvs ea=>
  cases (show u=Value.ref a from rx);obtain ⟨_,_,xs,_,o,es,ep,h1,h2,_⟩:=(show zw X.prog X.w H s.heap a (.dT kvs) from I.hok a _ ea);exact Cm PySem.W.kitx_dict I.kIn ⟨o,h1,h2.1⟩ e (fun z=>nomatch z) h
 | @ins a C dx fs ea cl ha hn htk hm=>
  cases (show u=Value.ref a from rx);obtain ⟨mA,O,_⟩:=wX I.hok ea;obtain ⟨od,J,_⟩:=O.look;exact Cm (PySem.W.kitx_own (cl.get _) cl.hd ha hn htk hm) I.kIn J e (fun z=>nomatch z) h
end
structure Room (k:Nat) (A:Around):Prop where
 hd:A.handled=none
 dp:A.depth+3*k+5<recursionLimit
 un:A.units+16*k+200<cLine
theorem Room.mono {j k:Nat} {A:Around} (r:Room k A) (h:j≤k):Room j A:=⟨r.hd,by have:=r.dp;omega,by have:=r.un;omega⟩
theorem Room.deeper {k:Nat} {A:Around} (r:Room (k+1) A) (env:Env):Room k (A.deeper env):=
 ⟨r.hd,by have:=r.dp;show A.depth+1+3*k+5<_;omega,by have:=r.un;show A.units+3+16*k+200<_;omega⟩
theorem ZI {A:Around} {C:Ae} {us:List Ac} {kw:List (Str×Ac)}:(A.under (.builtin "type.__call__" ⟨.ref C::us,kw⟩)).depth=A.depth+1:=by
 first | rfl | simp [Around.under,Code.weight,Code.isCreation,Code.isGuard,Code.isCaller,Code.frames,Code.isFrame,guardIds]
theorem ZH {A:Around} {C:Ae} {us:List Ac} {kw:List (Str×Ac)}:(A.under (.builtin "type.__call__" ⟨.ref C::us,kw⟩)).units=A.units+1:=by
 first | rfl | simp [Around.under,Code.cUnits,Code.frames,Code.isFrame]
theorem Room.make {k:Nat} {A:Around} (r:Room (k+1) A) (C:Ae) (us:List Ac) (kw:List (Str×Ac)):Room k (A.under (.builtin "type.__call__" ⟨.ref C::us,kw⟩)):=
 ⟨r.hd,by have:=r.dp;rw [ZI];omega,by have:=r.un;rw [ZH];omega⟩
theorem Room.depth {k:Nat} {A:Around} (r:Room k A):A.depth<recursionLimit:=by have:=r.dp;omega
theorem Room.units {k:Nat} {A:Around} (r:Room k A):A.units+64<cLine:=by have:=r.un;omega
def zi:TA:=fun _ H Q=>Q [] H
def qz (ta:TE) (tr:TA):TA:=fun σ H Q=>ta σ H fun x H1=>tr σ H1 fun xs H2=>Q (x::xs) H2
section
variable {X:Cx} {e:Expr} {es:List Expr} {te:TE} {t:TA} {pos:Pos}
theorem qf:PA X [] zi:=fun _ _ _ _ H Q I h=>Calls.spliced_nil ⟨[],H,I,.nil,h⟩
theorem qd (ha:PE X e te) (hr:PA X es t) (hs:starEach (e::es) X.env=(false,eval e X.env)::starEach es X.env:=by rfl):PA X (e::es) (qz te t):=by
 intro pos pins s σ H Q I h;rw [hs];show wpAny _ _ (spliced ((false,eval e X.env)::backTo pos (starEach es X.env))) _ _ s;refine Calls.spliced_cons (thn (ha pins s σ H _ I h) fun u s1 ⟨x,H1,I1,r1,q1⟩=>?_);exact thn (hr pos pins s1 σ H1 _ I1 q1) fun us s2 ⟨xs,H2,I2,r2,q2⟩=>⟨x::xs,H2,I2,.cons r1 r2,q2⟩
def Jy (t:TA):TE:=fun σ H Q=>t σ H fun xs H1=>xs.length≤Ag∧∀ p,H1 p=none→Q (.ref p) (upd H1 p (.tup xs))
def V1 (t:TA):TE:=fun σ H Q=>t σ H fun xs H1=>xs.length≤Ag∧∀ p,H1 p=none→Q (.ref p) (upd H1 p (.lst xs))
theorem qr {x1} (h:PA X es t):PE X (.Tuple es x1 pos) (Jy t):=by
 intro pins s σ H Q I hq;refine wpAny_Tuple_spliced (thn (h pos pins s σ H _ I hq) fun us s1 ⟨xs,H1,I1,r,z,q⟩=>⟨by rw [← r.length];exact z,?_⟩)
 have hf:H1 s1.heap.objs.size=none:=I1.hok.fresh (Aw _);refine ⟨.ref s1.heap.objs.size,upd H1 s1.heap.objs.size (.tup xs),I1.laid (t':=s1.toks) (fun b u e=>As _ e) (Aw _) ?_,rfl,q _ hf⟩;exact ⟨z,us,r,⟨_,Bk _ rfl,rfl,_,rfl⟩⟩
theorem qH (h:PA X es t):PE X (.List es pos) (V1 t):=by
 intro pins s σ H Q I hq;refine wpAny_List_spliced (thn (h pos pins s σ H _ I hq) fun us s1 ⟨xs,H1,I1,r,z,q⟩=>⟨by rw [← r.length];exact z,?_⟩)
 have hf:H1 s1.heap.objs.size=none:=I1.hok.fresh (Aw _);refine ⟨.ref s1.heap.objs.size,upd H1 s1.heap.objs.size (.lst xs),I1.laid (t':=s1.toks) (fun b u e=>As _ e) (Aw _) ?_,rfl,q _ hf⟩;exact ⟨z,us,0,r,Bk _ rfl⟩
end
abbrev Sp:=List V→Hp→VK→XK→Prop
abbrev CXT:=List Env→Hp→Af→XK→Ac→Af→Prop
structure Env0 (P:Program) (w:World) (K:Frag) (mg:Str→Option Ac) (base:Heap) (A:Around) (outer:List Env) (s:Af) (H:Hp):Prop where
 frames:A.frames=some outer
 mod:Mod K mg base
 bs:∀ b o,base.get? b=some o→s.heap.get? b=some o∧H b=none
 bsz:base.objs.size≤s.heap.objs.size
 funs:s.heap.FunFrames base outer
 frf:∀ b∈frs outer,H b=none
 hok:HOk P w H s.heap
 bare:AllBare s.gens
def CE (outer:List Env) (P:Program) (w:World) (H:Hp) (s:Af) (Q:VK) (u:Ac) (s':Af):Prop:=
 ∃ v H',s'.os=s.os∧AllBare s'.gens∧Un (frs outer) [] H H' s.heap s'.heap∧HOk P w H' s'.heap∧qS v u∧Q v H'
def CR (CX:CXT) (outer:List Env) (P:Program) (w:World) (H:Hp) (s:Af) (Q:VK) (E:XK) (r:Result) (s':Af):Prop:=
 match r with
 | .ok (.ret u)=>CE outer P w H s Q u s'
 | .ok _=>False
 | .error e=>CX outer H s E e s'
structure FnOk (P:Program) (w:World) (K:Frag) (mg:Str→Option Ac) (base:Heap) (CX:CXT) (k:Nat) (f:Ae) (fd:FuncData) (ps:List Str) (sp:Sp):Prop where
 len:∀ vs H Q E,sp vs H Q E→vs.length=ps.length
 run:∀ (A:Around) (outer:List Env) (s:Af) (H:Hp) (args:Args) (us:List Ac) (vs:List V) (Q:VK) (E:XK),Room k A→Env0 P w K mg base A outer s H→BindsTo s fd args (ps.zip us)→qT vs us→sp vs H Q E→
  codeAny (model P w) A (.call (.ref f) args) (CR CX outer P w H s Q E) s
theorem FnOk.mono {P:Program} {w:World} {K:Frag} {mg:Str→Option Ac} {base:Heap} {CX:CXT} {j k:Nat} {f:Ae} {fd:FuncData} {ps:List Str} {sp:Sp} (F:FnOk P w K mg base CX j f fd ps sp) (h:j≤k):
  FnOk P w K mg base CX k f fd ps sp:=⟨F.len,fun A outer s H args us vs Q E hr=>F.run A outer s H args us vs Q E (hr.mono h)⟩
theorem Env0.make {P:Program} {w:World} {K:Frag} {mg:Str→Option Ac} {base:Heap} {A:Around} {outer:List Env} {s:Af} {H:Hp} (e:Env0 P w K mg base A outer s H) (C:Ae) (us:List Ac) (kw:List (Str×Ac)):
  Env0 P w K mg base (A.under (.builtin "type.__call__" ⟨.ref C::us,kw⟩)) outer s H:=⟨by first | exact e.frames | (simpa [Around.under,Code.envs,Code.isFrame,pushEnvs] using e.frames),e.mod,e.bs,e.bsz,e.funs,e.frf,e.hok,e.bare⟩
section
variable {X:Cx} {pins:List (Ae×Obj)} {σ:St} {H:Hp} {s s':Af}
theorem Inv.env0 (I:Inv X pins σ H s):Env0 X.prog X.w X.K X.mg X.base X.A X.stack s H:=
 ⟨I.ok.frames,I.ok.mod,I.bs,Ar I.ok.bsz I.sz,I.stack,I.stkFree,I.hok,I.bare⟩
theorem Inv.after {Q:VK} {u:Ac} (I:Inv X pins σ H s) (h:CE X.stack X.prog X.w H s Q u s'):EP X pins σ Q u s':=by
 obtain ⟨v,H',os,bare,un,hok,r,q⟩:=h;obtain ⟨hh,g,d,t,os'⟩:=s';obtain rfl:os'=s.os:=os;exact ⟨v,H',I.call (h':=hh) (g':=g) (d':=d) (t':=t) (ch:=[]) un hok bare (fun b z=>absurd z (by simp)),r,q⟩
end
def zP (sp:Sp) (dvs:List V) (E:XK) (t:TA):TE:=fun σ H Q=>t σ H fun vs H1=>sp (vs++dvs) H1 Q E
def qgm (C:Ae) (m:Str) (sp:Sp) (dvs:List V) (E:XK) (ta:TE) (t:TA):TE:=fun σ H Q=>ta σ H fun x H1=>∃ a dx fs,x= .ref a∧H1 a=some (.ins C dx fs)∧fs.lookup m=none∧
 t σ H1 fun vs H2=>sp (x::(vs++dvs)) H2 Q E
def qgn (C:Ae) (sp:Sp) (dvs:List V) (E:XK) (t:TA):TE:=fun σ H Q=>t σ H fun vs H1=>∀ x dx,H1 x=none→H1 dx=none→dx≠x→
 sp (.ref x::(vs++dvs)) (upd (upd H1 dx (.own x)) x (.ins C dx [])) (fun v H2=>v= .non∧Q (.ref x) H2) E
def j5 (K:Frag) (fd:FuncData) (ps:List Str) (ds:List Ac):Prop:=
 ∀ (s:Af) (us:List Ac),K.In s.heap→(us++ds).length=ps.length→BindsTo s fd ⟨us,[]⟩ (ps.zip (us++ds))
theorem j5.all {K:Frag} {fd:FuncData} {ps:List Str} (h:∀ us:List Ac,us.length=ps.length→bindArgs fd ⟨us,[]⟩=pure (ps.zip us)):j5 K fd ps []:=fun s us _ hl=>by
 rw [Bo] at hl ⊢;exact .of_eq (h us hl)
def JQ (CX:CXT) (X:Cx) (E:XK):Prop:=∀ (pins:List (Ae×Obj)) (σ:St) (H:Hp) (s:Af) (e:Ac) (s':Af),Inv X pins σ H s→CX X.stack H s E e s'→X.xe e s'
section
variable {X:Cx} {CX:CXT} {k:Nat} {f C:Ae} {fd:FuncData} {ps:List Str} {sp:Sp} {dvs:List V} {ds:List Ac} {E:XK} {x m:Str} {p pos apos:Pos} {e o:Expr} {es:List Expr} {ta:TE} {t:TA}
theorem qcs {pins:List (Ae×Obj)} {σ:St} {H:Hp} {s:Af} {Q:VK} {us:List Ac} {vs:List V} (F:FnOk X.prog X.w X.K X.mg X.base CX k f fd ps sp) (hr:Room k X.A) (hb:j5 X.K fd ps ds) (hd:qT dvs ds) (hx:JQ CX X E)
  (I:Inv X pins σ H s) (r:qT vs us) (h:sp (vs++dvs) H Q E):wpAny (model X.prog X.w) X.A (call (.ref f) us) (EP X pins σ Q) X.xe s:=by
 have r2:qT (vs++dvs) (us++ds):=r.append hd;have hl:(us++ds).length=ps.length:=by rw [← r2.length];exact F.len _ _ _ _ h
 refine wpAny_call (E4 (F.run X.A X.stack s H ⟨us,[]⟩ (us++ds) (vs++dvs) Q E hr I.env0 (hb s us I.kIn hl) r2 h) fun r s' hq=>?_);cases r with
 | error e=>exact hx pins σ H s e s' I hq
 | ok fl=>
  cases fl with
  | ret u=>exact I.after hq
  | next=>exact False.elim hq
  | brk=>exact False.elim hq
  | cont=>exact False.elim hq
theorem Qt (F:FnOk X.prog X.w X.K X.mg X.base CX k f fd ps sp) (hr:Room k X.A) (hg:Gl X x) (hm:X.mg x=some (.ref f)) (hk:PySem.W.keepIn X.K (.ref f)=true) (hb:j5 X.K fd ps ds) (hd:qT dvs ds) (hx:JQ CX X E)
  (ha:PA X (e::es) t) (hdb:(x==("__debug__":Str))=false:=by decide) (he:starEach (e::es) X.env=(false,eval e X.env)::starEach es X.env:=by rfl) (hpl:(backTo pos (starEach es X.env)).any (·.1)=false:=by rfl):
  PE X (.Call (.Name x p) (e::es) [] pos) (zP sp dvs E t):=by
 intro pins s σ H Q I h;refine E5 (JF I hg hm ?_ hdb);refine PySem.W.callWith_K (h₀:=X.base) I.ok.mod.kin hk (thn (ha pos pins s σ H _ I h) fun us s1 ⟨vs,H1,I1,r,q⟩=>⟨I1.kIn,?_⟩) he hpl;exact qcs F hr hb hd hx I1 r q
theorem qdc {pl:Sem Bool} (he:PE X o ta) (c:Cls X.K C) (hm:Meth X.K C m f) (F:FnOk X.prog X.w X.K X.mg X.base CX k f fd ps sp) (hr:Room k X.A) (hb:j5 X.K fd ps ds) (hd:qT dvs ds) (hx:JQ CX X E)
  (ht:eval (.Call (.Attribute o m apos) [] [] pos) X.env=(do
   let ov ← eval o X.env
   standAt apos.atName
   let (f,first) ← holding [ov] (getMethod ov m pl)
   callWith pos f first (backTo pos (starEach [] X.env)) (backToKw pos (keywordEach [] X.env))):=by rfl):
  PE X (.Call (.Attribute o m apos) [] [] pos) (qgm C m sp dvs E ta zi):=by
 intro pins s σ H Q I h;refine PySem.W.methodCall_KW (pl:=pl) (thn (he pins s σ H _ I h) fun u s1 ⟨x,H1,I1,rx,a,dx,fs,ex,ea,l,q⟩=>?_) ht;subst ex;obtain rfl:u=Value.ref a:=rx;refine ZT I1 ea c hm l ?_;exact PySem.W.callWith_K0 (first:=[.ref a]) I1.kIn hm.kp (qcs (us:=[.ref a]) (vs:=[.ref a]) F hr hb hd hx I1 (.cons rfl .nil) q)
structure Mk (K:Frag) (C f:Ae):Prop where
 makes:PySem.W.makesIn K C=true
 init:PySem.W.findIn K (.ref C) "__init__"=some (some (.ref f))
 fn:PySem.W.isFn K (.ref f)=true
 kp:PySem.W.keepIn K (.ref C)=true
theorem qcr {pins:List (Ae×Obj)} {σ:St} {H:Hp} {s:Af} {Q:VK} {us:List Ac} {vs:List V} (M:Mk X.K C f) (F:FnOk X.prog X.w X.K X.mg X.base CX k f fd ps sp) (hr:Room (k+1) X.A) (hb:j5 X.K fd ps ds) (hd:qT dvs ds)
  (hx:JQ CX X E) (I:Inv X pins σ H s) (r:qT vs us)
  (h:∀ x dx,H x=none→H dx=none→dx≠x→sp (.ref x::(vs++dvs)) (upd (upd H dx (.own x)) x (.ins C dx [])) (fun v H2=>v= .non∧Q (.ref x) H2) E):
  wpAny (model X.prog X.w) X.A (call (.ref C) us) (EP X pins σ Q) X.xe s:=by
 have hq:=h (s.heap.objs.size+1) s.heap.objs.size (I.hok.fresh (Fb _)) (I.hok.fresh (Aw _)) (Bz (Nat.lt_succ_self _));have I2:=Inv.made (C:=C) I;have r2:qT (V.ref (s.heap.objs.size+1)::(vs++dvs)) (Value.ref (s.heap.objs.size+1)::(us++ds)):= .cons rfl (r.append hd);have hl:(Value.ref (s.heap.objs.size+1)::us++ds).length=ps.length:=by
  have e:=r2.length;rw [F.len _ _ _ _ hq] at e;exact e.symm
 refine wpAny_call (qdq (f:=f) I.kIn M.makes M.init (A8.mp M.fn) (E4 (F.run _ X.stack _ _ ⟨Value.ref (s.heap.objs.size+1)::us,[]⟩ (Value.ref (s.heap.objs.size+1)::(us++ds)) _ _ E (hr.make C us [])
  (I2.env0.make C us []) (hb _ (Value.ref (s.heap.objs.size+1)::us) I2.kIn hl) r2 hq) fun r s' hq'=>?_))
 cases r with
 | error e=>exact hx pins σ _ _ e s' I2 hq'
 | ok fl=>
  cases fl with
  | ret u=>
   obtain ⟨v,H',I3,rv,ev,q3⟩:=I2.after hq';subst ev;exact ⟨rv,⟨V.ref (s.heap.objs.size+1),H',I3,rfl,q3⟩⟩
  | next=>exact False.elim hq'
  | brk=>exact False.elim hq'
  | cont=>exact False.elim hq'
theorem qfa (M:Mk X.K C f) (F:FnOk X.prog X.w X.K X.mg X.base CX k f fd ps sp) (hr:Room (k+1) X.A) (hg:Gl X x) (hm:X.mg x=some (.ref C)) (hb:j5 X.K fd ps ds) (hd:qT dvs ds) (hx:JQ CX X E)
  (ha:PA X (e::es) t) (hdb:(x==("__debug__":Str))=false:=by decide) (he:starEach (e::es) X.env=(false,eval e X.env)::starEach es X.env:=by rfl) (hpl:(backTo pos (starEach es X.env)).any (·.1)=false:=by rfl):
  PE X (.Call (.Name x p) (e::es) [] pos) (qgn C sp dvs E t):=by
 intro pins s σ H Q I h;refine E5 (JF I hg hm ?_ hdb);refine PySem.W.callWith_K (h₀:=X.base) I.ok.mod.kin M.kp (thn (ha pos pins s σ H _ I h) fun us s1 ⟨vs,H1,I1,r,q⟩=>⟨I1.kIn,?_⟩) he hpl;exact qcr M F hr hb hd hx I1 r q
end
section
variable {X:Cx} {CX:CXT} {k:Nat} {f C:Ae} {fd:FuncData} {ps ks:List Str} {sp:Sp} {E:XK} {x m:Str} {p pos apos kpos:Pos} {e o:Expr} {es:List Expr} {kws:List Keyword} {te ta:TE} {t tk:TA} {nm:Option Str}
variable {g:List Ac→List Ac→List Ac} {gV:List V→List V→List V}
end
structure FnScope (N P:List Str) (sc:Scope):Prop where
 kind:sc.kind= .function
 co:sc.isCoroutine=false
 gen:sc.isGenerator=false
 nd:N.Nodup
 pre:N.take P.length=P
 par:∀ x∈P,sc.names.lookup x=some .local∨sc.names.lookup x=some .cell
 nofree:∀ y∈sc.names,y.2≠ .free
theorem yG {kindOf:Str→Option NameKind} {x:Str}:∀ {binds:List (Str×Ac)} {m:Str→Option Ac},(∀ v,(x,v)∉binds)→bindL kindOf binds m x=m x
 | [],_,_=>rfl
 | (n,v)::r,m,h=>by
  unfold bindL;rw [yG fun w hw=>h w (Au _ hw)];split
  ·have:x≠n:=by rintro rfl;exact h v Ay
   simp [this]
  ·rfl
theorem yJ {kindOf:Str→Option NameKind} {x:Str}:∀ {binds:List (Str×Ac)} {m:Str→Option Ac},(∀ v,(x,v)∉binds)→bindC kindOf binds m x=m x
 | [],_,_=>rfl
 | (n,v)::r,m,h=>by
  unfold bindC;rw [yJ fun w hw=>h w (Au _ hw)];split
  ·rfl
  ·have:x≠n:=by rintro rfl;exact h v Ay
   simp [this]
theorem yH {kindOf:Str→Option NameKind} {x:Str} {v:Ac}:∀ {P:List Str} {vs:List Ac} {i:Nat} {m:Str→Option Ac},P.Nodup→P[i]?=some x→vs[i]?=some v→kindOf x=some .local→
  bindL kindOf (P.zip vs) m x=some v
 | [],_,_,_,_,h,_,_=>by simp at h
 | _::_,[],_,_,_,_,h,_=>by simp at h
 | p::P,w::vs,0,m,nd,h1,h2,hk=>by
  simp at h1 h2;subst h1;subst h2;show bindL kindOf ((p,w)::P.zip vs) m p=_;unfold bindL;rw [yG fun v hv=>(Cy.mp nd).1 (Cz hv).1,if_pos hk];simp
 | p::P,w::vs,i+1,m,nd,h1,h2,hk=>by
  show bindL kindOf ((p,w)::P.zip vs) m x=_;unfold bindL;exact yH (i:=i) (Cy.mp nd).2 (by simpa using h1) (by simpa using h2) hk
theorem yK {kindOf:Str→Option NameKind} {x:Str} {v:Ac}:∀ {P:List Str} {vs:List Ac} {i:Nat} {m:Str→Option Ac},P.Nodup→P[i]?=some x→vs[i]?=some v→kindOf x≠some .local→
  bindC kindOf (P.zip vs) m x=some v
 | [],_,_,_,_,h,_,_=>by simp at h
 | _::_,[],_,_,_,_,h,_=>by simp at h
 | p::P,w::vs,0,m,nd,h1,h2,hk=>by
  simp at h1 h2;subst h1;subst h2;show bindC kindOf ((p,w)::P.zip vs) m p=_;unfold bindC;rw [yJ fun v hv=>(Cy.mp nd).1 (Cz hv).1,if_neg hk];simp
 | p::P,w::vs,i+1,m,nd,h1,h2,hk=>by
  show bindC kindOf ((p,w)::P.zip vs) m x=_;unfold bindC;exact yK (i:=i) (Cy.mp nd).2 (by simpa using h1) (by simpa using h2) hk
def start (N:List Str) (vs:List V):St:=vs.map some++List.replicate (N.length - vs.length) none
def wO (CX:CXT) (P:Program) (w:World) (K:Frag) (mg:Str→Option Ac) (base:Heap) (N:List Str) (qual:Str) (scope:Scope) (f:Ae) (cd:Ac) (A:Around) (outer:List Env) (s:Af) (H:Hp) (E:XK):Cx where
 prog:=P
 w:=w
 K:=K
 mg:=mg
 base:=base
 A:=A.deeper (envOfC qual scope s.heap.objs.size f cd)
 N:=N
 s₀:=s
 H₀:=H
 env:=envOfC qual scope s.heap.objs.size f cd
 outer:=outer
 stack:=envOfC qual scope s.heap.objs.size f cd::outer
 ex:=[]
 calm:=true
 fn:=fun _=>true
 pn:=[]
 xe:=fun e s'=>wpAny (model P w) (A.deeper (envOfC qual scope s.heap.objs.size f cd)) (leaving (envOfC qual scope s.heap.objs.size f cd) e) (fun _ s''=>CX outer H s E e s'') (fun e' s''=>CX outer H s E e' s'') s'
theorem XY {sc:Scope} {n:Nat} {x:Str} (h:sc.names.lookup x=some .cell):∃ c,(cellsFrom n sc.names []).lookup x=some c:=by
 have q:=PySem.W.cellsFrom_some sc.names n [] (.inl h);exact Bw.mp q
theorem yu {CX:CXT} {P:Program} {w:World} {K:Frag} {mg:Str→Option Ac} {base:Heap} {N ps:List Str} {qual:Str} {scope:Scope} {f:Ae} {cd:Ac} {A:Around} {outer:List Env} {s s1:Af} {H:Hp} {E:XK} {us:List Ac} {vs:List V}
  (S:FnScope N ps scope) (hd:A.handled=none) (e0:Env0 P w K mg base A outer s H) (hl:vs.length=ps.length) (r:qT vs us)
  (x:InCallC s s.heap.objs.size (bindL (envOfC qual scope s.heap.objs.size f cd).kindOf (ps.zip us) fun _=>none) (cellsFrom (s.heap.objs.size+1) scope.names []) (bindC (envOfC qual scope s.heap.objs.size f cd).kindOf (ps.zip us) fun _=>none) s1):
  Inv (wO CX P w K mg base N qual scope f cd A outer s H E) [] (start N vs) H s1:=by
 have hpl:ps.length≤N.length:=by have:=congrArg List.length S.pre;rw [Bm] at this;omega
 obtain ⟨h1,tk,rfl,hk⟩:=x.done;have noA:∀ b:Ae,b∉(wO CX P w K mg base N qual scope f cd A outer s H E).ex:=fun b z=>absurd (show b∈([]:List Ae) from z) (by simp)
 refine ⟨⟨e0.mod,S.kind,rfl,rfl,Aw _,fun y z c h1 h2=>?_,fun y hy=>?_,fun y c _ h=>?_,fun _=>hd,Around.frames_deeper e0.frames,.inr ⟨rfl,rfl⟩,fun b z=>absurd z (noA b),e0.bs,e0.bsz,fun b _ _=>noA b,fun b z=>absurd z (noA b),e0.funs,e0.frf⟩,
  rfl,e0.bare,Un.kept hk,⟨_,x.toInCall.ns,fun i y v h1 h2 h3=>?_⟩,fun y c h=>⟨_,x.cell y c h⟩,e0.hok.fresh (Aw _),fun y c h=>?_,fun p hp=>absurd (show p∈([]:List (Ae×Obj)) from hp) (by simp),e0.hok.kept hk,?_⟩
 ·exact name_of_addr x.apart (Bc h1) (Bc h2)
 ·have hy:scope.names.lookup y=some .cell∨scope.names.lookup y=some .free:=hy;rcases hy with hy | hy
  ·exact XY hy
  ·exact absurd rfl (S.nofree _ (Bc hy))
 ·exact Nat.le_of_lt (x.above y c (Bc h))
 ·have hi:i<vs.length:=by
   unfold start at h2
   by_cases hi:i<vs.length
   ·exact hi
   ·rw [List.getElem?_append_right (by simpa using hi)] at h2
    rw [List.getElem?_replicate] at h2;split at h2 <;> cases h2
  have ha:vs[i]?=some v:=by
   unfold start at h2;rw [List.getElem?_append_left (by simpa using hi),Bt] at h2
   cases e:vs[i]? with
   | none=>rw [e] at h2;cases h2
   | some a=>rw [e] at h2;cases h2;rfl
  obtain ⟨u,hu,rv⟩:=r.get ha;have hp:ps[i]?=some y:=by
   rw [← S.pre,List.getElem?_take_of_lt ⋯];exact h1
  have ndP:ps.Nodup:=by rw [← S.pre];exact S.nd.sublist (List.take_sublist _ _)
  refine ⟨u,rv,?_⟩;rcases S.par y (Br hp) with k | k
  ·exact .inl ⟨k,yH ndP hp hu k⟩
  ·obtain ⟨c,e⟩:=XY (n:=s.heap.objs.size+1) k;refine .inr ⟨.inl k,c,e,?_⟩;have q:=x.cell y c e;rw [yK ndP hp hu (by show scope.names.lookup y≠_;rw [k];decide)] at q
   exact q
 ·exact e0.hok.fresh (Nat.le_of_lt (x.above y c (Bc h)))
 ·unfold start;show _=N.length;rw [Am,Aj,Dm];omega
theorem qgx {CX:CXT} {P:Program} {w:World} {K:Frag} {mg:Str→Option Ac} {base:Heap} {k:Nat} {f:Ae} {name qual:Str} {params:Arguments} {body:List Stmt} {scope:Scope} {dV kV doc pm cdv ct oc:Ac} {an od:Option Ae}
  {osl:Array (Option Ac)} {N ps:List Str} {sp:Sp} (lk:K.lookup f=some ⟨oc,od,.func (PySem.W.fnOf name qual params body scope dV kV doc pm an cdv ct),osl⟩) (hcd:PySem.W.codeIn K cdv qual=true) (S:FnScope N ps scope)
  (len:∀ vs H Q E,sp vs H Q E→vs.length=ps.length)
  (hbody:∀ (A:Around) (outer:List Env) (s:Af) (H:Hp) (vs:List V) (Q:VK) (E:XK),Room k (A.deeper (envOfC qual scope s.heap.objs.size f cdv))→sp vs H Q E→
   ∃ t,PSs (wO CX P w K mg base N qual scope f cdv A outer s H E) body t∧t {nx:=fun _ H'=>Q .non H',rt:=Q} (start N vs) H):
  FnOk P w K mg base CX (k+1) f (PySem.W.fnOf name qual params body scope dV kV doc pm an cdv ct) ps sp:=by
 refine ⟨len,fun A outer s H args us vs Q E hr e0 hb r hsp=>?_⟩;have hl:=len _ _ _ _ hsp;have KX:K.In s.heap:=e0.mod.kin.keeps fun b o e=>(e0.bs b o e).1;have lim:s.heap.NoLimit:=e0.mod.nolimit.keeps fun b o e=>(e0.bs b o e).1;have hkind:∀ y∈ps.zip us,scope.names.lookup y.1=some .local∨(scope.names.lookup y.1=some .cell∧((cellsFrom (s.heap.objs.size+1) scope.names []).lookup y.1).isSome=true):=fun ⟨n,v⟩ hy=>by
  rcases S.par n (Cz hy).1 with q | q
  ·exact .inl q
  ·exact .inr ⟨q,PySem.W.cellsFrom_some _ _ _ (.inl q)⟩
 refine codeAny_call_function hr.depth (KX _ _ lk) rfl S.co S.gen rfl (PySem.W.codeRec_of KX hcd) (hb _ _ _ _ ?_);refine wpAny_newFunctionEnv_cells S.kind hkind fun env he s1 x=>?_;subst he;refine ⟨lim.keeps x.toInCall.keep,codeAny_func ?_⟩;obtain ⟨t,ht,hq⟩:=hbody A outer s H vs Q E (hr.deeper _) hsp;have I:Inv (wO CX P w K mg base N qual scope f cdv A outer s H E) [] (start N vs) H s1:=yu S hr.hd e0 hl r x;refine Di (ht [] s1 (start N vs) H _ I hq) (fun fl s' hs=>?_) fun e s' hs=>hs;have fin:∀ {σ':St} {H':Hp} {v:V} {u:Ac},Inv (wO CX P w K mg base N qual scope f cdv A outer s H E) [] σ' H' s'→qS v u→Q v H'→CE outer P w H s Q u s':=
  fun {σ' H' v u} J rv q=>⟨v,H',J.os,J.bare,J.base,J.hok,rv,q⟩
 cases fl with
 | ret u=>
  obtain ⟨v,σ',H',J,rv,q⟩:=hs;exact fin J rv q
 | next=>
  obtain ⟨σ',H',J,q⟩:=hs;exact fin (v:=V.non) (u:=Value.none) J rfl q
 | brk=>
  obtain ⟨_,_,_,q⟩:=hs;exact False.elim q
 | cont=>
  obtain ⟨_,_,_,q⟩:=hs;exact False.elim q
section
variable {X:Cx} {x:Str} {p pos:Pos} {e:Expr} {es:List Expr} {t:TA} {id T:String} {r:List V→Hp→VK→Prop}
def tCB (r:List V→Hp→VK→Prop) (t:TA):TE:=fun σ H Q=>t σ H fun vs H1=>r vs H1 Q
theorem qE (hc:jN X (.builtin id) r) (hg:Gl X x) (hm:X.mg x=none) (hv:bootBuiltins x=some (.builtin id)) (ha:PA X (e::es) t) (hn:x≠"__name__":=by decide) (hdb:(x==("__debug__":Str))=false:=by decide)
  (he:starEach (e::es) X.env=(false,eval e X.env)::starEach es X.env:=by rfl) (hpl:(backTo pos (starEach es X.env)).any (·.1)=false:=by rfl):PE X (.Call (.Name x p) (e::es) [] pos) (tCB r t):=by
 intro pins s σ H Q I h;refine E5 (WK I hg hm hv ?_ hn hdb);exact PyProof.Rows.callWith_builtin1 (thn (ha pos pins s σ H _ I h) fun us s1 ⟨vs,H1,I1,r1,q1⟩=>hc pins s1 σ H1 vs us Q I1 r1 q1) he hpl
theorem zo (hc:jN X (.type T) r) (hg:Gl X x) (hm:X.mg x=none) (hv:bootBuiltins x=some (.type T)) (ha:PA X (e::es) t) (hn:x≠"__name__":=by decide) (hdb:(x==("__debug__":Str))=false:=by decide)
  (he:starEach (e::es) X.env=(false,eval e X.env)::starEach es X.env:=by rfl) (hpl:(backTo pos (starEach es X.env)).any (·.1)=false:=by rfl):PE X (.Call (.Name x p) (e::es) [] pos) (tCB r t):=by
 intro pins s σ H Q I h;refine E5 (WK I hg hm hv ?_ hn hdb);exact PyProof.Rows.callWith_type1 (thn (ha pos pins s σ H _ I h) fun us s1 ⟨vs,H1,I1,r1,q1⟩=>hc pins s1 σ H1 vs us Q I1 r1 q1) he hpl
end
end L2
namespace HT
open PySem PyProof.Rows
section
open PySem.SeqAt
open PySem.AutoSeq1 (wpAny_loadPart')
open PySem.MeetsSeq PySem.MeetsSeq2 PySem.MeetsSeq3
end
section
variable {prog:Program} {w:World} {A:Around} {E:Ac→Af→Prop} {s:Af}
theorem cat_tup {t b:Ae} {vs ws:List Ac} {Q:Ac→Af→Prop} (ht:IsTup s.heap t vs.toArray) (hb:IsTup s.heap b ws.toArray) (hv:vs≠[])
  (h1:ws=[]→Q (.ref t) s) (h2:ws≠[]→Q (.ref s.heap.objs.size) {s with heap:=s.heap.push {cls:= .type "tuple",data:= .seq (vs++ws).toArray}})
  (hsz:vs.length+ws.length≤Ag):wpAny (model prog w) A (binaryOp .Add (.ref t) (.ref b)) Q E s:=by
 obtain ⟨⟨cls,dd,data,sl⟩,ho,hc,n,hd⟩:=id ht;obtain ⟨⟨cls2,dd2,data2,sl2⟩,ho2,hc2,n2,hd2⟩:=id hb;simp only at hc hd hc2 hd2;subst hc hd hc2 hd2;have e:vs.toArray++ws.toArray=(vs++ws).toArray:=by simp
 by_cases hw:ws=[]
 ·exact concat_meets ⟨_,ho,rfl⟩ ⟨_,ho2,rfl⟩ noFill_tuple_add seq_tuple_add PySem.F.slot_tuple_add PySem.F.entry_tuple_add (PySem.F.args_tuple_add_2 _ _)
   (tuple_addW1 t b vs.toArray ws.toArray n n2 dd dd2 sl sl2 (by simpa using hv) (by simp [hw])) ⟨ho,ho2,h1 hw⟩
 ·refine concat_meets ⟨_,ho,rfl⟩ ⟨_,ho2,rfl⟩ noFill_tuple_add seq_tuple_add PySem.F.slot_tuple_add PySem.F.entry_tuple_add (PySem.F.args_tuple_add_2 _ _)
   (tuple_addW2 t b vs.toArray ws.toArray n n2 dd dd2 sl sl2 (by simpa using hv) (by simpa using hw) (by rw [Ba,Ba];exact hsz)) ⟨ho,ho2,?_⟩
  rw [e];exact h2 hw
def sIx (n d:Nat):Option Int→Nat
 | none=>d
 | some v=>if v<0 then (v+(n:Int)).toNat else min v.toNat n
theorem sIx_none (n d:Nat):sIx n d none=d:=rfl
theorem sIx_nat (n d k:Nat):sIx n d (some (k:Int))=min k n:=by
 show (if (k:Int)<0 then ((k:Int)+(n:Int)).toNat else min (k:Int).toNat n)=min k n
 rw [if_neg ⋯,E9]
theorem qhk (n d:Nat) (hd:d≤n) (o:Option Int):sIx n d o≤n:=by
 cases o with
 | none=>exact hd
 | some v=>
  show (if v<0 then (v+(n:Int)).toNat else min v.toNat n)≤n
  by_cases hv:v<0
  ·rw [if_pos hv];omega
  ·rw [if_neg hv];exact Nat.min_le_right _ _
theorem QM (v:Int) (n d:Nat):(if v<0 then max (v+(n:Int)) 0 else min v (n:Int))=((sIx n d (some v):Nat):Int):=by
 show (if v<0 then max (v+(n:Int)) 0 else min v (n:Int))=(((if v<0 then (v+(n:Int)).toNat else min v.toNat n):Nat):Int)
 by_cases hv:v<0
 ·simp only [if_pos hv];omega
 ·simp only [if_neg hv];omega
theorem Z2 (lo hi:Option Int) (n:Nat):Builtin.Slice.sliceAdjust lo hi 1 (n:Int)=(((sIx n 0 lo:Nat):Int),((sIx n n hi:Nat):Int)):=by
 have h1:¬ ((1:Int)<0):=⋯;unfold Builtin.Slice.sliceAdjust;simp only [h1,if_false];refine Prod.ext ?_ ?_
 ·cases lo with
  | none=>rfl
  | some v=>exact QM v n 0
 ·cases hi with
  | none=>rfl
  | some v=>exact QM v n n
theorem Zs (i j:Nat):Builtin.Slice.slicePlaces (i:Int) (j:Int) 1=j - i:=by
 unfold Builtin.Slice.slicePlaces;have h1:(1:Int)>0:=⋯;simp only [h1,if_true,Int.ediv_one];split <;> omega
theorem Wi {v:Ac} {o:Option Int} {Q:Option Int→Af→Prop} (p:IsPart v o) (h:Q o s):wpAny (model prog w) A (Builtin.Slice.slicePartIndex v) Q E s:=by
 cases p with
 | none=>exact slicePart_none h
 | int i t=>exact slicePart_int h
theorem V3 {sl:Ae} {vl vu:Ac} {lo hi:Option Int} {n:Nat} {Q:Int×Int×Nat→Af→Prop} (hs:s.heap.IsSliceOf sl vl vu .none) (pl:IsPart vl lo) (pu:IsPart vu hi)
  (h:Q (((sIx n 0 lo:Nat):Int),1,sIx n n hi - sIx n 0 lo) s):wpAny (model prog w) A (Builtin.Slice.sliceApplied (.ref sl) (pure (n:Int))) Q E s:=by
 obtain ⟨os,hos,hcs,hds⟩:=id hs;unfold Builtin.Slice.sliceApplied Builtin.Slice.sliceFields;refine An (An (C4 hos hds (x:=vl) rfl (An (C4 hos hds (x:=vu) rfl (An (C4 hos hds (x:= .none) rfl (A9 ?_)))))));refine An (slicePart_none ?_);show wpAny _ _ (if ((1:Int)==0)=true then _ else _) _ _ s
 rw [if_neg O0];refine An (Wi pl (An (Wi pu (An (A9 ?_)))));show wpAny _ _ (match Builtin.Slice.sliceAdjust lo hi 1 (n:Int) with | (lo,hi)=>pure (lo,(1:Int),Builtin.Slice.slicePlaces lo hi 1)) _ _ s
 rw [Z2 lo hi n];show wpAny _ _ (pure (((sIx n 0 lo:Nat):Int),(1:Int),Builtin.Slice.slicePlaces ((sIx n 0 lo:Nat):Int) ((sIx n n hi:Nat):Int) 1)) _ _ s;rw [Zs];exact A9 h
theorem qc8 (xs:Array Ac) (i k:Nat):((List.range k).filterMap fun (m:Nat)=>xs[((i:Int)+(m:Int)*1).toNat]?).toArray=((xs.toList.drop i).take k).toArray:=by
 have e:(fun (m:Nat)=>xs[((i:Int)+(m:Int)*1).toNat]?)=fun m=>xs[i+m]?:=by
  funext m;have:((i:Int)+(m:Int)*1).toNat=i+m:=⋯;rw [this]
 rw [e];have:=pick_run xs i k;rw [List.filterMap_map] at this;have e2:((fun x=>xs[x]?) ∘ fun x=>i+x)=fun m=>xs[i+m]?:=rfl;rw [e2] at this;rw [this]
theorem getItem_tuple_cut {t sl:Ae} {items:Array Ac} {vl vu:Ac} {lo hi:Option Int} {Q:Ac→Af→Prop} (ht:IsTup s.heap t items) (hs:s.heap.IsSliceOf sl vl vu .none) (pl:IsPart vl lo) (pu:IsPart vu hi)
  (hw:¬ (sIx items.size 0 lo=0∧sIx items.size items.size hi=items.size))
  (h:Q (.ref s.heap.objs.size) {s with heap:=s.heap.push {cls:= .type "tuple",data:= .seq ((items.toList.drop (sIx items.size 0 lo)).take (sIx items.size items.size hi - sIx items.size 0 lo)).toArray}})
  (hsz:items.size≤Ag):wpAny (model prog w) A (getItem (.ref t) (.ref sl)) Q E s:=by
 have htake:sizeOk (.seq ((items.toList.drop (sIx items.size 0 lo)).take (sIx items.size items.size hi - sIx items.size 0 lo)).toArray):=by
  show ((items.toList.drop (sIx items.size 0 lo)).take (sIx items.size items.size hi - sIx items.size 0 lo)).toArray.size≤Ag;rw [Ba,Bm,B5,Bh];omega
 have hj:sIx items.size items.size hi≤items.size:=qhk _ _ (Aw _) hi;obtain ⟨os,hos,hcs,hds⟩:=id hs;have hTs:s.TypeIs (.ref sl) "slice":=⟨os,hos,hcs⟩;unfold getItem
 try with_reducible refine Ds ?_
 first | refine An (A9 ?_) | skip
 refine An (wpAny_sequenceKey ht.typeIs O0 ?_);refine An (Dt (name:=Str.ofString "__getitem__") ht.typeIs PyProof.Rows.slot_tuple_getitem
  (Et PyProof.Rows.slot_tuple_getitem ht.typeIs entry_tuple_getitem ?_ (args_tuple_getitem _ _)))
 show wpAny _ _ (Builtin.Tuple.tupleItemsOf (.ref t)>>=_) _ _ s;refine An (tupleItemsOf_ ht ?_);refine An (wpAny_typeOf hTs ?_);rw [if_pos O0];refine An (V3 hs pl pu ?_);have hno:¬ ((((sIx items.size 0 lo:Nat):Int)==0&&(1:Int)==1&&(sIx items.size items.size hi - sIx items.size 0 lo)==items.size)=true):=by
  intro q;rw [Al,Al] at q;have q1:((sIx items.size 0 lo:Nat):Int)=0:=eq_of_beq q.1.1;have q2:sIx items.size items.size hi - sIx items.size 0 lo=items.size:=eq_of_beq q.2;exact hw ⟨⋯,⋯⟩
 show wpAny _ _ (if (((sIx items.size 0 lo:Nat):Int)==0&&(1:Int)==1&&(sIx items.size items.size hi - sIx items.size 0 lo)==items.size)=true then _ else _) _ _ s
 rw [if_neg hno,qc8]
 first
  | exact An (m:=Builtin.Tuple.tupleExact _) (Dr (A9 ⟨_,rfl,A9 h⟩) htake)
  | exact An (m:=Builtin.Tuple.tupleExact _) (Dr (An (A9 (A9 ⟨_,rfl,A9 h⟩))) htake)
  | exact An (An (m:=Builtin.Tuple.tupleExact _) (Dr (A9 (A9 ⟨_,rfl,A9 h⟩)) htake))
  | exact An (An (m:=Builtin.Tuple.tupleExact _) (Dr (A9 ⟨_,rfl,A9 h⟩) htake))
end
end HT
namespace L2
open PySem PySem.Spec PyProof.Rows
abbrev TO:=St→Hp→(Option Int→Hp→Prop)→Prop
def PO (X:Cx) (e:Option Expr) (t:TO):Prop:=
 ∀ (pins:List (Ae×Obj)) (s:Af) (σ:St) (H:Hp) (Q:Option Int→Hp→Prop),Inv X pins σ H s→t σ H Q→
  wpAny (model X.prog X.w) X.A (evalPart e X.env) (fun u s'=>∃ o H',Inv X pins σ H' s'∧IsPart u o∧Q o H') X.xe s
def VF:TO:=fun _ H Q=>Q none H
def YS (t:TE):TO:=fun σ H Q=>t σ H fun x H1=>∃ i,x= .int i∧Q (some i) H1
section
variable {X:Cx} {e:Expr} {te:TE} {lo hi:Option Expr} {tl th:TO} {pos p2:Pos}
theorem zk:PO X none VF:=by
 intro pins s σ H Q I h;rw [evalPart_none];exact A9 ⟨none,H,I,.none,h⟩
theorem qY (h:PE X e te):PO X (some e) (YS te):=by
 intro pins s σ H Q I hw;rw [evalPart_some];refine thn (h pins s σ H _ I hw) fun u s1 ⟨x,H1,I1,r1,q1⟩=>?_;obtain ⟨i,rfl,q⟩:=q1;obtain ⟨t,rfl⟩:=r1;exact ⟨some i,H1,I1,.int i t,q⟩
def SlR (X:Cx) (r:V→Option Int→Option Int→Hp→VK→Prop):Prop:=
 ∀ (pins:List (Ae×Obj)) (s:Af) (σ:St) (H:Hp) (x:V) (v vl vu:Ac) (lo hi:Option Int) (sl:Ae) (Q:VK),Inv X pins σ H s→qS x v→s.heap.IsSliceOf sl vl vu .none→IsPart vl lo→IsPart vu hi→r x lo hi H Q→
  ∃ T id,typeLookup (.type T) "__getitem__"=pure (some (.builtin id))∧s.TypeIs v T∧wpAny (model X.prog X.w) X.A (getItem v (.ref sl)) (EP X pins σ Q) X.xe s
theorem SlR.or {r r':V→Option Int→Option Int→Hp→VK→Prop} (h:SlR X r) (h':SlR X r'):SlR X (fun x lo hi H Q=>r x lo hi H Q∨r' x lo hi H Q):=by
 intro pins s σ H x v vl vu lo hi sl Q I rx hs pl pu q;rcases q with q | q
 ·exact h pins s σ H x v vl vu lo hi sl Q I rx hs pl pu q
 ·exact h' pins s σ H x v vl vu lo hi sl Q I rx hs pl pu q
def tSl (r:V→Option Int→Option Int→Hp→VK→Prop) (te:TE) (tl th:TO):TE:=fun σ H Q=>te σ H fun x H1=>tl σ H1 fun l H2=>th σ H2 fun u H3=>r x l u H3 Q
theorem qU {r:V→Option Int→Option Int→Hp→VK→Prop} (hr:SlR X r) (he:PE X e te) (hl:PO X lo tl) (hu:PO X hi th):PE X (.Subscript e (.Slice lo hi none p2) pos) (tSl r te tl th):=by
 intro pins s σ H Q I h;refine Subscript_ (thn (he pins s σ H _ I h) fun v s1 ⟨x,H1,I1,r1,q1⟩=>?_);refine wpAny_Slice (thn (hl pins s1 σ H1 _ I1 q1) fun vl s2 ⟨l,H2,I2,pl,q2⟩=>thn (hu pins s2 σ H2 _ I2 q2) fun vu s3 ⟨u,H3,I3,pu,q3⟩=>?_);rw [evalPart_none];refine A9 ?_;have I4:Inv X pins σ H3 {s3 with heap:=s3.heap.push {cls:= .type "slice",data:= .fields #[vl,vu,.none]}}:=I3.kept (t':=s3.toks) fun b ob q=>As _ q
 obtain ⟨T,id,hT,ht,hg⟩:=hr pins {s3 with heap:=s3.heap.push {cls:= .type "slice",data:= .fields #[vl,vu,.none]}} σ H3 x v vl vu l u s3.heap.objs.size Q I4 r1 (Heap.IsSliceOf.new ..) pl pu q3
 show wpAny (model X.prog X.w) X.A (subscriptTail e (.Slice lo hi none p2) v (.ref s3.heap.objs.size)) (EP X pins σ Q) X.xe {s3 with heap:=s3.heap.push {cls:= .type "slice",data:= .fields #[vl,vu,.none]}}
 exact tail_any (ops:=[.ref s3.heap.objs.size,v]) ht hT hg (by with_unfolding_all rfl)
def zG (xs:List V) (lo hi:Option Int):List V:=(xs.drop (HT.sIx xs.length 0 lo)).take (HT.sIx xs.length xs.length hi - HT.sIx xs.length 0 lo)
theorem wD (xs:List V) (lo hi:Option Int):(zG xs lo hi).length≤xs.length:=by
 unfold zG;rw [Bm,B5];omega
def qjl (K:Frag):V→Option Int→Option Int→Hp→VK→Prop:=fun x lo hi H Q=>∃ a xs,x= .ref a∧SqT K H a xs∧
 ¬ (HT.sIx xs.length 0 lo=0∧HT.sIx xs.length xs.length hi=xs.length)∧∀ p,H p=none→Q (.ref p) (upd H p (.tup (zG xs lo hi)))
theorem qhc:SlR X (qjl X.K):=by
 intro pins s σ H x v vl vu lo hi sl Q I rx hs pl pu h;obtain ⟨a,xs,rfl,hx,hw,q⟩:=h;cases rx;obtain ⟨its,r,ht,hz⟩:=I.tuple hx;have hlen:its.toArray.size=xs.length:=by rw [Ba];exact r.length.symm
 refine ⟨"tuple",_,PyProof.Rows.slot_tuple_getitem.lookup,ht.typeIs,?_⟩;refine HT.getItem_tuple_cut ht hs pl pu (by rw [hlen];exact hw) ?_ (by rw [hlen];exact hz)
 rw [hlen];refine ⟨.ref s.heap.objs.size,_,I.laid (t':=s.toks) (o:= .tup (zG xs lo hi)) (fun b ob q=>As _ q) (Aw _) ?_,rfl,q _ (I.hok.fresh (Aw _))⟩;exact ⟨Ar (wD xs lo hi) hz,_,(r.drop (HT.sIx xs.length 0 lo)).take (HT.sIx xs.length xs.length hi - HT.sIx xs.length 0 lo),IsTup.new _ _⟩
def qgu (K:Frag):R2:=fun x y H Q=>∃ a b xs ys,x= .ref a∧y= .ref b∧SqT K H a xs∧SqT K H b ys∧xs≠[]∧xs.length+ys.length≤Ag∧
 (ys=[]→Q (.ref a) H)∧(ys≠[]→∀ p,H p=none→Q (.ref p) (upd H p (.tup (xs++ys))))
theorem qT.nil_iff {xs:List V} {us:List Ac} (r:qT xs us):us=[]↔xs=[]:=by
 cases r with
 | nil=>simp
 | cons _ _=>simp
theorem Qw:OpR X (binaryOp .Add) (qgu X.K):=by
 intro pins s σ H x y v u Q I rx ry h;obtain ⟨a,b,xs,ys,rfl,rfl,ha,hb,hx,hz,q1,q2⟩:=h;cases rx;cases ry;obtain ⟨its,r1,p1,_⟩:=I.tuple ha;obtain ⟨its2,r2,p2,_⟩:=I.tuple hb;refine HT.cat_tup p1 p2 (fun z=>hx (r1.nil_iff.mp z)) (fun z=>⟨.ref a,H,I,rfl,q1 (r2.nil_iff.mp z)⟩) (fun z=>?_) (by rw [← r1.length,← r2.length];exact hz)
 refine ⟨.ref s.heap.objs.size,_,I.laid (t':=s.toks) (o:= .tup (xs++ys)) (fun b ob q=>As _ q) (Aw _) ?_,rfl,q2 (fun w=>z (r2.nil_iff.mpr w)) _ (I.hok.fresh (Aw _))⟩;exact ⟨by rw [Am];exact hz,_,r1.append r2,IsTup.new _ _⟩
end
def ixN (n:Nat) (i:Int):Option Nat:=if 0≤i then (if i<n then some i.toNat else none) else if -(n:Int)≤i then some (i+n).toNat else none
def atI {α:Type} (xs:List α) (i:Int):Option α:=(ixN xs.length i).bind fun j=>xs[j]?
theorem QG {n:Nat} {i:Int} {j:Nat} (h:ixN n i=some j):seqIndex? i n=some j∧j<n∧ -(n:Int)≤i∧i<n:=by
 unfold ixN at h
 by_cases h0:0≤i
 ·rw [if_pos h0] at h
  by_cases h1:i<n
  ·rw [if_pos h1] at h;have e:i.toNat=j:=Bg h;exact ⟨by rw [seqIndex_of h0 h1,e],⋯,⋯,h1⟩
  ·rw [if_neg h1] at h;cases h
 ·rw [if_neg h0] at h
  by_cases h1: -(n:Int)≤i
  ·rw [if_pos h1] at h;have e:(i+n).toNat=j:=Bg h;exact ⟨by rw [seqIndex_neg ⋯ h1,e],⋯,h1,⋯⟩
  ·rw [if_neg h1] at h;cases h
theorem YJ {α:Type} {xs:List α} {i:Int} {v:α} (h:atI xs i=some v):∃ j,seqIndex? i xs.length=some j∧xs[j]?=some v∧j<xs.length∧ -(xs.length:Int)≤i∧i<xs.length:=by
 unfold atI at h;cases e:ixN xs.length i with
 | none=>rw [e] at h;cases h
 | some j=>
  rw [e] at h;obtain ⟨h1,h2,h3,h4⟩:=QG e;exact ⟨j,h1,h,h2,h3,h4⟩
theorem qw {α:Type} {xs:List α} {j:Nat} {v:α} (h:xs[j]?=some v):atI xs (j:Int)=some v:=by
 have hj:j<xs.length:=(C0.mp h).1;have e:ixN xs.length (j:Int)=some j:=by
  unfold ixN;rw [if_pos ⋯,if_pos ⋯];simp
 unfold atI;rw [e];exact h
theorem WZ {α:Type} (xs:List α) (v:α):atI (xs++[v]) (-1)=some v:=by
 have hl:(xs++[v]).length=xs.length+1:=by simp
 have e:ixN (xs++[v]).length (-1)=some xs.length:=by
  unfold ixN;rw [hl,if_neg O0,if_pos ⋯]
  congr 1
  omega
 unfold atI;rw [e];show (xs++[v])[xs.length]?=some v;simp
def QQ (b:Expr):Prop:=∀ o i,subscripted b false o i=operate [o,i] (getItem o i)
def IxR (X:Cx) (r:R2):Prop:=
 ∀ (value slice:Expr) (pins:List (Ae×Obj)) (s:Af) (σ:St) (H:Hp) (x y:V) (v u:Ac) (Q:VK),Inv X pins σ H s→qS x v→qS y u→r x y H Q→
  subscripted slice false v u=operate [v,u] (getItem v u)→wpAny (model X.prog X.w) X.A (subscriptTail value slice v u) (EP X pins σ Q) X.xe s
def MtR (X:Cx) (id:String) (r:V→List V→Hp→VK→Prop):Prop:=
 ∀ (pins:List (Ae×Obj)) (s:Af) (σ:St) (H:Hp) (x:V) (xs:List V) (v:Ac) (us:List Ac) (Q:VK),Inv X pins σ H s→qS x v→qT xs us→r x xs H Q→
  wpAny (model X.prog X.w) X.A (call (.builtin id) (v::us)) (EP X pins σ Q) X.xe s
section
variable {X:Cx} {a b:Expr} {ta tb:TE} {pos:Pos}
theorem IxR.or {r r':R2} (h:IxR X r) (h':IxR X r'):IxR X (fun x y H Q=>r x y H Q∨r' x y H Q):=by
 intro value slice pins s σ H x y v u Q I rx ry q hs;rcases q with q | q
 ·exact h value slice pins s σ H x y v u Q I rx ry q hs
 ·exact h' value slice pins s σ H x y v u Q I rx ry q hs
theorem qjz {r:R2} (hr:IxR X r) (ha:PE X a ta) (hb:PE X b tb) (hs:QQ b):PE X (.Subscript a b pos) (tOp r ta tb):=by
 intro pins s σ H Q I h;exact Subscript_ (qix ha hb I h fun v u s2 x y H2 I2 rx ry q=>hr a b pins s2 σ H2 x y v u Q I2 rx ry q (hs _ _))
def qju (K:Frag):R2:=fun x y H Q=>∃ p xs i v,x= .ref p∧y= .int i∧SqL K H p xs∧atI xs i=some v∧Q v H
def qjs (K:Frag):R2:=fun x y H Q=>∃ p xs i v,x= .ref p∧y= .int i∧SqT K H p xs∧atI xs i=some v∧Q v H
def qjt:R2:=fun x y H Q=>∃ z i c,x= .str z∧y= .int i∧z.length≤Ag∧atI z.cps.toList i=some c∧Q (.str ⟨#[c]⟩) H
theorem qf0:IxR X (qju X.K):=by
 intro value slice pins s σ H x y v u Q I rx ry h hs;obtain ⟨p,xs,i,z,rfl,rfl,hq,he,q⟩:=h;cases rx;obtain ⟨t,rfl⟩:=ry;obtain ⟨its,r,pl,hz⟩:=I.list hq;obtain ⟨j,h1,h2,h3,h4,h5⟩:=YJ he;obtain ⟨w,ew,rw'⟩:=r.get h2;have hl:=r.length;have hn:=V9;have fin:EP X pins σ Q w s:=⟨z,H,I,rw',q⟩
 by_cases h0:0≤i
 ·have hj:i.toNat=j:=by
   rw [seqIndex_of h0 h5] at h1;exact Bg h1
  exact item_listR pl.isList h0 ⋯ (by rw [hj];simpa using ew) fin hs
 ·have hj:(i+(its.toArray.size:Int)).toNat=j:=by
   rw [seqIndex_neg ⋯ h4] at h1;rw [Ba,← hl];exact Bg h1
  exact subscriptTail_builtinR (x:=w) pl.isList.typeIs slot_list_getitem.lookup
   (wpAny_getItem_list_neg (Q:=fun r s'=>r=w∧EP X pins σ Q r s') pl.isList ⋯ (by rw [Ba] <;> omega) ⋯ (by rw [hj];simpa using ew) ⟨rfl,fin⟩) hs
theorem qig:IxR X (qjs X.K):=by
 intro value slice pins s σ H x y v u Q I rx ry h hs;obtain ⟨p,xs,i,z,rfl,rfl,hq,he,q⟩:=h;cases rx;obtain ⟨t,rfl⟩:=ry;obtain ⟨its,r,pl,hz⟩:=I.tuple hq;obtain ⟨j,h1,h2,h3,h4,h5⟩:=YJ he;obtain ⟨w,ew,rw'⟩:=r.get h2;have hl:=r.length;have hn:=V9;have fin:EP X pins σ Q w s:=⟨z,H,I,rw',q⟩;exact subscriptTail_builtinR (x:=w) pl.typeIs slot_tuple_getitem.lookup
  (getItem_tuple (j:=j) (Q:=fun r s'=>r=w∧EP X pins σ Q r s') pl ⋯ ⋯ (by rw [Ba,← hl];exact h1) (by simpa using ew) ⟨rfl,fin⟩) hs
theorem qih:IxR X qjt:=by
 intro value slice pins s σ H x y v u Q I rx ry h hs;obtain ⟨z,i,c,rfl,rfl,hz,he,q⟩:=h;obtain ⟨t,rfl⟩:=rx;obtain ⟨t',rfl⟩:=ry;obtain ⟨j,h1,h2,h3,h4,h5⟩:=YJ he;have hl:z.cps.toList.length=z.length:=by simp [Str.length]
 rw [hl] at h1 h4 h5;have hn:=V9;exact tail_any (Es s z t) slot_str_getitem.lookup (getItem_str (c:=c) (by
  have e1:decide (i< -(2 ^ 63:Int))=false:=Ap ⋯;have e2:decide (i ≥ 2 ^ 63)=false:=Ap ⋯;rw [e1,e2,Bool.or_false]) (by rw [h1];simpa using h2) ⟨.str ⟨#[c]⟩,H,I.tok _,⟨_,rfl⟩,q⟩) hs
def rIx (K:Frag):R2:=fun x y H Q=>qju K x y H Q∨qjs K x y H Q∨qjt x y H Q
theorem qii:IxR X (rIx X.K):=qf0.or (qig.or qih)
theorem ZG (its:List Ac) (n j:Nat) (u:Ac):Obj.mapSeq (·.setIfInBounds j u) {cls:= .type "list",data:= .seq its.toArray n}={cls:= .type "list",data:= .seq (its.set j u).toArray n}:=by
 simp [Obj.mapSeq]
theorem Inv.lst {pins:List (Ae×Obj)} {σ:St} {H:Hp} {s:Af} {p:Ae} {xs:List V} (I:Inv X pins σ H s) (h:H p=some (.lst xs)):
  ∃ (its:List Ac) (n:Nat),qT xs its∧s.heap.get? p=some {cls:= .type "list",data:= .seq its.toArray n}∧xs.length≤Ag:=by
 obtain ⟨z,its,n,r,e⟩:=I.hok p _ h;exact ⟨its,n,r,e,z⟩
theorem Inv.lstUpd {pins:List (Ae×Obj)} {σ:St} {H:Hp} {s:Af} {p:Ae} {xs ys:List V} {its its':List Ac} {n n':Nat} {f:Obj→Obj} (I:Inv X pins σ H s) (h:H p=some (.lst xs))
  (ho:s.heap.get? p=some {cls:= .type "list",data:= .seq its.toArray n}) (hf:f {cls:= .type "list",data:= .seq its.toArray n}={cls:= .type "list",data:= .seq its'.toArray n'}) (r:qT ys its') (hz:ys.length≤Ag) (t:Nat):
  Inv X pins σ (upd H p (.lst ys)) {s with heap:=s.heap.update p f,toks:=t}:=by
 have e:(s.heap.update p f).get? p=some {cls:= .type "list",data:= .seq its'.toArray n'}:=by
  rw [Heap.get?_update_self f ho (by rw [hf] <;> rfl),hf]
 refine I.write (x:=p) (e:=p) (by rw [h];trivial) (.inl rfl) (fun b u hb q=>(Heap.get?_update_other _ _ (Ne.symm hb)).trans q) ⟨_,e⟩ ?_
 exact ⟨hz,its',n',r,e⟩
def qjo:V→V→V→Hp→(Hp→Prop)→Prop:=fun o i v H Q=>∃ p xs k j,o= .ref p∧i= .int k∧H p=some (.lst xs)∧ixN xs.length k=some j∧Q (upd H p (.lst (xs.set j v)))
theorem qcp:qkq X qjo:=by
 intro pins s σ H o i v ov iv u Q I ro ri rv h;obtain ⟨p,xs,k,j,rfl,rfl,hp,hj,q⟩:=h;cases ro;obtain ⟨t,rfl⟩:=ri;obtain ⟨its,n,r,ho,hz⟩:=I.lst hp;obtain ⟨h1,h2,h3,h4⟩:=QG hj;have hl:=r.length;have hn:=V9;have I':Inv X pins σ (upd H p (.lst (xs.set j v))) {s with heap:=s.heap.update p (Obj.mapSeq (·.setIfInBounds j u))}:=
  I.lstUpd hp ho (ZG its n j u) (r.set rv j) (by rw [Ea];exact hz) s.toks
 by_cases h0:0≤k
 ·have hk:k.toNat=j:=by
   rw [seqIndex_of h0 h4] at h1;exact Bg h1
  exact PySem.W.ki_setAt ho h0 ⋯ (by rw [Ba,← hl];exact h4) (by rw [hk];exact ⟨_,I',q⟩)
 ·have hk:(k+(its.toArray.size:Int)).toNat=j:=by
   rw [seqIndex_neg ⋯ h3] at h1;rw [Ba,← hl];exact Bg h1
  exact PySem.W.ki_setBack ho ⋯ (by rw [Ba,← hl];exact h3) ⋯ (by rw [hk];exact ⟨_,I',q⟩)
theorem yT (lo hi:Option Int) (n:Nat):(sliceBounds lo hi none n).1=((HT.sIx n 0 lo:Nat):Int)∧(sliceBounds lo hi none n).2.1=((HT.sIx n n hi:Nat):Int)∧(sliceBounds lo hi none n).2.2=1:=by
 refine ⟨?_,?_,rfl⟩
 ·cases lo with
  | none=>simp [sliceBounds,HT.sIx]
  | some i=>
   simp only [sliceBounds,HT.sIx,Option.getD_none,show (1:Int)>0 from O0,if_true]
   by_cases h:i<0
   ·simp only [h,if_true] <;> omega
   ·simp only [h,if_false] <;> omega
 ·cases hi with
  | none=>simp [sliceBounds,HT.sIx]
  | some i=>
   simp only [sliceBounds,HT.sIx,Option.getD_none,show (1:Int)>0 from O0,if_true]
   by_cases h:i<0
   ·simp only [h,if_true] <;> omega
   ·simp only [h,if_false] <;> omega
theorem W0 (its:List Ac) (lo hi:Option Int):slicePick its.toArray lo hi none=((its.drop (HT.sIx its.length 0 lo)).take (HT.sIx its.length its.length hi - HT.sIx its.length 0 lo)).toArray:=by
 obtain ⟨h1,h2,h3⟩:=yT lo hi its.toArray.size;unfold slicePick;rw [h1,h2,h3];simp only [sliceRange_one,pick_run,Ba] <;> rfl
def qjn (K:Frag):V→Option Int→Option Int→Hp→VK→Prop:=fun x lo hi H Q=>∃ a xs,x= .ref a∧SqL K H a xs∧∀ p,H p=none→Q (.ref p) (upd H p (.lst (zG xs lo hi)))
theorem qez:SlR X (qjn X.K):=by
 intro pins s σ H x v vl vu lo hi sl Q I rx hs pl pu h;obtain ⟨a,xs,rfl,hx,q⟩:=h;cases rx;obtain ⟨its,r,ht,hz⟩:=I.list hx;have hlen:=r.length;refine ⟨"list",_,slot_list_getitem.lookup,ht.isList.typeIs,?_⟩;refine wpAny_getItem_list_slice ht.isList hs pl pu .none (by simp) ?_ (by rw [Ba] <;> omega)
 rw [W0,← hlen];refine ⟨.ref s.heap.objs.size,_,I.laid (t':=s.toks) (o:= .lst (zG xs lo hi)) (fun b ob q=>As _ q) (Aw _) ?_,rfl,q _ (I.hok.fresh (Aw _))⟩;exact ⟨Ar (wD xs lo hi) hz,_,0,(r.drop (HT.sIx xs.length 0 lo)).take (HT.sIx xs.length xs.length hi - HT.sIx xs.length 0 lo),Bk _ rfl⟩
def VT:V→Bool
 | .non=>true
 | .bl _=>true
 | .int _=>true
 | .str _=>true
 | _=>false
def eqV:V→V→Bool
 | .non,.non=>true
 | .bl a,.bl b=>a==b
 | .bl a,.int b=>(if a then 1 else 0)==b
 | .int a,.bl b=>a==(if b then 1 else 0)
 | .int a,.int b=>a==b
 | .str a,.str b=>a==b
 | _,_=>false
theorem qip {A:Around} {s:Af} {y x:V} {u v:Ac} (ry:qS y u) (rx:qS x v) (fy:VT y=true) (fx:VT x=true):SeqAt.EqAt A s u v (eqV y x):=by
 cases y with
 | non=>
  cases ry;cases x with
  | non=>cases rx;exact SeqAt.EqAt.same _
  | bl b=>cases rx;exact SeqAt.EqAt.none_bool b
  | int b=>obtain ⟨t,rfl⟩:=rx;exact SeqAt.EqAt.none_int b t
  | str b=>obtain ⟨t,rfl⟩:=rx;exact SeqAt.EqAt.none_str b t
  | _=>exact absurd (show false=true from fx) Ai
 | bl a=>
  cases ry;cases x with
  | non=>cases rx;exact SeqAt.EqAt.bool_none a
  | bl b=>cases rx;exact SeqAt.EqAt.bool_bool a b
  | int b=>obtain ⟨t,rfl⟩:=rx;exact SeqAt.EqAt.bool_int a b t
  | str b=>obtain ⟨t,rfl⟩:=rx;exact SeqAt.EqAt.bool_str a b t
  | _=>exact absurd (show false=true from fx) Ai
 | int a=>
  obtain ⟨t',rfl⟩:=ry;cases x with
  | non=>cases rx;exact SeqAt.EqAt.int_none a t'
  | bl b=>cases rx;exact SeqAt.EqAt.int_bool a t' b
  | int b=>obtain ⟨t,rfl⟩:=rx;exact SeqAt.EqAt.int_int a t' b t
  | str b=>obtain ⟨t,rfl⟩:=rx;exact SeqAt.EqAt.int_str a t' b t
  | _=>exact absurd (show false=true from fx) Ai
 | str a=>
  obtain ⟨t',rfl⟩:=ry;cases x with
  | non=>cases rx;exact SeqAt.EqAt.str_none a t'
  | bl b=>cases rx;exact SeqAt.EqAt.str_bool a t' b
  | int b=>obtain ⟨t,rfl⟩:=rx;exact SeqAt.EqAt.str_int a t' b t
  | str b=>obtain ⟨t,rfl⟩:=rx;exact SeqAt.EqAt.str_str a t' b t
  | _=>exact absurd (show false=true from fx) Ai
 | _=>exact absurd (show false=true from fy) Ai
def eqU (x:V) (u:Ac):Bool:=match u with
 | .none=>eqV .non x
 | .bool b=>eqV (.bl b) x
 | .int i _=>eqV (.int i) x
 | .str z _=>eqV (.str z) x
 | _=>false
theorem qd6 {x y:V} {u:Ac} (r:qS y u) (f:VT y=true):eqU x u=eqV y x:=by
 cases y with
 | non=>cases r;rfl
 | bl b=>cases r;rfl
 | int i=>obtain ⟨t,rfl⟩:=r;rfl
 | str z=>obtain ⟨t,rfl⟩:=r;rfl
 | _=>exact absurd (show false=true from f) Ai
theorem VX {x:V}:∀ {xs:List V} {us:List Ac},qT xs us→xs.all VT=true→us.any (eqU x)=xs.any fun y=>eqV y x
 | _,_,.nil,_=>rfl
 | y::xs,u::us,.cons r t,f=>by
  rw [B9,Al] at f;rw [Ew,Ew,qd6 r f.1,VX t f.2]
theorem vR {A:Around} {s:Af} {x:V} {v:Ac} (rx:qS x v) (fx:VT x=true):∀ {xs:List V} {us:List Ac},qT xs us→xs.all VT=true→∀ u∈us,SeqAt.EqAt A s u v (eqU x u)
 | _,_,.nil,_=>fun u hu=>by cases hu
 | y::xs,u::us,.cons r t,f=>fun u' hu=>by
  rw [B9,Al] at f;rcases Av.mp hu with rfl | hu
  ·rw [qd6 r f.1];exact qip r rx f.1 fx
  ·exact vR rx fx t f.2 u' hu
def inV (x:V) (xs:List V):Bool:=xs.any fun y=>eqV y x
def rIn (K:Frag) (neg:Bool):R2:=fun x y H Q=>∃ p xs,y= .ref p∧(SqL K H p xs∨SqT K H p xs)∧VT x=true∧xs.all VT=true∧Q (.bl (if neg then !inV x xs else inV x xs)) H
theorem qaj:OpR X (compareOp .In) (rIn X.K false):=by
 intro pins s σ H x y v u Q I rx ry h;obtain ⟨p,xs,rfl,hq,fx,fs,q⟩:=h;cases ry;rcases hq with hq | hq
 ·obtain ⟨its,r,pl,hz⟩:=I.list hq;refine SeqAt.in_listAt (eqU x) pl.isList (fun w hw=>vR rx fx r fs w (by simpa using hw)) ⟨.bl _,H,I,rfl,?_⟩
  rw [show its.toArray.any (eqU x)=its.any (eqU x) by simp,VX r fs]
  exact q
 ·obtain ⟨its,r,pl,hz⟩:=I.tuple hq;refine SeqAt.in_tupleAt (eqU x) pl (fun w hw=>vR rx fx r fs w (by simpa using hw)) ⟨.bl _,H,I,rfl,?_⟩
  rw [show its.toArray.any (eqU x)=its.any (eqU x) by simp,VX r fs]
  exact q
theorem Ye:OpR X (compareOp .NotIn) (rIn X.K true):=by
 intro pins s σ H x y v u Q I rx ry h;obtain ⟨p,xs,rfl,hq,fx,fs,q⟩:=h;cases ry;rcases hq with hq | hq
 ·obtain ⟨its,r,pl,hz⟩:=I.list hq;refine SeqAt.notIn_listAt (eqU x) pl.isList (fun w hw=>vR rx fx r fs w (by simpa using hw)) ⟨.bl _,H,I,rfl,?_⟩
  rw [show its.toArray.any (eqU x)=its.any (eqU x) by simp,VX r fs]
  exact q
 ·obtain ⟨its,r,pl,hz⟩:=I.tuple hq;refine SeqAt.notIn_tupleAt (eqU x) pl (fun w hw=>vR rx fx r fs w (by simpa using hw)) ⟨.bl _,H,I,rfl,?_⟩
  rw [show its.toArray.any (eqU x)=its.any (eqU x) by simp,VX r fs]
  exact q
theorem VW:jN X (.type "list") (fun xs H Q=>∃ p ys,xs=[.ref p]∧(SqL X.K H p ys∨SqT X.K H p ys)∧∀ l,H l=none→Q (.ref l) (upd H l (.lst ys))):=by
 intro pins s σ H xs us Q I r h;obtain ⟨p,ys,rfl,hq,q⟩:=h;obtain ⟨u,rfl,rx⟩:=Je r;cases rx;have fin:∀ (its:List Ac),qT ys its→ys.length≤Ag→∀ (h':Heap) (c':Nat),(∀ b o',s.heap.get? b=some o'→h'.get? b=some o')→
   h'.get? s.heap.objs.size=some {cls:= .type "list",dict:=none,data:= .seq its.toArray c',slots:= #[]}→EP X pins σ Q (.ref s.heap.objs.size) {s with heap:=h'}:=fun its r' hz h' c' kp e=>
  ⟨.ref s.heap.objs.size,_,I.laid (t':=s.toks) kp (Aw _) (show zw X.prog X.w _ h' _ (.lst ys) from ⟨hz,its,c',r',e⟩),rfl,q _ (I.hok.fresh (Aw _))⟩
 rcases hq with hq | hq
 ·obtain ⟨its,r',pl,hz⟩:=I.list hq;have hlen:=r'.length;obtain ⟨o,ho,hc,n,hd⟩:=pl.isList;exact call_list_seq p (.inl rfl) ho hc hd (fun h' c' kp e=>fin its r' hz h' c' kp e) (by simp only [Ba] <;> omega)
 ·obtain ⟨its,r',pl,hz⟩:=I.tuple hq;have hlen:=r'.length;obtain ⟨o,ho,hc,n,hd⟩:=pl;exact call_list_seq p (.inr rfl) ho hc hd (fun h' c' kp e=>fin its r' hz h' c' kp e) (by simp only [Ba] <;> omega)
theorem W5:jN X (.type "tuple") (fun xs H Q=>∃ p ys,xs=[.ref p]∧((SqL X.K H p ys∧∀ l,H l=none→Q (.ref l) (upd H l (.tup ys)))∨(SqT X.K H p ys∧Q (.ref p) H))):=by
 intro pins s σ H xs us Q I r h;obtain ⟨p,ys,rfl,h⟩:=h;obtain ⟨u,rfl,rx⟩:=Je r;cases rx;rcases h with ⟨hq,q⟩ | ⟨hq,q⟩
 ·obtain ⟨its,r',pl,hz⟩:=I.list hq;have hlen:=r'.length;refine call_tuple_list pl.isList (fun h' kp=>?_) (by simp only [Ba] <;> omega)
  have I1:Inv X pins σ H {s with heap:=h'}:=I.kept (t':=s.toks) kp
  have I2:Inv X pins σ (upd H h'.objs.size (.tup ys)) {s with heap:=h'.push {cls:= .type "tuple",data:= .seq its.toArray}}:=
   I1.laid (t':=s.toks) (fun b o e=>As _ e) (Aw _) (show zw X.prog X.w _ _ _ (.tup ys) from ⟨hz,its,r',IsTup.new _ _⟩)
  exact ⟨.ref h'.objs.size,_,I2,rfl,q _ (I1.hok.fresh (Aw _))⟩
 ·obtain ⟨its,r',pl,hz⟩:=I.tuple hq;exact call_tuple_same pl ⟨.ref p,H,I,rfl,q⟩
def tyV (K:Frag) (T:String) (x:V) (H:Hp):Prop:=match x with
 | .str _=>T="str"
 | .int _=>T="int"
 | .ref p=>(T="list"∧∃ xs,SqL K H p xs)∨(T="tuple"∧∃ o,K.lookup p=some o∧o.cls= .type "tuple"∧o.dict=none)∨
   (T="dict"∧((∃ kvs,H p=some (.dK kvs))∨∃ kvs,H p=some (.dT kvs)))∨(T="set"∧∃ S n,H p=some (.set S n))
 | _=>False
theorem X6 {pins:List (Ae×Obj)} {σ:St} {H:Hp} {s:Af} {T:String} {x:V} {v:Ac} (I:Inv X pins σ H s) (r:qS x v) (ty:tyV X.K T x H):
  s.TypeIs v T∧∀ a,v= .ref a→∃ ob,s.heap.get? a=some ob∧ob.dict=none:=by
 cases x with
 | str z=>
  obtain ⟨t,rfl⟩:=r;cases (show T="str" from ty);exact ⟨Es s z t,fun _ e=>nomatch e⟩
 | int i=>
  obtain ⟨t,rfl⟩:=r;cases (show T="int" from ty);exact ⟨E7 s i t,fun _ e=>nomatch e⟩
 | ref p=>
  cases r;rcases ty with ⟨rfl,xs,hq⟩ | ⟨rfl,o,hk,hc,hd⟩ | ⟨rfl,hk⟩ | ⟨rfl,S,n,hk⟩
  ·obtain ⟨its,_,pl,_⟩:=I.list hq;refine ⟨pl.isList.typeIs,fun a e=>?_⟩;cases e;obtain ⟨o,n,e,c,hd,_⟩:=pl;exact ⟨o,e,hd⟩
  ·refine ⟨⟨o,I.kIn p o hk,hc⟩,fun a e=>?_⟩;cases e;exact ⟨o,I.kIn _ o hk,hd⟩
  ·have z:∃ o,s.heap.get? p=some o∧o.ExactDict:=by
    rcases hk with ⟨kvs,hk⟩ | ⟨kvs,hk⟩
    ·obtain ⟨_,_,_,_,o,_,_,e,ex,_⟩:=I.hok p _ hk;exact ⟨o,e,ex⟩
    ·obtain ⟨_,_,_,_,o,_,_,e,ex,_⟩:=I.hok p _ hk;exact ⟨o,e,ex⟩
   obtain ⟨o,e,ex⟩:=z;refine ⟨⟨o,e,ex.1⟩,fun a e2=>?_⟩;cases e2;exact ⟨o,e,ex.2.1⟩
  ·obtain ⟨o,_,_,_,e,ex,_⟩:=I.hok p _ hk;refine ⟨⟨o,e,ex.1⟩,fun a e2=>?_⟩;cases e2;exact ⟨o,e,ex.2.1⟩
 | _=>exact False.elim ty
def qg8 (K:Frag) (T:String) (r:V→List V→Hp→VK→Prop) (to:TE):TE:=fun σ H Q=>to σ H fun x H1=>tyV K T x H1∧r x [] H1 Q
def tBM (K:Frag) (T:String) (r:V→List V→Hp→VK→Prop) (to:TE) (t:TA):TE:=fun σ H Q=>to σ H fun x H1=>tyV K T x H1∧t σ H1 fun xs H2=>r x xs H2 Q
variable {o e:Expr} {es:List Expr} {to:TE} {t:TA} {name:Str} {apos cpos:Pos} {T id:String} {r:V→List V→Hp→VK→Prop}
theorem qhx (pa:PlainAttrs T) (slot:Slot T name id) (hty:typeOf (.builtin id)=pure (.type "method_descriptor")) (hm:MtR X id r) (ho:PE X o to)
  (hbase:attributeBase o name X.env (eval o X.env)=eval o X.env:=by rfl) (hline:(apos.endLine==cpos.line)=true:=by rfl):PE X (.Call (.Attribute o name apos) [] [] cpos) (qg8 X.K T r to):=by
 intro pins s σ H Q I h;refine wpAny_Call_method0_late hbase hline (thn (ho pins s σ H _ I h) fun v s1 ⟨x,H1,I1,r1,ty,q1⟩=>?_);obtain ⟨h1,h2⟩:=X6 I1 r1 ty;exact ⟨T,id,pa,slot,hty,h1,h2,Em rfl (PySem.evalArgs_none (hm pins s1 σ H1 x [] v [] Q I1 r1 .nil q1))⟩
theorem qj0 (pa:PlainAttrs T) (slot:Slot T name id) (hty:typeOf (.builtin id)=pure (.type "method_descriptor")) (hm:MtR X id r) (ho:PE X o to) (ha:PA X (e::es) t)
  (hbase:attributeBase o name X.env (eval o X.env)=eval o X.env:=by rfl)
  (hfew:((backTo cpos (starEach (e::es) X.env)).all (fun x=>!x.1)&&(backToKw cpos (keywordEach [] X.env)).all (fun x=>x.1.isSome)
   &&decide ((e::es).length+([]:List Keyword).length+(if ([]:List Keyword).isEmpty then 0 else 1)<30))=true:=by rfl)
  (hline:(apos.endLine==cpos.line)=true:=by rfl) (hs:starEach (e::es) X.env=(false,eval e X.env)::starEach es X.env:=by rfl) (hplain:(backTo cpos (starEach es X.env)).any (·.1)=false:=by rfl):
  PE X (.Call (.Attribute o name apos) (e::es) [] cpos) (tBM X.K T r to t):=by
 intro pins s σ H Q I h;refine wpAny_Call_method_late hbase hfew hline rfl (thn (ho pins s σ H _ I h) fun v s1 ⟨x,H1,I1,r1,ty,q1⟩=>?_);obtain ⟨h1,h2⟩:=X6 I1 r1 ty;refine ⟨T,id,pa,slot,hty,h1,h2,?_⟩;have hA:=ha cpos pins s1 σ H1 _ I1 q1;rw [hs] at hA ⊢;refine Em (by show (false||(backTo cpos (starEach es X.env)).any (·.1))=false;rw [hplain] <;> rfl) (Calls.evalArgs_plain ?_)
 exact thn hA fun us s2 ⟨vs,H2,I2,r2,q2⟩=>hm pins s2 σ H2 x vs v us Q I2 r1 r2 q2
end
def MtM (X:Cx) (id:String) (r:V→List V→Hp→VK→Prop):Prop:=
 ∀ (pins:List (Ae×Obj)) (s:Af) (σ:St) (H:Hp) (x:V) (xs:List V) (v:Ac) (us:List Ac) (Q:VK),Inv X pins σ H s→qS x v→qT xs us→r x xs H Q→
  wpAny (model X.prog X.w) X.A (call (.builtin id) (v::us)) (EP X pins σ Q) X.xe s
theorem qT.one:∀ {x:V} {us:List Ac},qT [x] us→∃ u,us=[u]∧qS x u
 | _,_,.cons r .nil=>⟨_,rfl,r⟩
theorem qT.zero:∀ {us:List Ac},qT [] us→us=[]
 | _,.nil=>rfl
theorem qT.dropLast {xs:List V} {us:List Ac} (h:qT xs us):qT xs.dropLast us.dropLast:=by
 induction h with
 | nil=>exact .nil
 | cons r t ih=>
  cases t with
  | nil=>exact .nil
  | cons q t'=>exact .cons r ih
theorem qT.rep {xs:List V} {us:List Ac} (h:qT xs us):∀ k:Nat,qT (List.replicate k xs).flatten (List.replicate k us).flatten
 | 0=> .nil
 | k+1=>by
  rw [By,By,Bx,Bx];exact qT.append h (qT.rep h k)
theorem ZY {α:Type} (l:List α):l.eraseIdx (l.length - 1)=l.dropLast:=by
 induction l with
 | nil=>rfl
 | cons a r ih=>
  cases r with
  | nil=>rfl
  | cons b r=>
   have e:(a::b::r).length - 1=((b::r).length - 1)+1:=by
    have h1:(a::b::r).length=r.length+2:=rfl;have h2:(b::r).length=r.length+1:=rfl;omega
   rw [e,List.eraseIdx_cons_succ,ih]
   all_goals rfl
theorem wb (its:List Ac):∀ (k:Nat) (acc:List Ac),
  List.foldl (fun x1 x2=>x1++x2) acc.toArray (List.replicate k its.toArray)=(acc++(List.replicate k its).flatten).toArray
 | 0,acc=>by simp
 | k+1,acc=>by
  have e:acc.toArray++its.toArray=(acc++its).toArray:=by simp
  have e2:(acc++its)++(List.replicate k its).flatten=acc++(List.replicate (k+1) its).flatten:=by
   rw [By,Bx,Bq]
  rw [← e2,← wb its k (acc++its),← e,By,C5]
section
variable {X:Cx} {pins:List (Ae×Obj)} {σ:St} {H:Hp} {s:Af} {l b:Ae} {xs ys zs:List V}
theorem Inv.lset {its its':List Ac} {n:Nat} {f:Array Ac→Array Ac} {t':Nat} (I:Inv X pins σ H s) (hH:H l=some (.lst xs))
  (e:s.heap.get? l=some {cls:= .type "list",data:= .seq its.toArray n}) (hf:f its.toArray=its'.toArray) (hv:qT ys its') (hz:ys.length≤Ag):
  Inv X pins σ (upd H l (.lst ys)) {s with heap:=s.heap.update l (Obj.mapSeq f),toks:=t'}:=by
 have q:=PySem.IsL.update e f;rw [hf] at q;refine I.write (x:=l) (e:=l) (by rw [hH];exact trivial) (.inl rfl) (fun b' u hb hu=>(Heap.get?_update_other s.heap (Obj.mapSeq f) (Ne.symm hb)).trans hu) ⟨_,q⟩ ?_
 exact ⟨hz,its',_,hv,q⟩
theorem Inv.lnew {its:List Ac} {t':Nat} (I:Inv X pins σ H s) (hv:qT ys its) (hz:ys.length≤Ag):
  Inv X pins σ (upd H s.heap.objs.size (.lst ys)) {s with heap:=s.heap.push {cls:= .type "list",data:= .seq its.toArray},toks:=t'}:=
 I.laid (fun _ _ q=>As _ q) (Aw _) ⟨hz,its,0,hv,Bk _ rfl⟩
theorem Inv.fresh (I:Inv X pins σ H s):H s.heap.objs.size=none:=I.hok.fresh (Aw _)
theorem Inv.lstM (I:Inv X pins σ H s) (hH:H l=some (.lst xs)):xs.length≤Ag∧∃ (its:List Ac) (n:Nat),qT xs its∧xs.length=its.length∧s.heap.get? l=some {cls:= .type "list",data:= .seq its.toArray n}:=by
 obtain ⟨z,its,n,r,e⟩:=I.hok l _ hH;exact ⟨z,its,n,r,r.length,e⟩
theorem Xv {n:Nat} (h:n≤Ag):Builtin.List.listTooLong n=false:=by
 unfold Builtin.List.listTooLong;exact Ap ⋯
end
section
variable {X:Cx}
def Qk:V→List V→Hp→VK→Prop:=fun x vs H Q=>∃ l xs y,x= .ref l∧vs=[y]∧H l=some (.lst xs)∧xs.length<Ag∧Q .non (upd H l (.lst (xs++[y])))
theorem jz:MtM X "list.append" Qk:=by
 intro pins s σ H x vs v us Q I rx rv h;obtain ⟨l,xs,y,rfl,rfl,hH,hz,q⟩:=h;cases rx;obtain ⟨u,rfl,ru⟩:=rv.one;obtain ⟨z,its,n,r,hl,e⟩:=I.lstM hH;refine Dj F.slot_list_append ⟨_,e,rfl⟩ F.entry_list_append (F.args_list_append_2 _ _) (PySem.list_append l its.toArray n u (by rw [Ba];omega)) ⟨e,?_⟩
 refine ⟨.non,_,I.lset (its':=its++[u]) hH e (by simp) (r.append (.cons ru .nil)) ?_,rfl,q⟩
 rw [Am,Dn];omega
def qe5:V→List V→Hp→VK→Prop:=fun x vs H Q=>∃ l b xs zs,x= .ref l∧vs=[.ref b]∧H l=some (.lst xs)∧H b=some (.lst zs)∧xs.length+zs.length≤Ag∧Q .non (upd H l (.lst (xs++zs)))
theorem yn:MtM X "list.extend" qe5:=by
 intro pins s σ H x vs v us Q I rx rv h;obtain ⟨l,b,xs,zs,rfl,rfl,hH,hB,hz,q⟩:=h;cases rx;obtain ⟨u,rfl,ru⟩:=rv.one;cases ru;obtain ⟨z,its,n,r,hl,e⟩:=I.lstM hH;obtain ⟨z2,its2,n2,r2,hl2,e2⟩:=I.lstM hB;have hsz:its.toArray.size+its2.toArray.size≤Ag:=by rw [Ba,Ba];omega
 have hlong:¬ (!its.toArray.isEmpty&&Builtin.List.listTooLong (its.toArray.size+its2.toArray.size))=true:=by
  rw [Xv hsz,Bool.and_false];exact Ai
 refine Dj F.slot_list_extend ⟨_,e,rfl⟩ F.entry_list_extend (F.args_list_extend_2 _ _)
  (AutoSeq1.list_extend_list_list_0 l its.toArray n b its2.toArray n2 hlong (by rw [Ba];omega) ⋯) ⟨e,e2,?_⟩
 refine ⟨.non,_,I.lset (its':=its++its2) hH e (by simp) (r.append r2) ?_,rfl,q⟩
 rw [Am];omega
def rPop:V→List V→Hp→VK→Prop:=fun x vs H Q=>∃ l xs y,x= .ref l∧vs=[]∧H l=some (.lst xs)∧xs[xs.length - 1]?=some y∧Q y (upd H l (.lst xs.dropLast))
theorem qh5:MtM X "list.pop" rPop:=by
 intro pins s σ H x vs v us Q I rx rv h;obtain ⟨l,xs,y,rfl,rfl,hH,hy,q⟩:=h;cases rx;have hus:=rv.zero;subst hus;obtain ⟨z,its,n,r,hl,e⟩:=I.lstM hH;obtain ⟨u,hu,ru⟩:=r.get hy;have hy':its.toArray[its.toArray.size - 1]?=some u:=by
  show its.toArray[its.length - 1]?=some u;rw [← Array.getElem?_toList,← hl];exact hu
 refine Dj F.slot_list_pop ⟨_,e,rfl⟩ F.entry_list_pop (F.args_list_pop_1 _) (MeetsSeq.list_pop_last l its.toArray n u hy' (by rw [Ba];omega)) ⟨e,?_⟩
 refine ⟨y,_,I.lset (its':=its.dropLast) hH e ?_ r.dropLast ?_,ru,q⟩
 ·show its.toArray.eraseIdxIfInBounds (its.toArray.size - 1)=its.dropLast.toArray;rw [Ba,List.eraseIdxIfInBounds_toArray,ZY]
 ·rw [List.length_dropLast];omega
def qjx:R2:=fun x y H Q=>∃ l b xs zs,x= .ref l∧y= .ref b∧H l=some (.lst xs)∧H b=some (.lst zs)∧xs.length+zs.length≤Ag∧∀ p,H p=none→Q (.ref p) (upd H p (.lst (xs++zs)))
theorem qh0:OpR X (binaryOp .Add) qjx:=by
 intro pins s σ H x y v u Q I rx ry h;obtain ⟨l,b,xs,zs,rfl,rfl,hH,hB,hz,q⟩:=h;cases rx;cases ry;obtain ⟨z,its,n,r,hl,e⟩:=I.lstM hH;obtain ⟨z2,its2,n2,r2,hl2,e2⟩:=I.lstM hB;refine PySem.P.add_list e e2 ?_ (by rw [Ba,Ba];omega)
 have ea:its.toArray++its2.toArray=(its++its2).toArray:=by simp
 rw [ea];exact ⟨.ref _,_,I.lnew (t':=s.toks) (r.append r2) (by rw [Am];omega),rfl,q _ I.fresh⟩
def qjp:R2:=fun x y H Q=>∃ l k xs,x= .ref l∧y= .int k∧H l=some (.lst xs)∧ -(2 ^ 63)≤k∧k<2 ^ 63∧xs.length*k.toNat≤Ag∧
 ∀ p,H p=none→Q (.ref p) (upd H p (.lst (List.replicate k.toNat xs).flatten))
theorem Ys {α:Type} (xs:List α) (k:Nat):(List.replicate k xs).flatten.length=k*xs.length:=by
 induction k with
 | zero=>simp
 | succ k ih=>rw [By,Bx,Am,ih,Nat.succ_mul,Nat.add_comm]
theorem qdf:OpR X (binaryOp .Mult) qjp:=by
 intro pins s σ H x y v u Q I rx ry h;obtain ⟨l,k,xs,rfl,rfl,hH,h1,h2,hz,q⟩:=h;cases rx;obtain ⟨t,rfl⟩:=ry;obtain ⟨z,its,n,r,hl,e⟩:=I.lstM hH;have hlen:its.toArray.size*k.toNat≤Ag:=by rw [Ba,← hl];exact hz
 have hcap:¬ its.toArray.size*k.toNat>(2 ^ 63 - 1) / 8:=by
  have:(Ag:Nat)≤(2 ^ 63 - 1) / 8:=O0;omega
 have hfit:¬ (!Builtin.List.listFitsIndex k)=true:=by
  rw [fitsIndex_both h1 h2];exact Ai
 have hlong:¬ Builtin.List.listTooLong (its.toArray.size*k.toNat)=true:=by
  rw [Xv hlen];exact Ai
 have hnew:List.foldl (fun x1 x2=>x1++x2) #[] (List.replicate (if its.toArray.isEmpty=true then 0 else k.toNat) its.toArray)=(List.replicate k.toNat its).flatten.toArray:=by
  have f0:∀ m:Nat,List.foldl (fun x1 x2=>x1++x2) #[] (List.replicate m its.toArray)=(List.replicate m its).flatten.toArray:=fun m=>by
   have:=wb its m [];rw [Cn] at this;exact this
  rw [f0];cases its with
  | nil=>simp
  | cons a r'=>rw [if_neg (by simp)]
 refine wpAny_binaryOp_repeat_ref (T:="list") (U:="int") O0 ⟨_,e,rfl⟩ (fun s'=>E7 s' k t) noFill_list_mul F.fills_int_mul Ej repeat_list F.slot_int_index.lookup
  (Dj Ej (E7 s k t) F.entry_int_rmul (F.args_int_rmul_2 _ _) (int___rmul___int_list k t l its.toArray n)
   ⟨e,rfl,⟨_,e,rfl⟩,Dj F.slot_list_mul ⟨_,e,rfl⟩ F.entry_list_mul (F.args_list_mul_2 _ _) (AutoListH.list___mul___list_int_3 l its.toArray n k t hfit hcap hlong) ⟨e,?_⟩⟩)
 rw [hnew];exact ⟨.ref _,_,I.lnew (t':=s.toks) (r.rep k.toNat) (by rw [Ys,Nat.mul_comm];exact hz),rfl,q _ I.fresh⟩
end
section
variable {prog:Program} {w:World} {A:Around} {E:Ac→Af→Prop} {s:Af}
end
section
variable {X:Cx}
end
end L2
namespace Att
open PySem PySem.W PySem.Calls PyProof.Rows
theorem wM {P:Params} {h:Heap}:∀ (ns:List Int) (vs:List Ac),WellAll P h vs (ns.map WData.int)→IntsAre vs ns:=by
 intro ns
 induction ns with
 | nil=>
  intro vs w;rw [Cj] at w;cases w;exact .nil
 | cons n ns ih=>
  intro vs w;rw [A4] at w;cases w with
  | cons a b=>
   cases a;exact .cons _ _ (ih _ b)
theorem qab {l:OpenLaw} {n:Nat} (hn:l.most=some n) {P:Params} {h:Heap} {args:List WData} {vals:List Ac}
  (hpre:l.row.toRowW.claim.pre args=true) (hwl:WellAll P h vals args):
  ∃ a vs ns,vals=[Value.ref a]∧args=[WData.list (ns.map WData.int)]∧h.get? a=some {cls:= .type "list",data:= .seq vs.toArray}∧IntsAre vs ns∧ns.length≤n:=by
 have hsh:WShape.hasAll [] args [.list .int]=true:=(pre_splitW hpre).1;have hc:l.pre.holds [] {args:=args}=true:=(pre_splitW hpre).2;obtain ⟨d,r,rfl,h1,h2⟩:=hasAllW_cons hsh;obtain rfl:=hasAllW_nil h2;obtain ⟨xs,rfl,h3⟩:=hasW_list h1;obtain ⟨ns,rfl⟩:=items_int h3;have hlen:ns.length≤n:=by
  unfold OpenLaw.pre at hc;have h4:(WTm.not (.lt (.lit (.int (n:Int))) (.len (.arg 0)))).holds [] {args:=[.list (ns.map .int)]}=true:=by
   have h4:=(holds_andW hc).1;rw [hn] at h4;exact h4
  have h5:=condW_of h4 (w_not (w_lt w_lit (w_len_list (w_arg rfl))));rw [Aj] at h5;refine Nat.le_of_not_lt fun q=>?_;have q':(n:Int)<((ns.length:Nat):Int):=⋯
  first
   | (rw [Ao q'] at h5;exact absurd h5 O0)
   | (simp at h5;omega)
 cases hwl with
 | cons w1 w2=>
  cases w2;cases w1 with
  | list ho hall=>exact ⟨_,_,ns,rfl,rfl,ho,wM ns _ hall,hlen⟩
theorem qag (l:OpenLaw) (args:List WData):l.row.toRowW.claim.post args (.bool true) args=true:=
 postW_of (r:=l.row.toRowW) (X:=(true==true))
  (show WShape.has [] (.bool true) .bool=true by first | rfl | decide | simp [WShape.has,WShape.arms,WShape.armsAll])
  (show (WTm.eq .res (.lit (.bool true))).value [] {args:=args,res:=some (.bool true),after:=args}=some (.bool (true==true)) from w_eq_bool (w_res rfl) w_lit) rfl
theorem attach_call {l:OpenLaw} {n:Nat} {q:Program} {loose:List Str} {XP:(Str→Option Ac)→Heap→Prop} {YP:World→Heap→Prop} {d:DefRec}
  (hn:l.most=some n) (hdf:d.params.defaults=[])
  (call:∀ (w:World) (s₀ s₁:Af) (mg mb:Str→Option Ac) (fa:Ae) (o:Obj) (pm cd doc:Ac) (a:Ae) (vs:List Ac) (ns:List Int),
   Ground q loose [] XP w s₀ mg mb s₁.heap→YP w s₁.heap→
   s₁.heap.get? fa=some o→o.data= .func (docDef d.name d.params d.body d.scope pm cd doc)→s₁.heap.CodeRec cd d.name→mg d.name=some (.ref fa)→
   s₁.heap.get? a=some {cls:= .type "list",data:= .seq vs.toArray}→IntsAre vs ns→ns.length≤n→s₁.gens= #[]→
   codeAny (model l.prog w) callerA (.call (.ref fa) ⟨[.ref a],[]⟩) (fun r s'=>r= .ok (.ret (.bool true))∧OldK s₁.heap s'.heap∧s'.os=s₁.os∧AllBare s'.gens) s₁):
  WalkO q loose XP YP l.row.toRowW d [] (fun f vs=>PySem.call f vs):=by
 intro w s₀ s₁ mg mb G Y fa o pm cd doc dV kV ho hd hcd hD hmg hg args vals as hpre hlay hrd hwl hlo;obtain rfl:dV= .none:=Dflts.none hD hdf;obtain rfl:kV= .none:=Dflts.noKw hD;obtain ⟨a,vs,ns,rfl,rfl,hobj,hints,hlen⟩:=qab hn hpre hwl;refine enter_call (E4 (call w s₀ s₁ mg mb fa o pm cd doc a vs ns G Y ho (fd_plain hd) hcd hmg hobj hints hlen hg) fun r s' hq=>?_);obtain ⟨rfl,h2,h3,h4⟩:=hq;exact ⟨.inl ⟨.bool true,.bool true,[],rfl,fun _=>rfl,.bool true,qag l _,fun _=>⟨List.Pairwise.nil,fun _ hm=>(nomatch hm)⟩⟩,h2,h3,h4⟩
section
variable {prog:Program} {w:World} {A:Around} {E:Ac→Af→Prop} {s:Af} {K:Frag}
end
end Att
namespace L2
open PySem PySem.Spec PyProof.Rows
theorem W9:∀ {vs:List Ac} {ns:List Int},IntsAre vs ns→qT (ns.map V.int) vs
 | _,_,.nil=> .nil
 | _,_,.cons n t h=> .cons ⟨t,rfl⟩ (W9 h)
def qi2 (H:Hp):Prop:=∀ b,H b=none∨∃ o xs,H b=some (.frz o (.lst xs))
theorem qdu {P:Program} {w:World} {K:Frag} {mg mb:Str→Option Ac} {CX:CXT} {k:Nat} {fa a:Ae} {fd:FuncData} {x:Str} {sp:Sp} {s₁:Af} {vs:List Ac} {ns:List Int}
  (KX:K.In s₁.heap) (hns:s₁.heap.Ns Aq mg) (hb:s₁.heap.Ns builtinsNs mb) (hbb:∀ x:Str,x≠"__name__"→mb x=bootBuiltins x) (hlim:s₁.heap.NoLimit) (hg:s₁.gens= #[])
  (ha:s₁.heap.get? a=some {cls:= .type "list",data:= .seq vs.toArray}) (hi:IntsAre vs ns) (hl:ns.length≤Ag) (hr:Room k callerA)
  (F:∀ base:Heap,K.In base→base.Ns Aq mg→FnOk P w K mg base CX k fa fd [x] sp) (hbind:∀ (s:Af) (u:Ac),BindsTo s fd ⟨[u],[]⟩ [(x,u)])
  (hsp:∀ H:Hp,qi2 H→SqL K H a (ns.map V.int)→sp [.ref a] H (fun v _=>v= .bl true) fun _ _ _=>False)
  (hCX:∀ H e s',CX [] H s₁ (fun _ _ _=>False) e s'→False):
  codeAny (model P w) callerA (.call (.ref fa) ⟨[.ref a],[]⟩) (fun r s'=>r= .ok (.ret (.bool true))∧OldK s₁.heap s'.heap∧s'.os=s₁.os∧AllBare s'.gens) s₁:=by
 have rv:=W9 hi;have lenV:=hi.length;have core:∀ H:Hp,qi2 H→SqL K H a (ns.map V.int)→HOk P w H s₁.heap→(∀ b,H b≠none→b=a)→(H a≠none→K.lookup a=none)→
   codeAny (model P w) callerA (.call (.ref fa) ⟨[.ref a],[]⟩) (fun r s'=>r= .ok (.ret (.bool true))∧OldK s₁.heap s'.heap∧s'.os=s₁.os∧AllBare s'.gens) s₁:=by
  intro H hO hS hok hA hK;have base_of:∀ {b:Ae} {o:Obj},s₁.heap.get? b=some o→H b=none→(Yz s₁.heap H).get? b=some o:=fun e n=>qdz e n;have noA:∀ {b:Ae} {o:Obj} {es:Array DictEntry} {ep:Nat},s₁.heap.get? b=some o→o.data= .dict es ep→H b=none:=fun {b o es ep} e d=>by
   cases q:H b with
   | none=>rfl
   | some u=>
    have e':b=a:=hA b (by rw [q];simp)
    subst e';rw [ha] at e;cases e;have d':Data.seq vs.toArray _=Data.dict es ep:=d;cases d'
  have nsK:∀ {b:Ae} {m:Str→Option Ac},s₁.heap.Ns b m→(Yz s₁.heap H).Ns b m:=fun {b m} ⟨o,es,ep,e,d,r⟩=>⟨o,es,ep,base_of e (noA e d),d,r⟩;have hKb:K.In (Yz s₁.heap H):=fun b o e=>base_of (KX b o e) (by
   cases q:H b with
   | none=>rfl
   | some u=>
    have e':b=a:=hA b (by rw [q];simp)
    subst e';rw [hK (by rw [q];simp)] at e;cases e)
  have hM:Mod K mg (Yz s₁.heap H):=⟨hKb,nsK hns,⟨mb,nsK hb,hbb⟩,let ⟨mc,h1,h2⟩:=hlim;⟨mc,nsK h1,h2⟩⟩;have e0:Env0 P w K mg (Yz s₁.heap H) callerA [] s₁ H:=⟨rfl,hM,fun b o e=>qfj e,Nat.le_of_eq (qau _ _),trivial,fun b hb=>absurd (show b∈([]:List Ae) from hb) (by simp),hok,.of_eq hg⟩
  refine E4 ((F _ hKb (nsK hns)).run callerA [] s₁ H ⟨[.ref a],[]⟩ [.ref a] [.ref a] _ _ hr e0 (hbind s₁ (.ref a)) (.cons rfl .nil) (hsp H hO hS)) fun r s' h=>?_;cases r with
  | error e=>exact (hCX H e s' h).elim
  | ok fl=>
   cases fl with
   | next=>exact False.elim h
   | brk=>exact False.elim h
   | cont=>exact False.elim h
   | ret u=>
    obtain ⟨v,H',os,bare,un,hok',r',q⟩:=h;have q':v= .bl true:=q;subst q';obtain rfl:u=Value.bool true:=r';refine ⟨rfl,OldK.of_keep fun b o e=>?_,os,bare⟩;cases q:H b with
    | none=>exact un.keep b o e q (by intro z;exact absurd (show b∈([]:List Ae) from z) (by simp)) (by simp)
    | some u=>
     rcases hO b with z | ⟨ob,xs,z⟩
     ·rw [q] at z;cases z
     ·have z2:=un.frzs b ob _ z;obtain ⟨e1,_⟩:=hok b _ z;obtain ⟨e2,_⟩:=hok' b _ z2;rw [e] at e1;cases e1;exact e2
 cases hk:K.lookup a with
 | some o=>
  have e:=KX a o hk;rw [ha] at e;cases e;refine core (fun _=>none) (fun _=> .inl rfl) (.inr ⟨_,vs.toArray,_,hk,rfl,rfl,rfl,by rw [Ba,lenV];exact hl,by simpa using rv⟩) (fun b u z=>by have z':(none:Option HO)=some u:=z;cases z') (fun b z=>absurd rfl z) fun z=>absurd rfl z
 | none=>
  refine core (fun b=>if b=a then some (.frz {cls:= .type "list",data:= .seq vs.toArray} (.lst (ns.map V.int))) else none) (fun b=>?_) (.inl (.inr ⟨{cls:= .type "list",data:= .seq vs.toArray},if_pos rfl⟩)) (fun b u z=>?_) (fun b z=>?_) fun _=>hk
  ·by_cases hb:b=a
   ·exact .inr ⟨_,_,if_pos hb⟩
   ·exact .inl (if_neg hb)
  ·by_cases hb:b=a
   ·have z':=(if_pos hb).symm.trans z;cases z';subst hb;exact ⟨ha,by rw [Aj];exact hl,vs,_,rv,ha⟩
   ·have z':=(if_neg hb).symm.trans z;cases z'
  ·by_cases hb:b=a
   ·exact hb
   ·exact absurd (if_neg hb) z
theorem wQ {l:PySem.W.OpenLaw} {n k:Nat} {q:Program} {loose:List Str} {XP:(Str→Option Ac)→Heap→Prop} {YP:World→Heap→Prop} {d:DefRec} {K:Params→Frag} {CX:World→CXT} {sp:World→Sp} {x:Str}
  (hn:l.most=some n) (hn2:n≤Ag) (hdf:d.params.defaults=[]) (hr:Room k callerA)
  (hY:∀ (w:World) (h:Heap),YP w h→(K w.params).In h)
  (F:∀ (w:World) (mg:Str→Option Ac) (fa:Ae) (h:Heap),(K w.params).In h→h.Ns Aq mg→mg d.name=some (.ref fa)→
   ∃ fd:FuncData,(∀ (s:Af) (u:Ac),BindsTo s fd ⟨[u],[]⟩ [(x,u)])∧
    ∀ base:Heap,(K w.params).In base→base.Ns Aq mg→FnOk l.prog w (K w.params) mg base (CX w) k fa fd [x] (sp w))
  (hsp:∀ (w:World) (H:Hp) (a:Ae) (ns:List Int),ns.length≤n→qi2 H→SqL (K w.params) H a (ns.map V.int)→sp w [.ref a] H (fun v _=>v= .bl true) fun _ _ _=>False)
  (hCX:∀ (w:World) (H:Hp) (s:Af) (e:Ac) (s':Af),CX w [] H s (fun _ _ _=>False) e s'→False):
  PySem.W.WalkO q loose XP YP l.row.toRowW d [] (fun f vs=>PySem.call f vs):=by
 refine Att.attach_call hn hdf fun w s₀ s₁ mg mb fa o pm cd doc a vs ns G Y ho hd hcd hmg hobj hints hlen hg=>?_;have KX:=hY w _ Y;obtain ⟨fd,hb,hF⟩:=F w mg fa _ KX G.T.g hmg;exact qdu KX G.T.g G.T.b G.T.builtins G.T.nolimit hg hobj hints (Ar hlen hn2) hr hF hb (fun H hO hS=>hsp w H a ns hlen hO hS) fun H e s'=>hCX w H s₁ e s'
def Yy (s:Stmt) (j:Nat):Stmt:=match s with
 | .ClassDef _ _ _ body _ _ _ _ _ _ _=>body.getD j (.Pass ⟨0,0,0,0⟩)
 | _=> .Pass ⟨0,0,0,0⟩
def Jb (s:Stmt):Arguments:=match s with
 | .FunctionDef _ a _ _ _ _ _ _ _ _=>a
 | _=>{posonlyargs:=[],args:=[],vararg:=none,kwonlyargs:=[],kw_defaults:=[],kwarg:=none,defaults:=[]}
def jl (s:Stmt):List Stmt:=match s with
 | .FunctionDef _ _ b _ _ _ _ _ _ _=>b
 | _=>[]
def qp (s:Stmt):Scope:=match s with
 | .FunctionDef _ _ _ _ _ _ sc _ _ _=>sc
 | _=>{kind:= .function,names:=[],isGenerator:=false,isCoroutine:=false}
abbrev CX0:CXT:=fun _ _ _ _ _ _=>False
abbrev E0:XK:=fun _ _ _=>False
theorem qde {X:Cx}:JQ CX0 X E0:=fun _ _ _ _ _ _ _ h=>h.elim
structure Fun (K:Frag) (x qual:Str) (st:Stmt) (f:Ae) (fd:FuncData):Prop where
 ex:∃ (oc:Ac) (od:Option Ae) (kV doc pm:Ac) (an:Option Ae) (cdv ct:Ac) (osl:Array (Option Ac)),
  fd=PySem.W.fnOf x qual (Jb st) (jl st) (qp st) .none kV doc pm an cdv ct∧K.lookup f=some ⟨oc,od,.func fd,osl⟩∧PySem.W.codeIn K cdv qual=true
 kp:PySem.W.keepIn K (.ref f)=true
section
variable {P:Program} {w:World} {K:Frag} {mg:Str→Option Ac} {base:Heap}
theorem Fun.ok {x qual:Str} {st:Stmt} {f:Ae} {fd:FuncData} {N ps:List Str} {k:Nat} {sp:Sp} (F:Fun K x qual st f fd) (S:FnScope N ps (qp st)) (len:∀ vs H Q E,sp vs H Q E→vs.length=ps.length)
  (hbody:∀ (cdv:Ac) (A:Around) (outer:List Env) (s:Af) (H:Hp) (vs:List V) (Q:VK) (E:XK),Room k (A.deeper (envOfC qual (qp st) s.heap.objs.size f cdv))→sp vs H Q E→
   ∃ t,PSs (wO CX0 P w K mg base N qual (qp st) f cdv A outer s H E).nox (jl st) t∧t {nx:=fun _ H'=>Q .non H',rt:=Q} (start N vs) H):FnOk P w K mg base CX0 (k+1) f fd ps sp:=by
 obtain ⟨oc,od,kV,doc,pm,an,cdv,ct,osl,rfl,lk,hcd⟩:=F.ex;refine qgx lk hcd S len fun A outer s H vs Q E hr hsp=>?_;obtain ⟨t,h,q⟩:=hbody cdv A outer s H vs Q E hr hsp;exact ⟨t,h.nox,q⟩
theorem Fun.binds {x qual:Str} {st:Stmt} {f:Ae} {fd:FuncData} {ps:List Str} (F:Fun K x qual st f fd)
  (h:∀ (kV doc pm:Ac) (an:Option Ae) (cdv ct:Ac) (us:List Ac),us.length=ps.length→bindArgs (PySem.W.fnOf x qual (Jb st) (jl st) (qp st) .none kV doc pm an cdv ct) ⟨us,[]⟩=pure (ps.zip us)):j5 K fd ps []:=by
 obtain ⟨oc,od,kV,doc,pm,an,cdv,ct,osl,rfl,lk,hcd⟩:=F.ex;exact .all (h kV doc pm an cdv ct)
theorem qd1 {x qual:Str} {st:Stmt} {f:Ae} {oc:Ac} {od an:Option Ae} {osl:Array (Option Ac)} {kV doc pm cdv ct:Ac} (l:K.lookup f=some ⟨oc,od,.func (PySem.W.fnOf x qual (Jb st) (jl st) (qp st) .none kV doc pm an cdv ct),osl⟩)
  (c:PySem.W.codeIn K cdv qual=true) (k:PySem.W.keepIn K (.ref f)=true):Fun K x qual st f (PySem.W.fnOf x qual (Jb st) (jl st) (qp st) .none kV doc pm an cdv ct):=⟨⟨oc,od,kV,doc,pm,an,cdv,ct,osl,rfl,l,c⟩,k⟩
end
theorem XI {A:Around} {k:Nat} (hr:Room k A):A.units+1<cLine:=Cq (Nat.add_le_add_left (O0:1≤64) _) hr.units
section
variable {X:Cx}
theorem pv (i:Nat) {x:Str} {pos:Pos} (hN:X.N[i]?=some x:=by rfl) (hv:Vis X.env.scope x:=by first | exact Or.inl rfl | exact Or.inr (Or.inl rfl) | exact Or.inr (Or.inr rfl)) (hd:(x==("__debug__":Str))=false:=by decide)
  (hcd:(x==("__classdict__":Str))=false:=by decide):PE X (.Name x pos) (qN i):=qhv hN hv hd hcd
end
theorem wL {A B:Prop} (h:B):if false=true then A else B:=by
 rw [if_neg Ai];exact h
theorem J0 {A B:Prop} (h:A):if true=true then A else B:=by
 rw [if_pos rfl];exact h
theorem VC {c A B:Prop} [Decidable c] (h1:c→A) (h2:¬ c→B):if c then A else B:=by
 by_cases h:c
 ·rw [if_pos h];exact h1 h
 ·rw [if_neg h];exact h2 h
def qu (H H':Hp):Prop:=∀ b o,H b=some o→H' b=some o
theorem qu.refl (H:Hp):qu H H:=fun _ _ h=>h
theorem qu.trans {H H1 H2:Hp} (a:qu H H1) (b:qu H1 H2):qu H H2:=fun c o h=>b c o (a c o h)
theorem qu.free {H H':Hp} (e:qu H H') {l:Ae} (h:H' l=Option.none):H l=Option.none:=by
 cases q:H l with
 | none=>rfl
 | some o=>
  rw [e l o q] at h;cases h
theorem qu.seq {K:Frag} {H H':Hp} {a:Ae} {xs:List V} (e:qu H H') (h:SqL K H a xs):SqL K H' a xs:=by
 rcases h with (h | ⟨o,h⟩) | h
 ·exact .inl (.inl (e _ _ h))
 ·exact .inl (.inr ⟨o,e _ _ h⟩)
 ·exact .inr h
section
variable {κ:Type} [DecidableEq κ]
def vv (kvs:List (κ×V)) (k:κ):Option V:=(kvs.find? fun kv=>decide (kv.1=k)).map (·.2)
def jn (kvs:List (κ×V)) (k:κ) (v:V):List (κ×V):=
 if (kvs.any fun kv=>decide (kv.1=k))=true then kvs.map (fun kv=>if kv.1=k then (kv.1,v) else kv) else kvs++[(k,v)]
theorem jE {p:κ×V} {r:List (κ×V)} {k:κ} (e:p.1=k):vv (p::r) k=some p.2:=by simp [vv,C6,e]
theorem je {p:κ×V} {r:List (κ×V)} {k:κ} (e:¬ p.1=k):vv (p::r) k=vv r k:=by simp [vv,C6,e]
theorem JR (k:κ):∀ kvs:List (κ×V),(kvs.any fun kv=>decide (kv.1=k))=(vv kvs k).isSome
 | []=>rfl
 | p::r=>by
  rw [Ew]
  by_cases e:p.1=k
  ·simp only [jE e,Ao e,Bool.true_or,Option.isSome_some]
  ·rw [je e,Ap e,Ev];exact JR k r
theorem vS (kvs:List (κ×V)) (k:κ) (v:V):(jn kvs k v).length≤kvs.length+1:=by
 unfold jn;split
 ·rw [Aj];omega
 ·rw [Am,Ak,A2];omega
theorem Xe {kvs:List (κ×V)} {k:κ} (v:V) (h:vv kvs k=none):jn kvs k v=kvs++[(k,v)]:=by
 unfold jn;rw [JR,h];exact if_neg O0
theorem Vh.isSome_eq {o:Option V} {u:Option Ac} (r:Vh o u):o.isSome=u.isSome:=by
 cases o with
 | none=>cases u with
  | none=>rfl
  | some _=>exact (show False from r).elim
 | some _=>cases u with
  | none=>exact (show False from r).elim
  | some _=>rfl
theorem KV.val {kvs:List (κ×V)} {vs:List (κ×Ac)} (r:KV kvs vs) (k:κ):Vh (vv kvs k) (valueAt vs k):=by
 unfold KV at r
 induction r with
 | nil=>exact True.intro
 | @cons p q ps qs h t ih=>
  obtain ⟨h1,h2⟩:=h
  by_cases e:p.1=k
  ·have e':q.1=k:=h1.symm.trans e;have b:valueAt (q::qs) k=some q.2:=by simp [valueAt,C6,e']
   rw [jE e,b];exact h2
  ·have e':¬ q.1=k:=fun z=>e (h1.trans z);have b:valueAt (q::qs) k=valueAt qs k:=by simp [valueAt,C6,e']
   rw [je e,b];exact ih
theorem KV.any {kvs:List (κ×V)} {vs:List (κ×Ac)} (r:KV kvs vs) (k:κ):(kvs.any fun kv=>decide (kv.1=k))=vs.any fun kv=>decide (kv.1=k):=by
 unfold KV at r
 induction r with
 | nil=>rfl
 | cons h t ih=>rw [Ew,Ew,ih,h.1]
theorem KV.repl {kvs:List (κ×V)} {vs:List (κ×Ac)} (r:KV kvs vs) (k:κ) {y:V} {u:Ac} (ry:qS y u):
  KV (kvs.map fun kv=>if kv.1=k then (kv.1,y) else kv) (vs.map fun kv=>if kv.1=k then (kv.1,u) else kv):=by
 unfold KV at r ⊢
 induction r with
 | nil=>exact .nil
 | @cons p q ps qs h t ih=>
  rw [A4,A4];refine .cons ?_ ih;obtain ⟨h1,h2⟩:=h
  by_cases e:p.1=k
  ·rw [if_pos e,if_pos (h1.symm.trans e)];exact ⟨h1,ry⟩
  ·rw [if_neg e,if_neg (fun z=>e (h1.trans z))];exact ⟨h1,h2⟩
theorem KV.put {kvs:List (κ×V)} {vs:List (κ×Ac)} (r:KV kvs vs) (k:κ) {y:V} {u:Ac} (ry:qS y u):KV (jn kvs k y) (stored vs k u):=by
 unfold jn stored;rw [r.any k]
 by_cases e:(vs.any fun kv=>decide (kv.1=k))=true
 ·rw [if_pos e,if_pos e];exact r.repl k ry
 ·rw [if_neg e,if_neg e];exact Paired.snoc r ⟨rfl,ry⟩
theorem KV.length {kvs:List (κ×V)} {vs:List (κ×Ac)} (r:KV kvs vs):kvs.length=vs.length:=Cw r
end
theorem QF {P:Program} {w:World} {k:Key} {u:Ac} (r:qS (kV k) u):(zp P w).is k u=true:=by
 cases k with
 | inl i=>obtain ⟨t,e⟩:=(show ∃ t,u=Value.int i t from r);subst e;exact XD P w i t
 | inr x=>obtain ⟨t,e⟩:=(show ∃ t,u=Value.str x t from r);subst e;exact wz P w x t
theorem yt {P:Program} {w:World}:∀ {ks:List Key} {us:List Ac},qT (ks.map kV) us→ItemsAre (zp P w) ks us
 | [],_,r=>by rw [Cj] at r;cases r;exact .nil
 | k::ks,_,r=>by
  rw [A4] at r;cases r with
  | cons h t=>exact .cons (QF h) (yt t)
abbrev KT (H:Hp):List (List Key×V)→List (List Key×Ae×Ac)→Prop:=Paired fun p q=>p.1=q.1∧H q.2.1=some (.tup (p.1.map kV))∧qS p.2 q.2.2
theorem KT.val {H:Hp} {kvs:List (List Key×V)} {xs:List (List Key×Ae×Ac)} (r:KT H kvs xs) (k:List Key):Vh (vv kvs k) ((atKey xs k).map (·.2)):=by
 induction r with
 | nil=>exact True.intro
 | @cons p q ps qs h t ih=>
  obtain ⟨h1,_,h2⟩:=h
  by_cases e:p.1=k
  ·have e':q.1=k:=h1.symm.trans e;have b:atKey (q::qs) k=some q.2:=by simp [atKey,C6,e']
   rw [jE e,b];exact h2
  ·have e':¬ q.1=k:=fun z=>e (h1.trans z);have b:atKey (q::qs) k=atKey qs k:=by simp [atKey,C6,e']
   rw [je e,b];exact ih
theorem KT.repl {H:Hp} {kvs:List (List Key×V)} {xs:List (List Key×Ae×Ac)} (r:KT H kvs xs) (k:List Key) {y:V} {u:Ac} (ry:qS y u):
  KT H (kvs.map fun kv=>if kv.1=k then (kv.1,y) else kv) (xs.map (putAt k u)):=by
 induction r with
 | nil=>exact .nil
 | @cons p q ps qs h t ih=>
  rw [A4,A4];refine .cons ?_ ih;obtain ⟨h1,h2,h3⟩:=h;unfold putAt
  by_cases e:p.1=k
  ·rw [if_pos e,if_pos (h1.symm.trans e)];exact ⟨h1,h2,ry⟩
  ·rw [if_neg e,if_neg (fun z=>e (h1.trans z))];exact ⟨h1,h2,h3⟩
theorem KT.put {H:Hp} {kvs:List (List Key×V)} {xs:List (List Key×Ae×Ac)} (r:KT H kvs xs) (k:List Key) {b:Ae} {y:V} {u:Ac} (hb:H b=some (.tup (k.map kV))) (ry:qS y u):
  KT H (jn kvs k y) (storedH xs k b u):=by
 have e:(kvs.any fun kv=>decide (kv.1=k))=(atKey xs k).isSome:=by
  rw [JR,(r.val k).isSome_eq,Option.isSome_map]
 unfold jn storedH;rw [e]
 by_cases q:(atKey xs k).isSome=true
 ·rw [if_pos q,if_pos q];exact r.repl k ry
 ·rw [if_neg q,if_neg q];exact Paired.snoc r ⟨rfl,hb,ry⟩
theorem KT.keeps {H H':Hp} {kvs:List (List Key×V)} {xs:List (List Key×Ae×Ac)} (r:KT H kvs xs) (ht:∀ b ys,H b=some (.tup ys)→H' b=some (.tup ys)):KT H' kvs xs:=
 Paired.mapP r fun _ _ z=>⟨z.1,ht _ _ z.2.1,z.2.2⟩
section
variable {P:Program} {w:World} {H:Hp} {h:Heap} {a:Ae}
theorem qgr {u:HO} (ok:HOk P w H h) (e:Rd H a u):zw P w H h a u:=e.ok ok
theorem qd8 {kvs:List (Key×V)} (ok:HOk P w H h) (e:Rd H a (.dK kvs)):kvs.length≤Ag∧(a==sysModules)=false∧∃ vs,KV kvs vs∧h.DictOf (zp P w) a vs:=
 show zw P w H h a (.dK kvs) from qgr ok e
theorem qgy {kvs:List (Key×V)} (ok:HOk P w H h) (e:H a=some (.dK kvs)):kvs.length≤Ag∧(a==sysModules)=false∧∃ vs,KV kvs vs∧h.DictOf (zp P w) a vs:=qd8 ok (.inl e)
theorem ZM {ks:List Key} (ok:HOk P w H h) (e:H a=some (.tup (ks.map kV))):(tupleKind (zp P w)).is h ks a:=by
 obtain ⟨_,its,r,o,h1,h2,n,h3⟩:=(show zw P w H h a (.tup (ks.map kV)) from ok a _ e);exact ⟨o,its.toArray,n,h1,h2,h3,by simpa using yt r⟩
theorem qd7 {kvs:List (List Key×V)} (ok:HOk P w H h) (e:Rd H a (.dT kvs)):kvs.length≤Ag∧(a==sysModules)=false∧
  ∃ xs,KT H kvs xs∧h.DictOfH (tupleKind (zp P w)) a xs:=by
 obtain ⟨z,y,xs,r,o,es,ep,h1,h2,h3,h4,h5⟩:=(show zw P w H h a (.dT kvs) from qgr ok e);refine ⟨z,y,xs,r,o,es,ep,h1,h2,h3,h4,fun x hx=>?_,h5⟩;have all:∀ {l:List (List Key×V)} {m:List (List Key×Ae×Ac)},KT H l m→∀ x∈m,(tupleKind (zp P w)).is h x.1 x.2.1:=by
  intro l m q
  induction q with
  | nil=>intro x hx;exact nomatch hx
  | @cons p q ps qs hq t ih=>
   intro x hx;rcases Av.mp hx with e | hx
   ·subst e;exact ZM ok (by rw [← hq.1];exact hq.2.1)
   ·exact ih x hx
 exact all r x hx
theorem qkl {kvs:List (List Key×V)} (ok:HOk P w H h) (e:H a=some (.dT kvs)):kvs.length≤Ag∧(a==sysModules)=false∧
  ∃ xs,KT H kvs xs∧h.DictOfH (tupleKind (zp P w)) a xs:=qd7 ok (.inl e)
end
def jQ (H:Hp) (a:Ae) (y:V) (r:Option V):Prop:=
 (∃ kvs k,Rd H a (.dK kvs)∧y=kV k∧r=vv kvs k)∨∃ kvs k b,Rd H a (.dT kvs)∧y= .ref b∧H b=some (.tup (k.map kV))∧r=vv kvs k
def X3 (H:Hp) (a:Ae) (y v:V) (H':Hp):Prop:=
 (∃ kvs k,H a=some (.dK kvs)∧y=kV k∧kvs.length<Ag∧H'=upd H a (.dK (jn kvs k v)))∨
 ∃ kvs k b,H a=some (.dT kvs)∧y= .ref b∧H b=some (.tup (k.map kV))∧kvs.length<Ag∧H'=upd H a (.dT (jn kvs k v))
theorem jQ.k {H:Hp} {a:Ae} {kvs:List (Key×V)} {k:Key} (e:H a=some (.dK kvs)):jQ H a (kV k) (vv kvs k):= .inl ⟨kvs,k,.inl e,rfl,rfl⟩
theorem X3.k {H:Hp} {a:Ae} {kvs:List (Key×V)} {k:Key} {v:V} (e:H a=some (.dK kvs)) (hl:kvs.length<Ag):X3 H a (kV k) v (upd H a (.dK (jn kvs k v))):= .inl ⟨kvs,k,e,rfl,hl,rfl⟩
section
variable {X:Cx} {pins:List (Ae×Obj)} {σ:St} {H:Hp} {s:Af} {a:Ae} {y v:V} {u r:Ac} {o:Option V} {A:Around} {E:Ac→Af→Prop}
theorem Inv.big (I:Inv X pins σ H s):sysModules<s.heap.objs.size:=by
 have h:Aq<s.heap.objs.size:=(I.mod.glob.keeps I.bk).lt;exact Nat.lt_trans O0 h
theorem qay {Q:Ac→Af→Prop} (hu:A.units+1<cLine) (I:Inv X pins σ H s) (g:jQ H a y (some v)) (ry:qS y u) (h:∀ w' s',Inv X pins σ H s'→qS v w'→Q w' s'):
  wpAny (model X.prog X.w) A (getItem (.ref a) u) Q E s:=by
 rcases g with ⟨kvs,k,e,ey,l⟩ | ⟨kvs,k,b,e,ey,eb,l⟩
 ·subst ey;obtain ⟨z,hd,vs,rel,dd⟩:=qd8 I.hok e;obtain ⟨w',hw,rw'⟩:=Vh.some_of (v:=v) (o:=valueAt vs k) (by rw [l];exact rel.val k)
  exact wpAny_getItem_of (QF ry) dd.mapOf hw (h w' _ (I.tok _) rw')
 ·subst ey;cases (show u=Value.ref b from ry);obtain ⟨z,hd,xs,rel,dd⟩:=qd7 I.hok e;obtain ⟨w',hw,rw'⟩:=Vh.some_of (v:=v) (o:=(atKey xs k).map (·.2)) (by rw [l];exact rel.val k)
  obtain ⟨p,hp,hp2⟩:=Option.map_eq_some_iff.mp hw;refine wpAny_getItem_heap (tupleKind_room_in1 hu) (ZM I.hok eb) dd hp ?_;rw [hp2];exact h w' _ (I.tok _) rw'
theorem YF {h':Heap} {t':Nat} {ob:HO} (I:Inv X pins σ H s) (mu:Mut (H a)) (hs:Heap.SameBut a s.heap h') (he:∃ q,h'.get? a=some q) (new:zw X.prog X.w (upd H a ob) h' a ob):
  Inv X pins σ (upd H a ob) {s with heap:=h',toks:=t'}:=
 I.write (x:=a) (e:=a) mu (.inl rfl) (fun b q hb z=>(hs.2 b hb).trans z) he new
theorem qd9 {P:Program} {w:World} {H':Hp} {h':Heap} {kvs:List (Key×V)} {vs:List (Key×Ac)} (z:kvs.length≤Ag) (hd:(a==sysModules)=false) (rel:KV kvs vs) (dd:h'.DictOf (zp P w) a vs):
  zw P w H' h' a (.dK kvs):=⟨z,hd,vs,rel,dd⟩
theorem qax {H':Hp} {Q:Unit→Af→Prop} (hu:A.units+1<cLine) (I:Inv X pins σ H s) (g:X3 H a y v H') (ry:qS y u) (rv:qS v r) (h:∀ s',Inv X pins σ H' s'→Q () s'):
  wpAny (model X.prog X.w) A (setItem (.ref a) u r) Q E s:=by
 rcases g with ⟨kvs,k,e,ey,l,eH⟩ | ⟨kvs,k,b,e,ey,eb,l,eH⟩
 ·subst ey eH;obtain ⟨z,hd,vs,rel,dd⟩:=qgy I.hok e;have hz:vs.length≤Ag:=by rw [← rel.length];exact z
  have hl:(jn kvs k v).length≤Ag:=by have:=vS kvs k v;omega
  refine wpAny_setItem_pairs (hsz:=hz) (QF ry) dd fun h' dd' hs=>h _ ?_;have he:∃ q,h'.get? a=some q:=let ⟨q,_,_,hq,_⟩:=dd';⟨q,hq⟩;exact YF I (by rw [e];exact True.intro) hs he (qd9 hl hd (rel.put k rv) dd')
 ·subst ey eH;cases (show u=Value.ref b from ry);obtain ⟨z,hd,xs,rel,dd⟩:=qkl I.hok e;have hz:xs.length≤Ag:=by rw [← Cw rel];exact z
  have hl:(jn kvs k v).length≤Ag:=by have:=vS kvs k v;omega
  refine wpAny_setItem_heap (hsz:=hz) (tupleKind_room_in1 hu) (ZM I.hok eb) dd fun h' dd' hs=>h _ ?_;obtain ⟨q,es,ep,hq,h2,h3,h4,_,h5⟩:=dd';refine YF I (by rw [e];exact True.intro) hs ⟨q,hq⟩ ⟨hl,hd,_,(rel.put k eb rv).keeps fun c ys ec=>?_,q,es,ep,hq,h2,h3,h4,h5⟩
  rw [qG (yj ec e (fun z=>nomatch z))];exact ec
end
section
variable {X:Cx} {pins:List (Ae×Obj)} {σ:St} {H:Hp} {s:Af} {a:Ae} {kvs:List (Key×V)} {k:Key} {u:Ac} {A:Around} {E:Ac→Af→Prop}
end
def qgh (i:Expr):Prop:=∀ ov iv,subscripted i false ov iv=operate [ov,iv] (getItem ov iv)
theorem yP {prog:Program} {w:World} {A:Around} {E:Ac→Af→Prop} {s:Af} {env:Env} {value slice:Expr} {pos:Pos} {T id:String} {Q:Ac→Af→Prop}
  (hl:typeLookup (.type T) "__getitem__"=pure (some (.builtin id))) (hs:qgh slice)
  (h:wpAny (model prog w) A (eval value env) (fun o s₁=>wpAny (model prog w) A (eval slice env) (fun i s₂=>s₂.TypeIs o T∧wpAny (model prog w) A (getItem o i) Q E s₂) E s₁) E s):
  wpAny (model prog w) A (eval (.Subscript value slice pos) env) Q E s:=by
 refine Subscript_ (Di h (fun o s₁ h₁=>Di h₁ (fun i s₂ h₂=>?_) fun _ _ x=>x) fun _ _ x=>x);obtain ⟨hT,h₂⟩:=h₂;unfold subscriptTail;refine An ?_;rw [getitemInPython_of_ne hT.not_modules];refine An (wpAny_specialOf hT hl ?_);have fin:wpAny (model prog w) A (subscripted slice false o i) (fun r s₃=>wpAny (model prog w) A (letTemporaryGo value o r>>=fun _=>pure r) Q E s₃) E s₂:=by
  rw [hs o i];exact wpAny_operating (Di h₂ (fun r s₃ h₃=>An (wpAny_letTemporaryGo (A9 h₃))) fun _ _ x=>x)
 first
  | exact A9 (An fin)
  | exact An (A9 (An fin))
  | exact An fin
theorem XU {X:Cx} {pins:List (Ae×Obj)} {σ:St} {H:Hp} {s:Af} {a:Ae} {y:V} {o:Option V} (I:Inv X pins σ H s) (g:jQ H a y o):s.TypeIs (.ref a) "dict":=by
 rcases g with ⟨kvs,k,e,_,_⟩ | ⟨kvs,k,b,e,_,_,_⟩
 ·obtain ⟨_,_,vs,_,dd⟩:=qd8 I.hok e;exact dd.typeIs
 ·obtain ⟨_,_,xs,_,dd⟩:=qd7 I.hok e;exact dd.typeIs
def qjb (td ty:TE):TE:=fun σ H Q=>td σ H fun x H1=>ty σ H1 fun y H2=>∃ a v,x= .ref a∧jQ H2 a y (some v)∧Q v H2
def qjk (td ty tv:TE):TS:=fun D σ H=>tv σ H fun v H1=>td σ H1 fun x H2=>ty σ H2 fun y H3=>∃ a H4,x= .ref a∧X3 H3 a y v H4∧D.nx σ H4
section
variable {X:Cx} {o i e value:Expr} {pos pos' tpos:Pos} {td ty tv:TE}
theorem zO (hu:X.A.units+1<cLine) (ho:PE X o td) (hi:PE X i ty) (hs:qgh i):PE X (.Subscript o i pos) (qjb td ty):=by
 intro pins s σ H Q I h;refine yP PySem.F.slot_dict_getitem.lookup hs (thn (ho pins s σ H _ I h) fun u s1 ⟨x,H1,I1,rx,q1⟩=>thn (hi pins s1 σ H1 _ I1 q1) fun iv s2 ⟨y,H2,I2,ry,a,v,ex,g,q2⟩=>?_);subst ex;obtain rfl:u=Value.ref a:=rx;exact ⟨XU I2 g,qay hu I2 g ry fun w' s3 I3 rw'=>⟨v,H2,I3,rw',q2⟩⟩
theorem wV (hu:X.A.units+1<cLine) (ho:PE X o td) (hi:PE X i ty) (hv:PE X value tv) (hs:swapsWith value (some (.Subscript o i pos')) pos.line X.env=pure false):
  PS X (.Assign [.Subscript o i pos'] value pos) (qjk td ty tv):=by
 intro pins s σ H D I h;refine wpAny_Assign_Subscript (thn (hv pins s σ H _ I h) fun r s1 ⟨v,H1,I1,rv,q1⟩=>thn (ho pins s1 σ H1 _ I1 q1) fun u s2 ⟨x,H2,I2,rx,q2⟩=>thn (hi pins s2 σ H2 _ I2 q2) fun iv s3 ⟨y,H3,I3,ry,a,H4,ex,g,q3⟩=>?_) hs;subst ex;obtain rfl:u=Value.ref a:=rx;exact qax hu I3 g ry rv fun s4 I4=>⟨σ,H4,I4,q3⟩
end
theorem qea {P:Program} {w:World} {H:Hp} (h:Heap) (hb:sysModules<h.objs.size):zw P w H (h.push {cls:= .type "dict",data:= .dict #[]}) h.objs.size (.dK []):=
 ⟨B2 _,Bi.mpr (Ne.symm (Bz hb)),[],.nil,Heap.DictOf.new h⟩
section
variable {X:Cx} {pos:Pos}
end
def Zb:List (TE×TE)→St→Hp→(List (V×V)→Hp→Prop)→Prop
 | [],_,H,Q=>Q [] H
 | (tk,tv)::r,σ,H,Q=>tk σ H fun x H1=>tv σ H1 fun y H2=>Zb r σ H2 fun ps H3=>Q ((x,y)::ps) H3
abbrev VV:List (V×V)→List (Ac×Ac)→Prop:=Paired fun p q=>qS p.1 q.1∧qS p.2 q.2
def PPs (X:Cx) (pos:Pos) (keys:List (Option Expr)) (values:List Expr) (trs:List (TE×TE)):Prop:=
 ∀ (pins:List (Ae×Obj)) (s:Af) (σ:St) (H:Hp) (Q:List (V×V)→Hp→Prop),Inv X pins σ H s→Zb trs σ H Q→
  wpAny (model X.prog X.w) X.A (evalPairs (pairTrees keys values X.env pos)) (fun vs s'=>∃ ps H',Inv X pins σ H' s'∧VV ps vs∧Q ps H') X.xe s
theorem Qo {X:Cx} {pos:Pos}:PPs X pos [] [] []:=fun pins s σ H Q I h=>pairTrees_nil_walk ⟨[],H,I,.nil,h⟩
theorem JV {X:Cx} {pos:Pos} {k v:Expr} {ks:List (Option Expr)} {vs:List Expr} {tk tv:TE} {trs:List (TE×TE)} (hk:PE X k tk) (hv:PE X v tv) (hr:PPs X pos ks vs trs):
  PPs X pos (some k::ks) (v::vs) ((tk,tv)::trs):=fun pins s σ H Q I h=>
 pairTrees_cons_walk (thn (hk pins s σ H _ I h) fun u s1 ⟨x,H1,I1,rx,q1⟩=>thn (hv pins s1 σ H1 _ I1 q1) fun w2 s2 ⟨y,H2,I2,ry,q2⟩=>
  thn (hr pins s2 σ H2 _ I2 q2) fun ws s3 ⟨ps,H3,I3,rel,q3⟩=>⟨(x,y)::ps,H3,I3,.cons ⟨rx,ry⟩ rel,q3⟩)
def vQ (kvs more:List (Key×V)):List (Key×V):=more.foldl (fun acc kv=>jn acc kv.1 kv.2) kvs
theorem KV.merge:∀ {more:List (Key×V)} {rs:List (Key×Ac)} {kvs:List (Key×V)} {vs:List (Key×Ac)},KV more rs→KV kvs vs→KV (vQ kvs more) (merged vs rs):=by
 intro more rs kvs vs r;unfold KV at r
 induction r generalizing kvs vs with
 | nil=>intro q;exact q
 | @cons p q ps qs h t ih=>
  intro r0;have e:KV (jn kvs p.1 p.2) (stored vs q.1 q.2):=by
   have:=r0.put p.1 h.2;rw [← h.1];exact this
  exact ih e
theorem Vm:∀ (more kvs:List (Key×V)),(vQ kvs more).length≤kvs.length+more.length
 | [],kvs=>by show kvs.length≤kvs.length+0;omega
 | p::r,kvs=>by
  have h1:=Vm r (jn kvs p.1 p.2);have h2:=vS kvs p.1 p.2;show (vQ (jn kvs p.1 p.2) r).length≤_;rw [Ak];omega
theorem WV {P:Program} {w:World}:∀ {kvs:List (Key×V)} {ws:List (Ac×Ac)},VV (kvs.map fun kv=>(kV kv.1,kv.2)) ws→∃ rs,Carries (zp P w) ws rs∧KV kvs rs
 | [],_,r=>by rw [Cj] at r;cases r;exact ⟨[],True.intro,.nil⟩
 | p::kvs,_,r=>by
  rw [A4] at r;cases r with
  | @cons a b as bs h t=>
   obtain ⟨rs,c,q⟩:=WV (P:=P) (w:=w) t;obtain ⟨b1,b2⟩:=b;exact ⟨(p.1,b2)::rs,⟨QF h.1,rfl,c⟩,.cons ⟨rfl,h.2⟩ q⟩
def qja (trs:List (TE×TE)):TE:=fun σ H Q=>∀ p,H p=none→Zb trs σ (upd H p (.dK [])) fun ps H2=>H2 p=some (.dK [])∧∃ kvs:List (Key×V),ps=kvs.map (fun kv=>(kV kv.1,kv.2))∧kvs.length≤15∧Q (.ref p) (upd H2 p (.dK (vQ [] kvs)))
theorem Qs {X:Cx} {pos:Pos} {keys:List (Option Expr)} {values:List Expr} {trs:List (TE×TE)} (h:PPs X pos keys values trs) (hall:keys.all (·.isSome)=true) (hl:keys.length=values.length) (h0:keys≠[])
  (h15:keys.length≤15):PE X (.Dict keys values pos) (qja trs):=by
 intro pins s σ H Q I q;have hn:=I.hok.fresh (Aw s.heap.objs.size);have I1:=I.laid (a:=s.heap.objs.size) (o:= .dK []) (h':=s.heap.push {cls:= .type "dict",data:= .dict #[]}) (t':=s.toks) (fun _ _ q=>As _ q) (Aw _) (qea s.heap I.big);refine wpAny_Dict_walk (knd:=zp X.prog X.w) hall hl h0 h15 (thn (h pins _ σ _ _ I1 (q _ hn)) fun ws s2 ⟨ps,H2,I2,rel,e,kvs,ep,lk,q2⟩=>?_);subst ep;obtain ⟨rs,c,rk⟩:=WV (P:=X.prog) (w:=X.w) rel;obtain ⟨z,hd,vs0,r0,dd⟩:=qgy I2.hok e;cases r0;refine ⟨rs,c,dd,fun h' dd' hs=>⟨.ref s.heap.objs.size,_,?_,rfl,q2⟩⟩;have hz:(vQ [] kvs).length≤Ag:=by
  have h1:=Vm kvs [];rw [A2] at h1;rw [En];omega
 have he:∃ q,h'.get? s.heap.objs.size=some q:=let ⟨q,_,_,hq,_⟩:=dd';⟨q,hq⟩;exact YF I2 (by rw [e];exact True.intro) hs he (qd9 hz hd (rk.merge .nil) dd')
section
variable {X:Cx} {pins:List (Ae×Obj)} {σ:St} {H:Hp} {s:Af} {a:Ae} {y d:V} {u r:Ac} {o:Option V} {A:Around} {E:Ac→Af→Prop}
end
section
variable {X:Cx} {o e f:Expr} {apos cpos:Pos} {td ty tx:TE}
end
section
variable {X:Cx} {pins:List (Ae×Obj)} {σ:St} {H:Hp} {s:Af} {a:Ae} {kvs:List (Key×V)} {A:Around} {E:Ac→Af→Prop}
end
section
variable {X:Cx} {pins:List (Ae×Obj)} {σ:St} {H:Hp} {s:Af} {a:Ae} {y:V} {u:Ac} {A:Around} {E:Ac→Af→Prop}
end
section
variable {X:Cx}
end
section
variable {κ:Type} [DecidableEq κ]
end
end L2
set_option maxHeartbeats 4000000
set_option maxRecDepth 100000
namespace L2
open PySem PySem.Spec PyProof.Rows
theorem Inv.track {X:Cx} {pins:List (Ae×Obj)} {σ:St} {H:Hp} {s:Af} {D:Ae} {o:HO} (I:Inv X pins σ H s) (f:VY X pins H D) (new:zw X.prog X.w (upd H D o) s.heap D o):Inv X pins σ (upd H D o) s:=by
 obtain ⟨f0,f1,f2,f3,f4,f5⟩:=f;show Inv X pins σ (upd H D o) {s with heap:=s.heap,gens:=s.gens,drawn:=s.drawn,toks:=s.toks}
 refine I.step (g':=s.gens) (d':=s.drawn) (t':=s.toks) (h':=s.heap) (ch:=[D]) (fun b hb=>?_) (fun b o _ _ _ e _=>e) (fun b o _ _ _ e _=>⟨o.slots,e⟩) (fun b ob hc e n=>?_) (fun b ob _ e=>⟨ob,e⟩)
  (fun b xs e=>?_) (fun b ob u e=>?_) (fun b ps e=>⟨#[],?_⟩) (fun m hm=>hm) (fun b u e=>?_) I.bare
 ·have z:b=D:=by simpa using hb
  subst z;exact ⟨f3,f1,f4,f5⟩
 ·rw [qG (fun z=>hc (by simp [z]))];exact n
 ·rw [qG (qK e f0)];exact e
 ·rw [qG (qK e f0)];exact e
 ·rw [qG (qK e f0),e];simp
 ·by_cases hb:b=D
  ·subst hb;rw [upd_same] at e;cases e;exact new
  ·rw [qG hb] at e;exact (I.hok b u e).stay (fun c v _ q=>q) (fun c q=>by rw [qG (qK q f0)];exact q) fun c xs q=>by rw [qG (qK q f0)];exact q
theorem vV {env:Env} {f:Str×NameKind→List (Str×Ae)→Sem (ForInStep (List (Str×Ae)))} (h1:∀ n k cs,k≠ .free→f (n,k) cs=pure (.yield cs))
  (h2:∀ n cs c,env.cells.lookup n=some c→f (n,.free) cs=pure (.yield ((n,c)::cs))):∀ (names:List (Str×NameKind)) (acc:List (Str×Ae)),(∀ y∈names,y.2= .free→∃ c,env.cells.lookup y.1=some c)→
   ∃ cl,forIn names acc f=pure cl∧(∀ x c,cl.lookup x=some c→acc.lookup x=some c∨env.cells.lookup x=some c)∧(∀ x,(acc.lookup x).isSome=true→(cl.lookup x).isSome=true)∧
    ∀ y∈names,y.2= .free→(cl.lookup y.1).isSome=true
 | [],acc,_=>⟨acc,rfl,fun x c e=> .inl e,fun x e=>e,fun y hy=>absurd hy (by simp)⟩
 | (n,k)::r,acc,h=>by
  have hr:∀ y∈r,y.2= .free→∃ c,env.cells.lookup y.1=some c:=fun y hy=>h y (Au _ hy)
  by_cases hk:k= .free
  ·subst hk;obtain ⟨c,hc⟩:=h (n,.free) Ay rfl;obtain ⟨cl,e,a1,a2,a3⟩:=vV h1 h2 r ((n,c)::acc) hr;refine ⟨cl,by rw [Ei,h2 n acc c hc,pure_bind];exact e,fun x d hx=>?_,fun x hx=>a2 x ?_,fun y hy hf=>?_⟩
   ·rcases a1 x d hx with q | q
    ·rw [B6] at q;cases z:x==n with
     | true=>
      rw [z] at q;have z':x=n:=by simpa using z
      subst z';cases q;exact .inr hc
     | false=>rw [z] at q;exact .inl q
    ·exact .inr q
   ·rw [B6];cases x==n with
    | true=>rfl
    | false=>exact hx
   ·rcases Av.mp hy with z | z
    ·subst z;refine a2 n ?_;rw [B6];simp
    ·exact a3 y z hf
  ·obtain ⟨cl,e,a1,a2,a3⟩:=vV h1 h2 r acc hr;refine ⟨cl,by rw [Ei,h1 n k acc hk,pure_bind];exact e,a1,a2,fun y hy hf=>?_⟩
   rcases Av.mp hy with z | z
   ·subst z;exact absurd hf hk
   ·exact a3 y z hf
theorem WT {scope:Scope} {env:Env} (h:∀ y∈scope.names,y.2= .free→∃ c,env.cells.lookup y.1=some c):
  ∃ cl,closureFor scope env=pure cl∧(∀ x c,cl.lookup x=some c→env.cells.lookup x=some c)∧∀ y∈scope.names,y.2= .free→∃ c,cl.lookup y.1=some c:=by
 obtain ⟨cl,e,a1,_,a3⟩:=vV (env:=env) (f:=fun x r=>if (x.2==NameKind.free)=true then (do let c ← cellOf env x.1;pure (ForInStep.yield ((x.1,c)::r))) else pure (ForInStep.yield r)) (fun n k cs hk=>by
  have z:(k==NameKind.free)=false:=by simpa using hk
  simp only [z,Dl,if_false]) (fun n cs c hc=>by
  simp only [beq_self_eq_true,if_true,cellOf,hc,pure_bind]) scope.names [] h
 simp only [closureFor];refine ⟨cl,by rw [e,pure_bind],fun x c q=>?_,fun y hy hf=>Bw.mp (a3 y hy hf)⟩
 rcases a1 x c q with z | z
 ·cases z
 ·exact z
theorem yY {scope:Scope} {env:Env} {x:Str} (hcell:∀ y∈scope.names,y.2≠ .cell) (h:(relabel scope env).names.lookup x=some .cell∨(relabel scope env).names.lookup x=some .free):scope.names.lookup x=some .free:=by
 unfold relabel at h;dsimp only at h;generalize scope.names=l at h hcell
 induction l with
 | nil=>rcases h with h | h <;> cases h
 | cons y r ih=>
  obtain ⟨n,k⟩:=y;have hr:∀ y∈r,y.2≠ .cell:=fun y hy=>hcell y (Au _ hy);have hk:k≠ .cell:=hcell (n,k) Ay;rw [A4] at h;dsimp only at h;rw [B6];cases hx:x==n with
  | true=>
   dsimp only
   by_cases hc:(k==NameKind.free&&env.scope.kind== .function&&env.kindOf n==some .cell)=true
   ·simp only [Al,A8] at hc;rw [hc.1.1]
   ·rw [if_neg hc,B6,hx] at h;dsimp only at h;rcases h with h | h
    ·exact absurd (Bg h) hk
    ·exact h
  | false=>
   dsimp only;refine ih ?_ hr
   by_cases hc:(k==NameKind.free&&env.scope.kind== .function&&env.kindOf n==some .cell)=true
   ·rw [if_pos hc,B6,hx] at h;exact h
   ·rw [if_neg hc,B6,hx] at h;exact h
theorem yZ {scope:Scope} {env:Env} {x:Str} (h:scope.names.lookup x=some .free):(relabel scope env).names.lookup x=some .cell∨(relabel scope env).names.lookup x=some .free:=by
 unfold relabel;dsimp only;generalize scope.names=l at h
 induction l with
 | nil=>cases h
 | cons y r ih=>
  obtain ⟨n,k⟩:=y;rw [B6] at h;rw [A4];dsimp only;cases hx:x==n with
  | true=>
   rw [hx] at h;have hk:k= .free:=Bg h;subst hk
   by_cases hc:(NameKind.free==NameKind.free&&env.scope.kind== .function&&env.kindOf n==some .cell)=true
   ·rw [if_pos hc,B6,hx];exact .inl rfl
   ·rw [if_neg hc,B6,hx];exact .inr rfl
  | false=>
   rw [hx] at h
   by_cases hc:(k==NameKind.free&&env.scope.kind== .function&&env.kindOf n==some .cell)=true
   ·rw [if_pos hc,B6,hx];exact ih h
   ·rw [if_neg hc,B6,hx];exact ih h
theorem VB {scope:Scope} {env:Env} {x:Str} (h:scope.names.lookup x=some .free):¬ (relabel scope env).names.lookup x=some .local:=fun e=>by
 rcases yZ (env:=env) h with q | q <;> (rw [e] at q;cases q)
def cxC (X:Cx) (scope:Scope) (cl:List (Str×Ae)) (C:Ae) (N:List Str) (fp:List Ae) (s:Af) (H:Hp):Cx where
 prog:=X.prog
 w:=X.w
 K:=X.K
 mg:=X.mg
 base:=X.base
 A:=X.A
 N:=N
 s₀:=s
 H₀:=H
 env:=compEnvC scope cl C X.env
 outer:=X.stack
 stack:=X.stack
 ex:=fp
 fn:=fun _=>false
 calm:=X.calm
 pn:=[]
 xe:=fun _ _=>False
def jC (js:List (Option Nat)) (σ:St):St:=js.map fun j=>match j with
 | some i=>(σ[i]?).join
 | none=>none
structure CompScope (sc scope:Scope) (NX N:List Str) (js:List (Option Nat)):Prop where
 cell:∀ y∈scope.names,y.2≠ .cell
 kind:scope.kind= .function
 names:∀ y∈scope.names,y.2= .local→scope.names.lookup y.1=some .local
 free:∀ y∈scope.names,y.2= .free→sc.names.lookup y.1=some .cell∨sc.names.lookup y.1=some .free
 len:js.length=N.length
 out:∀ p∈js.zip N,∀ j∈p.1,NX[j]?=some p.2∧scope.names.lookup p.2=some .free
def PF (X:Cx) (ifs:List Expr) (t:TT):Prop:=
 ∀ (pins:List (Ae×Obj)) (s:Af) (σ:St) (H:Hp) (Q:Bool→Hp→Prop),Inv X pins σ H s→t σ H Q→
  wpAny (model X.prog X.w) X.A (forIn ifs true fun c r=>if r=true then do let ok ← isTrue c X.env (eval c X.env);pure (ForInStep.yield ok) else pure (ForInStep.yield r)) (TP X pins σ Q) X.xe s
def qbx:TT:=fun _ H Q=>Q true H
theorem Jr {X:Cx}:PF X [] qbx:=fun _ _ _ H _ I h=>by
 rw [List.forIn_nil];exact A9 ⟨H,I,h⟩
theorem Zt {X:Cx} {c:Expr} {t:TT} (hc:PT X c t):PF X [c] t:=fun pins s σ H Q I h=>by
 rw [Ei];simp only [if_true];rw [bind_assoc];refine An (thn (hc pins s σ H Q I h) fun b s1 q=>?_);rw [pure_bind];dsimp only;rw [List.forIn_nil];exact A9 q
section
variable {prog:Program} {w:World} {A:Around} {R:Result→Af→Prop} {s:Af}
theorem YH {elt target iter:Expr} {ifs:List Expr} {scope:Scope} {pos:Pos} {it acc:Ac} {env:Env} (I:Nat→Af→Prop)
  (turn:∀ n s,I n s→wpAny (model prog w) A (pyNext it) (fun r s₁=>match r with
   | none=>R (.ok .next) s₁
   | some v=>wpAny (model prog w) A (letOwnedTupleGo target it v) (fun _ s₀=>wpAny (model prog w) A (assign target env v) (fun _ s₂=>
     wpAny (model prog w) A (forIn ifs true fun c r=>if r=true then do let ok ← isTrue c env (eval c env);pure (ForInStep.yield ok) else pure (ForInStep.yield r)) (fun ok s₃=>
      if ok=true then wpAny (model prog w) A (eval elt env) (fun x s₄=>
       wpAny (model prog w) A (call (.builtin "list.append") [acc,x]) (fun _ s₅=>∃ m,m<n∧I m s₅) (fun _ _=>False) s₄) (fun _ _=>False) s₃
      else ∃ m,m<n∧I m s₃) (fun _ _=>False) s₂) (fun _ _=>False) s₀) (fun _ _=>False) s₁) (fun _ _=>False) s)
  (n:Nat) (h:I n s):codeAny (model prog w) A (.compLoop (.ListComp elt [⟨target,iter,ifs,0⟩] scope pos) 0 it acc env) R s:=by
 refine codeAny_loop rfl I (fun n s hI=>?_) n h;show wpAny _ A ((compTurn (.ListComp elt [⟨target,iter,ifs,0⟩] scope pos) 0 it acc env).onRaise (fun x=>do noteFrame x env;theTreesLotGoes x)) _ _ s
 refine wpAny_noted ?_;rw [compTurn_list];refine Di (E:=fun _ _=>False) ?_ (fun _ _ q=>q) fun _ _ f=>f.elim;refine An (wpAny_standAt (An (thn (turn n s hI) (fun r s₁ h₁=>?_))));cases r with
 | none=>exact A9 h₁
 | some v=>
  refine An (thn h₁ fun _ s₀ h₀=>?_);refine An (thn h₀ (fun _ s₂ h₂=>An (thn h₂ (fun ok s₃ h₃=>?_))));cases ok with
  | false=>exact A9 ⟨rfl,h₃⟩
  | true=>
   exact An (An (thn h₃ (fun x s₄ h₄=>An (thn h₄ (fun _ s₅ h₅=>A9 (A9 ⟨rfl,h₅⟩))))))
end
def qel (js:List (Option Nat)) (g:TG):Prop:=∀ (σ:St) (x:V) (H:Hp) (Q:St→Hp→Prop),g x (jC js σ) H Q→
 g x (jC js σ) H fun σ3 H3=>(σ3.length=(jC js σ).length∧∀ (i:Nat) v,(jC js σ)[i]?=some (some v)→σ3[i]?=some (some v))∧Q σ3 H3
def QS (J:It) (js:List (Option Nat)) (g:TG) (tt:TT) (te:TE) (σ:St) (H1:Hp) (Q:VK):Prop:=∃ W:Nat→Nat→List V→Hp→Prop,(∃ m,W 0 m [] H1)∧
 ∀ i m ys H',W i m ys H'→ys.length≤Ag∧((J.stop i H'∧∀ D,H' D=none→Q (.ref D) (upd H' D (.lst ys)))∨
  (J.go i H'∧∃ N:List V→Hp→Prop,(∀ ys H,N ys H→∃ m',m'<m∧W (i+1) m' ys H)∧
   ∀ x H2,J.yld i H' x H2→g x (jC js σ) H2 fun σ3 H3=>tt σ3 H3 fun ok H4=>if ok=true then te σ3 H4 fun y H5=>N (ys++[y]) H5 else N ys H4))
def YT (wi:TI) (js:List (Option Nat)) (g:TG) (tt:TT) (te:TE):TE:=fun σ H Q=>wi σ H fun J H1=>QS J js g tt te σ H1 Q
theorem jr {J:It} {js:List (Option Nat)} {g:TG} {tt:TT} {te:TE} {σ:St} {H1:Hp} {Q:VK} (n:Nat) (Pv:Nat→List V→Hp→Prop) (h0:Pv 0 [] H1) (hl:∀ i ys H,Pv i ys H→ys.length≤i) (hz:n≤Ag)
  (hs:∀ i ys H,i<n→Pv i ys H→J.go i H∧∀ x H2,J.yld i H x H2→g x (jC js σ) H2 fun σ3 H3=>tt σ3 H3 fun ok H4=>if ok=true then te σ3 H4 fun y H5=>Pv (i+1) (ys++[y]) H5 else Pv (i+1) ys H4)
  (hd:∀ ys H,Pv n ys H→J.stop n H∧∀ D,H D=none→Q (.ref D) (upd H D (.lst ys))):QS J js g tt te σ H1 Q:=by
 refine ⟨fun i m ys H=>m=n - i∧i≤n∧Pv i ys H,⟨n,by simp,B2 _,h0⟩,?_⟩
 rintro i m ys H ⟨rfl,hi,p⟩;refine ⟨Ar (hl i ys H p) (Ar hi hz),?_⟩
 by_cases hlt:i<n
 ·obtain ⟨a,b⟩:=hs i ys H hlt p;exact .inr ⟨a,Pv (i+1),fun ys' H' p'=>⟨n - (i+1),⋯,rfl,hlt,p'⟩,b⟩
 ·have e:i=n:=⋯;subst e;exact .inl (hd ys H p)
theorem zU {js:List (Option Nat)} {k:Nat} (h:js[k]?=some none):qel js (zD k):=fun σ x H Q q=>by
 refine ⟨⟨by rw [Ea],fun i v e=>?_⟩,q⟩
 by_cases hik:k=i
 ·subst hik;unfold jC at e;rw [Bt,h] at e;cases e
 ·rw [Ee hik];exact e
theorem Qv {K:Frag} {js:List (Option Nat)} {k l:Nat} (h:js[k]?=some none) (h':js[l]?=some none):qel js (qf3 K 2 (XM (zD k) (XM (zD l) qim))):=fun σ x H Q q=>by
 obtain ⟨a,xs,e1,e2,e3,v,r,rfl,v2,r2,rfl,rfl,q⟩:=q;have key:∀ {i:Nat} {z:V},(jC js σ)[i]?=some (some z)→i≠k∧i≠l:=fun {i z} e=>by
  unfold jC at e;rw [Bt] at e;refine ⟨fun q=>?_,fun q=>?_⟩
  ·subst q;rw [h] at e;cases e
  ·subst q;rw [h'] at e;cases e
 refine ⟨a,_,e1,e2,e3,v,_,rfl,v2,_,rfl,rfl,⟨by rw [Ea,Ea],fun i z e=>?_⟩,q⟩
 obtain ⟨n1,n2⟩:=key e;rw [Ee (Ne.symm n2),Ee (Ne.symm n1)];exact e
section
variable {X:Cx} {sc scope:Scope} {NX N:List Str} {js:List (Option Nat)} {elt iter tg:Expr} {ifs:List Expr} {pos:Pos} {wi:TI} {g:TG} {tt:TT} {te:TE}
theorem XZ {pins:List (Ae×Obj)} {σ:St} {H2:Hp} {s2:Af} {fp:List Ae} {cl:List (Str×Ae)} {h1:Heap} {tk:Nat} (hsc:X.env.scope=sc) (hNX:X.N=NX) (ok:CompScope sc scope NX N js) (I2:Inv X pins σ H2 s2)
  (cl1:∀ x c,cl.lookup x=some c→X.env.cells.lookup x=some c) (cl2:∀ y∈scope.names,y.2= .free→∃ c,cl.lookup y.1=some c) (f2:∀ b∈fp,VY X pins H2 b) (hfp:∀ b∈fp,b<s2.heap.objs.size)
  {C:Ae} (hC:s2.heap.objs.size≤C) (old:∀ b o,s2.heap.get? b=some o→h1.get? b=some o) (hns:h1.Ns C fun _=>none):
  Inv (cxC X scope cl C N fp s2 H2) [] (jC js σ) H2 {s2 with heap:=h1,toks:=tk}:=by
 have cOld:∀ x c,X.env.cells.lookup x=some c→c<s2.heap.objs.size:=fun x c e=>by
  obtain ⟨v,z⟩:=I2.cell x c e;exact z.lt
 refine ⟨⟨I2.ok.mod,?_,I2.ok.glob,I2.ok.blt,hC,fun x y c e1 e2=>I2.ok.inj x y c (cl1 x c e1) (cl1 y c e2),fun x hx=>?_,fun x c hf _=>absurd hf Ai,I2.ok.hd,I2.ok.frames,.inl rfl,fun b hb=>⟨Bz (Bv (hfp b hb) hC),fun x c e=>(f2 b hb).2.2.2.2.1 x c (cl1 x c e)⟩,
  I2.bs,Ar I2.ok.bsz I2.sz,fun b o e hb=>?_,fun b hb z=>?_,I2.stack,I2.stkFree⟩,rfl,I2.bare,Un.kept old,⟨_,hns,fun i x v e1 e2 e3=>?_⟩,fun x c e=>?_,I2.hok.fresh hC,fun x c e=>I2.freeC x c (cl1 x c e),fun p hp=>absurd (show p∈([]:List (Ae×Obj)) from hp) (by simp),I2.hok.kept old,?_⟩
 ·exact ok.kind
 ·have q:scope.names.lookup x=some .free:=yY ok.cell hx;exact cl2 (x,.free) (Bc q) rfl
 ·rcases (f2 b hb).2.2.2.1 with z | z
  ·exact I2.ok.noex b o e z
  ·exact absurd (Bv (Bf (I2.ok.bs b o e).1) z) (Ec _)
 ·rcases Av.mp (I2.stkSub b z) with q | q
  ·exact (f2 b hb).2.1 q
  ·exact (f2 b hb).2.2.1 q
 ·have e1':N[i]?=some x:=e1;have e2':(jC js σ)[i]?=some (some v):=e2;unfold jC at e2';rw [Bt] at e2';cases hj:js[i]? with
  | none=>rw [hj] at e2';cases e2'
  | some oj=>
   rw [hj] at e2';cases oj with
   | none=>cases e2'
   | some j=>
    have e4:(σ[j]?).join=some v:=Bg e2';have e5:σ[j]?=some (some v):=by
     cases z:σ[j]? with
     | none=>rw [z] at e4;cases e4
     | some ov=>
      rw [z] at e4;have e6:ov=some v:=e4;rw [e6]
    have hz:(some j,x)∈js.zip N:=by
     refine Br (i:=i) ?_;rw [Ef];exact ⟨hj,e1'⟩
    obtain ⟨q1,q2⟩:=ok.out _ hz j rfl;have q3:=ok.free (x,.free) (Bc q2) rfl;rw [← hsc] at q3;obtain ⟨m,hn,hl⟩:=I2.loc;obtain ⟨u,r,l⟩:=hl j x v (by rw [hNX];exact q1) e5 (.inr q3)
    refine ⟨u,r,.inr ?_⟩;rcases l with ⟨k,_⟩ | ⟨_,c,hc,hcell⟩
    ·have k':X.env.scope.names.lookup x=some .local:=k;rcases q3 with q3 | q3 <;> (rw [k'] at q3;cases q3)
    ·obtain ⟨c',hc'⟩:=cl2 (x,.free) (Bc q2) rfl;have ec:=cl1 x c' hc';rw [hc] at ec;cases ec;refine ⟨?_,c,hc',?_⟩
     ·have e3':Vis (relabel scope X.env) x:=e3;rcases e3' with e3' | e3' | e3'
      ·have:=VB q2 (env:=X.env);exact absurd e3' this
      ·exact .inl e3'
      ·exact .inr e3'
     ·obtain ⟨o,ho,hd⟩:=hcell;exact ⟨o,old _ _ ho,hd⟩
 ·obtain ⟨v,o,ho,hd⟩:=I2.cell x c (cl1 x c e);exact ⟨v,o,old _ _ ho,hd⟩
 ·show (jC js σ).length=N.length;unfold jC;rw [Aj,ok.len]
theorem yC {pins:List (Ae×Obj)} {σ:St} {H2:Hp} {s2:Af} {it:Ae} {fp:List Ae} {tn:Nat→Heap→Prop} {J:It} {cl:List (Str×Ae)} {Q:VK} {E:Ac→Af→Prop} {RR:Ac→Ae→Result→Af→Prop}
  (hsc:X.env.scope=sc) (hNX:X.N=NX) (ok:CompScope sc scope NX N js) (hc:X.calm=true) (I2:Inv X pins σ H2 s2)
  (cl1:∀ x c,cl.lookup x=some c→X.env.cells.lookup x=some c) (cl2:∀ y∈scope.names,y.2= .free→∃ c,cl.lookup y.1=some c)
  (T:Turn X.prog X.w X.K tg J fp it tn) (st2:tn 0 s2.heap) (f2:∀ b∈fp,VY X pins H2 b)
  (hg:∀ C,PG (cxC X scope cl C N fp s2 H2) tg g) (ht:∀ C,PF (cxC X scope cl C N fp s2 H2) ifs tt) (he:∀ C,PE (cxC X scope cl C N fp s2 H2) elt te)
  (own:qel js g) {W:Nat→Nat→List V→Hp→Prop} {m0:Nat} (w0:W 0 m0 [] H2)
  (turn:∀ i m ys H',W i m ys H'→ys.length≤Ag∧((J.stop i H'∧∀ D,H' D=none→Q (.ref D) (upd H' D (.lst ys)))∨
   (J.go i H'∧∃ N:List V→Hp→Prop,(∀ ys H,N ys H→∃ m',m'<m∧W (i+1) m' ys H)∧
    ∀ x H2,J.yld i H' x H2→g x (jC js σ) H2 fun σ3 H3=>tt σ3 H3 fun ok H4=>if ok=true then te σ3 H4 fun y H5=>N (ys++[y]) H5 else N ys H4)))
  (fin:∀ D C m s' Hf,Inv X pins σ Hf s'→s'.heap.Ns C m→VY X pins Hf C→Q (.ref D) Hf→RR (.ref D) C (.ok .next) s'):
  wpAny (model X.prog X.w) X.A (newList []) (fun acc s₃=>wpAny (model X.prog X.w) X.A (newFunctionEnv scope X.env.globals cl [] X.env.qual none .none (some X.env)) (fun cenv s₄=>
   codeAny (model X.prog X.w) X.A (.compStart (.ListComp elt [⟨tg,iter,ifs,0⟩] scope pos) 0 (.ref it) acc {cenv with scope:=relabel scope X.env}) (RR acc cenv.locals) s₄) E s₃) E s2:=by
 refine Dr (wpAny_newFunctionEnv ok.cell (by intro y hy;simp at hy) (fun h₁ hns₁ hsb₁=>?_) ok.kind)
 dsimp only at hns₁ hsb₁ ⊢;generalize hHH:s2.heap.push {cls:= .type "list",dict:=none,data:= .seq ([]:List Ac).toArray}=HH at hns₁ hsb₁ ⊢;have hCe:HH.objs.size=s2.heap.objs.size+1:=by rw [← hHH,Dk]
 obtain ⟨D,hD⟩:∃ D:Nat,D=s2.heap.objs.size:=⟨_,rfl⟩;obtain ⟨C,hC⟩:∃ C:Nat,C=HH.objs.size:=⟨_,rfl⟩;rw [← hC] at hCe hns₁ hsb₁ ⊢;rw [← hD] at hCe ⊢;have hDC:D≠C:=⋯;have hCle:s2.heap.objs.size≤C:=⋯;have hfp:∀ b∈fp,b<s2.heap.objs.size:=fun b hb=>by
  obtain ⟨o,e,_⟩:=T.obj 0 _ st2 b hb;exact Bf e
 have old:∀ b o,s2.heap.get? b=some o→h₁.get? b=some o:=fun b o e=>hsb₁.extBut b o (Bz (Bv (Bf e) hCle)) (As _ (hHH▸As _ e));have hacc:h₁.PlainList D #[]:=⟨_,hsb₁.extBut _ _ hDC (As _ (by rw [← hHH,hD];exact Bk _ rfl))⟩
 have hns:h₁.Ns C fun _=>none:=hns₁;have I4:Inv (cxC X scope cl C N fp s2 H2) [] (jC js σ) H2 {s2 with heap:=h₁,toks:=s2.toks+([]:List (Str×Ac)).length}:=
  XZ hsc hNX ok I2 cl1 cl2 f2 hfp ⋯ old hns
 have st4:tn 0 h₁:=T.keep 0 _ _ st2 fun b _ o e=>old b o e;have cOld:∀ x c,X.env.cells.lookup x=some c→c<s2.heap.objs.size:=fun x c e=>by
  obtain ⟨v,z⟩:=I2.cell x c e;exact z.lt
 have nDfp:D∉fp:=fun z=>absurd (hfp D z) (by rw [hD];exact Ec _)
 have stat:∀ {pl:List (Ae×Obj)} {H':Hp},(∀ b∈fp,H' b=none)→(∀ p∈pl,p.1∉fp)→∀ b∈fp,VY (cxC X scope cl C N fp s2 H2) pl H' b:=fun {pl H'} hn hp b hb=>by
  refine ⟨hn b hb,(I4.ok.exf b hb).1,I4.ok.exfs b hb,.inl hb,(I4.ok.exf b hb).2,fun p hpp z=>?_⟩;exact hp p (by simpa [cxC] using hpp) (z▸hb)
 have fpD:∀ {H':Hp},H' D=none→VY (cxC X scope cl C N fp s2 H2) [] H' D:=fun {H'} hn=>by
  refine ⟨hn,hDC,fun z=>?_,.inr (by show s2.heap.objs.size≤D;omega),fun x c e=>?_,fun p hpp=>absurd (show p∈([]:List (Ae×Obj)) from hpp) (by simp)⟩
  ·obtain ⟨_,o,ho,_⟩:=I4.ok.funs.mem z;exact absurd (show D<s2.heap.objs.size from Bf ho) (by rw [hD];exact Ec _)
  ·exact Bz (by rw [hD];exact cOld x c (cl1 x c e))
 refine (fun loop=>codeAny_compStart_list (loop _ rfl) (T.self X.A 0 _ _ _ st4 (loop _ rfl))) (fun s₃ (hs₃:s₃={s2 with heap:=h₁,toks:=s2.toks+([]:List (Str×Ac)).length})=>?_)
 subst hs₃;refine YH (env:=compEnvC scope cl C X.env) (fun n s'=>∃ i ys its H',Inv (cxC X scope cl C N fp s2 H2) [] (jC js σ) H' s'∧tn i s'.heap∧(∀ b∈fp,H' b=none)∧s'.heap.PlainList D its∧qT ys its.toList∧H' D=none∧W i n ys H')
  ?_ m0 ⟨0,[],#[],H2,I4,st4,fun b hb=>(f2 b hb).1,hacc,.nil,I2.hok.fresh ⋯,w0⟩
 rintro n s5 ⟨i,ys,its,H5,I5,st5,fr5,⟨k5,pl5⟩,vl5,hD5,w5⟩;obtain ⟨hz,tr⟩:=turn i n ys H5 w5;have hz':its.size≤Ag:=by
  have:=vl5.length;have e4:its.toList.length=its.size:=by simp
  omega
 have I5':Inv (cxC X scope cl C N fp s2 H2) [(D,{cls:= .type "list",data:= .seq its k5})] (jC js σ) H5 s5:=I5.pins_of fun p hp=>by
  have e:p=(D,{cls:= .type "list",data:= .seq its k5}):=by simpa using hp
  subst e;exact ⟨pl5,hD5,hDC,(fpD hD5).2.2.1,fun v z=>by cases z⟩
 have np:∀ p∈[(D,({cls:= .type "list",data:= .seq its k5}:Obj))],p.1∉fp:=fun p hp=>by
  have e:p=(D,{cls:= .type "list",data:= .seq its k5}):=by simpa using hp
  subst e;exact nDfp
 rcases tr with ⟨stop,qn⟩ | ⟨go,N',hN,step⟩
 ·refine thn (T.done (cxC X scope cl C N fp s2 H2) rfl rfl rfl hc i _ s5 (jC js σ) H5 (fun _ _=>False) I5' (stat fr5 np) st5 stop) fun r s6 ⟨hr,I6⟩=>?_;subst hr;have pD:=(I6.pin _ (Bn _ Ay)).1;have I6':Inv (cxC X scope cl C N fp s2 H2) [] (jC js σ) H5 s6:=I6.pins_of fun p hp=>absurd hp (by simp)
  have I7:Inv (cxC X scope cl C N fp s2 H2) [] (jC js σ) (upd H5 D (.lst ys)) s6:=I6'.track (fpD hD5) ⟨hz,its.toList,k5,vl5,by simpa using pD⟩
  obtain ⟨m,hn,_⟩:=I7.loc;have hfC:upd H5 D (.lst ys) C=none:=I7.free;refine fin D C m s6 (upd H5 D (.lst ys)) ?_ hn (I2.fpOk ⋯ hfC) (qn D hD5);exact I2.call' (ch:=fp) I7.os I7.base I7.hok I7.bare fun b hb=>⟨(f2 b hb).2.2.2.1,(f2 b hb).2.1,(f2 b hb).2.2.2.2.1,(f2 b hb).2.2.2.2.2⟩
 ·refine thn (T.item (cxC X scope cl C N fp s2 H2) rfl rfl rfl hc i _ s5 (jC js σ) H5 (fun _ _=>False) I5' (stat fr5 np) st5 go) fun r s6 ⟨u,hr,h6⟩=>?_;subst hr;refine thn h6 fun _ s7 ⟨x,H7,I7,r7,y7,st7,fr7⟩=>?_;have I7':=I7.pinned (stat fr7 np) (T.obj _ _ st7);have q7:=own σ x H7 _ (step x H7 y7);refine thn (hg C _ s7 (jC js σ) H7 x u _ I7' r7 q7) fun _ s8 ⟨σ8,H8,I8,ag8,q8⟩=>?_;have keepD:∀ {σ9:St} {H9:Hp} {s9:Af},Inv (cxC X scope cl C N fp s2 H2) ([(D,{cls:= .type "list",data:= .seq its k5})]++Vw fp s7.heap) σ9 H9 s9→s9.heap.get? D=some {cls:= .type "list",data:= .seq its k5}∧H9 D=none:=fun I9=>by
   obtain ⟨a,b,_⟩:=I9.pin _ (Bn _ (B3 _ Ay));exact ⟨a,b⟩
  have keepF:∀ {σ9:St} {H9:Hp} {s9:Af},Inv (cxC X scope cl C N fp s2 H2) ([(D,{cls:= .type "list",data:= .seq its k5})]++Vw fp s7.heap) σ9 H9 s9→tn (i+1) s9.heap∧∀ b∈fp,H9 b=none:=fun I9=>by
   refine ⟨T.keep _ _ _ st7 fun b hb o e=>(I9.pin (b,o) (Bn _ (Bn _ (vk hb e)))).1,fun b hb=>?_⟩;obtain ⟨o,e,d⟩:=T.obj _ _ st7 b hb;exact (I9.pin (b,o) (Bn _ (Bn _ (vk hb e)))).2.1
  refine thn (ht C _ s8 σ8 H8 _ I8 q8) fun okb s9 ⟨H9,I9,q9⟩=>?_;have again:∀ {H10:Hp} {s10:Af},Inv (cxC X scope cl C N fp s2 H2) ([(D,{cls:= .type "list",data:= .seq its k5})]++Vw fp s7.heap) σ8 H10 s10→Inv (cxC X scope cl C N fp s2 H2) [] (jC js σ) H10 s10:=fun I=>(I.pins_of fun p hp=>absurd hp (by simp)).weak ag8.1.symm ag8.2
  cases okb with
  | false=>
   have q9':N' ys H9:=q9;obtain ⟨m',hm,w9⟩:=hN _ _ q9';show ∃ m,m<n∧_;exact ⟨m',hm,i+1,ys,its,H9,again I9,(keepF I9).1,(keepF I9).2,⟨k5,(keepD I9).1⟩,vl5,(keepD I9).2,w9⟩
  | true=>
   have q9':te σ8 H9 fun y H5=>N' (ys++[y]) H5:=q9;show wpAny _ _ (eval elt (compEnvC scope cl C X.env)) _ _ s9;refine thn (he C _ s9 σ8 H9 _ I9 q9') fun yv s10 ⟨y,H10,I10,r10,q10⟩=>?_;obtain ⟨m',hm,w10⟩:=hN _ _ q10;refine wpAny_list_append_plain (hsz:=hz') ⟨k5,(keepD I10).1⟩ fun h' hl' hs'=>?_;refine ⟨m',hm,i+1,ys++[y],its.push yv,H10,?_,?_,(keepF I10).2,hl',?_,(keepD I10).2,w10⟩
   ·obtain ⟨g0,g1,g2,g3,g4,g5⟩:=fpD (keepD I10).2;exact (again I10).turned (t':=s10.toks) (fun b o hb e=>(hs'.2 b hb).trans e) g0 g1 g3 g4 g5
   ·exact T.keep _ _ _ (keepF I10).1 fun b hb o e=>(hs'.2 b (fun z=>nDfp (z▸hb))).trans e
   ·rw [Ep];exact vl5.append (.cons r10 .nil)
theorem jU (hi:PI X tg iter wi) (hg:∀ cl C fp s H,PG (cxC X scope cl C N fp s H) tg g) (ht:∀ cl C fp s H,PF (cxC X scope cl C N fp s H) ifs tt) (he:∀ cl C fp s H,PE (cxC X scope cl C N fp s H) elt te)
  (own:qel js g) (ok:CompScope sc scope NX N js) (hsc:X.env.scope=sc:=by rfl) (hNX:X.N=NX:=by rfl) (hc:X.calm=true:=by rfl) (hs:∀ x,foldedSetIterable iter X.env x=pure x:=by intro _;rfl):
  PE X (.ListComp elt [⟨tg,iter,ifs,0⟩] scope pos) (YT wi js g tt te):=by
 intro pins s σ H Q I h;rw [eval_ListComp];obtain ⟨cl,hclos,cl1,cl2⟩:=WT (scope:=scope) (env:=X.env) fun y hy hf=>I.ok.has y.1 (by
  have q:=ok.free y hy hf;rw [← hsc] at q;exact q)
 refine wpAny_comprehension_free (use:=none) rfl hs hclos ok.kind ok.names (thn (hi pins s σ H _ I h) fun xv s1 h1=>thn h1 fun itv s2 h2=>?_);obtain ⟨it,fp,tn,J,H2,rfl,I2,T,st2,f2,W,⟨m0,w0⟩,turn⟩:=h2;refine yC (RR:=fun acc C=>compPost (model X.prog X.w) X.A X.xe none (EP X pins σ Q) acc C) hsc hNX ok hc I2 cl1 cl2 T st2 f2 (fun C=>hg cl C fp s2 H2) (fun C=>ht cl C fp s2 H2) (fun C=>he cl C fp s2 H2) own w0 turn fun D C m s' Hf I' hn f q=>?_;obtain ⟨g0,g1,g2,g3,g4,g5⟩:=f;exact ⟨m,hn,fun h' hs'=>⟨.ref D,Hf,I'.turned (t':=s'.toks) (fun b o hb e=>(hs'.2 b hb).trans e) g0 g1 g3 g4 g5,rfl,q⟩⟩
end
mutual
inductive Rep (K:Frag) (H:Hp):V→Aa→Prop
 | non:Rep K H .non .none
 | bl (b:Bool):Rep K H (.bl b) (.bool b)
 | int (i:Int):Rep K H (.int i) (.int i)
 | str (x:Str):Rep K H (.str x) (.str x)
 | lst {a:Ae} {xs:List V} {ds:List Aa}:SqL K H a xs→Reps K H xs ds→Rep K H (.ref a) (.list ds)
 | tup {a:Ae} {xs:List V} {ds:List Aa}:SqT K H a xs→Reps K H xs ds→Rep K H (.ref a) (.tuple ds)
inductive Reps (K:Frag) (H:Hp):List V→List Aa→Prop
 | nil:Reps K H [] []
 | cons {x:V} {xs:List V} {d:Aa} {ds:List Aa}:Rep K H x d→Reps K H xs ds→Reps K H (x::xs) (d::ds)
end
section
variable {X:Cx} {pins:List (Ae×Obj)} {σ:St} {H H':Hp} {s:Af} {K:Frag}
mutual
theorem Rep.reads (I:Inv X pins σ H s):∀ {x:V} {d:Aa} {v:Ac},Rep X.K H x d→qS x v→∃ as,Reads s.heap v d as
 | _,_,_,.non,r=>by cases (show _=Value.none from r);exact ⟨_,.none⟩
 | _,_,_,.bl b,r=>by cases (show _=Value.bool b from r);exact ⟨_,.bool b⟩
 | _,_,_,.int i,r=>by
  obtain ⟨t,rfl⟩:=(show ∃ t,_=Value.int i t from r);exact ⟨_,.int i t⟩
 | _,_,_,.str x,r=>by
  obtain ⟨t,rfl⟩:=(show ∃ t,_=Value.str x t from r);exact ⟨_,.str x t⟩
 | _,_,_,.lst (a:=a) h q,r=>by
  cases (show _=Value.ref a from r);obtain ⟨its,rv,⟨o,n,e,c,_,d⟩,_⟩:=I.list h;obtain ⟨as,z⟩:=Reps.reads I q rv;exact ⟨_,.list e c d (by simpa using z)⟩
 | _,_,_,.tup (a:=a) h q,r=>by
  cases (show _=Value.ref a from r);obtain ⟨its,rv,⟨o,e,c,n,d⟩,_⟩:=I.tuple h;obtain ⟨as,z⟩:=Reps.reads I q rv;exact ⟨_,.tuple e c d (by simpa using z)⟩
theorem Reps.reads (I:Inv X pins σ H s):∀ {xs:List V} {ds:List Aa} {vs:List Ac},Reps X.K H xs ds→qT xs vs→∃ as,ReadsAll s.heap vs ds as
 | _,_,_,.nil,.nil=>⟨_,.nil⟩
 | _,_,_,.cons h q,.cons r rr=>by
  obtain ⟨as,z⟩:=Rep.reads I h r;obtain ⟨bs,y⟩:=Reps.reads I q rr;exact ⟨_,.cons z y⟩
end
theorem qu.sqT (g:qu H H') {a:Ae} {xs:List V} (h:SqT K H a xs):SqT K H' a xs:=by
 rcases h with (h | ⟨o,h⟩) | h
 ·exact .inl (.inl (g _ _ h))
 ·exact .inl (.inr ⟨o,g _ _ h⟩)
 ·exact .inr h
mutual
theorem Rep.mono (gL:∀ {a:Ae} {xs:List V},SqL K H a xs→SqL K H' a xs) (gT:∀ {a:Ae} {xs:List V},SqT K H a xs→SqT K H' a xs):∀ {x:V} {d:Aa},Rep K H x d→Rep K H' x d
 | _,_,.non=> .non
 | _,_,.bl b=> .bl b
 | _,_,.int i=> .int i
 | _,_,.str x=> .str x
 | _,_,.lst h q=> .lst (gL h) (Reps.mono gL gT q)
 | _,_,.tup h q=> .tup (gT h) (Reps.mono gL gT q)
theorem Reps.mono (gL:∀ {a:Ae} {xs:List V},SqL K H a xs→SqL K H' a xs) (gT:∀ {a:Ae} {xs:List V},SqT K H a xs→SqT K H' a xs):∀ {xs:List V} {ds:List Aa},Reps K H xs ds→Reps K H' xs ds
 | _,_,.nil=> .nil
 | _,_,.cons h q=> .cons (Rep.mono gL gT h) (Reps.mono gL gT q)
end
theorem Rep.same (g:qu H H') {x:V} {d:Aa} (h:Rep K H x d):Rep K H' x d:=h.mono g.seq g.sqT
theorem Reps.same (g:qu H H') {xs:List V} {ds:List Aa} (h:Reps K H xs ds):Reps K H' xs ds:=h.mono g.seq g.sqT
theorem Reps.length:∀ {xs:List V} {ds:List Aa},Reps K H xs ds→xs.length=ds.length
 | _,_,.nil=>rfl
 | _,_,.cons _ q=>by rw [Ak,Ak,Reps.length q]
theorem Reps.append:∀ {xs ys:List V} {ds es:List Aa},Reps K H xs ds→Reps K H ys es→Reps K H (xs++ys) (ds++es)
 | _,_,_,_,.nil,q=>q
 | _,_,_,_,.cons h p,q=> .cons h (Reps.append p q)
theorem Reps.get:∀ {xs:List V} {ds:List Aa} {i:Nat} {x:V},Reps K H xs ds→xs[i]?=some x→∃ d,ds[i]?=some d∧Rep K H x d
 | _,_,_,_,.nil,e=>by simp at e
 | _,_,0,_,.cons r _,e=>by simp at e;subst e;exact ⟨_,rfl,r⟩
 | _,_,i+1,x,.cons _ t,e=>by
  obtain ⟨d,h1,h2⟩:=Reps.get (i:=i) (x:=x) t (by simpa using e)
  exact ⟨d,by simpa using h1,h2⟩
theorem Reps.strs:∀ xs:List Str,Reps K H (xs.map V.str) (xs.map PyData.str)
 | []=> .nil
 | b::r=> .cons (.str b) (Reps.strs r)
def qjw (K:Frag):R2:=fun x y H Q=>∃ d e,Rep K H x d∧Rep K H y e∧SeqAt.shaped d=true∧SeqAt.shaped e=true∧Q (.bl (PyData.eqv d e)) H
def qjq (K:Frag):R2:=fun x y H Q=>∃ d e,Rep K H x d∧Rep K H y e∧SeqAt.shaped d=true∧SeqAt.shaped e=true∧Q (.bl (!PyData.eqv d e)) H
theorem qhz (hu:X.A.units+64<cLine):OpR X (compareOp .Eq) (qjw X.K):=by
 intro pins s σ H x y v u Q I rx ry h;obtain ⟨d,e,h1,h2,z1,z2,q⟩:=h;obtain ⟨as,ra⟩:=h1.reads I rx;obtain ⟨bs,rb⟩:=h2.reads I ry;exact eq_dataH ra rb z1 z2 hu (zc I q rfl)
theorem qhy (hu:X.A.units+64<cLine):OpR X (compareOp .NotEq) (qjq X.K):=by
 intro pins s σ H x y v u Q I rx ry h;obtain ⟨d,e,h1,h2,z1,z2,q⟩:=h;obtain ⟨as,ra⟩:=h1.reads I rx;obtain ⟨bs,rb⟩:=h2.reads I ry;exact ne_dataH ra rb z1 z2 hu (zc I q rfl)
end
section
variable {X:Cx} {tg:Expr}
theorem v9:OpR X (compareOp .LtE) (fun x y H Q=>∃ i j,x= .str i∧y= .str j∧Q (.bl (!decide (j.cps.toList<i.cps.toList))) H):=by
 intro pins s σ H x y v u Q I rx ry h;obtain ⟨i,j,rfl,rfl,q⟩:=h;obtain ⟨t,rfl⟩:=rx;obtain ⟨t',rfl⟩:=ry;exact PySem.P.le_str (zc I q rfl)
def Its (x:Str):It:=⟨fun i _=>i<x.cps.size,fun i H v H'=>H'=H∧∃ c,x.cps[i]?=some c∧v= .str ⟨#[c]⟩,fun i _=>x.cps.size≤i⟩
theorem qbp {P:Program} {w:World} {K:Frag} {tg:Expr} (it:Ae) (x:Str) (t:Tok):Turn P w K tg (Its x) [it] it (fun i h=>h.IsStrIter it (strIterType x) x t i) where
 mem:=by simp
 obj:=fun i h st b hb=>by
  have e:b=it:=by simpa using hb
  subst e;obtain ⟨o,e,c,d⟩:=st;exact ⟨o,e,fun v z=>by rw [d] at z;cases z⟩
 keep:=fun i h h' st k=>by
  obtain ⟨o,e,c⟩:=st;exact ⟨o,k it (by simp) o e,c⟩
 item:=by
  intro X hP hw hK hc i pins s σ H E I hf st hg;subst hP hw hK;obtain ⟨f0,f1,f2,f3,f4,f5⟩:=hf it (by simp)
  have hlt:i<x.cps.size:=hg;have hi:x.cps[i]?=some x.cps[i]:=Array.getElem?_eq_getElem hlt;have fin:∀ h',h'.IsStrIter it (strIterType x) x t (i+1)→Heap.SameBut it s.heap h'→∃ u,some (Value.str ⟨#[x.cps[i]]⟩ s.toks)=some u∧
    wpAny (model X.prog X.w) X.A (letOwnedTupleGo tg (.ref it) u) (fun _ s2=>∃ y H',Inv X pins σ H' s2∧qS y u∧(Its x).yld i H y H'∧s2.heap.IsStrIter it (strIterType x) x t (i+1)∧∀ b∈[it],H' b=none) E {s with heap:=h',toks:=s.toks+1}:=fun h' st' sb=>by
   have I1:Inv X pins σ H {s with heap:=h',toks:=s.toks+1}:=I.turned (fun b o hb e=>(sb.2 b hb).trans e) f0 f1 f3 f4 f5
   obtain ⟨o,e,c,d⟩:=id st';refine ⟨_,rfl,QI (s:={s with heap:=h',toks:=s.toks+1}) e c d ?_ ⟨.str ⟨#[x.cps[i]]⟩,H,I1,⟨_,rfl⟩,⟨rfl,_,hi,rfl⟩,st',fun b hb=>(hf b hb).1⟩⟩
   unfold strIterType;split <;> decide
  cases ha:x.cps.all (· <128) with
  | true=>
   have e:strIterType x="str_ascii_iterator":=by unfold strIterType;rw [if_pos ha]
   rw [e] at st;refine wpAny_pyNext_ascii_item st hi fun h' st' sb=>fin h' (by rw [e];exact st') sb
  | false=>
   have e:strIterType x="str_iterator":=by unfold strIterType;rw [if_neg (by rw [ha];decide)]
   rw [e] at st;refine wpAny_pyNext_wide_item st hi fun h' st' sb=>fin h' (by rw [e];exact st') sb
 done:=by
  intro X hP hw hK hc i pins s σ H E I hf st hg;subst hP hw hK;obtain ⟨f0,f1,f2,f3,f4,f5⟩:=hf it (by simp)
  have hi:x.cps[i]?=none:=by
   have:x.cps.size≤i:=hg;simp [this]
  cases ha:x.cps.all (· <128) with
  | true=>
   have e:strIterType x="str_ascii_iterator":=by unfold strIterType;rw [if_pos ha]
   rw [e] at st;exact wpAny_pyNext_ascii_end (I.ok.hd hc) st hi fun h' eb=>⟨rfl,I.turned (t':=s.toks) (fun b o hb e=>eb b o hb e) f0 f1 f3 f4 f5⟩
  | false=>
   have e:strIterType x="str_iterator":=by unfold strIterType;rw [if_neg (by rw [ha];decide)]
   rw [e] at st;exact wpAny_pyNext_wide_end (I.ok.hd hc) st hi fun h' eb=>⟨rfl,I.turned (t':=s.toks) (fun b o hb e=>eb b o hb e) f0 f1 f3 f4 f5⟩
 self:=fun A i s Q E st h=>by
  cases ha:x.cps.all (· <128) with
  | true=>
   have e:strIterType x="str_ascii_iterator":=by unfold strIterType;rw [if_pos ha]
   rw [e] at st;exact wpAny_pyIter_striter_ascii st h
  | false=>
   have e:strIterType x="str_iterator":=by unfold strIterType;rw [if_neg (by rw [ha];decide)]
   rw [e] at st;exact wpAny_pyIter_striter_wide st h
def qjm:V→Option Int→Option Int→Hp→VK→Prop:=fun v lo hi H Q=>∃ x,v= .str x∧x.length≤Ag∧Q (.str (Txt.slice x lo hi)) H
theorem qhd:SlR X qjm:=by
 intro pins s σ H x v vl vu lo hi sl Q I rx hs pl pu h;obtain ⟨z,rfl,hz,q⟩:=h;obtain ⟨t,rfl⟩:=rx;refine ⟨"str",_,F.slot_str_getitem.lookup,Es _ _ _,?_⟩;have fin:∀ t' k,EP X pins σ Q (.str (Txt.slice z lo hi) t') {s with toks:=k}:=fun t' k=>⟨.str _,H,I.tok k,⟨t',rfl⟩,q⟩
 obtain ⟨o,ho,hc,hd⟩:=hs;cases pl with
 | none=>cases pu with
  | none=>exact Eh (l:=none) (u:=none) (st:=none) ⟨o,ho,hc,hd⟩ rfl (post_val_or_str ⟨Ar (Txt.slice_le z _ _) hz,fin⟩)
  | int j tj=>exact Eh (l:=none) (u:=some (j,tj)) (st:=none) ⟨o,ho,hc,hd⟩ rfl (post_val_or_str ⟨Ar (Txt.slice_le z _ _) hz,fin⟩)
 | int i ti=>cases pu with
  | none=>exact Eh (l:=some (i,ti)) (u:=none) (st:=none) ⟨o,ho,hc,hd⟩ rfl (post_val_or_str ⟨Ar (Txt.slice_le z _ _) hz,fin⟩)
  | int j tj=>exact Eh (l:=some (i,ti)) (u:=some (j,tj)) (st:=none) ⟨o,ho,hc,hd⟩ rfl (post_val_or_str ⟨Ar (Txt.slice_le z _ _) hz,fin⟩)
theorem qaf {bs:List Bool}:(List.range bs.length).all (fun i=>bs.getD i false)=bs.all id:=by
 rw [Cf,A6,A6];constructor
 ·intro h b hb;obtain ⟨i,hi,e⟩:=List.getElem_of_mem hb;have:=h i (De.mpr hi);rw [List.getD_eq_getElem?_getD,Bl hi] at this;rw [← e];exact this
 ·intro h i hi;have hi':=De.mp hi;rw [List.getD_eq_getElem?_getD,Bl hi'];exact h _ (List.getElem_mem hi')
theorem qeh (hc:X.calm=true):jN X (.builtin "all") (fun xs H Q=>∃ (a:Ae) (bs:List Bool),xs=[.ref a]∧SqL X.K H a (bs.map V.bl)∧Q (.bl (bs.all id)) H):=by
 intro pins s σ H xs us Q I r h;obtain ⟨a,bs,rfl,ha,q⟩:=h;obtain ⟨u,rfl,ru⟩:=Je r;cases ru;obtain ⟨its,rv,p,hz⟩:=I.list ha;have hlt:a<s.heap.objs.size:=by
  obtain ⟨o,n,e,_⟩:=id p;exact Bf e
 have hl:its.length=bs.length:=by rw [← rv.length,Aj]
 refine call_all_walk (wpAny_pyIter_list p.isList ?_);refine ⟨s.heap.objs.size,[s.heap.objs.size,a],[s.heap.objs.size],its.toArray.size,_,_,fun i=>bs.getD i false,rfl,Walks.list (A:=X.A.in1) (I.ok.hd hc) s.heap.objs.size a (Bz hlt) its.toArray,⟨⟨_,Bk _ rfl,rfl,rfl⟩,p.isList.at fun o e=>As _ e⟩,?_,fun h' tk hk=>?_⟩
 ·intro i v s' Q' E' hv hq;have hv':its[i]?=some v:=by simpa using hv
  have hi:i<its.length:=(C0.mp hv').1;have hb:(bs.map V.bl)[i]?=some (.bl (bs.getD i false)):=by
   rw [Bt,List.getD_eq_getElem?_getD,Bl ⋯];rfl
  obtain ⟨u,hu,ru⟩:=rv.get hb;rw [hv'] at hu;cases hu;cases (show v=Value.bool _ from ru);exact Cv hq
 ·have e:its.toArray.size=bs.length:=by rw [Ba];exact hl
  rw [e,qaf];refine ⟨.bl _,H,?_,rfl,q⟩;have I1:Inv X pins σ H {s with heap:=s.heap.push {cls:= .type "list_iterator",data:= .fields #[.ref a,.int 0 0]}}:=I.kept (t':=s.toks) fun b o e=>As _ e
  have f:=I.fpOk (Aw _) (I.hok.fresh (Aw _));exact I1.turned (fun b o hb e=>hk b o (by simpa using hb) e) f.1 f.2.1 f.2.2.2.1 f.2.2.2.2.1 f.2.2.2.2.2
theorem Z9:∀ {ys:List Str} {its:List Ac},qT (ys.map V.str) its→StrsAre its ys
 | [],_,.nil=> .nil
 | y::r,_,.cons h t=>by
  obtain ⟨k,rfl⟩:=h;exact .cons _ k (Z9 t)
def qcv (K:Frag):V→List V→Hp→VK→Prop:=fun x xs H Q=>∃ (z:Str) (a:Ae) (ys:List Str),x= .str z∧xs=[.ref a]∧SqL K H a (ys.map V.str)∧(ys.map (·.length)).sum+ys.length*z.length≤16777216∧Q (.str (Txt.join z ys)) H
theorem qfp:MtR X "str.join" (qcv X.K):=by
 intro pins s σ H x xs v us Q I rx r h;obtain ⟨z,a,ys,rfl,rfl,ha,hk,q⟩:=h;obtain ⟨t,rfl⟩:=rx;obtain ⟨u,rfl,ru⟩:=Je r;cases ru;obtain ⟨its,rv,p,hz⟩:=I.list ha;exact join_list p.isList (by simpa using Z9 rv) hk fun t' k=>⟨.str _,H,I.tok k,⟨t',rfl⟩,q⟩
def isi (t T:String):Bool:=t==T||(t=="bool"&&T=="int")
theorem Vb {K:Frag} {t T:String} (h1:t∈["NoneType","bool","int","str","list","tuple","dict"]) (h2:T∈["bool","int","str","list","tuple"]):PySem.W.kitOne K (.type t) (.type T)=some (isi t T):=by
 simp only [Av,Be,or_false] at h1 h2;rcases h1 with rfl | rfl | rfl | rfl | rfl | rfl | rfl <;> rcases h2 with rfl | rfl | rfl | rfl | rfl <;> kernel_rfl
end
theorem zE {c:Bool} {A B:Prop} (e:c=true) (h:A):if c=true then A else B:=by rw [if_pos e];exact h
theorem zF {c:Bool} {A B:Prop} (e:c=false) (h:B):if c=true then A else B:=by rw [if_neg (by rw [e];decide)];exact h
theorem zj:bootBuiltins "len"=some (.builtin "len"):=∅
theorem qei:bootBuiltins "max"=some (.builtin "max"):=∅
theorem YI:bootBuiltins "all"=some (.builtin "all"):=∅
theorem qiu:bootBuiltins "ord"=some (.builtin "ord"):=∅
theorem ze:bootBuiltins "isinstance"=some (.builtin "isinstance"):=∅
theorem WW:bootBuiltins "str"=some (.type "str"):=∅
theorem Z1:bootBuiltins "int"=some (.type "int"):=∅
theorem qgd:bootBuiltins "bool"=some (.type "bool"):=∅
theorem QN:bootBuiltins "list"=some (.type "list"):=∅
theorem zV:bootBuiltins "tuple"=some (.type "tuple"):=∅
theorem qit:bootBuiltins "set"=some (.type "set"):=∅
section
variable {X:Cx} {x:Str} {pos:Pos} {tg:Expr}
theorem VJ {T:String} (hm:X.mg x=none) (hv:bootBuiltins x=some (.type T)) (hg:Gl X x:=by rfl) (hn:x≠"__name__":=by decide) (hd:(x==("__debug__":Str))=false:=by decide):PE X (.Name x pos) (tC (.ty T)):=qfb hg hm hv rfl hn hd
theorem vK {v:V} (h:∃ u,X.mg x=some u∧qS v u) (hg:Gl X x:=by rfl) (hd:(x==("__debug__":Str))=false:=by decide):PE X (.Name x pos) (tC v):=by
 obtain ⟨u,m,r⟩:=h;exact Qr hg m r hd
def qjy:R2:=fun x y H Q=>∃ i j,x= .str i∧y= .str j∧i.length+j.length≤Ag∧Q (.str (i++j)) H
def JS:R2:=fun x y H Q=>rI0 (fun i j=> .int (i+j)) x y H Q∨(qjy x y H Q∨qjx x y H Q)
theorem qA:OpR X (binaryOp .Add) JS:=qh1.or (Zw.or qh0)
def qkh (K:Frag) (tl:TE):TI:=fun σ H R=>tl σ H fun x H1=>(∃ a,x= .ref a∧(∃ xs,SqL K H1 a xs)∧R (Itl K a) H1)∨(∃ a,x= .ref a∧(∃ xs,SqT K H1 a xs)∧R (Itt K a) H1)∨∃ z,x= .str z∧R (Its z) H1
theorem qhs {l:Expr} {tl:TE} (hl:PE X l tl):PI X tg l (qkh X.K tl):=by
 intro pins s σ H R I h;refine thn (hl pins s σ H _ I h) fun v s1 ⟨x,H1,I1,r1,q1⟩=>?_;have fr:∀ b∈[s1.heap.objs.size],VY X pins H1 b:=fun b hb=>by
  have e:b=s1.heap.objs.size:=by simpa using hb
  subst e;exact I1.fpOk (Aw _) (I1.hok.fresh (Aw _))
 rcases q1 with ⟨a,e,⟨xs,hq⟩,q⟩ | ⟨a,e,⟨xs,hq⟩,q⟩ | ⟨z,e,q⟩
 ·subst e;cases r1;obtain ⟨its,rv,p,hz⟩:=I1.list hq;refine wpAny_pyIter_list p.isList ?_;exact ⟨s1.heap.objs.size,[s1.heap.objs.size],_,_,H1,rfl,I1.kept (t':=s1.toks) fun b o e=>As _ e,QZ a _,⟨_,Bk _ rfl,rfl,rfl⟩,fr,q⟩
 ·subst e;cases r1;obtain ⟨its,rv,p,hz⟩:=I1.tuple hq;refine E6 (show s1.heap.IsTuple a its.toArray from p) ?_;exact ⟨s1.heap.objs.size,[s1.heap.objs.size],_,_,H1,rfl,I1.kept (t':=s1.toks) fun b o e=>As _ e,X7 a _,⟨_,Bk _ rfl,rfl,rfl⟩,fr,q⟩
 ·subst e;obtain ⟨t,rfl⟩:=r1;refine wpAny_pyIter_strU ?_;exact ⟨s1.heap.objs.size,[s1.heap.objs.size],_,_,H1,rfl,I1.kept (t':=s1.toks) fun b o e=>As _ e,qbp _ z t,⟨_,Bk _ rfl,rfl,rfl⟩,fr,q⟩
def Xd (K:Frag):V→Option Int→Option Int→Hp→VK→Prop:=fun x lo hi H Q=>qjn K x lo hi H Q∨(qjm x lo hi H Q∨qjl K x lo hi H Q)
theorem qhg:SlR X (Xd X.K):=qez.or (qhd.or qhc)
end
section
variable {X:Cx} {K:Frag} {tg:Expr}
theorem ix_k (h:X.K=K):IxR X (rIx K):=h▸qii
theorem jP (h:X.K=K):SlR X (Xd K):=h▸qhg
theorem zB (h:X.K=K):jN X (.builtin "len") (fun xs H Q=>∃ x n,xs=[x]∧qbd K x H n∧Q (.int n) H):=h▸qeg
theorem QP (h:X.K=K) (hc:X.calm=true):jN X (.builtin "all") (fun xs H Q=>∃ (a:Ae) (bs:List Bool),xs=[.ref a]∧SqL K H a (bs.map V.bl)∧Q (.bl (bs.all id)) H):=h▸qeh hc
theorem WM (h:X.K=K):MtR X "str.join" (qcv K):=h▸qfp
theorem qkk (h:X.K=K) (hu:X.A.units+64<cLine):OpR X (compareOp .Eq) (qjw K):=h▸qhz hu
theorem qgw (h:X.K=K) (hu:X.A.units+64<cLine):OpR X (compareOp .NotEq) (qjq K):=h▸qhy hu
theorem Ya {l:Expr} {tl:TE} (h:X.K=K) (hl:PE X l tl):PI X tg l (qkh K tl):=h▸qhs hl
theorem jR (h:X.K=K):jN X (.type "tuple") (fun xs H Q=>∃ p ys,xs=[.ref p]∧((SqL K H p ys∧∀ l,H l=none→Q (.ref l) (upd H l (.tup ys)))∨(SqT K H p ys∧Q (.ref p) H))):=h▸W5
theorem Qp {es:List Expr} {k:Nat} {t:TGs} {n:Nat} {pos:Pos} (hK:X.K=K) (hc:X.calm=true) (h:PGs X es t) (hn:(assignEach es X.env).length=n:=by rfl) (hst:(assignEach es X.env).findIdx? (·.1)=none:=by rfl):PG X (.Tuple es k pos) (qf3 K n t):=hK▸qht hc h hn hst
theorem vx {o e:Expr} {es:List Expr} {to:TE} {t:TA} {name:Str} {apos cpos:Pos} {T id:String} {r:V→List V→Hp→VK→Prop} (hK:X.K=K) (pa:PlainAttrs T) (slot:Slot T name id) (hty:typeOf (.builtin id)=pure (.type "method_descriptor")) (hm:MtR X id r) (ho:PE X o to) (ha:PA X (e::es) t)
  (hbase:attributeBase o name X.env (eval o X.env)=eval o X.env:=by rfl)
  (hfew:((backTo cpos (starEach (e::es) X.env)).all (fun x=>!x.1)&&(backToKw cpos (keywordEach [] X.env)).all (fun x=>x.1.isSome)
   &&decide ((e::es).length+([]:List Keyword).length+(if ([]:List Keyword).isEmpty then 0 else 1)<30))=true:=by rfl)
  (hline:(apos.endLine==cpos.line)=true:=by rfl) (hs:starEach (e::es) X.env=(false,eval e X.env)::starEach es X.env:=by rfl) (hplain:(backTo cpos (starEach es X.env)).any (·.1)=false:=by rfl):
  PE X (.Call (.Attribute o name apos) (e::es) [] cpos) (tBM K T r to t):=hK▸qj0 pa slot hty hm ho ha hbase hfew hline hs hplain
theorem qg0 {o:Expr} {to:TE} {name:Str} {apos cpos:Pos} {T id:String} {r:V→List V→Hp→VK→Prop} (hK:X.K=K) (pa:PlainAttrs T) (slot:Slot T name id) (hty:typeOf (.builtin id)=pure (.type "method_descriptor")) (hm:MtR X id r) (ho:PE X o to)
  (hbase:attributeBase o name X.env (eval o X.env)=eval o X.env:=by rfl) (hline:(apos.endLine==cpos.line)=true:=by rfl):PE X (.Call (.Attribute o name apos) [] [] cpos) (qg8 K T r to):=hK▸qhx pa slot hty hm ho hbase hline
end
structure Def (P:Program) (w:World) (K:Frag) (mg:Str→Option Ac) (base:Heap) (k:Nat) (x:Str) (ps:List Str) (sp:Sp):Prop where
 ex:∃ (f:Ae) (fd:FuncData),FnOk P w K mg base CX0 k f fd ps sp∧j5 K fd ps []∧PySem.W.keepIn K (.ref f)=true∧mg x=some (.ref f)
theorem qdd {X:Cx} {k:Nat} {x:Str} {ps:List Str} {sp:Sp} {e:Expr} {es:List Expr} {t:TA} {p pos:Pos} (D:Def X.prog X.w X.K X.mg X.base k x ps sp) (hr:Room k X.A) (ha:PA X (e::es) t) (hg:Gl X x:=by rfl)
  (hdb:(x==("__debug__":Str))=false:=by decide) (he:starEach (e::es) X.env=(false,eval e X.env)::starEach es X.env:=by rfl) (hpl:(backTo pos (starEach es X.env)).any (·.1)=false:=by rfl):
  PE X (.Call (.Name x p) (e::es) [] pos) (zP sp [] E0 t):=by
 obtain ⟨f,fd,F,B,kp,m⟩:=D.ex;exact Qt F hr hg m kp B .nil qde ha hdb he hpl
theorem zw.there {P:Program} {w:World} {H:Hp} {h:Heap} {a:Ae} {o:HO} (x:zw P w H h a o):∃ ob,h.get? a=some ob:=by
 cases o with
 | lst xs=>obtain ⟨_,_,_,_,e⟩:=x;exact ⟨_,e⟩
 | tup xs=>obtain ⟨_,_,_,o,e,_⟩:=x;exact ⟨_,e⟩
 | dK kvs=>obtain ⟨_,_,_,_,o,_,_,e,_⟩:=x;exact ⟨_,e⟩
 | dT kvs=>obtain ⟨_,_,_,_,o,_,_,e,_⟩:=x;exact ⟨_,e⟩
 | set S n=>obtain ⟨o,_,_,_,e,_⟩:=x;exact ⟨_,e⟩
 | ins C dx fs=>obtain ⟨_,_,_,e,_⟩:=x;exact ⟨_,e⟩
 | own y=>exact x
 | xd fs=>obtain ⟨_,⟨_,_,_,e,_⟩,_⟩:=x;exact ⟨_,e⟩
 | rng lo hi=>obtain ⟨_,_,_,e⟩:=x;exact ⟨_,e⟩
 | frz ob u=>obtain ⟨e,_⟩:=x;exact ⟨_,e⟩
 | tbl ps=>exact ⟨_,(show h.get? a=some _ from x)⟩
 | met f y=>exact ⟨_,(show h.get? a=some _ from x)⟩
 | ext φ=>obtain ⟨_,e,_⟩:=x;exact e
structure Fly (P:Program) (w:World) (outer:List Env) (H:Hp) (s:Af) (H':Hp) (ea:Ae) (C:Ac) (s':Af):Prop where
 os:s'.os=s.os
 bare:AllBare s'.gens
 un:Un (frs outer) [] H H' s.heap s'.heap
 hok:HOk P w H' s'.heap
 frees:∀ b∈frs outer,H' b=none
 fly:∃ B a0,Heap.FlyingW B outer ea C a0 s'.heap∧∀ b o,s'.heap.get? b=some o→(H' b≠none∨∃ o0,s.heap.get? b=some o0)→b∉frs outer→B.get? b=some o
abbrev CX1 (P:Program) (w:World):CXT:=fun outer H s E e s'=>∃ ea C H',e= .ref ea∧Fly P w outer H s H' ea C s'∧E C none H'
section
variable {P:Program} {w:World} {outer l2:List Env} {H H':Hp} {s s':Af} {ea:Ae} {C:Ac} {h':Heap}
theorem qd4 {B:Heap} {a0:Ac} (F:Fly P w outer H s H' ea C s') (hB:∀ b o,s'.heap.get? b=some o→(H' b≠none∨∃ o0,s.heap.get? b=some o0)→b∉frs outer→B.get? b=some o)
  (fl:Heap.FlyingW B outer ea C a0 h') (sm:s'.heap.UpToSlots h') (hd:∀ b∈frs outer,∀ o,s'.heap.get? b=some o→∀ vs,o.data≠ .fields vs):Fly P w outer H s H' ea C {s' with heap:=h'}:=by
 have stay:∀ b o,s'.heap.get? b=some o→(H' b≠none∨∃ o0,s.heap.get? b=some o0)→b∉frs outer→h'.get? b=some o:=fun b o e z n=>fl.1 b o (hB b o e z n);refine ⟨F.os,F.bare,⟨fun b o e n hb hx=>?_,fun b o e n hb hx=>?_,F.un.free,fun b o e hx=>?_,F.un.tups,F.un.frzs,F.un.tbls⟩,fun b u e=>?_,F.frees,B,a0,fl,fun b o e z n=>?_⟩
 ·exact stay b o (F.un.keep b o e n hb hx) (.inr ⟨o,e⟩) hb
 ·obtain ⟨sl,e1⟩:=F.un.slot b o e n hb hx;obtain ⟨sl',e2⟩:=sm b _ e1 (hd b hb _ e1);exact ⟨sl',e2⟩
 ·obtain ⟨o1,e1⟩:=F.un.there b o e hx
  by_cases hb:b∈frs outer
  ·obtain ⟨sl',e2⟩:=sm b _ e1 (hd b hb _ e1);exact ⟨_,e2⟩
  ·exact ⟨o1,stay b o1 e1 (.inr ⟨o,e⟩) hb⟩
 ·have nf:∀ c v,H' c=some v→c∉frs outer:=fun c v q z=>by rw [F.frees c z] at q;cases q
  refine (F.hok b u e).stay (fun c v hc q=>?_) (fun _ q=>q) fun _ _ q=>q;rcases hc with rfl | hc
  ·exact stay c v q (.inl (by rw [e];simp)) (nf c _ e)
  ·exact stay c v q (.inl (by rw [hc];simp)) (nf c _ hc)
 ·have e0:∃ o1,s'.heap.get? b=some o1:=by
   rcases z with z | ⟨o0,z⟩
   ·cases q:H' b with
    | none=>exact absurd q z
    | some u=>exact (F.hok b u q).there
   ·exact F.un.there b o0 z (by simp)
  obtain ⟨o1,e1⟩:=e0;have e2:=hB b o1 e1 z n;have e3:=fl.1 b o1 e2;have e':h'.get? b=some o:=e;rw [e'] at e3;cases e3;exact e2
end
section
variable {P:Program} {w:World} {K:Frag} {mg:Str→Option Ac} {base:Heap} {N:List Str} {qual:Str} {scope:Scope} {f:Ae} {cd:Ac} {A:Around} {outer:List Env} {s₀:Af} {H₀:Hp} {E:XK}
theorem XN {env:Env} {L:Ae} (h:env.frame=some L) (outer:List Env):frs (env::outer)=L::frs outer:=by
 unfold frs;rw [Eg,h]
theorem qf6 {pins:List (Ae×Obj)} {σ:St} {H H':Hp} {s s':Af} {ea:Ae} {C:Ac}
  (I:Inv (wO (CX1 P w) P w K mg base N qual scope f cd A outer s₀ H₀ E) pins σ H s) (F:Fly P w (envOfC qual scope s₀.heap.objs.size f cd::outer) H s H' ea C s'):
  ∀ {Q:Unit→Af→Prop} {E':Ac→Af→Prop},(∀ s'',Fly P w outer H₀ s₀ H' ea C s''→Q () s'')→wpAny (model P w) (A.deeper (envOfC qual scope s₀.heap.objs.size f cd)) (leaving (envOfC qual scope s₀.heap.objs.size f cd) (.ref ea)) Q E' s':=by
 intro Q E' hQ;obtain ⟨B,a0,fl,hB⟩:=F.fly;have fc:frs (envOfC qual scope s₀.heap.objs.size f cd::outer)=s₀.heap.objs.size::frs outer:=XN rfl outer;refine wpAny_leaves_onW (L:=s₀.heap.objs.size) I.ok.frames rfl fl fun h' fl' sm=>hQ _ ?_;have U1:Un (frs outer) [] H₀ H s₀.heap s.heap:=I.base;have U2:=F.un;rw [fc] at U2 hB;have nL:∀ b o,s₀.heap.get? b=some o→b≠s₀.heap.objs.size:=fun b o e=>Bz (Bf e);have nf:∀ b o,s₀.heap.get? b=some o→b∉frs outer→b∉s₀.heap.objs.size::frs outer:=fun b o e hb z=>by
  rcases Av.mp z with z | z
  ·exact nL b o e z
  ·exact hb z
 have stay:∀ b o,s'.heap.get? b=some o→(H' b≠none∨∃ o0,s.heap.get? b=some o0)→b∉s₀.heap.objs.size::frs outer→h'.get? b=some o:=fun b o e z n=>fl'.1 b o (hB b o e z n);have hd:∀ b∈frs outer,∀ o,s'.heap.get? b=some o→∀ vs,o.data≠ .fields vs:=fun b hb o e vs=>by
  obtain ⟨_,o1,e1,d1⟩:=fl.2.2.1.mem (b:=b) (by rw [show List.filterMap (fun x=>x.frame) (envOfC qual scope s₀.heap.objs.size f cd::outer)=frs (envOfC qual scope s₀.heap.objs.size f cd::outer) from rfl,fc];exact Au _ hb)
  rw [e] at e1;cases e1;exact d1 vs
 have hfr:∀ b∈frs outer,H' b=none:=fun b hb=>F.frees b (by rw [fc];exact Au _ hb)
 have there2:∀ b o,s₀.heap.get? b=some o→∃ o1,s.heap.get? b=some o1∧∃ o2,s'.heap.get? b=some o2:=fun b o e=>by
  obtain ⟨o1,e1⟩:=U1.there b o e (by simp)
  obtain ⟨o2,e2⟩:=U2.there b o1 e1 (by simp)
  exact ⟨o1,e1,o2,e2⟩
 refine ⟨F.os.trans I.os,F.bare,⟨fun b o e n hb hx=>?_,fun b o e n hb hx=>?_,fun b o e n hx=>?_,fun b o e hx=>?_,fun b xs q=>U2.tups b xs (U1.tups b xs q),fun b o u q=>U2.frzs b o u (U1.frzs b o u q),fun b ps q=>?_⟩,fun b u e=>?_,hfr,B,a0,fl',fun b o e z n=>?_⟩
 ·have e1:=U1.keep b o e n hb (by simp)
  have n1:=U1.free b o e n (by simp)
  exact stay b o (U2.keep b o e1 n1 (nf b o e hb) (by simp)) (.inr ⟨o,e1⟩) (nf b o e hb)
 ·obtain ⟨sl,e1⟩:=U1.slot b o e n hb (by simp)
  have n1:=U1.free b o e n (by simp)
  obtain ⟨sl2,e2⟩:=U2.slot b _ e1 n1 (Au _ hb) (by simp)
  obtain ⟨sl3,e3⟩:=sm b _ e2 (hd b hb _ e2);exact ⟨sl3,e3⟩
 ·obtain ⟨o1,e1⟩:=U1.there b o e (by simp)
  exact U2.free b o1 e1 (U1.free b o e n (by simp)) (by simp)
 ·obtain ⟨o1,e1,o2,e2⟩:=there2 b o e
  by_cases hb:b∈frs outer
  ·obtain ⟨sl3,e3⟩:=sm b _ e2 (hd b hb _ e2);exact ⟨_,e3⟩
  ·exact ⟨o2,stay b o2 e2 (.inr ⟨o1,e1⟩) (nf b o e hb)⟩
 ·obtain ⟨m1,e1⟩:=U1.tbls b ps q;obtain ⟨m2,e2⟩:=U2.tbls b _ e1;exact ⟨m1++m2,by rw [e2,Array.append_assoc]⟩
 ·have nt:∀ c v,H' c=some v→c∉s₀.heap.objs.size::frs outer:=fun c v q z=>by
   rw [F.frees c (by rw [fc];exact z)] at q;cases q
  refine (F.hok b u e).stay (fun c v hc q=>?_) (fun _ q=>q) fun _ _ q=>q;rcases hc with rfl | hc
  ·exact stay c v q (.inl (by rw [e];simp)) (nt c _ e)
  ·exact stay c v q (.inl (by rw [hc];simp)) (nt c _ hc)
 ·have nt:∀ c v,H' c=some v→c∉s₀.heap.objs.size::frs outer:=fun c v q z=>by
   rw [F.frees c (by rw [fc];exact z)] at q;cases q
  have e0:∃ o1,s'.heap.get? b=some o1∧(H' b≠none∨∃ o0,s.heap.get? b=some o0)∧b∉s₀.heap.objs.size::frs outer:=by
   rcases z with z | ⟨o0,z⟩
   ·cases q:H' b with
    | none=>exact absurd q z
    | some u=>
     obtain ⟨o1,e1⟩:=(F.hok b u q).there;exact ⟨o1,e1,.inl (by simp),nt b u q⟩
   ·obtain ⟨o1,e1,o2,e2⟩:=there2 b o0 z;exact ⟨o2,e2,.inr ⟨o1,e1⟩,nf b o0 z n⟩
  obtain ⟨o1,e1,z1,n1⟩:=e0;have e2:=hB b o1 e1 z1 n1;have e3:=fl'.1 b o1 e2;have e':h'.get? b=some o:=e;rw [e'] at e3;cases e3;exact e2
end
section
open PySem.Builtin PySem.Builtin.ObjectAttr PySem.Builtin.Getset_descriptor
variable {prog:Program} {w:World} {A:Around} {K:Frag} {x D:Ae}
def JJ (x D:Ae) (h:Heap):Prop:=∃ o,h.get? x=some o∧o.cls= .ref D
theorem JJ.looks {M:Model} {h:Heap} (p:JJ x D h):PySem.W.Looks M h (typeOf (.ref x)) (.ref D):=by
 obtain ⟨o,e,c⟩:=p;exact c▸(PySem.W.Looks.ld e).andThen .now
structure XK1 (K:Frag) (D:Ae):Prop where
 ga:PySem.W.findIn K (.ref D) "__getattribute__"=some (some (.builtin "BaseException.__getattribute__"))
 gt:PySem.W.findIn K (.ref D) "__getattr__"=some none
 be:PySem.W.mroIn K D (.type "BaseException")=some true
 cl:(PySem.W.clsIn K D).isSome=true
 fd:PySem.W.findIn K (.ref D) "__class__"=some (some (.builtin "object.__class__"))
 sp:PySem.W.specialIn K (.builtin "object.__class__") "__get__"=some (some (.builtin "getset_descriptor.__get__"))
 tk:PySem.W.takesIn K (.builtin "object.__class__")=some true
 ob:PySem.W.mroIn K D (.type "object")=some true
theorem XK1.class_ok {s:Af} {R:Result→Af→Prop} {tp:Ac} (c:XK1 K D) (X:K.In s.heap) (p:JJ x D s.heap) (h:R (.ok (.ret (.ref D))) s):
  codeAny (model prog w) A (.call (.builtin "getset_descriptor.__get__") ⟨[.builtin "object.__class__",.ref x,tp],[]⟩) R s:=by
 obtain ⟨hp,gs,dw,tk,os⟩:=s;have L0:=JJ.looks (M:=model prog w) p;have L1:=PySem.W.looks_mroIn (M:=model prog w) X c.ob;refine codeAny_call_builtin PySem.W.KF.slot_gs.plain PySem.W.KF.entry_gs
  (PySem.W.KF.slot_gs.check _ _ _ _ _ _ _ _ PySem.W.KF.type_class (PySem.W.KF.args_gs _ _ _) ?_)
 unfold Builtin.«getset_descriptor.__get__» descrGet;rw [PySem.W.dga_obj];refine An (A9 ?_);unfold descrGetter descrCheckInstance descrNameAndClass isInstance;simp only [PySem.W.KF.owner_class];repeat lk
 refine ⟨Code.quiet_builtin _ ∅,codeAny_builtin PySem.W.KF.entry_class ?_⟩;unfold Builtin.«object.__class__» shownTypeOf;repeat lk
 exact h
theorem XK1.find_ok {M:Model} {h:Heap} (c:XK1 K D) (X:K.In h):PySem.W.Looks M h (find (.ref x) (.ref D) "__class__") (.bind (.builtin "getset_descriptor.__get__") (.builtin "object.__class__")):=by
 have L1:=Eu (M:=M) X c.fd;have L2:=PySem.W.looks_specialIn (M:=M) X c.sp;have L3:=PySem.W.looks_takesIn (M:=M) X c.tk;refine L1.andThen (L2.andThen ?_);exact (show PySem.W.Looks M h (dataDescriptor? (some (.builtin "object.__class__")) (some (.builtin "getset_descriptor.__get__"))) (some (.builtin "getset_descriptor.__get__",.builtin "object.__class__")) from L3.andThen .now).andThen (PySem.W.Looks.tag .now)
theorem XK1.check_ok {E:Ac→Af→Prop} {s:Af} {nm:Ac} {Q:Unit→Af→Prop} (c:XK1 K D) (X:K.In s.heap) (p:JJ x D s.heap) (h:Q () s):
  wpAny (model prog w) A (checkBuiltinCall "BaseException.__getattribute__" ⟨[.ref x,nm],[]⟩) Q E s:=by
 obtain ⟨hp,gs,dw,tk,os⟩:=s;have L0:=JJ.looks (M:=model prog w) p;have L1:=PySem.W.looks_mroIn (M:=model prog w) X c.be;have e1:builtinKind "BaseException.__getattribute__"=some .slot:=∅;have e2:splitId "BaseException.__getattribute__"=some ("BaseException","__getattribute__"):=∅;have e3:=F.args_bexc_ga (.ref x) nm;simp only [checkBuiltinCall,e1,e2];refine An ((L0.andThen L1).at ?_)
 repeat (first | exact h | wp_step)
theorem XK1.entry_ok {E:Ac→Af→Prop} {s:Af} {tk:Tok} {Q:Fin→Af→Prop} (c:XK1 K D) (X:K.In s.heap) (p:JJ x D s.heap) (h:Q (.done (.ret (.ref D))) s):
  wpAny (model prog w) A (Builtin.«object.__getattribute__» ⟨[.ref x,.str "__class__" tk],[]⟩) Q E s:=by
 obtain ⟨hp,gs,dw,tk',os⟩:=s;have L0:=JJ.looks (M:=model prog w) p;have L2:=XK1.find_ok (M:=model prog w) (x:=x) c X;unfold Builtin.«object.__getattribute__»;refine An (A9 (An (A9 (An (L0.at (An (L2.at ?_)))))));show wpAny _ _ (bindTo _ _ _ _) _ _ _;unfold bindTo;show wpAny _ _ (holding [_] (call _ [_,.ref x,.ref D])>>=ret) _ _ _;exact An (Ds (wpAny_call (c.class_ok (s:=⟨hp,gs,dw,tk',os⟩) X p (A9 h))))
theorem XK1.attr_ok {E:Ac→Af→Prop} {s:Af} {Q:Option Ac→Af→Prop} (c:XK1 K D) (X:K.In s.heap) (p:JJ x D s.heap) (h:Q (some (.ref D)) {s with toks:=s.toks+1}):
  wpAny (model prog w) A (getAttr? (.ref x) "__class__") Q E s:=by
 obtain ⟨hp,gs,dw,tk,os⟩:=s;have L0:=JJ.looks (M:=model prog w) p;have L1:=Eu (M:=model prog w) X c.ga;have L3:=Eu (M:=model prog w) X c.gt;have b1:=F.excAttr_ValueError.ga.bind (.ref x);unfold getAttr? getAttrBy? getAttrBy;refine An (wpAny_mkText (An (wpAny_attempt (Ds (An (L0.at (An (L1.at ?_))))))));dsimp only;have e2:(Value.builtin "BaseException.__getattribute__"==Value.builtin "object.__getattribute__")=false:=∅;rw [e2,Bool.and_false,if_neg Ai];unfold getAttrByItsOwn hookBefore;rw [if_pos (show onTheHeap (.ref D)=true from rfl)];refine An (L3.at ?_);refine An (wpAny_attempt (Ds ?_));unfold callGetattribute;rw [B1,if_neg Ai];unfold boundAndCalled;rw [b1];refine An (A9 (wpAny_call (codeAny_call_builtin F.excAttr_ValueError.ga.plain F.entry_bexc_ga (c.check_ok X p (c.entry_ok X p ?_)))));show wpAny _ _ (handedOut (.ref D)) _ _ _;exact PySem.W.handed_on rfl (A9 h)
theorem XK1.kitx (c:XK1 K D):PySem.W.KitX K (.ref x) (.ref D) (JJ x D):=by
 obtain ⟨cd,hc⟩:=Bw.mp c.cl;have look:∃ a b cd' sl,K.lookup D=some ⟨a,b,.cls cd',sl⟩:=by
  unfold PySem.W.clsIn at hc;split at hc
  ·exact ⟨_,_,_,_,by assumption⟩
  ·cases hc
 obtain ⟨a,b,cd',sl,ho⟩:=look;refine ⟨fun M h _ p=>p.looks,fun M h X _ A' Q' E' s' k q=>?_,fun h tp dd its n sl X htp=>?_,fun X p k=>c.attr_ok X p k⟩
 ·unfold isType loadHead;exact An (wpAny_loadPart (k _ _ (X _ _ ho)) (A9 q))
 ·refine Bs.mpr fun q=>?_;have e:D=tp:=Value.ref.inj (A8.mp q);subst e;have z:=(X _ _ ho).symm.trans htp;cases z
end
def YE (a C:Ae):HO:= .ext (JJ a C)
theorem qf9 {P:Program} {w:World} {H:Hp} {h:Heap} {a C:Ae} (p:JJ a C h):zw P w H h a (YE a C):=by
 refine ⟨p,?_,fun h1 h2 q k=>?_⟩
 ·obtain ⟨o,e,_⟩:=p;exact ⟨o,e⟩
 ·obtain ⟨o,e,c⟩:=q;exact ⟨o,k o e,c⟩
def qa4:V→Option Ac
 | .ref a=>some (.ref a)
 | .ty n=>some (.type n)
 | _=>none
theorem XV {x:V} {u v:Ac} (e:qa4 x=some v) (r:qS x u):u=v:=by
 cases x with
 | ref a=>cases e;exact r
 | ty n=>cases e;exact r
 | _=>cases e
theorem XW:∀ {xs:List V} {us vs:List Ac},xs.mapM qa4=some vs→qT xs us→us=vs
 | [],_,_,e,.nil=>by cases e;rfl
 | x::r,_,vs,e,.cons h t=>by
  rw [List.mapM_cons] at e;cases q:qa4 x with
  | none=>rw [q] at e;cases e
  | some v=>
   rw [q] at e;cases q2:r.mapM qa4 with
   | none=>rw [q2] at e;cases e
   | some vs'=>
    rw [q2] at e;cases e;rw [XV q h,XW q2 t]
def qjv (K:Frag):List V→Hp→VK→Prop:=fun xs H Q=>∃ (a C:Ae) (c:V) (b:Bool),xs=[.ref a,c]∧H a=some (YE a C)∧XK1 K C∧
 ((∃ cv,qa4 c=some cv∧PySem.W.kitOne K (.ref C) cv=some b)∨∃ p cs vs,c= .ref p∧H p=some (.tup cs)∧cs.mapM qa4=some vs∧PySem.W.kitAny K (.ref C) vs=some b)∧Q (.bl b) H
theorem Yv {X:Cx} {K:Frag} (hK:X.K=K):jN X (.builtin "isinstance") (qjv K):=by
 subst hK;intro pins s σ H xs us Q I r h;obtain ⟨a,C,c,b,rfl,ha,x1,hc,q⟩:=h;obtain ⟨u,v,rfl,ru,rv⟩:=qbm r;cases (show u=Value.ref a from ru);have p:JJ a C s.heap:=(show zw X.prog X.w H s.heap a (YE a C) from I.hok a _ ha).1;rcases hc with ⟨cv,e1,e2⟩ | ⟨tp,cs,vs,rfl,ht,e1,e2⟩
 ·cases XV e1 rv;exact Cm x1.kitx I.kIn p e2 (fun z=>nomatch z) fun tk=>⟨.bl b,H,I.tok tk,rfl,q⟩
 ·cases (show v=Value.ref tp from rv);obtain ⟨_,its,rv',⟨o,ho,hcl,n,hd⟩⟩:=(show zw X.prog X.w H s.heap tp (.tup cs) from I.hok tp _ ht);cases XW e1 rv';obtain ⟨oc,od,oda,osl⟩:=o;cases hcl;cases hd;exact PySem.W.kia_tup x1.kitx I.kIn p ho e2 (fun z=>nomatch z) fun tk=>⟨.bl b,H,I.tok tk,rfl,q⟩
abbrev bmVE:List Ac:=[.type "ValueError",.type "Exception",.type "BaseException",.type "object"]
def qiz (K:Frag) (C:Ae):Prop:=∀ h:Heap,K.In h→∃ bm N nm q bs hdct sn sub ab col dd k0 k1 k2 k3 k5 mN,
 h.get? C=some (excClassObj nm q C N bs bm hdct sn sub ab col dd k0 k1 k2 k3 k5 "ValueError.__new__")∧h.Ns N mN∧mN "__init__"=none∧OwnTail h bmVE bm
def qek (X:Cx) (C:Ac) (R:Hp→Prop):Prop:=∀ (pins:List (Ae×Obj)) (σ:St) (H:Hp) (s:Af) (h':Heap) (e:Ae) (vs:List Ac),
 Inv X pins σ H s→Heap.MadeExcOf s.heap h' e C vs→R H→X.xe (.ref e) {s with heap:=h'}
def qhj (t:TA) (R:Hp→Prop):TS:=fun _ σ H=>t σ H fun vs H1=>vs.length≤Ag∧R H1
theorem JU {X:Cx} {x:Str} {C:Ae} {R:Hp→Prop} {e:Expr} {es:List Expr} {t:TA} {np cpos pos:Pos} (hr:qek X (.ref C) R) (O:qiz X.K C) (hm:X.mg x=some (.ref C)) (ha:PA X (e::es) t) (hc:X.calm=true:=by rfl)
  (hg:Gl X x:=by rfl) (hdb:(x==("__debug__":Str))=false:=by decide) (he:starEach (e::es) X.env=(false,eval e X.env)::starEach es X.env:=by rfl) (hpl:(backTo cpos (starEach es X.env)).any (·.1)=false:=by rfl):
  PS X (.Raise (some (.Call (.Name x np) (e::es) [] cpos)) none pos) (qhj t R):=by
 intro pins s σ H D I h;obtain ⟨bm,N,nm,q,bs,hdct,sn,sub,ab,col,dd,k0,k1,k2,k3,k5,mN,hC,hN,hni,T⟩:=O X.base I.mod.kin;refine wpAny_Raise_call_subT (C:=C) (nm:=nm) (q:=q) (N:=N) (bs:=bs) (bm:=bm) (hdct:=hdct) (sn:=sn) (sub:=sub) (ab:=ab) (col:=col) (dd:=dd) (k0:=k0) (k1:=k1) (k2:=k2) (k3:=k3) (k5:=k5) F.excBase_ValueError (mN:=mN) (T.hasType F.excBase_ValueError.hasBase) (I.ok.hd hc)
  (by rw [he];show (false||(backTo cpos (starEach es X.env)).any (·.1))=false;rw [hpl];rfl) hni (JF I hg hm ⟨rfl,?_⟩ hdb)
 have h2:=ha cpos pins s σ H _ I h;rw [he] at h2 ⊢;refine Calls.evalArgs_plain (thn h2 fun vs s2 ⟨ws,H2,I2,r,z,q2⟩=>⟨rfl,by rw [← r.length];exact z,I2.bk _ _ hC,hN.keeps I2.bk,T.keeps I2.bk,fun h' e' m=>hr pins σ H2 s2 h' e' _ I2 m q2⟩)
section
variable {P:Program} {w:World} {K:Frag} {mg:Str→Option Ac} {base:Heap} {N:List Str} {qual:Str} {scope:Scope} {f:Ae} {cd:Ac} {A:Around} {outer:List Env} {s₀:Af} {H₀:Hp} {E:XK}
theorem v8 {C:Ac}:qek (wO (CX1 P w) P w K mg base N qual scope f cd A outer s₀ H₀ E) C (fun H=>E C none H):=by
 intro pins σ H s h' e vs I m q;show wpAny (model P w) (A.deeper (envOfC qual scope s₀.heap.objs.size f cd)) (leaving (envOfC qual scope s₀.heap.objs.size f cd) (.ref e)) (fun _ s''=>CX1 P w outer H₀ s₀ E (.ref e) s'') (fun e' s''=>CX1 P w outer H₀ s₀ E e' s'') {s with heap:=h'}
 have fc:frs (envOfC qual scope s₀.heap.objs.size f cd::outer)=s₀.heap.objs.size::frs outer:=XN rfl outer;have U1:Un (frs outer) [] H₀ H s₀.heap s.heap:=I.base;have stk:s.heap.FunFrames base (envOfC qual scope s₀.heap.objs.size f cd::outer):=I.stack;have fre:∀ b∈frs (envOfC qual scope s₀.heap.objs.size f cd::outer),H b=none:=I.stkFree;have hin:∀ env∈(envOfC qual scope s₀.heap.objs.size f cd::outer),∀ b,env.frame=some b→b∈frs (envOfC qual scope s₀.heap.objs.size f cd::outer):=fun env he b hb=>List.mem_filterMap.mpr ⟨env,he,hb⟩;refine wpAny_leaves_madeW (base:=PySem.W.hideAll s.heap (frs (envOfC qual scope s₀.heap.objs.size f cd::outer))) (h:=s.heap) I.ok.frames rfl (fun b o z=>PySem.W.of_hideAll _ z) (PySem.W.funFrames_hide stk hin) m fun h2 t fl _ _ sm=>?_;refine ⟨e,C,H,rfl,?_,q⟩;have nL:∀ b o,s₀.heap.get? b=some o→b≠s₀.heap.objs.size:=fun b o z=>Bz (Bf z);have nf:∀ b o,s₀.heap.get? b=some o→b∉frs outer→b∉frs (envOfC qual scope s₀.heap.objs.size f cd::outer):=fun b o z hb y=>by
  rw [fc] at y;rcases Av.mp y with y | y
  ·exact nL b o z y
  ·exact hb y
 have nt:∀ c v,H c=some v→c∉frs (envOfC qual scope s₀.heap.objs.size f cd::outer):=fun c v z y=>by
  rw [fre c y] at z;cases z
 have stay:∀ b o,s.heap.get? b=some o→b∉frs (envOfC qual scope s₀.heap.objs.size f cd::outer)→h2.get? b=some o:=fun b o z n=>fl.1 b o (PySem.W.hideAll_get _ z n);have hd:∀ b∈frs outer,∀ o,s.heap.get? b=some o→∀ vs,o.data≠ .fields vs:=fun b hb o z vs=>by
  obtain ⟨_,o1,e1,d1⟩:=stk.mem (b:=b) (show b∈frs (envOfC qual scope s₀.heap.objs.size f cd::outer) by rw [fc];exact Au _ hb)
  rw [z] at e1;cases e1;exact d1 vs
 have slots:∀ b∈frs outer,∀ o,s.heap.get? b=some o→∃ sl,h2.get? b=some {o with slots:=sl}:=fun b hb o z=>sm b o (m.keeps b o z) (hd b hb o z)
 refine ⟨I.os,I.bare,⟨fun b o z n hb hx=>?_,fun b o z n hb hx=>?_,U1.free,fun b o z hx=>?_,U1.tups,U1.frzs,U1.tbls⟩,fun b u z=>?_,fun b hb=>fre b (by rw [fc];exact Au _ hb),_,_,fl,fun b o z y n=>?_⟩
 ·exact stay b o (U1.keep b o z n hb hx) (nf b o z hb)
 ·obtain ⟨sl,e1⟩:=U1.slot b o z n hb hx;obtain ⟨sl2,e2⟩:=slots b hb _ e1;exact ⟨sl2,e2⟩
 ·obtain ⟨o1,e1⟩:=U1.there b o z hx
  by_cases hb:b∈frs outer
  ·obtain ⟨sl2,e2⟩:=slots b hb _ e1;exact ⟨_,e2⟩
  ·exact ⟨o1,stay b o1 e1 (nf b o z hb)⟩
 ·refine (I.hok b u z).stay (fun c v hc y=>?_) (fun _ y=>y) fun _ _ y=>y;rcases hc with rfl | hc
  ·exact stay c v y (nt c _ z)
  ·exact stay c v y (nt c _ hc)
 ·have e0:∃ o1,s.heap.get? b=some o1∧b∉frs (envOfC qual scope s₀.heap.objs.size f cd::outer):=by
   rcases y with y | ⟨o0,y⟩
   ·cases q2:H b with
    | none=>exact absurd q2 y
    | some u=>
     obtain ⟨o1,e1⟩:=(I.hok b u q2).there;exact ⟨o1,e1,nt b u q2⟩
   ·obtain ⟨o1,e1⟩:=U1.there b o0 y (by simp)
    exact ⟨o1,e1,nf b o0 y n⟩
  obtain ⟨o1,e1,n1⟩:=e0;have e2:=stay b o1 e1 n1;have z':h2.get? b=some o:=z;rw [z'] at e2;cases e2;exact PySem.W.hideAll_get _ e1 n1
theorem Qu:JQ (CX1 P w) (wO (CX1 P w) P w K mg base N qual scope f cd A outer s₀ H₀ E) E:=by
 intro pins σ H s e s' I h;obtain ⟨ea,C,H',rfl,F,q⟩:=h;exact qf6 I F fun s'' F'=>⟨ea,C,H',rfl,F',q⟩
theorem Fun.ok1 {x qual:Str} {st:Stmt} {f:Ae} {fd:FuncData} {N ps:List Str} {k:Nat} {sp:Sp} (F:Fun K x qual st f fd) (S:FnScope N ps (qp st)) (len:∀ vs H Q E,sp vs H Q E→vs.length=ps.length)
  (hbody:∀ (cdv:Ac) (A:Around) (outer:List Env) (s:Af) (H:Hp) (vs:List V) (Q:VK) (E:XK),Room k (A.deeper (envOfC qual (qp st) s.heap.objs.size f cdv))→sp vs H Q E→
   ∃ t,PSs (wO (CX1 P w) P w K mg base N qual (qp st) f cdv A outer s H E) (jl st) t∧t {nx:=fun _ H'=>Q .non H',rt:=Q} (start N vs) H):FnOk P w K mg base (CX1 P w) (k+1) f fd ps sp:=by
 obtain ⟨oc,od,kV,doc,pm,an,cdv,ct,osl,rfl,lk,hcd⟩:=F.ex;exact qgx lk hcd S len fun A outer s H vs Q E hr hsp=>hbody cdv A outer s H vs Q E hr hsp
end
def blank (σ:St):St:=List.replicate σ.length none
theorem yF {σ:St} {i:Nat} {v:V} (h:(blank σ)[i]?=some (some v)):False:=by
 unfold blank at h;rw [List.getElem?_replicate] at h;split at h <;> cases h
theorem blank_len {σ:St}:(blank σ).length=σ.length:=Dm ..
abbrev Cx.more (X:Cx) (pins:List (Ae×Obj)):Cx:={X with pn:=X.pn++pins}
section
variable {X:Cx} {pins ps2:List (Ae×Obj)} {σ:St} {H:Hp} {s:Af}
theorem Cx.Ok.more (ok:X.Ok) (pins:List (Ae×Obj)):(X.more pins).Ok:=
 ⟨ok.mod,ok.kind,ok.glob,ok.blt,ok.above,ok.inj,ok.has,ok.cab,ok.hd,ok.frames,ok.stk,ok.exf,ok.bs,ok.bsz,ok.noex,ok.exfs,ok.funs,ok.frf⟩
theorem Cx.Ok.less (ok:(X.more pins).Ok):X.Ok:=
 ⟨ok.mod,ok.kind,ok.glob,ok.blt,ok.above,ok.inj,ok.has,ok.cab,ok.hd,ok.frames,ok.stk,ok.exf,ok.bs,ok.bsz,ok.noex,ok.exfs,ok.funs,ok.frf⟩
theorem Inv.more (I:Inv X pins σ H s):Inv (X.more pins) [] σ H s:=
 ⟨I.ok.more pins,I.os,I.bare,I.base,I.loc,I.cell,I.free,I.freeC,fun p hp=>I.pin p (by simpa [Cx.more] using hp),I.hok,I.len⟩
theorem Inv.less (I:Inv (X.more pins) ps2 σ H s):Inv X pins σ H s:=
 ⟨I.ok.less,I.os,I.bare,I.base,I.loc,I.cell,I.free,I.freeC,fun p hp=>I.pin p (B3 _ hp),I.hok,I.len⟩
theorem SP.less {D:Ends} {f:Flow} {s':Af} (h:SP (X.more pins) ps2 D f s'):SP X pins D f s':=by
 cases f with
 | next=>obtain ⟨σ',H',I,q⟩:=h;exact ⟨σ',H',I.less,q⟩
 | brk=>obtain ⟨σ',H',I,q⟩:=h;exact ⟨σ',H',I.less,q⟩
 | cont=>obtain ⟨σ',H',I,q⟩:=h;exact ⟨σ',H',I.less,q⟩
 | ret u=>obtain ⟨v,σ',H',I,r,q⟩:=h;exact ⟨v,σ',H',I.less,r,q⟩
abbrev Cx.tryC (X:Cx) (pins:List (Ae×Obj)) (E1:XK):Cx:=(X.more pins).wish fun e s'=>∃ (ps:List (Ae×Obj)) (σ':St) (H0:Hp) (s0:Af),Inv (X.more pins) ps σ' H0 s0∧CX1 X.prog X.w X.stack H0 s0 E1 e s'
theorem qj1 {E1:XK}:JQ (CX1 X.prog X.w) (X.tryC pins E1) E1:=fun ps σ H s _ _ I h=>⟨ps,σ,H,s,I.unwish,h⟩
abbrev Cx.suite (X:Cx) (ea:Ae):Cx:={X with A:=X.A.mark (some (.ref ea)),calm:=false,xe:=fun _ _=>False}
theorem Inv.suite (I:Inv X pins σ H s) (ea:Ae):Inv (X.suite ea) pins σ H s:=
 ⟨⟨I.ok.mod,I.ok.kind,I.ok.glob,I.ok.blt,I.ok.above,I.ok.inj,I.ok.has,I.ok.cab,fun z=>Bool.noConfusion z,I.ok.frames,I.ok.stk,I.ok.exf,I.ok.bs,I.ok.bsz,I.ok.noex,I.ok.exfs,I.ok.funs,I.ok.frf⟩,I.os,I.bare,I.base,I.loc,I.cell,I.free,I.freeC,I.pin,I.hok,I.len⟩
theorem Inv.unsuite (I0:X.Ok) {ea:Ae} (I:Inv (X.suite ea) pins σ H s):Inv X pins σ H s:=
 ⟨I0,I.os,I.bare,I.base,I.loc,I.cell,I.free,I.freeC,I.pin,I.hok,I.len⟩
theorem Inv.lost {h':Heap} {m':Str→Option Ac} {t':Nat} (I:Inv X pins σ H s) (hn:h'.Ns X.env.locals m') (sb:Heap.SameBut X.env.locals s.heap h'):Inv X pins (blank σ) H {s with heap:=h',toks:=t'}:=by
 have ne0:∀ b o,X.s₀.heap.get? b=some o→b≠X.env.locals:=fun b o e=>Bz (Bv (Bf e) I.ok.above);refine ⟨I.ok,I.os,I.bare,⟨fun b o e n hb hx=>(sb.2 b (ne0 b o e)).trans (I.base.keep b o e n hb hx),fun b o e n hb hx=>?_,I.base.free,fun b o e hx=>?_,I.base.tups,I.base.frzs,I.base.tbls⟩,⟨m',hn,fun i x v _ e _=>(yF e).elim⟩,fun x c e=>?_,I.free,I.freeC,fun p hp=>?_,fun b u e=>?_,by rw [blank_len];exact I.len⟩
 ·obtain ⟨sl,e1⟩:=I.base.slot b o e n hb hx;exact ⟨sl,(sb.2 b (ne0 b o e)).trans e1⟩
 ·obtain ⟨o',e1⟩:=I.base.there b o e hx;exact ⟨o',(sb.2 b (ne0 b o e)).trans e1⟩
 ·obtain ⟨v,z⟩:=I.cell x c e;exact ⟨v,z.sameBut sb (I.cne x c e)⟩
 ·obtain ⟨e,n,ne,nf,d⟩:=I.pin p hp;exact ⟨(sb.2 p.1 ne).trans e,n,ne,nf,d⟩
 ·have nl:∀ c v,H c=some v→c≠X.env.locals:=fun c v q z=>by rw [z,I.free] at q;cases q
  refine (I.hok b u e).stay (fun c v hc q=>(sb.2 c ?_).trans q) (fun _ q=>q) fun _ _ q=>q;rcases hc with rfl | hc
  ·exact nl c _ e
  ·exact nl c _ hc
theorem Inv.trackN {D:Ae} {o:HO} (I:Inv X pins σ H s) (h0:H D=none) (hL:D≠X.env.locals) (hs:X.s₀.heap.get? D=none) (hc:∀ x c,X.env.cells.lookup x=some c→c≠D) (hp:∀ p∈X.pn++pins,p.1≠D)
  (new:zw X.prog X.w (upd H D o) s.heap D o):Inv X pins σ (upd H D o) s:=by
 have nD:∀ b u,H b=some u→b≠D:=fun b u q=>qK q h0;refine ⟨I.ok,I.os,I.bare,⟨I.base.keep,I.base.slot,fun b ob e n hx=>?_,I.base.there,fun b xs e=>?_,fun b ob u e=>?_,fun b ps e=>?_⟩,I.loc,I.cell,by rw [qG (Ne.symm hL)];exact I.free,fun x c e=>by rw [qG (hc x c e)];exact I.freeC x c e,fun p hpp=>?_,fun b u e=>?_,I.len⟩
 ·rw [qG (fun z=>by rw [z,hs] at e;cases e)]
  exact I.base.free b ob e n hx
 ·have q:=I.base.tups b xs e;rw [qG (nD _ _ q)];exact q
 ·have q:=I.base.frzs b ob u e;rw [qG (nD _ _ q)];exact q
 ·obtain ⟨mo,q⟩:=I.base.tbls b ps e;exact ⟨mo,by rw [qG (nD _ _ q)];exact q⟩
 ·obtain ⟨e,n,r⟩:=I.pin p hpp;exact ⟨e,by rw [qG (hp p hpp)];exact n,r⟩
 ·by_cases hb:b=D
  ·subst hb;rw [upd_same] at e;cases e;exact new
  ·rw [qG hb] at e;exact (I.hok b u e).stay (fun c v _ q=>q) (fun c q=>by rw [qG (nD _ _ q)];exact q) fun c xs q=>by rw [qG (nD _ _ q)];exact q
end
def tTry (K:Frag) (CL:Ae) (tb:XK→TS) (i:Nat) (ts:TS):TS:=fun D σ H=>
 tb (fun C _ H'=>∃ Ca,C= .ref Ca∧PySem.W.exmOne K (.ref Ca) (.ref CL)=some true∧∀ ea,H' ea=none→
  ts {nx:=fun σ' H2=>D.nx (blank σ') H2,rt:=D.rt,bk:=fun σ' H2=>D.bk (blank σ') H2,ct:=fun σ' H2=>D.ct (blank σ') H2} ((blank σ).set i (some (.ref ea))) (upd H' ea (YE ea Ca))) D σ H
theorem qhp {X:Cx} {K:Frag} {CL:Ae} {body suite:List Stmt} {b₀:Stmt} {hx n:Str} {i:Nat} {tb:XK→TS} {ts:TS} {np hpos pos:Pos} (hK:X.K=K)
  (hb:∀ pins E1,PSs (X.tryC pins E1) body (tb E1)) (hs:∀ ea,PSs (X.suite ea) (b₀::suite) ts) (hm:X.mg hx=some (.ref CL)) (nd:X.N.Nodup) (hi:X.N[i]?=some n)
  (hl:X.env.scope.names.lookup n=some .local:=by rfl) (hg:Gl X hx:=by rfl) (hdb:(hx==("__debug__":Str))=false:=by decide) (hstk:X.stack=X.env::X.outer:=by rfl) (hf:X.env.frame=some X.env.locals:=by rfl) (hex0:X.ex=[]:=by rfl)
  (hcls:(X.env.scope.kind== .class||(X.env.scope.kind== .module&&X.env.locals !=X.env.globals))=false:=by rfl):
  PS X (.Try body [.ExceptHandler (some (.Name hx np)) (some n) (b₀::suite) hpos] [] [] pos) (tTry K CL tb i ts):=by
 intro pins s σ H D I h;subst hK;refine wpAny_Try_except (Di (hb pins _ [] s σ H D (I.more.wish _) h) (fun f s1 sp=>?_) fun e s1 he=>?_)
 ·have sp':SP X pins D f s1:=SP.less (SP.unwish sp);cases f with
  | next=>exact A9 sp'
  | brk=>exact sp'
  | cont=>exact sp'
  | ret u=>exact sp'
 obtain ⟨ps,σ',H0,s0,I0,ea,C,H',rfl,F,q⟩:=he;obtain ⟨Ca,rfl,hex,q⟩:=q;obtain ⟨B,a0,fl,hB⟩:=F.fly;have inF:∀ {h:Heap},Heap.FlyingW B X.stack ea (.ref Ca) a0 h→∀ b∈frs X.stack,∃ o,h.get? b=some o∧∀ vs,o.data≠ .fields vs:=fun {h} fl b hb=>(fl.2.2.1.mem hb).2;have eaF:ea∉frs X.stack:=fun z=>by
  obtain ⟨o,e1,d1⟩:=inF fl ea z;obtain ⟨oe,vs,e2,_,d2,_⟩:=fl.first
  rw [e1] at e2;cases e2;exact d1 vs d2
 have hdF:∀ {h:Heap},Heap.FlyingW B X.stack ea (.ref Ca) a0 h→∀ b∈frs X.stack,∀ o,h.get? b=some o→∀ vs,o.data≠ .fields vs:=fun fl b hb o e vs=>by
  obtain ⟨o1,e1,d1⟩:=inF fl b hb;rw [e] at e1;cases e1;exact d1 vs
 have new0:∀ o,s0.heap.get? ea=some o→False:=fun o e=>by
  obtain ⟨oe,vs,e2,_⟩:=fl.first
  have:=hB ea oe e2 (.inr ⟨o,e⟩) eaF;rw [fl.2.1] at this;cases this
 have newH:H' ea=none:=by
  cases z:H' ea with
  | none=>rfl
  | some u=>
   obtain ⟨oe,vs,e2,_⟩:=fl.first
   have:=hB ea oe e2 (.inl (by rw [z];simp)) eaF
   rw [fl.2.1] at this;cases this
 have again:∀ {h:Heap},Heap.FlyingW B X.stack ea (.ref Ca) a0 h→s1.heap.UpToSlots h→Inv X pins σ' H' {s1 with heap:=h}:=fun {h} fl' sm=>by
  have F':=qd4 F hB fl' sm (hdF fl);exact (I0.call' (ch:=[]) F'.os F'.un F'.hok F'.bare fun b z=>absurd z (by simp)).less
 have hfr:X.A.frames=some (X.env::X.outer):=hstk▸I.ok.frames;refine wpAny_looks_onW (base:=B) (a0:=a0) (cls:= .ref Ca) hfr hf (hstk▸fl) fun h4 held4 sm4=>wpAny_landsW held4 fun h5 fl5 sm5=>?_;have fl5':Heap.FlyingW B X.stack ea (.ref Ca) a0 h5:=hstk▸fl5;have I5:=again fl5' (sm4.trans sm5);refine wpAny_handleBy_cons (codeAny_handlers_test (JF (I5.suite ea) hg hm ?_ hdb)) (by intro z;cases z)
 have lk:PySem.W.Looks (model X.prog X.w) h5 (typeOf (.ref ea)) (.ref Ca):=by
  obtain ⟨ob,e1,c1⟩:=fl5'.there;exact c1▸(PySem.W.Looks.ld e1).andThen .now
 refine (PySem.W.exm_one I5.kIn lk hex).here ?_;refine codeAny_handlers_suite_as (lands_againW fl5' fun h6 fl6 sm6=>?_);have I6:=again fl6 ((sm4.trans sm5).trans sm6);have len6:σ'.length=σ.length:=I0.len.trans I.len.symm;have I7:Inv X pins (blank σ) H' {s1 with heap:=h6}:=I6.weak (by rw [blank_len,len6]) fun j v e=>(yF e).elim
 have at0:∀ b o,X.s₀.heap.get? b=some o→b∉X.ex→∃ o',s0.heap.get? b=some o':=fun b o e hx=>I0.base.there b o e hx;have I8:Inv X pins (blank σ) (upd H' ea (YE ea Ca)) {s1 with heap:=h6}:=by
  refine I7.trackN newH (fun z=>eaF ?_) ?_ (fun x c e z=>?_) (fun p hp z=>?_) (qf9 ?_)
  ·rw [hstk];unfold frs;rw [Eg,hf,z];exact Ay
  ·cases z:X.s₀.heap.get? ea with
   | none=>rfl
   | some o=>
    exfalso
    obtain ⟨o',e'⟩:=at0 ea o z (by rw [hex0];simp)
    exact new0 o' e'
  ·obtain ⟨v,o,ho,_⟩:=I0.cell x c e;rw [z] at ho;exact new0 o ho
  ·have:=(I0.pin p (B3 _ hp)).1;rw [z] at this;exact new0 _ this
  ·obtain ⟨ob,e1,c1⟩:=fl6.there;exact ⟨ob,e1,c1⟩
 refine VG I8 nd hi (.inl hl) (v:= .ref ea) rfl (fun s7 I9=>?_) (.inr hl);refine Di (hs ea pins s7 _ _ _ (I9.suite ea) (q ea newH)) (fun f s8 sp=>?_) fun _ _ z=>z.elim;have fin:∀ {σ9:St} {H9:Hp},Inv (X.suite ea) pins σ9 H9 s8→∀ {g:Flow},(∀ s9,Inv X pins (blank σ9) H9 s9→SP X pins D g s9)→
   wpAny (model X.prog X.w) X.A (do bindName X.env n .none;unbindBehindTheSuite X.env n hpos) (fun _ s9=>SP X pins D g s9) X.xe s8:=fun {σ9 H9} J g k=>by
  obtain ⟨m,hn,_⟩:=J.loc;exact wpAny_nameGoes hl hn hcls fun h' m' hn' sb=>k _ ((J.unsuite I.ok).lost hn' sb)
 cases f with
 | next=>obtain ⟨σ9,H9,J,z⟩:=sp;exact fin J fun s9 J9=>⟨_,_,J9,z⟩
 | brk=>obtain ⟨σ9,H9,J,z⟩:=sp;exact fin J fun s9 J9=>⟨_,_,J9,z⟩
 | cont=>obtain ⟨σ9,H9,J,z⟩:=sp;exact fin J fun s9 J9=>⟨_,_,J9,z⟩
 | ret u=>obtain ⟨v,σ9,H9,J,r,z⟩:=sp;exact fin J fun s9 J9=>⟨v,_,_,J9,r,z⟩
end L2
set_option tactic.hygienic true
namespace L2
open PySem PySem.Spec PyProof.Rows
def PEp (X:Cx) (e:Expr) (t:TE):Prop:=
 ∀ (pins:List (Ae×Obj)) (s:Af) (σ:St) (H:Hp) (Q:VK),1≤s.toks→Inv X pins σ H s→t σ H Q→wpAny (model X.prog X.w) X.A (eval e X.env) (EP X pins σ Q) X.xe s
def PSp (X:Cx) (st:List Stmt) (t:TS):Prop:=
 ∀ (pins:List (Ae×Obj)) (s:Af) (σ:St) (H:Hp) (D:Ends),1≤s.toks→Inv X pins σ H s→t D σ H→wpAny (model X.prog X.w) X.A (execs st X.env) (SP X pins D) X.xe s
section
variable {X:Cx} {K:Frag} {e o:Expr} {es:List Expr} {te to:TE} {st:Stmt} {rest:List Stmt} {t u:TS} {pos apos cpos:Pos}
theorem PE.toP (h:PE X e te):PEp X e te:=fun pins s σ H Q _ I q=>h pins s σ H Q I q
theorem qc5 (h1:PS X st t) (h2:PSp X rest u):PSp X (st::rest) (jO t u):=by
 intro pins s σ H D hp I h;refine wpAny_execs_cons (wpAny_with_toks hp (Di (h1 pins s σ H {D with nx:=u D} I h) (fun f s1 q hp1=>?_) fun _ _ z _=>z))
 cases f with
 | next=>
  obtain ⟨σ',H',I',q⟩:=q;exact h2 pins s1 σ' H' D hp1 I' q
 | ret v=>exact q
 | brk=>exact q
 | cont=>exact q
theorem qe7 (he:PEp X e te):PSp X [.Return (some e) pos] (J3 te):=by
 intro pins s σ H D hp I h;refine wpAny_execs_cons (wpAny_Return_some (thn (he pins s σ H _ hp I h) fun v s1 ⟨x,H1,I1,r1,q1⟩=>?_));exact ⟨x,σ,H1,I1,r1,q1⟩
def qi7 (c z:Str) (to:TE):TE:=fun σ H Q=>to σ H fun x H1=>∃ y,x= .str y∧y.length+(y.length+1)*z.length≤16777216∧Q (.str (Txt.replace y c z)) H1
theorem wq {c z:Str} {j1 j2:Nat} {p1 p2:Pos} (ho:PEp X o to) (hcz:(c==z)=false:=by decide+kernel)
  (hbase:attributeBase o "replace" X.env (eval o X.env)=eval o X.env:=by rfl)
  (hfew:((backTo cpos (starEach [.Constant (.str c) j1 p1,.Constant (.str z) j2 p2] X.env)).all (fun x=>!x.1)&&(backToKw cpos (keywordEach [] X.env)).all (fun x=>x.1.isSome)
   &&decide (([.Constant (.str c) j1 p1,.Constant (.str z) j2 p2]:List Expr).length+([]:List Keyword).length+(if ([]:List Keyword).isEmpty then 0 else 1)<30))=true:=by rfl)
  (hline:(apos.endLine==cpos.line)=true:=by rfl):
  PEp X (.Call (.Attribute o "replace" apos) [.Constant (.str c) j1 p1,.Constant (.str z) j2 p2] [] cpos) (qi7 c z to):=by
 intro pins s σ H Q hp I h;refine wpAny_Call_method_late hbase hfew hline rfl (wpAny_with_toks hp (Di (ho pins s σ H _ hp I h) (fun v s1 ⟨x,H1,I1,r1,y,e,hz,q⟩ hp1=>?_) fun _ _ z _=>z));subst e;obtain ⟨t,rfl⟩:=r1;refine ⟨"str","str.replace",F.plainAttrs_str,F.slot_str_replace,F.type_str_replace,Es _ _ _,(fun a z=>by cases z),?_⟩
 refine Em rfl (Calls.evalArgs_plain (Calls.spliced_cons (Calls.Constant_str (k:=j1) (pos:=p1) (Calls.spliced_cons (Calls.Constant_str (k:=j2) (pos:=p2) (Calls.spliced_nil ?_))))));exact SC.replace (fun z=>by have:s1.toks=0:=z;omega) (fun z=>by have:s1.toks+1=0:=z;omega) (fun z=>by have:s1.toks=s1.toks+1:=z;omega) hcz hz fun t' k=>⟨.str _,H1,I1.tok k,⟨t',rfl⟩,q⟩
def qhn:V→List V→Hp→VK→Prop:=fun x xs H Q=>∃ y,x= .str y∧xs=[]∧y.length≤1000000∧∀ l,H l=none→Q (.ref l) (upd H l (.lst ((Txt.words y).map V.str)))
theorem vj:∀ (k:Nat) (xs:List Str),qT (xs.map V.str) (strValues (numbered k xs))
 | _,[]=> .nil
 | k,_::r=> .cons ⟨k,rfl⟩ (vj (k+1) r)
theorem QU (y:Str):(Txt.words y).length≤y.length+1:=by
 have:=StrLaws.words_weight y;omega
theorem qdk:MtR X "str.split" qhn:=by
 intro pins s σ H x xs v us Q I rx r h;obtain ⟨y,rfl,rfl,hz,q⟩:=h;obtain ⟨t,rfl⟩:=rx;cases r;have hz':y.length≤Ag:=by rw [En];omega
 have hw:(Builtin.Str.spaceWords y (y.length+1)).length≤Ag:=by
  have h1:=(StrLaws.sw_weight y).1;have h2:=StrLaws.len_le_wsum (Builtin.Str.spaceWords y (y.length+1));rw [En];omega
 have hwl:((Txt.words y).map V.str).length≤Ag:=by
  have:=QU y;rw [Aj,En];omega
 have lay:∀ (its:List Ac) (tk:Nat),qT ((Txt.words y).map V.str) its→EP X pins σ Q (.ref s.heap.objs.size) {s with heap:=s.heap.push {cls:= .type "list",data:= .seq its.toArray},toks:=tk}:=fun its tk rv=>
  ⟨.ref s.heap.objs.size,upd H s.heap.objs.size (.lst ((Txt.words y).map V.str)),I.laid (fun b o e=>As _ e) (Aw _) ⟨hwl,its,0,rv,Bk _ rfl⟩,rfl,q _ (I.hok.fresh (Aw _))⟩
 refine Dj F.slot_str_split (Es _ _ _) Fa (F.args_str_split_1 _) (meets_str_split_space y t hz' hw) ?_;cases he:Builtin.Str.spaceWords y (y.length+1)==[(0,y.length)]
 ·simp only [Dl,if_false];rw [strsFrom_eq];refine lay _ _ ?_;have e:Txt.words y=wordsOf y:=if_neg (Ex he);rw [e];exact vj _ _
 ·simp only [if_true];refine lay [.str y t] s.toks ?_;have e:Txt.words y=[y]:=if_pos he;rw [e];exact .cons ⟨t,rfl⟩ .nil
theorem qe9 {name:Str} {T id:String} {r:V→List V→Hp→VK→Prop} (hK:X.K=K) (pa:PlainAttrs T) (slot:Slot T name id) (hty:typeOf (.builtin id)=pure (.type "method_descriptor")) (hm:MtR X id r) (ho:PEp X o to)
  (hbase:attributeBase o name X.env (eval o X.env)=eval o X.env:=by rfl) (hline:(apos.endLine==cpos.line)=true:=by rfl):PEp X (.Call (.Attribute o name apos) [] [] cpos) (qg8 K T r to):=by
 subst hK;intro pins s σ H Q hp I h;refine wpAny_Call_method0_late hbase hline (thn (ho pins s σ H _ hp I h) fun v s1 ⟨x,H1,I1,r1,ty,q1⟩=>?_);obtain ⟨h1,h2⟩:=X6 I1 r1 ty;exact ⟨T,id,pa,slot,hty,h1,h2,Em rfl (PySem.evalArgs_none (hm pins s1 σ H1 x [] v [] Q I1 r1 .nil q1))⟩
def qgs:R2:=fun x y H Q=>∃ z n,x= .str z∧y= .int n∧MulOk z n∧Q (.str (Txt.mul z n)) H
theorem qfd:OpR X (binaryOp .Mult) qgs:=by
 intro pins s σ H x y v u Q I rx ry h;obtain ⟨z,n,rfl,rfl,hok,q⟩:=h;obtain ⟨t,rfl⟩:=rx;obtain ⟨t',rfl⟩:=ry;exact SB.mul hok fun t2 k=>⟨.str _,H,I.tok k,⟨t2,rfl⟩,q⟩
theorem VR (hK:X.K=K):OpR X (compareOp .In) (rIn K false):=hK▸qaj
theorem qdi (hK:X.K=K):OpR X (compareOp .NotIn) (rIn K true):=hK▸Ye
end
theorem yI {kindOf:Str→Option NameKind}:∀ (l:List (Str×Ac)) (m:Str→Option Ac),(∀ y∈l,kindOf y.1=some .local)→bindL kindOf l m=fun x=>(l.reverse.lookup x).or (m x)
 | [],m,_=>rfl
 | (n,v)::r,m,h=>by
  have hn:kindOf n=some .local:=h (n,v) Ay;show bindL kindOf r (if kindOf n=some .local then fun y=>if y=n then some v else m y else m)=_
  rw [if_pos hn,yI r _ fun y hy=>h y (Au _ hy)];funext x;rw [Eo,List.lookup_append];cases r.reverse.lookup x with
  | some z=>rfl
  | none=>
   show (if x=n then some v else m x)=(List.lookup x [(n,v)]).or (m x)
   rw [B6]
   by_cases hx:x=n
   ·subst hx;simp
   ·have:(x==n)=false:=by simpa using hx
    rw [if_neg hx,this];rfl
theorem WU:∀ (n:Nat) (names:List (Str×NameKind)),(∀ y∈names,y.2≠ .cell)→cellsFrom n names []=[]
 | _,[],_=>rfl
 | n,(a,k)::r,h=>by
  have hk:(k==NameKind.cell)=false:=by simpa using h (a,k) Ay
  show (if (k==NameKind.cell)=true then _ else cellsFrom n r [])=[]
  rw [hk,if_neg Ai];exact WU n r fun y hy=>h y (Au _ hy)
theorem Fun.okp {P:Program} {w:World} {K:Frag} {mg:Str→Option Ac} {base:Heap} {x qual:Str} {st:Stmt} {f:Ae} {fd:FuncData} {N ps:List Str} {k:Nat} {sp:Sp} (F:Fun K x qual st f fd) (S:FnScope N ps (qp st)) (hc:∀ y∈(qp st).names,y.2≠ .cell) (hps:1≤ps.length)
  (len:∀ vs H Q E,sp vs H Q E→vs.length=ps.length)
  (hbody:∀ (cdv:Ac) (A:Around) (outer:List Env) (s:Af) (H:Hp) (vs:List V) (Q:VK) (E:XK),Room k (A.deeper (envOfC qual (qp st) s.heap.objs.size f cdv))→sp vs H Q E→
   ∃ t,PSp (wO (CX1 P w) P w K mg base N qual (qp st) f cdv A outer s H E) (jl st) t∧t {nx:=fun _ H'=>Q .non H',rt:=Q} (start N vs) H):FnOk P w K mg base (CX1 P w) (k+1) f fd ps sp:=by
 obtain ⟨oc,od,kV,doc,pm,an,cdv,ct,osl,rfl,lk,hcd⟩:=F.ex;refine ⟨len,fun A outer s H args us vs Q E hr e0 hb r hsp=>?_⟩;have hl:=len _ _ _ _ hsp;have KX:K.In s.heap:=e0.mod.kin.keeps fun b o e=>(e0.bs b o e).1;have lim:s.heap.NoLimit:=e0.mod.nolimit.keeps fun b o e=>(e0.bs b o e).1;have hloc:∀ y∈ps.zip us,(qp st).names.lookup y.1=some .local:=fun ⟨n,v⟩ hy=>by
  rcases S.par n (Cz hy).1 with q | q
  ·exact q
  ·exact absurd rfl (hc _ (Bc q))
 refine codeAny_call_function hr.depth (KX _ _ lk) rfl S.co S.gen rfl (PySem.W.codeRec_of KX hcd) (hb _ _ _ _ ?_);refine wpAny_newFunctionEnv hc hloc (fun h1 hns sb=>?_) S.kind;have hcell:=WU (s.heap.objs.size+1) (qp st).names hc;have keep:∀ b o,s.heap.get? b=some o→h1.get? b=some o:=fun b o e=>(sb.2 b (Bz (Bf e))).trans (As _ e);have x1:InCallC s s.heap.objs.size (bindL (envOfC qual (qp st) s.heap.objs.size f cdv).kindOf (ps.zip us) fun _=>none) (cellsFrom (s.heap.objs.size+1) (qp st).names []) (bindC (envOfC qual (qp st) s.heap.objs.size f cdv).kindOf (ps.zip us) fun _=>none) {s with heap:=h1,toks:=s.toks+(ps.zip us).length}:=by
  rw [hcell];refine ⟨⟨⟨_,_,rfl⟩,?_,keep,Aw _⟩,(fun n c e=>by cases e),.nil,(fun n c e=>by cases e)⟩
  rw [yI _ _ hloc];have e:(fun x=>((ps.zip us).reverse.lookup x).or (none:Option Ac))=fun x=>(ps.zip us).reverse.lookup x:=by funext x;simp
  rw [e];exact hns
 refine ⟨lim.keeps keep,?_⟩;obtain ⟨t,ht,hq⟩:=hbody cdv A outer s H vs Q E (hr.deeper _) hsp;have I:=yu (CX:=CX1 P w) (P:=P) (w:=w) (K:=K) (mg:=mg) (base:=base) (E:=E) (qual:=qual) (f:=f) (cd:=cdv) S hr.hd e0 hl r x1;have henv:(newEnv (qp st) s.heap.objs.size Aq [] (qual++".<locals>.") (some f) cdv none builtinsNs:Env)=envOfC qual (qp st) s.heap.objs.size f cdv:=by
  show ({scope:=_,locals:=_,globals:=_,cells:=_,qual:=_,func:=_,code:=_,frame:=_,builtins:=_}:Env)={scope:=_,locals:=_,globals:=_,cells:=cellsFrom (s.heap.objs.size+1) (qp st).names [],qual:=_,func:=_,code:=_,frame:=_,builtins:=_};rw [hcell]
 have hlz:1≤(ps.zip us).length:=by
  have e1:=r.length;rw [Ek];omega
 show codeAny (model P w) A (Code.func (jl st) (newEnv (qp st) s.heap.objs.size Aq [] (qual++".<locals>.") (some f) cdv none builtinsNs)) (CR (CX1 P w) outer P w H s Q E) _;rw [henv];refine codeAny_func (Di (ht [] _ (start N vs) H _ (show 1≤s.toks+(ps.zip us).length from ⋯) I hq) (fun fl s' hs=>?_) fun e s' hs=>hs);have fin:∀ {σ':St} {H':Hp} {v:V} {u:Ac},Inv (wO (CX1 P w) P w K mg base N qual (qp st) f cdv A outer s H E) [] σ' H' s'→qS v u→Q v H'→CE outer P w H s Q u s':=
  fun {σ' H' v u} J rv q=>⟨v,H',J.os,J.bare,J.base,J.hok,rv,q⟩
 cases fl with
 | ret u=>obtain ⟨v,σ',H',J,rv,q⟩:=hs;exact fin J rv q
 | next=>obtain ⟨σ',H',J,q⟩:=hs;exact fin (v:=V.non) (u:=Value.none) J rfl q
 | brk=>obtain ⟨_,_,_,q⟩:=hs;exact False.elim q
 | cont=>obtain ⟨_,_,_,q⟩:=hs;exact False.elim q
structure DefX (P:Program) (w:World) (K:Frag) (mg:Str→Option Ac) (base:Heap) (k:Nat) (x:Str) (ps:List Str) (sp:Sp):Prop where
 ex:∃ (f:Ae) (fd:FuncData),FnOk P w K mg base (CX1 P w) k f fd ps sp∧j5 K fd ps []∧PySem.W.keepIn K (.ref f)=true∧mg x=some (.ref f)
theorem vh {X:Cx} {k:Nat} {x:Str} {ps:List Str} {sp:Sp} {E:XK} {e:Expr} {es:List Expr} {t:TA} {p pos:Pos} (D:DefX X.prog X.w X.K X.mg X.base k x ps sp) (hr:Room k X.A) (hx:JQ (CX1 X.prog X.w) X E) (ha:PA X (e::es) t) (hg:Gl X x:=by rfl)
  (hdb:(x==("__debug__":Str))=false:=by decide) (he:starEach (e::es) X.env=(false,eval e X.env)::starEach es X.env:=by rfl) (hpl:(backTo pos (starEach es X.env)).any (·.1)=false:=by rfl):
  PE X (.Call (.Name x p) (e::es) [] pos) (zP sp [] E t):=by
 obtain ⟨f,fd,F,B,kp,m⟩:=D.ex;exact Qt F hr hg m kp B .nil hx ha hdb he hpl
theorem qgv {X:Cx}:JQ (CX1 X.prog X.w) X E0:=fun _ _ _ _ _ _ _ h=>by
 obtain ⟨_,_,_,_,_,q⟩:=h;exact q.elim
theorem qen {K:Frag} {C:Ae} (q:PySem.W.excIn K C bmVE "ValueError.__new__"=true):qiz K C:=by
 intro h X;unfold PySem.W.excIn at q;split at q
 case h_2=>cases q
 rename_i dd cd sl ho;split at q
 case h_2=>cases q
 rename_i C' bm k0 k1 k2 k3 n k5 hm hs;simp only [Al,A8,Bool.not_eq_true'] at q;obtain ⟨⟨⟨⟨⟨e1,e2⟩,hdel⟩,ht⟩,hok⟩,hni⟩:=q;subst e1 e2;obtain ⟨nm,bs,mro,ns,qn,hd,sn,sub,ab,col,del⟩:=cd;dsimp only at hm hdel hok hni;subst hm hdel;have e3:sl= #[k0,k1,k2,k3,some (.builtin "ValueError.__new__"),k5]:=Array.ext' (by simpa using hs)
 subst e3;exact ⟨bm,ns,nm,qn,bs,hd,sn,sub,ab,col,dd,k0,k1,k2,k3,k5,_,X _ _ ho,.of_isNs (PySem.W.isNs_of_in X hok),PySem.W.nsMap_none_of_in X hok hni,PySem.W.tail_of_in X ht⟩
theorem W6:bootBuiltins "ValueError"=some (.type "ValueError"):=∅
end L2
set_option tactic.hygienic false
namespace L2
open PySem PySem.Spec PyProof.Rows
inductive EntsAre (p:Params):List DictEntry→List (Str×Ac)→Prop
 | nil:EntsAre p [] []
 | cons {x:Str} {t:Tok} {v:Ac} {es:List DictEntry} {r:List (Str×Ac)}:EntsAre p es r→EntsAre p (⟨PyData.keyHash p x,.str x t,v⟩::es) ((x,v)::r)
def QR (P:Program) (w:World) (K:Frag) (a:Ae) (kvs:List (Str×Ac)):Prop:=∀ h:Heap,K.In h→h.DictOf (zp P w) a (kvs.map fun e=>((Sum.inr e.1:Key),e.2))
section
variable {P:Program} {w:World} {K:Frag} {a:Ae}
theorem yB {p:Params}:∀ {es:List DictEntry} {kvs:List (Str×Ac)},EntsAre p es kvs→∀ e∈es,∃ x t,e.key= .str x t∧e.hash=PyData.keyHash p x
 | _,_,.nil,e,he=>by cases he
 | _,_,.cons (x:=x) (t:=t) h,e,he=>by
  rcases Av.mp he with rfl | he
  ·exact ⟨x,t,rfl,rfl⟩
  ·exact yB h e he
theorem WQ {p:Params}:∀ {es:List DictEntry} {kvs:List (Str×Ac)},EntsAre p es kvs→Pairs (zp P w) es (kvs.map fun e=>((Sum.inr e.1:Key),e.2))
 | _,_,.nil=> .nil
 | _,_,.cons (x:=x) (t:=t) h=> .cons (JZ x t) rfl (WQ h)
theorem WL {es:List DictEntry} {n:Nat} {kvs:List (Str×Ac)} (l:K.lookup a=some {cls:= .type "dict",data:= .dict es.toArray n}) (e:EntsAre w.params es kvs) (nd:(kvs.map (·.1)).Nodup):QR P w K a kvs:=by
 intro h X;refine ⟨_,es.toArray,n,X _ _ l,⟨rfl,rfl,rfl⟩,rfl,fun en hen=>?_,by simpa using WQ e,?_⟩
 ·obtain ⟨x,t,e1,e2⟩:=yB e en (by simpa using hen)
  refine ⟨Sum.inr x,?_,?_⟩
  ·rw [e1];exact JZ x t
  ·rw [e2];rfl
 ·rw [Ck];have:(((·.1):Key×Ac→Key) ∘ fun e:Str×Ac=>((Sum.inr e.1:Key),e.2))=(Sum.inr:Str→Key) ∘ (·.1):=rfl;rw [this,← Ck];exact (List.pairwise_map.mpr (nd.imp fun hne z=>hne (Sum.inr.inj z)))
theorem Wc:∀ (kvs:List (Str×Ac)) (x:Str),valueAt (kvs.map fun e=>((Sum.inr e.1:Key),e.2)) (Sum.inr x)=(kvs.find? fun e=>decide (e.1=x)).map (·.2)
 | [],_=>rfl
 | (y,v)::r,x=>by
  have ih:=Wc r x;unfold valueAt at ih ⊢;rw [A4,C6,C6]
  by_cases h:y=x
  ·subst h;simp
  ·have h1:¬ (Sum.inr y:Key)=Sum.inr x:=fun z=>h (Sum.inr.inj z);simp only [Ap h1,Ap h];exact ih
end
inductive TabT (K:Frag):List (Str×List Str)→List (Str×Ac)→Prop
 | nil:TabT K [] []
 | cons {x:Str} {l:List Str} {a:Ae} {T:List (Str×List Str)} {r:List (Str×Ac)}:(∀ H:Hp,SqT K H a (l.map V.str))→TabT K T r→TabT K ((x,l)::T) ((x,.ref a)::r)
inductive TabS:List (Str×Str)→List (Str×Ac)→Prop
 | nil:TabS [] []
 | cons {x y:Str} {t:Tok} {T:List (Str×Str)} {r:List (Str×Ac)}:TabS T r→TabS ((x,y)::T) ((x,.str y t)::r)
theorem TabT.get {K:Frag}:∀ {T:List (Str×List Str)} {r:List (Str×Ac)} {x:Str} {l:List Str},TabT K T r→T.lookup x=some l→∃ a,(r.find? fun e=>decide (e.1=x)).map (·.2)=some (.ref a)∧∀ H:Hp,SqT K H a (l.map V.str)
 | _,_,_,_,.nil,e=>by cases e
 | _,_,x,l,.cons (x:=y) (a:=a) h t,e=>by
  rw [B6] at e
  by_cases hx:y=x
  ·subst hx;simp only [beq_self_eq_true] at e;cases e;exact ⟨a,by simp,h⟩
  ·have:(x==y)=false:=by simpa using fun z=>hx z.symm
   rw [this] at e;obtain ⟨b,h1,h2⟩:=TabT.get t e;exact ⟨b,by rw [C6,Ap hx];exact h1,h2⟩
theorem TabS.get:∀ {T:List (Str×Str)} {r:List (Str×Ac)} {x y:Str},TabS T r→T.lookup x=some y→∃ t,(r.find? fun e=>decide (e.1=x)).map (·.2)=some (.str y t)
 | _,_,_,_,.nil,e=>by cases e
 | _,_,x,y,.cons (x:=z) (t:=t) h,e=>by
  rw [B6] at e
  by_cases hx:z=x
  ·subst hx;simp only [beq_self_eq_true] at e;cases e;exact ⟨t,by simp⟩
  ·have:(x==z)=false:=by simpa using fun q=>hx q.symm
   rw [this] at e;obtain ⟨u,h1⟩:=TabS.get h e;exact ⟨u,by rw [C6,Ap hx];exact h1⟩
def qi5 (K:Frag) (T:List (Str×List Str)) (ti:TE):TE:=fun σ H Q=>ti σ H fun y H1=>∃ x l,y= .str x∧T.lookup x=some l∧∀ a,(∀ H:Hp,SqT K H a (l.map V.str))→Q (.ref a) H1
def qi6 (T:List (Str×Str)) (ti:TE):TE:=fun σ H Q=>ti σ H fun y H1=>∃ x z,y= .str x∧T.lookup x=some z∧Q (.str z) H1
structure KTabT (P:Program) (w:World) (K:Frag) (mg:Str→Option Ac) (nm:Str) (T:List (Str×List Str)):Prop where
 ex:∃ (a:Ae) (kvs:List (Str×Ac)),mg nm=some (.ref a)∧QR P w K a kvs∧TabT K T kvs
structure KTabS (P:Program) (w:World) (K:Frag) (mg:Str→Option Ac) (nm:Str) (T:List (Str×Str)):Prop where
 ex:∃ (a:Ae) (kvs:List (Str×Ac)),mg nm=some (.ref a)∧QR P w K a kvs∧TabS T kvs
section
variable {X:Cx} {K:Frag} {nm:Str} {np pos:Pos} {i:Expr} {ti:TE}
theorem YR {pins:List (Ae×Obj)} {σ:St} {H:Hp} {s:Af} {a:Ae} {kvs:List (Str×Ac)} {x:Str} {v u:Ac} {Q:Ac→Af→Prop} {A:Around} {E:Ac→Af→Prop} (I:Inv X pins σ H s) (D:QR X.prog X.w X.K a kvs) (r:qS (.str x) u)
  (hv:(kvs.find? fun e=>decide (e.1=x)).map (·.2)=some v) (h:Q v {s with toks:=s.toks+1}):wpAny (model X.prog X.w) A (getItem (.ref a) u) Q E s:=by
 obtain ⟨t,rfl⟩:=r;exact wpAny_getItem_of (knd:=zp X.prog X.w) (k:=Sum.inr x) (JZ x t) (D _ I.kIn).mapOf ((Wc kvs x).trans hv) h
theorem vg {T:List (Str×List Str)} (hK:X.K=K) (D:KTabT X.prog X.w X.K X.mg nm T) (hi:PE X i ti) (hs:qgh i) (hg:Gl X nm:=by rfl) (hd:(nm==("__debug__":Str))=false:=by decide):PE X (.Subscript (.Name nm np) i pos) (qi5 K T ti):=by
 subst hK;obtain ⟨a,kvs,hm,kd,tb⟩:=D.ex;intro pins s σ H Q I h;refine yP PySem.F.slot_dict_getitem.lookup hs (JF I hg hm (thn (hi pins s σ H _ I h) fun u s1 ⟨y,H1,I1,r1,x,l,e,hl,q1⟩=>?_) hd);subst e;obtain ⟨b,h1,h2⟩:=tb.get hl;exact ⟨(kd _ I1.kIn).mapOf.typeIs,YR I1 kd r1 h1 ⟨.ref b,H1,I1.tok _,rfl,q1 b h2⟩⟩
theorem Yb {T:List (Str×Str)} (D:KTabS X.prog X.w X.K X.mg nm T) (hi:PE X i ti) (hs:qgh i) (hg:Gl X nm:=by rfl) (hd:(nm==("__debug__":Str))=false:=by decide):PE X (.Subscript (.Name nm np) i pos) (qi6 T ti):=by
 obtain ⟨a,kvs,hm,kd,tb⟩:=D.ex;intro pins s σ H Q I h;refine yP PySem.F.slot_dict_getitem.lookup hs (JF I hg hm (thn (hi pins s σ H _ I h) fun u s1 ⟨y,H1,I1,r1,x,z,e,hl,q1⟩=>?_) hd);subst e;obtain ⟨t,h1⟩:=tb.get hl;exact ⟨(kd _ I1.kIn).mapOf.typeIs,YR I1 kd r1 h1 ⟨.str z,H1,I1.tok _,⟨t,rfl⟩,q1⟩⟩
end
theorem zz {K:Frag} {a:Ae} {its:List Ac} {n:Nat} {l:List Str} (h:K.lookup a=some {cls:= .type "tuple",data:= .seq its.toArray n}) (v:qT (l.map V.str) its) (hz:its.length≤1000):∀ H:Hp,SqT K H a (l.map V.str):=
 fun _=> .inr ⟨_,its.toArray,n,h,rfl,rfl,by rw [Ba];exact Ar hz O0,by simpa using v⟩
section
variable {prog:Program} {w:World} {A:Around} {E:Ac→Af→Prop} {s:Af}
theorem Vz {it t:Ae} {i:Nat} {items:Array Ac} {x:Ac} {Q:Ac→Af→Prop} (hit:s.heap.IsTupleIter it t i) (ht:s.heap.IsTuple t items) (hx:items[i]?=some x)
  (hQ:∀ h',h'.IsTupleIter it t (i+1)→Heap.SameBut it s.heap h'→Q x {s with heap:=h'}):wpAny (model prog w) A (Builtin.SmallTypes.nextOf (.ref it)) Q E s:=by
 obtain ⟨o,ho,hc,hd⟩:=id hit;obtain ⟨ol,hol,_,nl,hdl⟩:=ht;unfold Builtin.SmallTypes.nextOf;refine An (Dt (name:=Str.ofString "__next__") hit.typeIs Ed (Et Ed hit.typeIs F.entry_tuple_iterator_next ?_ (F.args_tuple_iterator_next_1 _)));show wpAny _ _ (field (.ref it) 0>>=_) _ _ s;refine An (C4 ho hd (x:= .ref t) rfl ?_);show wpAny _ _ (if (Value.ref t==Value.none)=true then _ else _) _ _ s;rw [if_neg (show ¬ ((Value.ref t==Value.none)=true) from Ai)]
 show wpAny _ _ (field (.ref it) 1>>=_) _ _ s;refine An (C4 ho hd (x:= .int i 0) rfl ?_);show wpAny _ _ (seqItems? (.ref t)>>=_) _ _ s;refine An (Dv hol hdl ?_);simp only [E9,hx];refine An (wpAny_setField ho hd (by simp) (A9 ⟨x,rfl,A9 (hQ _ ⟨_,Heap.get?_update_self _ ho (Obj.isFreed_of_fields (Obj.data_mapFields hd _)),(Obj.cls_mapFields ..).trans hc,?_⟩ (Heap.SameBut.update ..))⟩))
 rw [Obj.data_mapFields hd];simp [rawInt]
theorem yh {it t:Ae} {i:Nat} {items:Array Ac} {Q:Ac→Af→Prop} (hh:A.handled=none) (hit:s.heap.IsTupleIter it t i) (ht:s.heap.IsTuple t items) (hx:items[i]?=none)
  (hE:∀ h' e,Heap.ExtBut it s.heap h'→(∃ o,h'.get? e=some o∧o.cls= .type "StopIteration")→E (.ref e) {s with heap:=h'}):wpAny (model prog w) A (Builtin.SmallTypes.nextOf (.ref it)) Q E s:=by
 obtain ⟨o,ho,hc,hd⟩:=id hit;obtain ⟨ol,hol,_,nl,hdl⟩:=ht;unfold Builtin.SmallTypes.nextOf;refine An (Dt (name:=Str.ofString "__next__") hit.typeIs Ed (Et Ed hit.typeIs F.entry_tuple_iterator_next ?_ (F.args_tuple_iterator_next_1 _)));show wpAny _ _ (field (.ref it) 0>>=_) _ _ s;refine An (C4 ho hd (x:= .ref t) rfl ?_);show wpAny _ _ (if (Value.ref t==Value.none)=true then _ else _) _ _ s;rw [if_neg (show ¬ ((Value.ref t==Value.none)=true) from Ai)]
 show wpAny _ _ (field (.ref it) 1>>=_) _ _ s;refine An (C4 ho hd (x:= .int i 0) rfl ?_);show wpAny _ _ (seqItems? (.ref t)>>=_) _ _ s;refine An (Dv hol hdl ?_);simp only [E9,hx];refine An (wpAny_rule (An (wpAny_setField ho hd (by simp) ?_)));show wpAny _ _ (newExc (.type "StopIteration") []>>=_) _ _ _
 refine An ?_;simp only [newExc,newTuple];refine An (Dr ?_ (by size_fits))
 refine An (m:=firstArgMember _ _) (wpAny_of_eq (a:=Value.none) (by first | rfl | (simp only [firstArgMember];rfl)) ?_);refine Dr ?_ (by size_fits)
 simp only [raiseNew];refine An (wpAny_handled ?_);first | rw [show A.in1.handled=none from hh] | rw [hh]
 refine An (A9 (wpAny_throw (hE _ _ (((Heap.SameBut.update ..).extBut.push _).push _) ⟨_,Bk _ rfl,rfl⟩)))
structure ZipAt (z TI TO i1 i2 l1 l2:Ae) (i:Nat) (h:Heap):Prop where
 hz:IsZip h z TI TO .none
 hTI:IsPair h TI (.ref i1) (.ref i2)
 hTO:∃ a b,IsPair h TO a b
 h1:h.IsTupleIter i1 l1 i
 h2:h.IsTupleIter i2 l2 i
theorem QT {z TI TO i1 i2 l1 l2:Ae} {i:Nat} {xs ys:Array Ac} {x y:Ac} {Q:Option Ac→Af→Prop} (D:ZipApart z TI TO i1 i2 l1 l2) (Z:ZipAt z TI TO i1 i2 l1 l2 i s.heap)
  (hl1:s.heap.IsTuple l1 xs) (hl2:s.heap.IsTuple l2 ys) (hx:xs[i]?=some x) (hy:ys[i]?=some y)
  (hQ:∀ h',IsZip h' z TI TO (rawInt s.heap.objs.size)→IsPair h' TO x y→h'.IsTupleIter i1 l1 (i+1)→h'.IsTupleIter i2 l2 (i+1)→IsPair h' s.heap.objs.size x y→h'.objs.size=s.heap.objs.size+1→
   (∀ c o,c≠z→c≠TO→c≠i1→c≠i2→s.heap.get? c=some o→h'.get? c=some o)→Q (some (.ref s.heap.objs.size)) {s with heap:=h'}):
  wpAny (model prog w) A (pyNext (.ref z)) Q E s:=by
 obtain ⟨hz,hTI,⟨a,b,hTO⟩,h1,h2⟩:=Z;have hT:s.TypeIs (.ref z) "zip":=⟨_,hz,rfl⟩;unfold pyNext;refine An (wpAny_attempt (Dt (name:=Str.ofString "__next__") hT F.slot_zip_next (Et F.slot_zip_next hT F.entry_zip_next ?_ (F.args_zip_next_1 _))));show wpAny _ _ (field (.ref z) 2>>=_) _ _ _;refine An (C4 hz rfl (x:= .bool false) rfl ?_);show wpAny _ _ (field (.ref z) 3>>=_) _ _ _;refine An (C4 hz rfl (x:= .ref TI) rfl ?_);refine An (Dv hTI rfl ?_);show wpAny _ _ (Builtin.SmallTypes.ownedTupleIsFree (.ref z)>>=_) _ _ _;refine An ?_;unfold Builtin.SmallTypes.ownedTupleIsFree;refine An (C4 hz rfl (x:= .none) rfl (A9 ?_));simp only [if_true];refine An (wpAny_rule ?_);refine An (C4 hz rfl (x:= .ref TO) rfl ?_);refine An (Dz hz (by simp) fun g1 hz1 s1=>?_)
 replace hz1:IsZip g1 z TI TO .ellipsis:=hz1
 refine An ?_;simp only [List.zipIdx_cons,List.zipIdx_nil,Ei,List.forIn_nil];refine An (An (wpAny_onRaise ?_));show wpAny _ _ (Builtin.SmallTypes.nextOf (.ref i1)>>=_) _ _ _;refine An (Vz (h1.extBut s1.extBut D.i1z) (hl1.extBut s1.extBut D.l1z) hx fun g2 k2 s2=>A9 ?_);have hTO2:IsPair g2 TO a b:=s2.extBut _ _ D.TOi1 (s1.extBut _ _ D.TOz hTO);refine An (Dv hTO2 rfl ?_);refine An (wpAny_updateSeq_pair hTO2 fun g3 hTO3 s3=>?_)
 replace hTO3:IsPair g3 TO x b:=hTO3
 refine An (wpAny_letGo (A9 ?_));refine An (An (wpAny_onRaise ?_));show wpAny _ _ (Builtin.SmallTypes.nextOf (.ref i2)>>=_) _ _ _;refine An (Vz (((h2.extBut s1.extBut D.i2z).extBut s2.extBut D.i12.symm).extBut s3.extBut D.TOi2.symm) (((hl2.extBut s1.extBut D.l2z).extBut s2.extBut D.l2i1).extBut s3.extBut D.l2TO) hy fun g4 k4 s4=>A9 ?_);have hTO4:IsPair g4 TO x b:=s4.extBut _ _ D.TOi2 hTO3;refine An (Dv hTO4 rfl ?_);refine An (wpAny_updateSeq_pair hTO4 fun g5 hTO5 s5=>?_)
 replace hTO5:IsPair g5 TO x y:=hTO5
 refine An (wpAny_letGo (A9 (A9 ?_)));refine An (Dv hTO5 rfl ?_);refine An (wpAny_newTuple ?_);have e5:g5.objs.size=s.heap.objs.size:=by rw [s5.1,s4.1,s3.1,s2.1,s1.1]
 have z5:IsZip g5 z TI TO .ellipsis:=s5.extBut _ _ D.TOz.symm (s4.extBut _ _ D.i2z.symm (s3.extBut _ _ D.TOz.symm (s2.extBut _ _ D.i1z.symm hz1)));have k5:∀ c o,c≠z→c≠TO→c≠i1→c≠i2→s.heap.get? c=some o→g5.get? c=some o:=fun c o c1 c2 c3 c4 e=>s5.extBut _ _ c2 (s4.extBut _ _ c4 (s3.extBut _ _ c2 (s2.extBut _ _ c3 (s1.extBut _ _ c1 e))));have m1:g5.IsTupleIter i1 l1 (i+1):=((k2.extBut s3.extBut D.TOi1.symm).extBut s4.extBut D.i12).extBut s5.extBut D.TOi1.symm;have m2:g5.IsTupleIter i2 l2 (i+1):=k4.extBut s5.extBut D.TOi2.symm;have zlt:z<g5.objs.size:=Bf z5;show wpAny _ _ (Builtin.SmallTypes.ownedTupleHandOut (.ref z) (.ref g5.objs.size)>>=_) _ _ _;refine An ?_;unfold Builtin.SmallTypes.ownedTupleHandOut;have z6:IsZip (g5.push {cls:= .type "tuple",data:= .seq #[x,y]}) z TI TO .ellipsis:=As _ z5;refine An (Dz z6 (by simp) fun g7 z7 s7=>?_)
 replace z7:IsZip g7 z TI TO (rawInt g5.objs.size):=z7
 refine Dz z7 (by simp) fun g8 z8 s8=>?_
 replace z8:IsZip g8 z TI TO (rawInt g5.objs.size):=z8
 have up:∀ c o,c≠z→g5.get? c=some o→g8.get? c=some o:=fun c o c1 e=>s8.extBut _ _ c1 (s7.extBut _ _ c1 (As _ e));have t8:IsPair g8 g5.objs.size x y:=s8.extBut _ _ (Fe zlt) (s7.extBut _ _ (Fe zlt) (Bk _ rfl));have n8:g8.objs.size=g5.objs.size+1:=by rw [s8.1,s7.1,Dk]
 rw [e5] at z8 t8 n8;refine A9 ⟨_,rfl,?_⟩;refine A9 ?_;show Q (some (.ref g5.objs.size)) _;rw [e5];exact hQ g8 z8 (up _ _ D.TOz hTO5) (m1.at fun o e=>up _ o D.i1z e) (m2.at fun o e=>up _ o D.i2z e) t8 n8 fun c o c1 c2 c3 c4 e=>up c o c1 (k5 c o c1 c2 c3 c4 e)
theorem qbg {z TI TO i1 i2 l1 l2:Ae} {i:Nat} {xs ys:Array Ac} {Q:Option Ac→Af→Prop} (hh:A.handled=none) (D:ZipApart z TI TO i1 i2 l1 l2) (Z:ZipAt z TI TO i1 i2 l1 l2 i s.heap)
  (hl1:s.heap.IsTuple l1 xs) (hl2:s.heap.IsTuple l2 ys) (hend:xs[i]?=none∨ys[i]?=none)
  (hQ:∀ h',(∀ c o,c≠z→c≠TO→c≠i1→c≠i2→s.heap.get? c=some o→h'.get? c=some o)→Q none {s with heap:=h'}):wpAny (model prog w) A (pyNext (.ref z)) Q E s:=by
 obtain ⟨hz,hTI,⟨a,b,hTO⟩,h1,h2⟩:=Z;have hT:s.TypeIs (.ref z) "zip":=⟨_,hz,rfl⟩;unfold pyNext;have fin:∀ h' e,(∀ c o,c≠z→c≠TO→c≠i1→c≠i2→s.heap.get? c=some o→h'.get? c=some o)→(∃ o,h'.get? e=some o∧o.cls= .type "StopIteration")→
   wpAny (model prog w) A (do if ← isInstance (.ref e) (.type "StopIteration") then pure none else throw (.ref e)) Q E {s with heap:=h'}:=fun h' e hk ⟨o,ho,hc⟩=>
  An (wpAny_isInstance (T:="StopIteration") (b:=true) ⟨o,ho,hc⟩ isSubtype_stop (A9 (hQ _ hk)))
 refine An (wpAny_attempt (Dt (name:=Str.ofString "__next__") hT F.slot_zip_next (Et F.slot_zip_next hT F.entry_zip_next ?_ (F.args_zip_next_1 _))));show wpAny _ _ (field (.ref z) 2>>=_) _ _ _;refine An (C4 hz rfl (x:= .bool false) rfl ?_);show wpAny _ _ (field (.ref z) 3>>=_) _ _ _;refine An (C4 hz rfl (x:= .ref TI) rfl ?_);refine An (Dv hTI rfl ?_);show wpAny _ _ (Builtin.SmallTypes.ownedTupleIsFree (.ref z)>>=_) _ _ _;refine An ?_;unfold Builtin.SmallTypes.ownedTupleIsFree;refine An (C4 hz rfl (x:= .none) rfl (A9 ?_));simp only [if_true];refine An (wpAny_rule ?_);refine An (C4 hz rfl (x:= .ref TO) rfl ?_);refine An (Dz hz (by simp) fun g1 hz1 s1=>?_)
 replace hz1:IsZip g1 z TI TO .ellipsis:=hz1
 refine An ?_;simp only [List.zipIdx_cons,List.zipIdx_nil,Ei,List.forIn_nil];refine An (An (wpAny_onRaise ?_));show wpAny _ _ (Builtin.SmallTypes.nextOf (.ref i1)>>=_) _ _ _;cases hx:xs[i]? with
 | none=>
  refine An (yh hh (h1.extBut s1.extBut D.i1z) (hl1.extBut s1.extBut D.l1z) hx fun g2 e s2 he=>?_);obtain ⟨oe,hoe,hce⟩:=he;have z2:IsZip g2 z TI TO .ellipsis:=s2 _ _ D.i1z.symm hz1;have ez:e≠z:=fun q=>by subst q;rw [z2] at hoe;cases hoe;simp at hce
  exact Dz z2 (by simp) fun g3 _ s3=>fin g3 e (fun c o c1 _ c3 _ q=>s3.extBut _ _ c1 (s2 _ _ c3 (s1.extBut _ _ c1 q))) ⟨oe,s3.extBut _ _ ez hoe,hce⟩
 | some x=>
  have hy:ys[i]?=none:=by rcases hend with h | h;rw [hx] at h;cases h;exact h
  refine An (Vz (h1.extBut s1.extBut D.i1z) (hl1.extBut s1.extBut D.l1z) hx fun g2 k2 s2=>A9 ?_);have hTO2:IsPair g2 TO a b:=s2.extBut _ _ D.TOi1 (s1.extBut _ _ D.TOz hTO);refine An (Dv hTO2 rfl ?_);refine An (wpAny_updateSeq_pair hTO2 fun g3 hTO3 s3=>?_);refine An (wpAny_letGo (A9 ?_));refine An (An (wpAny_onRaise ?_));show wpAny _ _ (Builtin.SmallTypes.nextOf (.ref i2)>>=_) _ _ _;refine An (yh hh (((h2.extBut s1.extBut D.i2z).extBut s2.extBut D.i12.symm).extBut s3.extBut D.TOi2.symm) (((hl2.extBut s1.extBut D.l2z).extBut s2.extBut D.l2i1).extBut s3.extBut D.l2TO) hy fun g4 e s4 he=>?_);obtain ⟨oe,hoe,hce⟩:=he;have z4:IsZip g4 z TI TO .ellipsis:=s4 _ _ D.i2z.symm (s3.extBut _ _ D.TOz.symm (s2.extBut _ _ D.i1z.symm hz1));have ez:e≠z:=fun q=>by subst q;rw [z4] at hoe;cases hoe;simp at hce
  exact Dz z4 (by simp) fun g5 _ s5=>fin g5 e (fun c o c1 c2 c3 c4 q=>s5.extBut _ _ c1 (s4 _ _ c4 (s3.extBut _ _ c2 (s2.extBut _ _ c3 (s1.extBut _ _ c1 q))))) ⟨oe,s5.extBut _ _ ez hoe,hce⟩
end
section
variable {X:Cx} {pins:List (Ae×Obj)} {σ:St} {H:Hp} {s:Af} {h':Heap}
theorem Inv.turns {t':Nat} {ch:List Ae} (I:Inv X pins σ H s) (hf:∀ b∈ch,VY X pins H b) (k:∀ b o,b∉ch→s.heap.get? b=some o→h'.get? b=some o):Inv X pins σ H {s with heap:=h',toks:=t'}:=by
 have nit:∀ b u,H b=some u→b∉ch:=fun b u e z=>by rw [(hf b z).1] at e;cases e
 refine I.step (g':=s.gens) (d':=s.drawn) (ch:=ch) (fun b hb=>?_) (fun b o _ _ hc e _=>k b o hc e) (fun b o _ _ hc e _=>⟨o.slots,k b o hc e⟩) (fun _ _ _ _ n=>n)
  (fun b o hc e=>⟨o,k b o hc e⟩) (fun _ _ e=>e) (fun _ _ _ e=>e) (fun b ps e=>⟨#[],by rw [e];simp⟩) (fun m hm=>?_) (fun b u e=>?_) I.bare
 ·obtain ⟨_,f1,_,f3,f4,f5⟩:=hf b hb;exact ⟨f3,f1,f4,f5⟩
 ·obtain ⟨o,es,ep,ho,r⟩:=hm;exact ⟨o,es,ep,k _ o (fun z=>(hf _ z).2.1 rfl) ho,r⟩
 ·refine (I.hok b u e).stay (fun c v hc q=>k c v ?_ q) (fun _ q=>q) fun _ _ q=>q;rcases hc with z | z
  ·rw [z];exact nit b u e
  ·exact nit c _ z
end
def Itz (K:Frag) (a b:Ae):It:=
 ⟨fun i H=>∃ xs ys x y,SqT K H a xs∧SqT K H b ys∧xs[i]?=some x∧ys[i]?=some y,
  fun i H v H'=>∃ p x y,H p=none∧v= .ref p∧(∀ xs,SqT K H a xs→xs[i]?=some x)∧(∀ ys,SqT K H b ys→ys[i]?=some y)∧H'=upd H p (.tup [x,y]),
  fun i H=>∃ xs ys,SqT K H a xs∧SqT K H b ys∧(xs.length≤i∨ys.length≤i)⟩
theorem qbo {P:Program} {w:World} {K:Frag} {elts:List Expr} {c:Nat} {pos:Pos} {z TI TO i1 i2 a b:Ae} (D:ZipApart z TI TO i1 i2 a b):
  Turn P w K (.Tuple elts c pos) (Itz K a b) [z,TI,TO,i1,i2] z (fun i h=>ZipAt z TI TO i1 i2 a b i h) where
 mem:=by simp
 obj:=fun i h st x hx=>by
  obtain ⟨hz,hTI,⟨p,q,hTO⟩,⟨o1,e1,c1,d1⟩,⟨o2,e2,c2,d2⟩⟩:=st;simp only [Av,Be,or_false] at hx;rcases hx with rfl | rfl | rfl | rfl | rfl
  ·exact ⟨_,hz,fun v e=>by cases e⟩
  ·exact ⟨_,hTI,fun v e=>by cases e⟩
  ·exact ⟨_,hTO,fun v e=>by cases e⟩
  ·exact ⟨o1,e1,fun v e=>by rw [d1] at e;cases e⟩
  ·exact ⟨o2,e2,fun v e=>by rw [d2] at e;cases e⟩
 keep:=fun i h h' st k=>by
  obtain ⟨hz,hTI,⟨p,q,hTO⟩,h1,h2⟩:=st;exact ⟨k z (by simp) _ hz,k TI (by simp) _ hTI,⟨p,q,k TO (by simp) _ hTO⟩,h1.at fun o e=>k i1 (by simp) o e,h2.at fun o e=>k i2 (by simp) o e⟩
 item:=by
  intro X hP hw hK hc i pins s σ H E I hf st hg;subst hP hw hK;obtain ⟨xs,ys,x,y,hq1,hq2,hx,hy⟩:=hg;obtain ⟨its,rv,p,hz⟩:=I.tuple hq1;obtain ⟨jts,rw',q,hz'⟩:=I.tuple hq2;obtain ⟨u,hu,ru⟩:=rv.get hx;obtain ⟨v,hv,rr⟩:=rw'.get hy;refine QT D st (show s.heap.IsTuple a its.toArray from p) (show s.heap.IsTuple b jts.toArray from q) (x:=u) (y:=v) (by simpa using hu) (by simpa using hv) fun h1 z1 t1 k1 k2 pr sz kk=>?_
  refine ⟨_,rfl,wpAny_letOwnedTupleGo_zip z1 fun h2 z2 sb=>?_⟩;have kk2:∀ c o,c∉[z,TO,i1,i2]→s.heap.get? c=some o→h2.get? c=some o:=fun c o hc e=>by
   simp only [Av,Be,or_false,not_or] at hc;exact sb.extBut _ _ hc.1 (kk c o hc.1 hc.2.1 hc.2.2.1 hc.2.2.2 e)
  have I1:Inv X pins σ H {s with heap:=h2}:=I.turns (t':=s.toks) (ch:=[z,TO,i1,i2]) (fun b hb=>hf b (by simp only [Av,Be,or_false] at hb ⊢;rcases hb with rfl | rfl | rfl | rfl <;> simp)) kk2
  have hzlt:z<s.heap.objs.size:=Bf st.hz;have pr2:IsPair h2 s.heap.objs.size u v:=sb.extBut _ _ (Fe hzlt) pr;have f:=I.fpOk (b:=s.heap.objs.size) (H':=H) (Aw _) (I.hok.fresh (Aw _));have I2:Inv X pins σ (upd H s.heap.objs.size (.tup [x,y])) {s with heap:=h2}:=I1.trackN f.1 f.2.1 (Heap.get?_none_of_le I.sz) f.2.2.2.2.1 f.2.2.2.2.2 ⟨by simp [Ag],[u,v],.cons ru (.cons rr .nil),⟨_,pr2,rfl,_,rfl⟩⟩
  refine ⟨.ref s.heap.objs.size,_,I2,rfl,⟨s.heap.objs.size,x,y,f.1,rfl,fun zs hzs=>by rw [I.tuple_inj hzs hq1];exact hx,fun zs hzs=>by rw [I.tuple_inj hzs hq2];exact hy,rfl⟩,?_,fun b hb=>?_⟩
  ·exact ⟨z2,sb.extBut _ _ D.TIz (kk _ _ D.TIz D.TITO D.TIi1 D.TIi2 st.hTI),⟨u,v,sb.extBut _ _ D.TOz t1⟩,k1.extBut sb.extBut D.i1z,k2.extBut sb.extBut D.i2z⟩
  ·rw [qG (fun e=>?_)]
   ·exact (hf b hb).1
   ·have lt:b<s.heap.objs.size:=by
     obtain ⟨hz,hTI,⟨p,q,hTO⟩,⟨o1,e1,c1,d1⟩,⟨o2,e2,c2,d2⟩⟩:=st;simp only [Av,Be,or_false] at hb;rcases hb with rfl | rfl | rfl | rfl | rfl
     ·exact Bf hz
     ·exact Bf hTI
     ·exact Bf hTO
     ·exact Bf e1
     ·exact Bf e2
    exact Bz lt e
 done:=by
  intro X hP hw hK hc i pins s σ H E I hf st hg;subst hP hw hK;obtain ⟨xs,ys,hq1,hq2,hl⟩:=hg;obtain ⟨its,rv,p,hz⟩:=I.tuple hq1;obtain ⟨jts,rw',q,hz'⟩:=I.tuple hq2;have l1:=rv.length;have l2:=rw'.length;refine qbg (I.ok.hd hc) D st (show s.heap.IsTuple a its.toArray from p) (show s.heap.IsTuple b jts.toArray from q) (by simp;omega) fun h1 kk=>⟨rfl,?_⟩
  refine I.turns (t':=s.toks) (ch:=[z,TO,i1,i2]) (fun b hb=>hf b (by simp only [Av,Be,or_false] at hb ⊢;rcases hb with rfl | rfl | rfl | rfl <;> simp)) fun c o hc e=>?_
  simp only [Av,Be,or_false,not_or] at hc;exact kk c o hc.1 hc.2.1 hc.2.2.1 hc.2.2.2 e
 self:=fun _ _ _ _ _ st h=>wpAny_pyIter_zip st.hz h
abbrev tzA (h:Heap) (l:Ae):Heap:=h.push {cls:= .type "tuple_iterator",data:= .fields #[.ref l,.int 0 0]}
abbrev tzP (h:Heap) (u v:Ac):Heap:=h.push {cls:= .type "tuple",data:= .seq #[u,v]}
abbrev tz2 (h:Heap) (l m:Ae):Heap:=tzA (tzA h l) m
abbrev tz4 (h:Heap) (l m:Ae):Heap:=tzP (tzP (tz2 h l m) (.ref h.objs.size) (.ref (tzA h l).objs.size)) .none .none
abbrev tz5 (h:Heap) (l m:Ae):Heap:=(tz4 h l m).push {cls:= .type "zip",data:= .fields #[.none,.bool false,.bool false,.ref (tz2 h l m).objs.size,.ref (tzP (tz2 h l m) (.ref h.objs.size) (.ref (tzA h l).objs.size)).objs.size]}
theorem ZE (l m:Ae) (xs ys:Array Ac):
  Meets (Builtin.«zip.__new__» ⟨[.type "zip",.ref l,.ref m],[]⟩) (fun _ R s=>s.heap.IsTuple l xs∧s.heap.IsTuple m ys∧R (.ok (.ret (.ref (tz4 s.heap l m).objs.size))) {s with heap:=tz5 s.heap l m}):=
 .of_wp fun prog w A R s h=>by
  obtain ⟨hp,g,d,tk,os⟩:=s;obtain ⟨hl,hm,h⟩:=h;have hsub:=sub_zip;have h1:Heap.IsTuple (Shared.heap ⟨hp,g,d,tk,os⟩) l xs:=hl;have h2:Heap.IsTuple (Shared.heap ⟨tzA hp l,g,d,tk,os⟩) m ys:=by
   obtain ⟨o,e,c,n,q⟩:=hm;exact ⟨o,As _ e,c,n,q⟩
  wp_walk using E6 h1,E6 h2
  exact ⟨_,rfl,h⟩
section
variable {prog:Program} {w:World} {A:Around} {E:Ac→Af→Prop} {s:Af}
theorem qa6 {l m:Ae} {xs ys:Array Ac} {Q:Ac→Af→Prop} (hl:s.heap.IsTuple l xs) (hm:s.heap.IsTuple m ys)
  (h:∀ h',ZipAt (s.heap.objs.size+4) (s.heap.objs.size+2) (s.heap.objs.size+3) s.heap.objs.size (s.heap.objs.size+1) l m 0 h'→(∀ c o,s.heap.get? c=some o→h'.get? c=some o)→Q (.ref (s.heap.objs.size+4)) {s with heap:=h'}):
  wpAny (model prog w) A (call (.type "zip") [.ref l,.ref m]) Q E s:=by
 refine callType_new F.called_zip O0 (F.typeCall_zip_2 _ _) (F.newCall_zip_2 _ _) (fun obj=>F.args_object_init_3 obj _ _) F.entry_zip_new (ZE l m xs ys) ⟨hl,hm,?_⟩;have n1:(tzA s.heap l).objs.size=s.heap.objs.size+1:=Dk ..;have n2:(tz2 s.heap l m).objs.size=s.heap.objs.size+2:=by rw [Dk,n1]
 have n3:(tzP (tz2 s.heap l m) (.ref s.heap.objs.size) (.ref (tzA s.heap l).objs.size)).objs.size=s.heap.objs.size+3:=by rw [Dk,n2]
 have n4:(tz4 s.heap l m).objs.size=s.heap.objs.size+4:=by rw [Dk,n3]
 have g5:(tz5 s.heap l m).get? (tz4 s.heap l m).objs.size=some _:=Bk _ rfl;have up4:∀ c o,(tz4 s.heap l m).get? c=some o→(tz5 s.heap l m).get? c=some o:=fun c o e=>As _ e;have up3:∀ c o,(tzP (tz2 s.heap l m) (.ref s.heap.objs.size) (.ref (tzA s.heap l).objs.size)).get? c=some o→(tz5 s.heap l m).get? c=some o:=fun c o e=>up4 c o (As _ e);have up2:∀ c o,(tz2 s.heap l m).get? c=some o→(tz5 s.heap l m).get? c=some o:=fun c o e=>up3 c o (As _ e);have up1:∀ c o,(tzA s.heap l).get? c=some o→(tz5 s.heap l m).get? c=some o:=fun c o e=>up2 c o (As _ e);have g4:=up4 _ _ (Bk _ (o:={cls:= .type "tuple",data:= .seq #[.none,.none]}) rfl);have g3:=up3 _ _ (Bk _ (o:={cls:= .type "tuple",data:= .seq #[.ref s.heap.objs.size,.ref (tzA s.heap l).objs.size]}) rfl);have g2:=up2 _ _ (Bk _ (o:={cls:= .type "tuple_iterator",data:= .fields #[.ref m,.int 0 0]}) rfl);have g1:=up1 _ _ (Bk _ (o:={cls:= .type "tuple_iterator",data:= .fields #[.ref l,.int 0 0]}) rfl);show _∧_;rw [n2,n3,n4] at g5;rw [n1,n2] at g3;rw [n3] at g4;rw [n1] at g2;rw [n4];exact ⟨⟨_,g5,rfl⟩,h _ ⟨g5,g3,⟨_,_,g4⟩,⟨_,g1,rfl,rfl⟩,⟨_,g2,rfl,rfl⟩⟩ fun c o e=>up1 c o (As _ e)⟩
end
theorem qis:bootBuiltins "zip"=some (.type "zip"):=∅
def iZip (K:Frag) (ta:TA):TI:=fun σ H R=>ta σ H fun vs H1=>∃ a b:Ae,vs=[.ref a,.ref b]∧(∃ xs,SqT K H1 a xs)∧(∃ ys,SqT K H1 b ys)∧R (Itz K a b) H1
theorem qc9 {X:Cx} {K:Frag} {elts:List Expr} {c:Nat} {tpos:Pos} {a b:Expr} {ta:TA} {p pos:Pos} (hK:X.K=K) (hm:X.mg "zip"=none) (ha:PA X [a,b] ta) (hg:Gl X "zip":=by rfl)
  (hs:starEach [a,b] X.env=[(false,eval a X.env),(false,eval b X.env)]:=by rfl) (hs2:starEach [b] X.env=[(false,eval b X.env)]:=by rfl):PI X (.Tuple elts c tpos) (.Call (.Name "zip" p) [a,b] [] pos) (iZip K ta):=by
 intro pins s σ H R I h;subst hK;refine Call_ (WK I hg hm qis (PyProof.Rows.callWith_type1 (thn (ha pos pins s σ H _ I h) fun us s1 ⟨vs,H1,I1,r1,q1⟩=>?_) (by rw [hs,hs2]) (by rw [hs2];rfl)))
 obtain ⟨l,m,e,⟨xs,hx⟩,⟨ys,hy⟩,q⟩:=q1;subst e;cases r1 with
 | cons r rr=>
  cases rr with
  | cons r' rr=>
   cases rr;cases r;cases r';obtain ⟨its,rv,pl,hz⟩:=I1.tuple hx;obtain ⟨jts,rw',pm,hz'⟩:=I1.tuple hy;refine qa6 (show s1.heap.IsTuple l its.toArray from pl) (show s1.heap.IsTuple m jts.toArray from pm) fun h' Z k=>?_;have ll:l<s1.heap.objs.size:=by obtain ⟨o,e,_⟩:=pl;exact Bf e
   have lm:m<s1.heap.objs.size:=by obtain ⟨o,e,_⟩:=pm;exact Bf e
   have D:ZipApart (s1.heap.objs.size+4) (s1.heap.objs.size+2) (s1.heap.objs.size+3) s1.heap.objs.size (s1.heap.objs.size+1) l m:=by
    have na:∀ (n i j:Nat),i≠j→n+i≠n+j:=fun n i j h=>⋯;have nl:∀ (n k i:Nat),k<n→k≠n+i:=fun n k i h=>⋯;exact ⟨na _ 2 4 O0,na _ 3 4 O0,na _ 0 4 O0,na _ 1 4 O0,na _ 2 3 O0,na _ 2 0 O0,na _ 2 1 O0,na _ 3 0 O0,na _ 3 1 O0,na _ 0 1 O0,
     nl _ _ 4 ll,nl _ _ 3 ll,nl _ _ 0 ll,nl _ _ 1 ll,nl _ _ 4 lm,nl _ _ 3 lm,nl _ _ 0 lm,nl _ _ 1 lm⟩
   refine wpAny_pyIter_zip Z.hz ⟨_,_,_,_,H1,rfl,I1.kept (t':=s1.toks) k,qbo D,Z,fun b hb=>?_,q⟩;have hb':s1.heap.objs.size≤b:=by
    simp only [Av,Be,or_false] at hb;rcases hb with e | e | e | e | e <;> rw [e] <;> first | exact Nat.le_add_right _ _ | exact Aw _
   exact I1.fpOk hb' (I1.hok.fresh hb')
section
variable {κ:Type} [DecidableEq κ]
def vp (l:List κ) (k:κ):List κ:=if k∈l then l else l++[k]
def vy (ks:List κ):List κ:=ks.foldl vp []
theorem QX (ks:List κ) (k:κ):vy (ks++[k])=vp (vy ks) k:=by unfold vy;rw [List.foldl_append];rfl
set_option tactic.hygienic true in
theorem VP {l:List κ} {k x:κ}:x∈vp l k↔x∈l∨x=k:=by
 unfold vp;split
 ·rename_i h;exact ⟨.inl,fun q=>q.elim id fun e=>e▸h⟩
 ·simp
theorem addU_len (l:List κ) (k:κ):(vp l k).length=if k∈l then l.length else l.length+1:=by
 unfold vp;split <;> simp
theorem WP:∀ (ks l:List κ),(ks.foldl vp l).length≤l.length+ks.length
 | [],l=>Aw _
 | k::r,l=>by
  have h:=WP r (vp l k);have e:=addU_len l k;rw [C5,Ak];split at e <;> omega
theorem Z5 (ks:List κ):(vy ks).length≤ks.length:=by have:=WP ks [];simpa [vy] using this
theorem XO:∀ (ks l:List κ),(∃ k∈ks,k∈l)∨¬ ks.Nodup→(ks.foldl vp l).length<l.length+ks.length
 | [],l,h=>by rcases h with ⟨k,hk,_⟩ | h;cases hk;exact absurd List.nodup_nil h
 | k::r,l,h=>by
  rw [C5,Ak]
  by_cases hk:k∈l
  ·have e:(vp l k).length=l.length:=by rw [addU_len,if_pos hk]
   have:=WP r (vp l k);omega
  ·have e:(vp l k).length=l.length+1:=by rw [addU_len,if_neg hk]
   have:=XO r (vp l k) (by
    rcases h with ⟨x,hx,hl⟩ | h
    ·rcases Av.mp hx with rfl | hx
     ·exact absurd hl hk
     ·exact .inl ⟨x,hx,VP.mpr (.inl hl)⟩
    ·rw [Cy] at h
     by_cases hr:k∈r
     ·exact .inl ⟨k,hr,VP.mpr (.inr rfl)⟩
     ·exact .inr fun q=>h ⟨hr,q⟩)
   omega
theorem XQ:∀ (ks l:List κ),ks.Nodup→(∀ k∈ks,k∉l)→(ks.foldl vp l).length=l.length+ks.length
 | [],l,_,_=>rfl
 | k::r,l,h,hd=>by
  rw [C5,Ak];have hk:k∉l:=hd k Ay;have e:(vp l k).length=l.length+1:=by rw [addU_len,if_neg hk]
  rw [Cy] at h;have:=XQ r (vp l k) h.2 fun x hx q=>(VP.mp q).elim (hd x (Au _ hx)) fun e=>h.1 (e▸hx);omega
theorem qbn (ks:List κ):((vy ks).length=ks.length)↔ks.Nodup:=by
 constructor
 ·intro h
  by_cases q:ks.Nodup
  ·exact q
  ·have:=XO ks [] (.inr q);unfold vy at h;simp at this;omega
 ·intro h;have:=XQ ks [] h fun _ _ q=>nomatch q;simpa [vy] using this
end
section
variable {prog:Program} {w:World} {κ:Type} [DecidableEq κ] {knd:PySem.KeyKind prog w κ} {A:Around}
abbrev vW (knd:PySem.KeyKind prog w κ) (h:Heap) (a:Ae) (ks:List κ):Prop:=h.SetOf knd a (fun k=>decide (k∈vy ks)) (vy ks).length
theorem vW.at' {h h':Heap} {a:Ae} {ks:List κ} (q:vW knd h a ks) (k:∀ o,h.get? a=some o→h'.get? a=some o):vW knd h' a ks:=by
 obtain ⟨o,es,ep,t,ho,r⟩:=q;exact ⟨o,es,ep,t,k o ho,r⟩
theorem qco {R:Result→Af→Prop} {it D:Ae} {fp wr:List Ae} {G:Array GenState→Array GenState→Prop} {ks:List κ} {P:Nat→Ac→Prop} {St:Nat→Af→Prop}
  (W:WalksS prog w A.in1 it fp wr G ks.length P St) (hD:D∉fp) (hP:∀ i v,P i v→∃ k,ks[i]?=some k∧knd.is k v=true∧v.scannable=true) (hb:ks.length+1<scanBound):
  ∀ (m i:Nat) (s:Af),ks.length - i=m→i≤ks.length→St i s→vW knd s.heap D (ks.take i)→
   (∀ s',Moved (D::wr) G s s'→vW knd s'.heap D ks→R (.ok (.ret .none)) s')→codeAny (model prog w) A (.builtin "set.update.loop" ⟨[.ref D,.ref it],[]⟩) R s:=by
 have hDw:D∉wr:=fun q=>hD (W.sub _ q);have hin:∀ b∈wr,b∈D::wr:=fun b q=>Au _ q;intro m
 induction m with
 | zero=>
  intro i s hm hi st hS hR;have e:i=ks.length:=⋯;subst e;rw [Cu] at hS;refine codeAny_builtin PyProof.Rows.F.entry_set_update_loop ?_;rw [Around.under_plainId Dx _];show wpAny (model prog w) A.in1 (pyNext (.ref it)>>=_) _ _ s;exact An (W.done s _ _ st fun s' mv=>A9 (hR s' (mv.mono hin) (hS.at' fun o q=>mv.heap D o hDw q)))
 | succ m ih=>
  intro i s hm hi st hS hR;have lt:i<ks.length:=⋯;refine codeAny_builtin PyProof.Rows.F.entry_set_update_loop ?_;rw [Around.under_plainId Dx _];show wpAny (model prog w) A.in1 (pyNext (.ref it)>>=_) _ _ s;refine An (W.item i s _ _ lt st fun v s1 pv st1 mv=>?_);obtain ⟨k,hk,hkv,hsc⟩:=hP i v pv;have hS1:vW knd s1.heap D (ks.take i):=hS.at' fun o q=>mv.heap D o hDw q;show wpAny (model prog w) A.in1 (holding [v] (setAdd D v)>>=_) _ _ s1;refine An (Ds ?_);unfold setAdd;refine Ds (An (knd.pyHash hkv ?_));have few:(vy (ks.take i)).length+1<scanBound:=by
   have h1:=Z5 (ks.take i);rw [Bm] at h1;omega
  refine wpAny_setAddHashed_of (knd:=knd) (s:={s1 with toks:=s1.toks+1}) hkv hsc hS1 few fun h2 sb hS2=>?_
  have hS3:vW knd h2 D (ks.take (i+1)):=by
   have e:ks.take (i+1)=ks.take i++[k]:=by rw [Cg,hk];rfl
   unfold vW;rw [e,QX];refine SetOf_congr hS2 (fun x=>?_) ?_
   ·rw [Cf,Cb,Bj,Bj,Bj,VP]
   ·rw [addU_len]
    by_cases q:k∈vy (ks.take i) <;> simp [q]
  refine A9 ⟨plainId_quiet Dx _,ih (i+1) _ ⋯ lt (W.frame _ s1 _ _ st1 (Fb _) fun b q o e=>?_) hS3 fun s3 mv3 hS4=>?_⟩
  ·rw [sb.2 b fun z=>hD (z▸q)];exact e
  ·refine hR s3 (Moved.trans W.gtrans ((mv.mono hin).then_heap (Fb _) fun b o q e=>?_) mv3) hS4;rw [sb.2 b fun z=>q (z▸Ay)];exact e
end
section
variable {prog:Program} {w:World} {κ:Type} [DecidableEq κ] {knd:PySem.KeyKind prog w κ} {A:Around} {E:Ac→Af→Prop} {s:Af}
abbrev J8 (led:Bool):Obj:={cls:= .type "set",dict:=none,data:= .set #[] 0 (.fresh 0 0 led)}
theorem qa7 {t:Ae} {items:Array Ac} {ks:List κ} {Q:Ac→Af→Prop} (nh:A.handled=none) (ht:s.heap.IsTuple t items) (hlen:items.size=ks.length)
  (hk:∀ (i:Nat) (v:Ac),items[i]?=some v→∃ k,ks[i]?=some k∧knd.is k v=true∧v.scannable=true) (few:ks.length+1<scanBound)
  (h:∀ (h':Heap) (tk:Nat),vW knd h' s.heap.objs.size ks→(∀ b o,s.heap.get? b=some o→h'.get? b=some o)→Q (.ref s.heap.objs.size) {s with heap:=h',toks:=tk}):
  wpAny (model prog w) A (call (.type "set") [.ref t]) Q E s:=by
 obtain ⟨c1,c2,mro⟩:=F.called_set.mro;have made:=F.called_set.made;have sub:=F.called_set.sub;refine wpAny_call (codeAny_of_tree ?_);show wpAny (model prog w) _ (callAny (.type "set") _) _ _ _;refine A9 ⟨Code.quiet_builtin _ ∅,codeAny_builtin F.entry_type_call ?_⟩;rw [Around.under_plain (weight_type_call_type "set" [.ref t] []) rfl];have n1:=F.called_set.notType;have n2:=F.called_set.canCreate;have n3:=F.typeCall_set_1 (.ref t)
 repeat (any_goals (first | assumption | wp_step))
 refine E4 (code_set_new_1 (.ref t) (E:=E) (Q₁:=fun ob s1=>∃ led:Bool,ob= .ref s.heap.objs.size∧s1={s with heap:=s.heap.push (J8 led)}) fun led=>⟨led,rfl,rfl⟩) fun r s1 q=>?_
 cases r with
 | error e=>exact q
 | ok f1=>
  cases f1 with
  | ret ob=>
   obtain ⟨led,rfl,rfl⟩:=q;have new:(s.heap.push (J8 led)).get? s.heap.objs.size=some (J8 led):=Bk _ rfl;have hty:Shared.TypeIs {s with heap:=s.heap.push (J8 led)} (.ref s.heap.objs.size) "set":=⟨_,new,rfl⟩
   have i1:=F.called_set.init.lookup;have i2:=F.called_set.init.bind (.ref s.heap.objs.size)
   repeat (any_goals (first | assumption | wp_step))
   refine E4 (codeAny_call_builtin (R:=wants (fun r s2=>r= .none∧∃ h' tk,s2={s with heap:=h',toks:=tk}∧vW knd h' s.heap.objs.size ks∧∀ b o,s.heap.get? b=some o→h'.get? b=some o) E)
    F.called_set.init.plain F.entry_set_init (check_set_init_1 hty ?_)) fun r2 s2 q2=>?_
   ·obtain ⟨⟨oc,od,odt,osl⟩,ho,hc,n,hd⟩:=ht;simp only at hc hd;subst hc;subst hd;have ho1:(s.heap.push (J8 led)).get? t=some {cls:= .type "tuple",dict:=od,data:= .seq items n,slots:=osl}:=As _ ho;have j1:=F.sub_tuple_set;have j2:=F.sub_tuple_frozenset;have j3:(Value.type "tuple"==Value.type "dict")=false:=O0;have ht1:(s.heap.push (J8 led)).IsTuple t items:=⟨_,ho1,rfl,n,rfl⟩;unfold Builtin.«set.__init__» noKeywords Builtin.Frozenset.updateFrom;generalize hPI:pyIter=PI
    wp_walk
    subst hPI;refine E6 ht1 (An (wpAny_runValue ?_));have lt:t<s.heap.objs.size:=Bf ho;have nh3:A.in1.in1.in1.handled=none:=by simp [nh]
    have zs:(s.heap.push (J8 led)).objs.size=s.heap.objs.size+1:=Dk ..;have ne1:t≠(s.heap.push (J8 led)).objs.size:=by rw [zs];exact Bz (Nat.lt_succ_of_lt lt)
    have out:s.heap.objs.size∉[(s.heap.push (J8 led)).objs.size,t]:=by
     rw [zs,Av,A3,not_or];exact ⟨Bz (Nat.lt_succ_self _),Fe lt⟩
    have Wk:=(Walks.tuple (prog:=prog) (w:=w) nh3 _ t ne1 items).toS;rw [hlen] at Wk;refine qco (knd:=knd) (ks:=ks) Wk out hk few (ks.length - 0) 0 _ rfl (B2 _) ⟨⟨_,Bk _ rfl,rfl,rfl⟩,?tup⟩ ?start ?fin
    case tup=>
     exact ⟨_,As _ ho1,rfl,n,rfl⟩
    case start=>
     exact SetOf_congr ((setObjOf_fresh (knd:=knd) led).setOf (As _ new) (by unfold scanBound;omega)) (fun _=>rfl) rfl
    case fin=>
     intro s' mv hS;obtain ⟨h',g',d',tk',os'⟩:=s';have e1:g'=s.gens:=mv.gens;have e2:d'=s.drawn:=mv.drawn;have e3:os'=s.os:=mv.os;subst e1;subst e2;subst e3;refine A9 (A9 ⟨rfl,h',tk',rfl,hS,fun b o e=>?_⟩);have lb:=Bf e;refine mv.heap b o ?_ (As _ (As _ e));rw [Av,A3,not_or,zs];exact ⟨Bz lb,Bz (Nat.lt_succ_of_lt lb)⟩
   ·cases r2 with
    | error e=>exact q2
    | ok f2=>
     cases f2 with
     | ret r=>
      obtain ⟨rfl,h',tk,rfl,hS,kk⟩:=q2
      repeat (any_goals (first | assumption | wp_step))
      exact h _ _ hS kk
     | _=>exact q2.elim
  | _=>exact q.elim
end
def qe3 (P:Program) (w:World) (a:Ae) (ks:List Str):HO:= .ext fun h=>vW (zp P w) h a (ks.map fun k=>(Sum.inr k:Key))
section
variable {X:Cx}
theorem qa8 {K:Frag} (hK:X.K=K) (hc:X.calm=true):jN X (.type "set") (fun xs H Q=>∃ (a:Ae) (ks:List Str),xs=[.ref a]∧SqT K H a (ks.map V.str)∧ks.length≤100∧∀ p,H p=none→Q (.ref p) (upd H p (qe3 X.prog X.w p ks))):=by
 intro pins s σ H xs us Q I r h;subst hK;obtain ⟨a,ks,rfl,hq,hl,q⟩:=h;obtain ⟨u,rfl,ru⟩:=Je r;cases ru;obtain ⟨its,rv,p,hz⟩:=I.tuple hq;have e:=rv.length;rw [Aj] at e;refine qa7 (knd:=zp X.prog X.w) (ks:=ks.map fun k=>(Sum.inr k:Key)) (I.ok.hd hc) (show s.heap.IsTuple a its.toArray from p) (by simp [e]) (fun i v hv=>?_) (by simp [scanBound];omega) fun h' tk hS kk=>?_
 ·have hv':its[i]?=some v:=by simpa using hv
  cases hx:ks[i]? with
  | none=>
   have:its[i]?=none:=rv.none_of (by rw [Bt,hx];rfl)
   rw [this] at hv';cases hv'
  | some x=>
   obtain ⟨v',e1,r1⟩:=rv.get (i:=i) (x:= .str x) (by rw [Bt,hx];rfl)
   rw [hv'] at e1;cases e1;obtain ⟨t,rfl⟩:=r1;exact ⟨Sum.inr x,by rw [Bt,hx];rfl,wz _ _ _ _,rfl⟩
 ·have fr:H s.heap.objs.size=none:=I.hok.fresh (Aw _);refine ⟨.ref s.heap.objs.size,_,I.laid (o:=qe3 X.prog X.w s.heap.objs.size ks) (t':=tk) kk (Aw _) ⟨hS,?_,fun h1 h2 q1 k=>q1.at' k⟩,rfl,q _ fr⟩;obtain ⟨o,_,_,_,ho,_⟩:=hS;exact ⟨o,ho⟩
theorem qa9:jN X (.builtin "len") (fun xs H Q=>∃ (a:Ae) (ks:List Str),xs=[.ref a]∧H a=some (qe3 X.prog X.w a ks)∧ks.length≤100∧Q (.int ((vy ks).length:Nat)) H):=by
 intro pins s σ H xs us Q I r h;obtain ⟨a,ks,rfl,ha,hl,q⟩:=h;obtain ⟨u,rfl,ru⟩:=Je r;cases ru;obtain ⟨⟨o,es,ep,t,ho,hex,hd,_,_,hb,hf,hn⟩,_⟩:=I.hok a _ ha;have inj:∀ ks:List Str,(vy (ks.map fun k=>(Sum.inr k:Key))).length=(vy ks).length:=fun ks=>by
  have gen:∀ (ks l:List Str),((ks.map fun k=>(Sum.inr k:Key)).foldl vp (l.map fun k=>(Sum.inr k:Key)))=(ks.foldl vp l).map fun k=>(Sum.inr k:Key):=by
   intro ks
   induction ks with
   | nil=>intro l;rfl
   | cons k r ih=>
    intro l;rw [A4,C5,C5,← ih]
    congr 1
    unfold vp
    by_cases h:k∈l <;> simp [h]
  have g:=gen ks [];unfold vy;rw [Cj] at g;rw [g,Aj]
 rw [inj] at hn;have hle:=Z5 ks;refine call_len_set ho hex hd hf ⋯ ⟨.int es.size,H,I.tok _,⟨_,rfl⟩,?_⟩;rw [hn];exact q
end
section
variable {X:Cx} {K:Frag} {x:Str} {pos:Pos}
theorem pt_k {a:Expr} {ta:TE} (hK:X.K=K) (ha:PE X a ta) (he:∀ whole,isTrue a X.env whole=(do let v ← whole;standAt a.pos;holding [v] (truthy v)):=by intro _;rfl):
  PT X a (fun σ H Q=>ta σ H fun x H'=>∃ k,qi0 K x H' k∧Q k H'):=hK▸qcx ha he
def tGT (K:Frag) (l:List Str):TE:=fun _ H Q=>∀ a,(∀ H:Hp,SqT K H a (l.map V.str))→Q (.ref a) H
theorem wt {l:List Str} (h:∃ a,X.mg x=some (.ref a)∧∀ H:Hp,SqT K H a (l.map V.str)) (hg:Gl X x:=by rfl) (hd:(x==("__debug__":Str))=false:=by decide):PE X (.Name x pos) (tGT K l):=by
 obtain ⟨a,m,q⟩:=h;intro pins s σ H Q I h;exact Qr (v:= .ref a) hg m rfl hd pins s σ H Q I (h a q)
def tyD:Aa→String
 | .none=>"NoneType"
 | .bool _=>"bool"
 | .int _=>"int"
 | .str _=>"str"
 | .list _=>"list"
 | .tuple _=>"tuple"
 | .dict _=>"dict"
theorem vT (hK:X.K=K):jN X (.builtin "isinstance") (fun xs H Q=>∃ x d T,xs=[x,.ty T]∧Rep K H x d∧T∈["bool","int","str","list","tuple"]∧Q (.bl (isi (tyD d) T)) H):=by
 intro pins s σ H xs us Q I r h;subst hK;obtain ⟨x,d,T,rfl,hr,hT,q⟩:=h;obtain ⟨u,w',rfl,ru,rw'⟩:=qbm r;cases (show w'=Value.type T from rw');have fin:∀ tk b,b=isi (tyD d) T→EP X pins σ Q (.bool b) {s with toks:=tk}:=fun tk b e=>⟨.bl _,H,I.tok tk,rfl,e▸q⟩
 cases hr with
 | non=>exact Vc I ru .non (Vb O0 hT) fun tk=>fin tk _ rfl
 | bl b=>exact Vc I ru (.bl b) (Vb O0 hT) fun tk=>fin tk _ rfl
 | int i=>exact Vc I ru (.int i) (Vb O0 hT) fun tk=>fin tk _ rfl
 | str y=>exact Vc I ru (.str y) (Vb O0 hT) fun tk=>fin tk _ rfl
 | @lst a xs ds hq _=>
  cases (show u=Value.ref a from ru);obtain ⟨its,_,⟨o,n,e,hc,_⟩,_⟩:=I.list hq;exact Cm PySem.W.kitx_list I.kIn ⟨o,e,hc⟩ (Vb (t:="list") O0 hT) (fun z=>nomatch z) fun tk=>fin tk _ rfl
 | @tup a xs ds hq _=>
  cases (show u=Value.ref a from ru);obtain ⟨its,_,⟨o,e,hc,_⟩,_⟩:=I.tuple hq;exact Cm PySem.W.kitx_tuple I.kIn ⟨o,e,hc⟩ (Vb (t:="tuple") O0 hT) (fun z=>nomatch z) fun tk=>fin tk _ rfl
end
structure Stay (st:Ae) (H H':Hp):Prop where
 at0:∃ kvs,H st=some (.dK kvs)
 at1:∃ kvs,H' st=some (.dK kvs)
 rest:∀ b o,b≠st→H b=some o→H' b=some o
section
variable {K:Frag} {st:Ae} {H H' H2:Hp}
theorem Stay.put {kvs ks:List (Key×V)} (h:H st=some (.dK kvs)):Stay st H (upd H st (.dK ks)):=⟨⟨kvs,h⟩,⟨ks,upd_same⟩,fun b o n e=>by rw [qG n];exact e⟩
theorem Stay.trans (a:Stay st H H') (b:Stay st H' H2):Stay st H H2:=⟨a.at0,b.at1,fun c o n e=>b.rest c o n (a.rest c o n e)⟩
theorem Stay.then (a:Stay st H H') (g:qu H' H2):Stay st H H2:=⟨a.at0,let ⟨k,e⟩:=a.at1;⟨k,g _ _ e⟩,fun c o n e=>g c o (a.rest c o n e)⟩
theorem Stay.ne (a:Stay st H H') {b:Ae} {o:HO} (e:H b=some o) (hd:∀ kvs,o≠ .dK kvs):b≠st:=fun z=>by
 obtain ⟨k,q⟩:=a.at0;rw [z,q] at e;exact hd k (Bg e).symm
theorem Stay.rd (a:Stay st H H') {b:Ae} {o:HO} (hd:∀ kvs,o≠ .dK kvs) (h:Rd H b o):Rd H' b o:=by
 rcases h with h | ⟨ob,h⟩
 ·exact .inl (a.rest _ _ (a.ne h hd) h)
 ·exact .inr ⟨ob,a.rest _ _ (a.ne h (fun kvs z=>by cases z)) h⟩
theorem Stay.sqL (a:Stay st H H') {b:Ae} {xs:List V} (h:SqL K H b xs):SqL K H' b xs:=by
 rcases h with h | h
 ·exact .inl (a.rd (fun kvs z=>by cases z) h)
 ·exact .inr h
theorem Stay.sqT (a:Stay st H H') {b:Ae} {xs:List V} (h:SqT K H b xs):SqT K H' b xs:=by
 rcases h with h | h
 ·exact .inl (a.rd (fun kvs z=>by cases z) h)
 ·exact .inr h
theorem Rep.stay (a:Stay st H H') {x:V} {d:Aa} (h:Rep K H x d):Rep K H' x d:=h.mono a.sqL a.sqT
theorem Reps.stay (a:Stay st H H') {xs:List V} {ds:List Aa} (h:Reps K H xs ds):Reps K H' xs ds:=h.mono a.sqL a.sqT
end
section
variable {X:Cx} {sc scope:Scope} {NX N:List Str} {js:List (Option Nat)} {tg iter elt:Expr} {ifs:List Expr} {wi:TI} {g:TG} {tt:TT} {te:TE} {pos:Pos}
theorem wU {i:Nat} {y:Str} {py spos:Pos} (hN:X.N.Nodup) (hy:X.N[i]?=some y) (hL:Loc X.env.scope y) (hi:PI X tg iter wi) (hg:∀ cl C fp s H,PG (cxC X scope cl C N fp s H) tg g) (ht:∀ cl C fp s H,PF (cxC X scope cl C N fp s H) ifs tt)
  (he:∀ cl C fp s H,PE (cxC X scope cl C N fp s H) elt te) (own:qel js g) (ok:CompScope sc scope NX N js) (hsc:X.env.scope=sc:=by rfl) (hNX:X.N=NX:=by rfl) (hc:X.calm=true:=by rfl) (hs:∀ x,foldedSetIterable iter X.env x=pure x:=by intro _;rfl)
  (hsw:swapsWith (.ListComp elt [⟨tg,iter,ifs,0⟩] scope pos) (some (.Name y py)) spos.line X.env=pure true:=by rfl) (hf:X.fn y=true∨X.env.scope.names.lookup y=some .local:=by first | exact .inl rfl | exact .inr rfl | assumption):
  PS X (.Assign [.Name y py] (.ListComp elt [⟨tg,iter,ifs,0⟩] scope pos) spos) (vz (YT wi js g tt te) (zD i)):=by
 intro pins s σ H D I h;rw [exec_Assign_Name_used _ _ _ _ hsw];refine An (wpAny_standAt (An ?_));show wpAny _ X.A (do let _ ← comprehension (.ListComp elt [⟨tg,iter,ifs,0⟩] scope pos) scope X.env _ (newList []) false (eval iter X.env) (some (assign (.Name y py) X.env))) _ _ s
 obtain ⟨cl,hclos,cl1,cl2⟩:=WT (scope:=scope) (env:=X.env) fun z hz hf=>I.ok.has z.1 (by
  have q:=ok.free z hz hf;rw [← hsc] at q;exact q)
 refine An (Di (wpAny_comprehension_free (use:=some (assign (.Name y py) X.env)) (Q:=fun _ s'=>SP X pins D .next s') rfl hs hclos ok.kind ok.names
  (thn (hi pins s σ H _ I h) fun xv s1 h1=>thn h1 fun itv s2 h2=>?_)) (fun _ s' hq=>A9 (A9 hq)) fun _ _ e=>e)
 obtain ⟨it,fp,tn,J,H2,rfl,I2,T,st2,f2,W,⟨m0,w0⟩,turn⟩:=h2;refine yC (Q:=fun x H1=>zD i x σ H1 D.nx) (RR:=fun acc C=>compPost (model X.prog X.w) X.A X.xe (some (assign (.Name y py) X.env)) (fun _ s'=>SP X pins D .next s') acc C) hsc hNX ok hc I2 cl1 cl2 T st2 f2 (fun C=>hg cl C fp s2 H2) (fun C=>ht cl C fp s2 H2) (fun C=>he cl C fp s2 H2) own w0 turn fun L C m s' Hf I' hn f q=>?_
 obtain ⟨g0,g1,g2,g3,g4,g5⟩:=f;show wpAny _ X.A (assign (.Name y py) X.env (.ref L)) _ _ _;refine wpAny_assign_Name (ya I' hN hy hL (show qS (.ref L) (.ref L) from rfl) (fun s3 I3 hb=>?_) hf);obtain ⟨a,sb,ha⟩:=hb;have hCa:C≠a:=by
  rcases ha with rfl | ha
  ·exact g1
  ·exact fun z=>g4 _ _ ha z.symm
 exact ⟨m,hn.sameBut sb hCa,fun h' hs'=>⟨_,Hf,I3.turned (t':=s3.toks) (fun b o hb e=>(hs'.2 b hb).trans e) g0 g1 g3 g4 g5,q⟩⟩
end
structure MethN (P:Program) (w:World) (K:Frag) (mg:Str→Option Ac) (base:Heap) (C:Ae) (k:Nat) (m:Str) (ps:List Str) (sp:Sp):Prop where
 ex:∃ (f:Ae) (fd:FuncData),FnOk P w K mg base CX0 k f fd ps sp∧j5 K fd ps []∧Meth K C m f
 cl:Cls K C
section
variable {X:Cx} {C:Ae} {k:Nat} {m x:Str} {ps:List Str} {sp:Sp} {E:XK} {o e:Expr} {es:List Expr} {ta:TE} {t:TA} {p pos apos:Pos} {pl:Sem Bool}
theorem Zu (he:PE X o ta) (D:MethN X.prog X.w X.K X.mg X.base C k m ps sp) (hr:Room k X.A)
  (ht:eval (.Call (.Attribute o m apos) [] [] pos) X.env=(do let ov ← eval o X.env;standAt apos.atName;let (f,first) ← holding [ov] (getMethod ov m pl);callWith pos f first (backTo pos (starEach [] X.env)) (backToKw pos (keywordEach [] X.env))):=by rfl):
  PE X (.Call (.Attribute o m apos) [] [] pos) (qgm C m sp [] E0 ta zi):=by
 obtain ⟨f,fd,F,B,M⟩:=D.ex;exact qdc he D.cl M F hr B .nil qde ht
end
section
variable {P:Program} {w:World} {K:Frag} {mg:Str→Option Ac} {base:Heap}
end
structure MakeA (P:Program) (w:World) (K:Frag) (mg:Str→Option Ac) (base:Heap) (x:Str) (C:Ae) (k:Nat) (ps:List Str) (sp:Sp):Prop where
 ex:∃ (f:Ae) (fd:FuncData),FnOk P w K mg base CX0 k f fd ps sp∧j5 K fd ps []∧Mk K C f
 mC:mg x=some (.ref C)
theorem qdb {X:Cx} {x:Str} {C:Ae} {k:Nat} {ps:List Str} {sp:Sp} {e:Expr} {es:List Expr} {t:TA} {p pos:Pos} (D:MakeA X.prog X.w X.K X.mg X.base x C k ps sp) (hr:Room (k+1) X.A) (ha:PA X (e::es) t) (hg:Gl X x:=by rfl) (hdb:(x==("__debug__":Str))=false:=by decide)
  (he:starEach (e::es) X.env=(false,eval e X.env)::starEach es X.env:=by rfl) (hpl:(backTo pos (starEach es X.env)).any (·.1)=false:=by rfl):PE X (.Call (.Name x p) (e::es) [] pos) (qgn C sp [] E0 t):=by
 obtain ⟨f,fd,F,B,M⟩:=D.ex;exact qfa M F hr hg D.mC B .nil qde ha hdb he hpl
section
variable {X:Cx} {K:Frag}
end
section
variable {K:Frag} {H:Hp} {a b:Ae} {xs zs:List V} {i:Int} {v:V} {Q:VK}
theorem qa5 (h:H a=some (.lst xs)) (h':H b=some (.lst zs)) (z:xs.length+zs.length≤Ag) (q:∀ p,H p=none→Q (.ref p) (upd H p (.lst (xs++zs)))):JS (.ref a) (.ref b) H Q:= .inr (.inr ⟨a,b,xs,zs,rfl,rfl,h,h',z,q⟩)
end
section
variable {X:Cx} {x:Str} {e a b o:Expr} {es:List Expr} {te ta tb to:TE} {t:TA} {p pos pos' apos cpos:Pos}
theorem pst (i:Nat) (hN:X.N.Nodup) (he:PE X e te) (hi:X.N[i]?=some x:=by rfl) (hx:Loc X.env.scope x:=by first | exact Or.inl rfl | exact Or.inr rfl) (hs:swapsWith e (some (.Name x pos')) pos.line X.env=pure false:=by rfl)
  (hf:X.fn x=true∨X.env.scope.names.lookup x=some .local:=by first | exact .inl rfl | exact .inr rfl | assumption):PS X (.Assign [.Name x pos'] e pos) (vz te (zD i)):=qhq hN hi hx he hs hf
theorem pgn (i:Nat) (hN:X.N.Nodup) (hi:X.N[i]?=some x:=by rfl) (hx:Loc X.env.scope x:=by first | exact Or.inl rfl | exact Or.inr rfl) (hf:X.fn x=true∨X.env.scope.names.lookup x=some .local:=by first | exact .inl rfl | exact .inr rfl | assumption):PG X (.Name x pos) (zD i):=zK hN hi hx hf
theorem pix (K:Frag) (ha:PE X a ta) (hb:PE X b tb) (hK:X.K=K:=by rfl) (hs:QQ b:=by intro _ _;rfl):PE X (.Subscript a b pos) (tOp (rIx K) ta tb):=qjz (ix_k hK) ha hb hs
theorem pdf {k:Nat} {ps:List Str} {sp:Sp} (D:Def X.prog X.w X.K X.mg X.base k x ps sp) (ha:PA X (e::es) t) (hr:Room k X.A:=by first | assumption | exact Room.mono (by assumption) (by first | decide | omega)) (hg:Gl X x:=by rfl)
  (hdb:(x==("__debug__":Str))=false:=by decide) (he:starEach (e::es) X.env=(false,eval e X.env)::starEach es X.env:=by rfl) (hpl:(backTo pos (starEach es X.env)).any (·.1)=false:=by rfl):PE X (.Call (.Name x p) (e::es) [] pos) (zP sp [] E0 t):=qdd D hr ha hg hdb he hpl
end
def FA (K:Frag) (f:Ae) (x q:Str) (st:Stmt):Prop:=∃ (od:Option Ae) (kV dc pm:Ac) (an:Option Ae) (cd ct:Ac) (sl:Array (Option Ac)),K.lookup f=some ⟨.type "function",od,.func (PySem.W.fnOf x q (Jb st) (jl st) (qp st) .none kV dc pm an cd ct),sl⟩∧PySem.W.codeIn K cd q=true∧PySem.W.keepIn K (.ref f)=true
theorem FA.fn {K:Frag} {f:Ae} {x q:Str} {st:Stmt} (h:FA K f x q st):∃ fd,Fun K x q st f fd∧PySem.W.keepIn K (.ref f)=true:=by
 obtain ⟨_,_,_,_,_,_,_,_,l,c,k⟩:=h;exact ⟨_,qd1 l c k,k⟩
section
variable {K:Frag} {H:Hp} {v:V} {G:Prop} {s:Str} {d d1 d2 d3 d4 d5:Aa} {ds:List Aa} {ys:List V}
theorem Rep.strI (h:Rep K H v (.str s)):v= .str s:=by
 cases h;rfl
theorem Reps.nilI (h:Reps K H ys []):ys=[]:=by
 cases h;rfl
theorem Reps.ct (h:Reps K H ys (d::ds)) (k:∀ y ys',ys=y::ys'→Rep K H y d→Reps K H ys' ds→G):G:=by
 cases h with
 | cons h t=>exact k _ _ rfl h t
theorem Rep.tpl (h:Rep K H v (.tuple ds)) (k:∀ a ys,v= .ref a→SqT K H a ys→Reps K H ys ds→G):G:=by
 cases h with
 | tup h t=>exact k _ _ rfl h t
theorem Rep.tp1 (h:Rep K H v (.tuple (.str s::ds))) (k:∀ a ys,v= .ref a→SqT K H a (.str s::ys)→Reps K H ys ds→G):G:=h.tpl fun a _ e q z=>z.ct fun _ ys e1 r0 z1=>by
 cases r0.strI;cases e1;exact k a ys e q z1
theorem Rep.tp2 (h:Rep K H v (.tuple [.str s,d1])) (k:∀ a y1,v= .ref a→SqT K H a [.str s,y1]→Rep K H y1 d1→G):G:=h.tp1 fun a _ e q z=>z.ct fun y ys e1 r1 z1=>by
 cases z1.nilI;cases e1;exact k a y e q r1
theorem Rep.tp3 (h:Rep K H v (.tuple [.str s,d1,d2])) (k:∀ a y1 y2,v= .ref a→SqT K H a [.str s,y1,y2]→Rep K H y1 d1→Rep K H y2 d2→G):G:=h.tp1 fun a _ e q z=>z.ct fun y1 _ e1 r1 z1=>z1.ct fun y2 _ e2 r2 z2=>by
 cases z2.nilI;cases e2;cases e1;exact k a y1 y2 e q r1 r2
theorem Rep.tp4 (h:Rep K H v (.tuple [.str s,d1,d2,d3])) (k:∀ a y1 y2 y3,v= .ref a→SqT K H a [.str s,y1,y2,y3]→Rep K H y1 d1→Rep K H y2 d2→Rep K H y3 d3→G):G:=h.tp1 fun a _ e q z=>z.ct fun y1 _ e1 r1 z1=>z1.ct fun y2 _ e2 r2 z2=>z2.ct fun y3 _ e3 r3 z3=>by
 cases z3.nilI;cases e3;cases e2;cases e1;exact k a y1 y2 y3 e q r1 r2 r3
theorem Rep.tp6 (h:Rep K H v (.tuple [.str s,d1,d2,d3,d4,d5])) (k:∀ a y1 y2 y3 y4 y5,v= .ref a→SqT K H a [.str s,y1,y2,y3,y4,y5]→Rep K H y1 d1→Rep K H y2 d2→Rep K H y3 d3→Rep K H y4 d4→Rep K H y5 d5→G):G:=h.tp1 fun a _ e q z=>z.ct fun y1 _ e1 r1 z1=>z1.ct fun y2 _ e2 r2 z2=>z2.ct fun y3 _ e3 r3 z3=>z3.ct fun y4 _ e4 r4 z4=>z4.ct fun y5 _ e5 r5 z5=>by
 cases z5.nilI;cases e5;cases e4;cases e3;cases e2;cases e1;exact k a y1 y2 y3 y4 y5 e q r1 r2 r3 r4 r5
end
theorem qC {s r:TS} {D:Ends} {σ:St} {H:Hp} (h:∀ D':Ends,(∀ σ H,r D σ H→D'.nx σ H)→(∀ v H,D.rt v H→D'.rt v H)→s D' σ H):jO s r D σ H:=h _ (fun _ _ q=>q) fun _ _ q=>q
theorem zb {c:TT} {t u:TS} {D:Ends} {σ:St} {H:Hp} (h:∀ B:Bool→Hp→Prop,(∀ H,t D σ H→B true H)→(∀ H,u D σ H→B false H)→c σ H B):Vg c t u D σ H:=h _ (fun _ q=>zE rfl q) fun _ q=>zF rfl q
theorem bP {B:Bool→Hp→Prop} {b:Bool} {H:Hp} (e:b=true) (h:B true H):B b H:=e▸h
theorem bN {B:Bool→Hp→Prop} {b:Bool} {H:Hp} (e:b=false) (h:B false H):B b H:=e▸h
theorem Jw {α:Type} {l:List α} {i:Nat} (h:i<l.length):∃ x,l[i]?=some x:=⟨_,Bl h⟩
theorem XR {α:Type} {l:List α} {i:Nat} {x:α} (h:l[i]?=some x):l.drop i=x::l.drop (i+1):=by
 obtain ⟨hi,rfl⟩:=C0.mp h;exact List.drop_eq_getElem_cons hi
theorem wh_g {X:(St→Hp→Prop)→Prop} {Z:St→Hp→Prop} (h:∀ N:St→Hp→Prop,(∀ σ H,Z σ H→N σ H)→X N):∃ N:St→Hp→Prop,(∀ σ H,N σ H→Z σ H)∧X N:=⟨Z,fun _ _ q=>q,h Z fun _ _ q=>q⟩
section
variable {K:Frag} {x qual:Str} {st:Stmt} {f:Ae} {fd:FuncData}
theorem Fun.b1 (F:Fun K x qual st f fd) (p:Str) (h:∀ (kV doc pm:Ac) (an:Option Ae) (cdv ct a:Ac),bindArgs (PySem.W.fnOf x qual (Jb st) (jl st) (qp st) .none kV doc pm an cdv ct) ⟨[a],[]⟩=pure [(p,a)]):j5 K fd [p] []:=
 F.binds fun _ _ _ _ _ _ us hl=>match us,hl with | [_],_=>h ..
theorem Fun.b2 (F:Fun K x qual st f fd) (p q:Str) (h:∀ (kV doc pm:Ac) (an:Option Ae) (cdv ct a b:Ac),bindArgs (PySem.W.fnOf x qual (Jb st) (jl st) (qp st) .none kV doc pm an cdv ct) ⟨[a,b],[]⟩=pure [(p,a),(q,b)]):j5 K fd [p,q] []:=
 F.binds fun _ _ _ _ _ _ us hl=>match us,hl with | [_,_],_=>h ..
theorem Fun.b3 (F:Fun K x qual st f fd) (p q r:Str) (h:∀ (kV doc pm:Ac) (an:Option Ae) (cdv ct a b c:Ac),bindArgs (PySem.W.fnOf x qual (Jb st) (jl st) (qp st) .none kV doc pm an cdv ct) ⟨[a,b,c],[]⟩=pure [(p,a),(q,b),(r,c)]):j5 K fd [p,q,r] []:=
 F.binds fun _ _ _ _ _ _ us hl=>match us,hl with | [_,_,_],_=>h ..
end
section
variable {X:Cx}
theorem qje:jN X (.type "str") (fun xs H Q=>(∃ x,xs=[.str x]∧Q (.str x) H)∨∃ i:Int,xs=[.int i]∧i.natAbs.log2<1920∧Q (.str (Str.ofString (toString i))) H):=by
 intro pins s σ H xs us Q I r h;rcases h with ⟨x,rfl,q⟩ | ⟨i,rfl,hi,q⟩
 ·obtain ⟨u,rfl,ru⟩:=Je r;obtain ⟨t,rfl⟩:=(show ∃ t,u=Value.str x t from ru);exact P.str_of_str ⟨.str x,H,I,⟨t,rfl⟩,q⟩
 ·obtain ⟨u,rfl,ru⟩:=Je r;obtain ⟨t,rfl⟩:=(show ∃ t,u=Value.int i t from ru);exact P.str_of_int hi ⟨.str _,H,I.tok _,⟨_,rfl⟩,q⟩
end
theorem TabS.none:∀ {T:List (Str×Str)} {r:List (Str×Ac)} {x:Str},TabS T r→((r.find? fun e=>decide (e.1=x)).map (·.2)).isSome=(T.lookup x).isSome
 | _,_,_,.nil=>rfl
 | _,_,x,.cons (x:=z) h=>by
  rw [B6,C6]
  by_cases hx:z=x
  ·subst hx;simp
  ·have e:(x==z)=false:=by simpa using fun q=>hx q.symm
   rw [e,Ap hx];exact TabS.none h
def qg7 (T:List (Str×Str)) (ti:TE):TE:=fun σ H Q=>ti σ H fun y H1=>∃ x,y= .str x∧Q (.bl (T.lookup x).isSome) H1
section
variable {X:Cx} {nm:Str} {np pos:Pos} {i:Expr} {ti:TE}
theorem Xm {T:List (Str×Str)} (D:KTabS X.prog X.w X.K X.mg nm T) (hM:∃ a,X.mg nm=some (.ref a)∧(a==sysModules)=false) (hi:PE X i ti) (hg:Gl X nm:=by rfl) (hd:(nm==("__debug__":Str))=false:=by decide):PC X .In i (.Name nm np) (qg7 T ti):=by
 obtain ⟨a,kvs,hm,kd,tb⟩:=D.ex;obtain ⟨a',hm',hs⟩:=hM;cases hm.symm.trans hm';intro pins s σ H Q I h;refine thn (hi pins s σ H _ I h) fun iv s1 ⟨y,H1,I1,ry,x,ey,q1⟩=>JF I1 hg hm ?_ hd;subst ey;obtain ⟨t,rfl⟩:=ry;refine wpAny_in_of (knd:=zp X.prog X.w) (k:=Sum.inr x) (JZ x t) hs (kd _ I1.kIn).mapOf ?_;have e:=Wc kvs x;rw [e,tb.none];exact ⟨.bl _,H1,I1.tok _,rfl,q1⟩
theorem ym:MtR X "str.startswith" (fun x xs H Q=>∃ y z,x= .str y∧xs=[.str z]∧Q (.bl (Txt.startswith y z)) H):=by
 intro pins s σ H x xs v us Q I rx r h;obtain ⟨y,z,rfl,rfl,q⟩:=h;obtain ⟨t,rfl⟩:=rx;obtain ⟨u,rfl,t',rfl⟩:=Je r;exact SC.startswith ⟨.bl _,H,I,rfl,q⟩
theorem ZD:MtR X "str.isdigit" (fun x xs H Q=>∃ y,x= .str y∧xs=[]∧Q (.bl (Txt.isdigit y)) H):=by
 intro pins s σ H x xs v us Q I rx r h;obtain ⟨y,rfl,rfl,q⟩:=h;obtain ⟨t,rfl⟩:=rx;cases r;exact SC.isdigit ⟨.bl _,H,I,rfl,q⟩
theorem qdw:jN X (.type "int") (fun xs H Q=>∃ x n,xs=[.str x]∧PySem.intText? x=some n∧x.length≤640∧Q (.int n) H):=by
 intro pins s σ H xs us Q I r h;obtain ⟨x,n,rfl,hn,hl,q⟩:=h;obtain ⟨u,rfl,t,rfl⟩:=Je r;exact PySem.W.KIN.call_text hn hl ⟨.int n,H,I.tok _,⟨_,rfl⟩,q⟩
theorem qee {K:Frag} (hK:X.K=K):OpR X (binaryOp .Add) (qgu K):=hK▸Qw
end
end L2
namespace L2
open PySem PySem.Spec PyProof.Rows
open Sem (wp)
open Builtin
theorem qer (l:Ae) (items:Array Ac) (n:Nat) (d:Option Ae) (sl:Array (Option Ac)) (x:Int) (u:Tok) (hc0:¬ (decide (x< -(2 ^ 63))||decide (x ≥ 2 ^ 63))=true) (hc1:¬ (items.isEmpty||x==1)=true) (hc2:¬ (decide (x≤0)||items.isEmpty)=true) (hc3:¬ (items.size:Int)*x>(2 ^ 63 - 1) / 8) (hc4:¬ Tuple.tupleTooMany ((items.size:Int)*x)=true)
  (hc5:(List.foldl (fun x1 x2=>x1++x2) #[] (List.replicate x.toNat items)).size≤Ag):
  Meets (Builtin.«tuple.__mul__» ⟨[.ref l,.int x u],[]⟩) (fun _ R s=>s.heap.get? l=some {cls:= .type "tuple",dict:=d,data:= .seq items n,slots:=sl}∧R (.ok (.ret (Value.ref s.heap.objs.size))) {s with heap:=s.heap.push {cls:=Value.type "tuple",data:=Data.seq (List.foldl (fun x1 x2=>x1++x2) #[] (List.replicate x.toNat items))},toks:=s.toks}):=
 .of_wp fun prog w A R s h=>by
  obtain ⟨hp,g,d,tk,os⟩:=s;obtain ⟨hl,h⟩:=h;have f1:=AutoSeq1.idx_int;have f2:=AutoSeq1.sub_tuple_tuple
  wp_walk using Dp hl
  refine wpAny_ite_false (Ap hc0) ?_
  wp_walk using Dp hl
  refine wpAny_ite_false (Ap hc3) ?_
  wp_walk using Dp hl
  exact ⟨_,rfl,h⟩
theorem WE:fillsNumberSlot (.type "tuple") "mul"=pure false:=PySem.fillsNumberSlot_seq (id:="tuple.__mul__") (r:=some (.builtin "tuple.__rmul__")) F.slot_tuple_mul.lookup ∅ F.slot_tuple_rmul.lookup ∅
theorem v6:seqRepeat? (.type "tuple")=pure (some (.builtin "tuple.__mul__")):=by
 unfold seqRepeat?;rw [PySem.seqSlot_of (T:="tuple") (name:="__mul__") (id:="tuple.__mul__") F.slot_tuple_mul.lookup ∅,PySem.seqSlot_of (T:="tuple") (name:="__rmul__") (id:="tuple.__rmul__") F.slot_tuple_rmul.lookup ∅];rfl
theorem Y7 (a:Int) (t:Tok) (l:Ae) (items:Array Ac) (n:Nat) (d:Option Ae) (sl:Array (Option Ac)):
  Meets (Builtin.«int.__rmul__» ⟨[.int a t,.ref l],[]⟩) (fun _ R s=>s.heap.get? l=some {cls:= .type "tuple",dict:=d,data:= .seq items n,slots:=sl}∧R (.ok (.ret Value.notImplemented)) s):=
 .of_wp fun prog w A R s h=>by obtain ⟨hp,g,d,tk,os⟩:=s;obtain ⟨hl,h⟩:=h;wp_walk using Dp hl;exact ⟨_,rfl,h⟩
def qjr (K:Frag):R2:=fun x y H Q=>∃ a k xs,x= .ref a∧y= .int k∧SqT K H a xs∧xs≠[]∧2≤k∧k≤100∧xs.length≤100∧∀ p,H p=none→Q (.ref p) (upd H p (.tup (List.replicate k.toNat xs).flatten))
theorem qfc {X:Cx}:OpR X (binaryOp .Mult) (qjr X.K):=by
 intro pins s σ H x y v u Q I rx ry h;obtain ⟨a,k,xs,rfl,rfl,ha,hne,h1,h2,h3,q⟩:=h;cases rx;obtain ⟨t,rfl⟩:=ry;obtain ⟨its,r,⟨⟨oc,od,oda,osl⟩,e,hcl,n,hdd⟩,_⟩:=I.tuple ha;cases hcl;cases hdd;have hl:=r.length;have hni:its≠[]:=fun z=>hne (r.nil_iff.mp z);have hnew:List.foldl (fun x1 x2=>x1++x2) #[] (List.replicate k.toNat its.toArray)=(List.replicate k.toNat its).flatten.toArray:=by
  have z:=wb its k.toNat [];rw [Cn] at z;exact z
 have hk:k.toNat≤100:=⋯;have hm:k.toNat*its.length≤10000:=Ar (Nat.mul_le_mul hk (show its.length≤100 from ⋯)) O0;have hmi:(its.toArray.size:Int)*k≤10000:=by
  have e1:(its.toArray.size:Int)=(its.length:Int):=by rw [Ba]
  have e2:k=(k.toNat:Int):=⋯;rw [e1,e2,Int.mul_comm]
  exact_mod_cast hm
 have c0:¬ (decide (k< -(2 ^ 63))||decide (k ≥ 2 ^ 63))=true:=by
  rw [Ap ⋯,Ap ⋯];exact Ai
 have ne:its.toArray.isEmpty=false:=by
  cases its with
  | nil=>exact absurd rfl hni
  | cons _ _=>rfl
 have c1:¬ (its.toArray.isEmpty||k==1)=true:=by
  rw [ne,show (k==1)=false from by rw [Bi];omega]
  exact Ai
 have c2:¬ (decide (k≤0)||its.toArray.isEmpty)=true:=by
  rw [ne,Ap ⋯];exact Ai
 have c3:¬ (its.toArray.size:Int)*k>(2 ^ 63 - 1) / 8:=by
  have:(10000:Int)≤(2 ^ 63 - 1) / 8:=O0;omega
 have c4:¬ Tuple.tupleTooMany ((its.toArray.size:Int)*k)=true:=by
  unfold Tuple.tupleTooMany;have:(10000:Int)≤((Ag:Nat):Int):=O0;rw [Bj];omega
 have hlen:(List.replicate k.toNat its).flatten.length≤10000:=by
  rw [Ys];exact hm
 have c5:(List.foldl (fun x1 x2=>x1++x2) #[] (List.replicate k.toNat its.toArray)).size≤Ag:=by
  rw [hnew,Ba];exact Ar hlen O0
 refine wpAny_binaryOp_repeat_ref (T:="tuple") (U:="int") O0 ⟨_,e,rfl⟩ (fun s'=>E7 s' k t) WE F.fills_int_mul Ej v6 F.slot_int_index.lookup
  (Dj Ej (E7 s k t) F.entry_int_rmul (F.args_int_rmul_2 _ _) (Y7 k t a its.toArray n od osl)
   ⟨e,rfl,⟨_,e,rfl⟩,Dj F.slot_tuple_mul ⟨_,e,rfl⟩ F.entry_tuple_mul (F.args_tuple_mul_2 _ _) (qer a its.toArray n od osl k t c0 c1 c2 c3 c4 c5) ⟨e,?_⟩⟩)
 rw [hnew];refine ⟨.ref s.heap.objs.size,_,I.laid (t':=s.toks) (o:= .tup (List.replicate k.toNat xs).flatten) (fun b ob z=>As _ z) (Aw _) ?_,rfl,q _ (I.hok.fresh (Aw _))⟩;refine ⟨?_,_,r.rep k.toNat,IsTup.new _ _⟩;rw [Ys,hl];exact Ar hm O0
end L2
set_option tactic.hygienic true
namespace HT
open PySem PyProof.Rows
section
variable {prog:Program} {w:World} {A:Around} {E:Ac→Af→Prop} {s:Af}
end
end HT
namespace L2
open PySem PySem.Spec PyProof.Rows
open Sem (wp)
open Builtin
section
variable {X:Cx} {K:Frag}
theorem Wn {H:Hp} {p:Ae} (h:H p=none) (o:HO):qu H (upd H p o):=fun b u q=>by rw [qG fun z=>by rw [z,h] at q;cases q];exact q
def yf (K:Frag):R2:=fun x y H Q=>∃ a b xs ys,x= .ref a∧y= .ref b∧SqT K H a xs∧SqT K H b ys∧xs.length+ys.length≤Ag∧∀ c H',qu H H'→SqT K H' c (xs++ys)→Q (.ref c) H'
theorem qfe:OpR X (binaryOp .Add) (yf X.K):=by
 intro pins s σ H x y v u Q I rx ry h;obtain ⟨a,b,xs,ys,rfl,rfl,ha,hb,hz,q⟩:=h
 by_cases hx:xs=[]
 ·subst hx;cases rx;cases ry;obtain ⟨its,r1,p1,_⟩:=I.tuple ha;obtain ⟨its2,r2,p2,_⟩:=I.tuple hb;obtain ⟨⟨cls,dd,data,sl⟩,ho,hc,n,hd⟩:=id p1;obtain ⟨⟨cls2,dd2,data2,sl2⟩,ho2,hc2,n2,hd2⟩:=id p2;simp only at hc hd hc2 hd2;subst hc hd hc2 hd2;have e0:its=[]:=r1.nil_iff.mpr rfl;subst e0;exact concat_meets ⟨_,ho,rfl⟩ ⟨_,ho2,rfl⟩ PySem.noFill_tuple_add PySem.seq_tuple_add PySem.F.slot_tuple_add PySem.F.entry_tuple_add (PySem.F.args_tuple_add_2 _ _)
   (tuple_addW0 a b #[] its2.toArray n n2 dd dd2 sl sl2 rfl) ⟨ho,ho2,⟨.ref b,H,I,rfl,q b H (qu.refl _) hb⟩⟩
 ·refine Qw pins s σ H _ _ v u Q I rx ry ⟨a,b,xs,ys,rfl,rfl,ha,hb,hx,hz,fun e=>?_,fun e p hp=>q p _ (Wn hp _) (SqT.of upd_same)⟩;subst e;rw [Bo] at q;exact q a H (qu.refl _) ha
theorem JE (hK:X.K=K):OpR X (binaryOp .Add) (fun x y H Q=>JS x y H Q∨yf K x y H Q):=hK▸qA.or qfe
end
theorem qbq (l:Ae) (items:Array Ac) (n:Nat) (d:Option Ae) (sl:Array (Option Ac)) (u:Tok):
  Meets (Builtin.«tuple.__mul__» ⟨[.ref l,.int 1 u],[]⟩) (fun _ R s=>s.heap.get? l=some {cls:= .type "tuple",dict:=d,data:= .seq items n,slots:=sl}∧R (.ok (.ret (.ref l))) s):=
 .of_wp fun prog w A R s h=>by
  obtain ⟨hp,g,d,tk,os⟩:=s;obtain ⟨hl,h⟩:=h;have hc:(items.isEmpty||(1:Int)==1)=true:=by rw [beq_self_eq_true,Do]
  have f1:=AutoSeq1.idx_int;have f2:=AutoSeq1.sub_tuple_tuple
  wp_walk using Dp hl
  exact ⟨_,rfl,h⟩
theorem qbr (l:Ae) (items:Array Ac) (n:Nat) (d:Option Ae) (sl:Array (Option Ac)) (x:Int) (u:Tok) (hc0:¬ (decide (x< -(2 ^ 63))||decide (x ≥ 2 ^ 63))=true) (hc1:¬ (items.isEmpty||x==1)=true) (hc2:(decide (x≤0)||items.isEmpty)=true):
  Meets (Builtin.«tuple.__mul__» ⟨[.ref l,.int x u],[]⟩) (fun _ R s=>s.heap.get? l=some {cls:= .type "tuple",dict:=d,data:= .seq items n,slots:=sl}∧R (.ok (.ret (Value.ref s.heap.objs.size))) {s with heap:=s.heap.push {cls:=Value.type "tuple",data:=Data.seq #[]},toks:=s.toks}):=
 .of_wp fun prog w A R s h=>by
  obtain ⟨hp,g,d,tk,os⟩:=s;obtain ⟨hl,h⟩:=h;have f1:=AutoSeq1.idx_int;have f2:=AutoSeq1.sub_tuple_tuple
  wp_walk using Dp hl
  refine wpAny_ite_false (Ap hc0) ?_
  wp_walk using Dp hl
  exact ⟨_,rfl,h⟩
def qgt (K:Frag):R2:=fun x y H Q=>∃ a k xs,x= .ref a∧y= .int k∧SqT K H a xs∧xs≠[]∧0≤k∧k≤100∧xs.length≤100∧∀ c H',qu H H'→SqT K H' c (List.replicate k.toNat xs).flatten→Q (.ref c) H'
theorem VA {X:Cx} {K:Frag} (hK:X.K=K):OpR X (binaryOp .Mult) (qgt K):=by
 subst hK;intro pins s σ H x y v u Q I rx ry h;obtain ⟨a,k,xs,rfl,rfl,ha,hne,h1,h2,h3,q⟩:=h
 by_cases k2:2≤k
 ·exact qfc pins s σ H _ _ v u Q I rx ry ⟨a,k,xs,rfl,rfl,ha,hne,k2,h2,h3,fun p hp=>q p _ (Wn hp _) (SqT.of upd_same)⟩
 cases rx;obtain ⟨t,rfl⟩:=ry;obtain ⟨its,r,⟨⟨oc,od,oda,osl⟩,e,hcl,n,hdd⟩,_⟩:=I.tuple ha;cases hcl;cases hdd;have hni:its≠[]:=fun z=>hne (r.nil_iff.mp z);have road:∀ {S:PySem.Spec},Meets (Builtin.«tuple.__mul__» ⟨[.ref a,.int k t],[]⟩) S→S X.A (wants (EP X pins σ Q) X.xe) s→wpAny (model X.prog X.w) X.A (binaryOp .Mult (.ref a) (.int k t)) (EP X pins σ Q) X.xe s:=fun g z=>
  wpAny_binaryOp_repeat_ref (T:="tuple") (U:="int") O0 ⟨_,e,rfl⟩ (fun s'=>E7 s' k t) WE F.fills_int_mul Ej v6 F.slot_int_index.lookup
   (Dj Ej (E7 s k t) F.entry_int_rmul (F.args_int_rmul_2 _ _) (Y7 k t a its.toArray n od osl) ⟨e,rfl,⟨_,e,rfl⟩,Dj F.slot_tuple_mul ⟨_,e,rfl⟩ F.entry_tuple_mul (F.args_tuple_mul_2 _ _) g z⟩)
 by_cases k0:k=0
 ·subst k0;have c1:¬ (its.toArray.isEmpty||(0:Int)==1)=true:=by
   cases its with
   | nil=>exact absurd rfl hni
   | cons _ _=>exact Ai
  refine road (qbr a its.toArray n od osl 0 t O0 c1 rfl) ⟨e,?_⟩;refine ⟨.ref s.heap.objs.size,_,I.laid (t':=s.toks) (o:= .tup []) (fun b ob z=>As _ z) (Aw _) ?_,rfl,q _ _ (Wn (I.hok.fresh (Aw _)) _) (SqT.of upd_same)⟩;exact ⟨B2 _,[],.nil,IsTup.new _ _⟩
 ·have k1:k=1:=⋯;subst k1;refine road (qbq a its.toArray n od osl t) ⟨e,⟨.ref a,H,I,rfl,q a H (qu.refl _) ?_⟩⟩;show SqT X.K H a (xs++[]);rw [Bo];exact ha
end L2
namespace L2
open PySem PySem.Spec PyProof.Rows
open Builtin
section
variable {X:Cx}
def Qj:V→List V→Hp→VK→Prop:=fun x xs H Q=>∃ y z,x= .str y∧xs=[.str z]∧(z.length==0)=false∧y.length≤Ag∧(Builtin.Str.partsBetween y (Builtin.Str.occurrences y z 0 y.length (y.length+1)) z.length).length≤Ag∧∀ l,H l=none→Q (.ref l) (upd H l (.lst ((Txt.split y z).map V.str)))
theorem qap:MtR X "str.split" Qj:=by
 intro pins s σ H x xs v us Q I rx r h;obtain ⟨y,z,rfl,rfl,hz,hy,hn,q⟩:=h;obtain ⟨t,rfl⟩:=rx;obtain ⟨u,rfl,ru⟩:=Je r;obtain ⟨t2,rfl⟩:=(show ∃ t,u=Value.str z t from ru);have hl:((Txt.split y z).map V.str).length≤Ag:=by
  rw [Aj];unfold Txt.split;split
  ·exact (O0:1≤Ag)
  ·split
   ·exact (O0:1≤Ag)
   ·exact hn
 have lay:∀ (its:List Ac) (tk:Nat),qT ((Txt.split y z).map V.str) its→EP X pins σ Q (.ref s.heap.objs.size) {s with heap:=s.heap.push {cls:= .type "list",data:= .seq its.toArray},toks:=tk}:=fun its tk rv=>
  ⟨.ref s.heap.objs.size,upd H s.heap.objs.size (.lst ((Txt.split y z).map V.str)),I.laid (fun b o e=>As _ e) (Aw _) ⟨hl,its,0,rv,Bk _ rfl⟩,rfl,q _ (I.hok.fresh (Aw _))⟩
 have one:Txt.split y z=[y]→qT ((Txt.split y z).map V.str) [Value.str y t]:=fun e=>by
  rw [e];exact .cons ⟨t,rfl⟩ .nil
 cases h1:(decide (y.length<z.length)||decide (Builtin.Str.strKind y<Builtin.Str.strKind z)) with
 | true=>exact Dj F.slot_str_split (Es _ _ _) Fa (F.args_str_split_2 _ _) (meets_str_split_cannot_occur y z t t2 h1) (lay [.str y t] s.toks (one (if_pos h1)))
 | false=>
  cases hf:(Builtin.Str.occurrences y z 0 y.length (y.length+1)).isEmpty with
  | true=>exact Dj F.slot_str_split (Es _ _ _) Fa (F.args_str_split_2 _ _) (meets_str_split_not_found y z t t2 h1 hz hf) (lay [.str y t] s.toks (one ((if_neg (Ex h1)).trans (if_pos hf))))
  | false=>
   refine Dj F.slot_str_split (Es _ _ _) Fa (F.args_str_split_2 _ _) (meets_str_split_sep y z t t2 h1 hz hf hy hn) ?_;rw [strsFrom_eq];refine lay _ _ ?_;have e:Txt.split y z=Builtin.Str.partsBetween y (Builtin.Str.occurrences y z 0 y.length (y.length+1)) z.length:=(if_neg (Ex h1)).trans (if_neg (Ex hf));rw [e];exact vj _ _
end
end L2
set_option tactic.hygienic false
namespace Bud
def PT (n:Nat) (deep k l:Int):Prop:=deep≤(n:Int)∧0≤k∧k+4*l≤1000 - 10*(n:Int)∧2000*(n:Int) - 30500≤l∧n≤10
def PB (n:Nat) (deep k l:Int):Prop:=deep≤(n:Int)∧0≤k∧k+4*l≤999 - 10*(n:Int)∧2000*(n:Int) - 29000≤l∧n≤10
def PS (n:Nat) (deep k l:Int):Prop:=deep≤(n:Int)∧0≤k∧k+4*l≤1000 - 10*(n:Int)∧2000*(n:Int) - 30000≤l∧n≤10
def BT (n:Nat) (deep k l:Int) (s t:Nat) (k' l':Int):Prop:=(s:Int)=l - l'∧t≤n+2∧k'+4*l'≤k+4*l∧k≤k'∧(l≤0→l - 1≤l')∧(0<l→ -(16*(n:Int)+1)≤l')∧(deep<1→t=1)
def BB (n:Nat) (k l:Int) (s t:Nat) (k' l':Int):Prop:=(s:Int)=l - l'∧t≤n+2∧k'+4*l'≤k+4*l+1∧k≤k'∧(l≤0→l - 6≤l')∧(0<l→ -(16*(n:Int)+5)≤l')
def BS (n:Nat) (k l:Int) (s t:Nat) (k' l':Int):Prop:=(s:Int)=l - l'∧t≤n+2∧k'+4*l'≤k+4*l∧k≤k'∧(l≤0→l - 2≤l')∧(0<l→ -(16*(n:Int)+1)≤l')
section
variable {n m i s s1 s2 s3 t t1 t2 t3:Nat} {deep k l k1 l1 k2 l2 k3 l3 k' l':Int}
theorem YU {a b c:Int} {x y:Nat} (h:(x:Int)=a - b) (g:(y:Int)=b - c):((x+y:Nat):Int)=a - c:=⋯
theorem Zd {a c:Int} {x:Nat} (h:(x:Int)=a - 1 - c):((x+1:Nat):Int)=a - c:=⋯
theorem kl3 {a:Int} (h:a≤k+1+4*(l - 1)):a≤k+4*l - 3:=⋯
theorem ge3 {a b:Int} (h:a≤b - 3):a≤b:=⋯
theorem le1 {a b:Int} (h:a+1≤b):a≤b:=⋯
def BI (n:Nat) (k l:Int) (i:Nat) (s t:Nat) (k' l':Int):Prop:=(s:Int)=l - l'∧t≤n+2∧k'+4*l'≤k+1+4*l∧k+1≤k'∧(l≤0→l - 2*i≤l')∧(0<l→ -(16*(n:Int)+1) - 2*i≤l' - 2)
theorem BI.nil:BI n k l 0 0 0 (k+1) l:=⟨(Int.sub_self l).symm,B2 _,Int.le_refl _,Int.le_refl _,⋯,⋯⟩
theorem BI.pre (p:PB n deep k l) (h:BI n k l i s t k' l') (hi:i<3):PS n deep k' l':=by
 obtain ⟨p1,p2,p3,p4,p5⟩:=p;obtain ⟨_,_,h3,h4,h5,h6⟩:=h;exact ⟨p1,Cd p2 (le1 h4),by clear p4 h5 h6;omega,by clear p3 h3 h4;omega,p5⟩
theorem BI.snoc (h:BI n k l i s t k' l') (b:BS n k' l' s2 t2 k2 l2):BI n k l (i+1) (s+s2) (max t t2) k2 l2:=by
 obtain ⟨h1,h2,h3,h4,h5,h6⟩:=h;obtain ⟨b1,b2,b3,b4,b5,b6⟩:=b;refine ⟨YU h1 b1,Dw.mpr ⟨h2,b2⟩,Cd b3 h3,Cd h4 b4,?_,?_⟩
 all_goals clear h2 h3 h4 b1 b2 b3 b4;omega
theorem BI.out (h:BI n k l i s t k' l') (hi:i≤3):BB n k l s t k' l':=by
 obtain ⟨h1,h2,h3,h4,h5,h6⟩:=h;refine ⟨h1,h2,by clear h5 h6;omega,le1 h4,?_,?_⟩
 all_goals clear h1 h2 h3 h4;omega
def S (n:Nat) (deep k l:Int):Prop:=deep - 1≤(n:Int)∧0≤k∧k+4*l - 3≤987 - 10*(n:Int)∧0≤l - 1∧1≤deep∧n≤9
theorem BT.one:BT n deep k l 1 1 (k+1) (l - 1):=⟨⋯,Nat.le_add_left 1 (n+1),⋯,⋯,fun _=>Int.le_refl _,⋯,fun _=>rfl⟩
def Mid (n:Nat) (k1 l1:Int):Prop:=0≤k1∧k1+4*l1≤987 - 10*(n:Int)∧ -200≤l1
theorem Mid.pb (c:Mid n k1 l1) (h1:deep - 1≤(n:Int)) (h6:n≤9):PB n (deep - 1) k1 l1:=by
 obtain ⟨c1,c2,c3⟩:=c;exact ⟨h1,c1,⋯,⋯,Co h6⟩
theorem PB.pt (c:PB n deep k l):PT n deep k l:=by
 obtain ⟨c1,c2,c3,c4,c5⟩:=c;exact ⟨c1,c2,⋯,⋯,c5⟩
theorem S.pb (h:S n deep k l):PB n (deep - 1) (k+1) (l - 1):=by
 obtain ⟨h1,h2,h3,h4,_,h6⟩:=h;exact Mid.pb ⟨⋯,⋯,⋯⟩ h1 h6
theorem S.pt (h:S n deep k l):PT n (deep - 1) (k+1) (l - 1):=h.pb.pt
theorem low {a:Int} (h:0≤l) (b:l≤0→l - 1≤a) (c:0<l→ -(16*(n:Int)+1)≤a): -(16*(n:Int)+1)≤a:=⋯
theorem S.low (h:S n deep k l) (b:BT n (deep - 1) (k+1) (l - 1) s1 t1 k1 l1): -(16*(n:Int)+1)≤l1:=Bud.low h.2.2.2.1 b.2.2.2.2.1 b.2.2.2.2.2.1
theorem S.mid (h:S n deep k l) (b:BT n (deep - 1) (k+1) (l - 1) s1 t1 k1 l1):Mid n k1 l1:=by
 have c:=h.low b;have h6:=h.2.2.2.2.2;exact ⟨Cd h.2.1 (le1 b.2.2.2.1),Cd (kl3 b.2.2.1) h.2.2.1,⋯⟩
theorem S.pb1 (h:S n deep k l) (b:BT n (deep - 1) (k+1) (l - 1) s1 t1 k1 l1):PB n (deep - 1) k1 l1:=(h.mid b).pb h.1 h.2.2.2.2.2
theorem S.pt1 (h:S n deep k l) (b:BT n (deep - 1) (k+1) (l - 1) s1 t1 k1 l1):PT n (deep - 1) k1 l1:=(h.pb1 b).pt
theorem no0 {P:Prop} (h:0≤l - 1) (g:l≤0):P:=⋯
theorem no1 {P:Prop} (h:1≤deep) (g:deep<1):P:=absurd h (Int.not_le.mpr g)
theorem two_ (z: -(16*(n:Int)+1)≤l1) (c:l1≤0→l1 - 1≤l2) (c':0<l1→ -(16*(n:Int)+1)≤l2): -(16*((n+1:Nat):Int)+1)≤l2:=⋯
theorem S.two (h:S n deep k l) (b:BT n (deep - 1) (k+1) (l - 1) s1 t1 k1 l1) (c:BT n (deep - 1) k1 l1 s2 t2 k2 l2):BT (n+1) deep k l (s1+s2+1) (max t1 t2+1) k2 l2:=
 ⟨Zd (YU b.1 c.1),C8 (Dw.mpr ⟨b.2.1,c.2.1⟩),ge3 (Cd c.2.2.1 (kl3 b.2.2.1)),le1 (Cd b.2.2.2.1 c.2.2.2.1),fun g=>no0 h.2.2.2.1 g,fun _=>two_ (h.low b) c.2.2.2.2.1 c.2.2.2.2.2.1,no1 h.2.2.2.2.1⟩
theorem fn_ (b:l - 1≤0→l - 1 - 6≤l1) (c:0<l - 1→ -(16*(n:Int)+5)≤l1) (h:0≤l - 1): -(16*((n+1:Nat):Int)+1)≤l1:=⋯
theorem S.fn (h:S n deep k l) (b:BB n (k+1) (l - 1) s1 t1 k1 l1):BT (n+1) deep k l (s1+1) (t1+1) k1 l1:=
 ⟨Zd b.1,C8 b.2.1,by have:=b.2.2.1;omega,le1 b.2.2.2.1,fun g=>no0 h.2.2.2.1 g,fun _=>fn_ b.2.2.2.2.1 b.2.2.2.2.2 h.2.2.2.1,no1 h.2.2.2.2.1⟩
def CI (n:Nat) (k l:Int) (s1 i s t:Nat) (k' l':Int):Prop:=((s1+s:Nat):Int)=l - 1 - l'∧t≤n+2∧k'+4*l'≤k+4*l - 3∧k+1≤k'∧ -(16*(n:Int)+1) - i≤l'
theorem CI.nil (h:S n deep k l) (b:BT n (deep - 1) (k+1) (l - 1) s1 t1 k1 l1):CI n k l s1 0 0 0 k1 l1:=⟨b.1,B2 _,kl3 b.2.2.1,b.2.2.2.1,by have:=h.low b;omega⟩
theorem CI.pre (h:S n deep k l) (c:CI n k l s1 i s t k' l') (hi:i≤4):PT n (deep - 1) k' l':=by
 have h6:=h.2.2.2.2.2;have c5:=c.2.2.2.2;exact (Mid.pb (⟨Cd h.2.1 (le1 c.2.2.2.1),Cd c.2.2.1 h.2.2.1,⋯⟩:Mid n k' l') h.1 h6).pt
theorem CI.snoc (c:CI n k l s1 i s t k' l') (b:BT n (deep - 1) k' l' s2 t2 k2 l2):CI n k l s1 (i+1) (s+s2) (max t t2) k2 l2:=
 ⟨by rw [← Nat.add_assoc];exact YU c.1 b.1,Dw.mpr ⟨c.2.1,b.2.1⟩,Cd b.2.2.1 c.2.2.1,Cd c.2.2.2.1 b.2.2.2.1,by
  have c5:=c.2.2.2.2;have b5:=b.2.2.2.2.1;have b6:=b.2.2.2.2.2.1;omega⟩
theorem CI.out (h:S n deep k l) (b:BT n (deep - 1) (k+1) (l - 1) s1 t1 k1 l1) (c:CI n k l s1 i s t k' l') (hi:i≤4):BT (n+1) deep k l (s1+s+1) (max t1 t+1) k' l':=
 ⟨Zd c.1,C8 (Dw.mpr ⟨b.2.1,c.2.1⟩),ge3 c.2.2.1,le1 c.2.2.2.1,fun g=>no0 h.2.2.2.1 g,fun _=>by have c5:=c.2.2.2.2;omega,no1 h.2.2.2.2.1⟩
def Near (n m:Nat):Prop:=m≤n∧(n=0∨n=m+1)
theorem PS.pt (p:PS n deep k l) (z:Near n m):PT m (deep - 1) (k+1) (l - 1):=by
 obtain ⟨p1,p2,p3,p4,p5⟩:=p;obtain ⟨z1,z2⟩:=z;exact ⟨by clear p3 p4;omega,⋯,by clear p1 p4;omega,by clear p1 p3;omega,Ar z1 p5⟩
theorem PS.one (p:PS n deep k l) (z:Near n m) (b:BT m (deep - 1) (k+1) (l - 1) s1 t1 k1 l1):BS n k l (s1+1) (t1+1) k1 l1:=by
 obtain ⟨p1,_,_,_,_⟩:=p;obtain ⟨z1,z2⟩:=z;obtain ⟨b1,b2,b3,b4,b5,b6,b7⟩:=b;exact ⟨Zd b1,by clear b1 b3 b4 b5 b6;omega,ge3 (kl3 b3),le1 b4,fun g=>by clear b1 b2 b3 b4 b6 b7;omega,fun g=>by clear b1 b2 b3 b4 b7 p1;omega⟩
theorem PS.many (p:PS (n+1) deep k l) (h:0≤l - 1) (d:1≤deep):S n deep k l:=by
 obtain ⟨p1,p2,p3,_,p5⟩:=p;exact ⟨⋯,p2,⋯,h,d,Nat.le_of_succ_le_succ p5⟩
theorem PT.many (p:PT (n+1) deep k l) (h:0≤l - 1) (d:1≤deep):S n deep k l:=by
 obtain ⟨p1,p2,p3,_,p5⟩:=p;exact ⟨⋯,p2,⋯,h,d,Nat.le_of_succ_le_succ p5⟩
theorem wh_ {a:Int} (h:a≤k1+4*l1+1) (g:k1+4*l1≤k+4*l - 3):a≤k+4*l - 2:=⋯
theorem ge2 {a b:Int} (h:a≤b - 2):a≤b:=⋯
theorem bb_ (z: -(16*(n:Int)+1)≤l1) (c:l1≤0→l1 - 6≤l2) (c':0<l1→ -(16*(n:Int)+5)≤l2): -(16*(n:Int)+7)≤l2:=⋯
theorem bb2_ (z: -(16*(n:Int)+7)≤l1) (c:l1≤0→l1 - 6≤l2) (c':0<l1→ -(16*(n:Int)+5)≤l2): -(16*((n+1:Nat):Int)+1)≤l2:=⋯
theorem wh2_ {a:Int} (h:a≤k1+4*l1+1) (g:k1+4*l1≤k+4*l - 2):a≤k+4*l:=⋯
theorem S.wh (h:S n deep k l) (b:BT n (deep - 1) (k+1) (l - 1) s1 t1 k1 l1) (c:BB n k1 l1 s2 t2 k2 l2):BS (n+1) k l (s1+s2+1) (max t1 t2+1) k2 l2:=
 ⟨Zd (YU b.1 c.1),C8 (Dw.mpr ⟨b.2.1,c.2.1⟩),ge2 (wh_ c.2.2.1 (kl3 b.2.2.1)),le1 (Cd b.2.2.2.1 c.2.2.2.1),fun g=>no0 h.2.2.2.1 g,fun _=>by have:=bb_ (h.low b) c.2.2.2.2.1 c.2.2.2.2.2;omega⟩
theorem S.pb2 (h:S n deep k l) (b:BT n (deep - 1) (k+1) (l - 1) s1 t1 k1 l1) (c:BB n k1 l1 s2 t2 k2 l2):PB n (deep - 1) k2 l2:=by
 have z:=bb_ (h.low b) c.2.2.2.2.1 c.2.2.2.2.2;have w:=wh_ c.2.2.1 (kl3 b.2.2.1);have h3:=h.2.2.1;have h6:=h.2.2.2.2.2;exact ⟨h.1,Cd (Cd h.2.1 (le1 b.2.2.2.1)) c.2.2.2.1,by clear z;omega,by clear w h3;omega,Co h6⟩
theorem S.if_ (h:S n deep k l) (b:BT n (deep - 1) (k+1) (l - 1) s1 t1 k1 l1) (c:BB n k1 l1 s2 t2 k2 l2) (e:BB n k2 l2 s3 t3 k3 l3):BS (n+1) k l (s1+(s2+s3)+1) (max t1 (max t2 t3)+1) k3 l3:=
 ⟨Zd (YU b.1 (YU c.1 e.1)),C8 (Dw.mpr ⟨b.2.1,Dw.mpr ⟨c.2.1,e.2.1⟩⟩),wh2_ e.2.2.1 (wh_ c.2.2.1 (kl3 b.2.2.1)),le1 (Cd (Cd b.2.2.2.1 c.2.2.2.1) e.2.2.2.1),fun g=>no0 h.2.2.2.1 g,
  fun _=>bb2_ (bb_ (h.low b) c.2.2.2.2.1 c.2.2.2.2.2) e.2.2.2.2.1 e.2.2.2.2.2⟩
def TI (n:Nat) (k l:Int) (i s:Nat) (k' l':Int):Prop:=(s:Int)=l - 1 - l'∧k'+4*l'≤k+4*l - 3+i∧k+1≤k'∧ -(16*(n:Int) - 1) - 6*(i:Int)≤l'
theorem TI.nil (h:S n deep k l) (hn:1≤n):TI n k l 0 0 (k+1) (l - 1):=⟨(Int.sub_self _).symm,⋯,Int.le_refl _,by have:=h.2.2.2.1;omega⟩
theorem TI.pre (h:S n deep k l) (c:TI n k l i s k' l') (hi:i<3):PB n (deep - 1) k' l':=by
 have h3:=h.2.2.1;have h6:=h.2.2.2.2.2;have c2:=c.2.1;have c4:=c.2.2.2;exact ⟨h.1,Cd h.2.1 (le1 c.2.2.1),by clear c4;omega,by clear c2 h3;omega,Co h6⟩
theorem TI.snoc (c:TI n k l i s k' l') (b:BB n k' l' s2 t2 k2 l2):TI n k l (i+1) (s+s2) k2 l2:=by
 have c2:=c.2.1;have c4:=c.2.2.2;have b3:=b.2.2.1;have b5:=b.2.2.2.2.1;have b6:=b.2.2.2.2.2;exact ⟨YU c.1 b.1,by clear c4 b5 b6;omega,Cd c.2.2.1 b.2.2.2.1,by clear c2 b3;omega⟩
theorem TI.out (h:S n deep k l) (c:TI n k l 3 s k' l') (e:s1+(s2+s3)=s) (e1:t1≤n+2) (e2:t2≤n+2) (e3:t3≤n+2):BS (n+1) k l (s1+(s2+s3)+1) (max t1 (max t2 t3)+1) k' l':=by
 subst e;have c2:=c.2.1;have c4:=c.2.2.2;exact ⟨Zd c.1,C8 (Dw.mpr ⟨e1,Dw.mpr ⟨e2,e3⟩⟩),by clear c4;omega,le1 c.2.2.1,fun g=>no0 h.2.2.2.1 g,fun _=>by clear c2;omega⟩
def WI (l0:Int) (d m s t:Nat) (k' l':Int):Prop:=d+m=6∧(s:Int)=l0 - l'∧t≤9∧0≤k'∧k'+4*l'≤160+d∧ -113≤l'
theorem WI.nil (h:0≤l) (h':l≤40):WI l 0 6 0 0 0 l:=⟨rfl,⋯,⋯,⋯,⋯,⋯⟩
theorem WI.pre (h:WI l i m s t k' l') (h0:deep≤7):PS 7 deep (k'+1) l':=by
 obtain ⟨h1,_,_,h4,h5,h6⟩:=h;exact ⟨h0,⋯,⋯,⋯,O0⟩
theorem WI.snoc (h:WI l i m s t k' l') (h0:0<l') (hi:i<6) (b:BS 7 (k'+1) l' s2 t2 k2 l2):WI l (i+1) (m - 1) (s+s2) (max t t2) k2 l2:=by
 obtain ⟨h1,h2,h3,h4,h5,_⟩:=h;obtain ⟨b1,b2,b3,b4,_,b6⟩:=b;exact ⟨by clear h2 h5 b1 b3;omega,YU h2 b1,Dw.mpr ⟨h3,b2⟩,Cd h4 (le1 b4),by clear h1 h2 b1 b4;omega,b6 h0⟩
end
end Bud
namespace Tre
open PySem
def qP (x:Str):Bool:=decide (1≤x.length)&&decide (x.length≤8)&&x.cps.toList.all fun c=>decide (97≤c)&&decide (c≤122)
def Ja (i:Int):Bool:=decide (-1000000000000≤i)&&decide (i≤1000000000000)
def zn:Aa→Bool
 | .str x=>qP x
 | _=>false
def jo:Aa→Bool
 | .int i=>Ja i
 | _=>false
def JG (d:Aa) (most:Nat):Bool:=match d with
 | .tuple xs=>decide (xs.length≤most)
 | _=>false
def txt:Aa→Str
 | .str x=>x
 | _=>""
def areNames:Aa→Bool
 | .tuple xs=>decide (xs.length≤4)&&xs.all zn&&decide ((xs.map txt).Nodup)
 | _=>false
abbrev signs:List Str:=["+","-","*","<","="]
abbrev forms:List (Str×List Str):=[("main",["names","body"]),("number",["number"]),("name",["name"]),("two",["sign","term","term"]),("fun",["names","body"]),("loop",["names","body"]),("call",["term","terms"]),("step",["term","term"]),
 ("let",["name","term"]),("set",["name","term"]),("do",["term"]),("if",["term","body","body"]),("while",["term","body"]),("hand",["term"]),("back",["term"]),("fault",["word","term"]),("try",["body","name","name","body","body"])]
abbrev heads:List (Str×List Str):=[("program",["main"]),("term",["number","name","two","fun","loop","call","step"]),("statement",["let","set","do","if","while","hand","back","fault","try"])]
abbrev members:List (Str×Str):=[("names","name"),("terms","term"),("body","statement")]
def qq (d:Aa) (sh:Str):Bool:=
 if sh=="number" then jo d else if sh=="name" then zn d else if sh=="word" then (match d with | .str x=>qP x&&x !="any" | _=>false)
 else if sh=="sign" then (match d with | .str x=>signs.any fun y=>y==x | _=>false) else if sh=="names" then areNames d else if sh=="terms" then JG d 4 else if sh=="body" then JG d 12 else true
def zH (ts:List Aa) (fs:List Str):Bool:=decide (ts.length=fs.length)&&(ts.zip fs).all fun p=>qq p.1 p.2
def zm (d:Aa) (sh:Str) (hands:Bool):Bool:=match d with
 | .tuple (.str h::ts)=>(((heads.lookup sh).getD []).any fun y=>y==h)&&!(h=="hand"&&!hands)&&zH ts ((forms.lookup h).getD [])
 | _=>false
def qt (t:Aa) (sh:Str):List (Aa×Str):=
 if sh=="term" then [(t,sh)] else if sh=="terms"||sh=="body" then (match t with | .tuple xs=>xs.map fun x=>(x,(members.lookup sh).getD "") | _=>[]) else []
def jd:Aa→List (Aa×Str)
 | .tuple (.str h::ts)=>(ts.zip ((forms.lookup h).getD [])).flatMap fun p=>qt p.1 p.2
 | _=>[]
def headOf:Aa→Str
 | .tuple (.str h::_)=>h
 | _=>""
def Jd (d:Aa) (hands:Bool):Bool:=if headOf d=="fun" then false else hands||(headOf d=="main"||headOf d=="loop")
abbrev Lv:=List (Aa×Str×Bool)
def jZ (lv:Lv):Lv:=lv.flatMap fun p=>(jd p.1).map fun q=>(q.1,q.2,Jd p.1 p.2.2)
def Vi:Nat→Nat→Lv→Bool
 | 0,_,lv=>lv.isEmpty
 | n+1,size,lv=>lv.isEmpty||(decide (size+lv.length≤300)&&(lv.all fun p=>zm p.1 p.2.1 p.2.2)&&Vi n (size+lv.length) (jZ lv))
def za (d:Aa):Bool:=Vi 20 0 [(d,"program",false)]
mutual
def fit:Aa→Bool
 | .str x=>decide (x.length≤1000000)
 | .list xs=>zr xs
 | .tuple xs=>zr xs
 | .dict _=>false
 | _=>true
def zr:List Aa→Bool
 | []=>true
 | x::xs=>fit x&&zr xs
end
theorem Jx:∀ {xs:List Aa},zr xs=true→∀ x∈xs,fit x=true
 | [],_,x,hx=>nomatch hx
 | y::r,h,x,hx=>by
  rw [zr,Al] at h;rcases Av.mp hx with rfl | hx
  ·exact h.1
  ·exact Jx h.2 x hx
theorem XJ:∀ sh∈heads,∀ h∈sh.2,∃ fs,forms.lookup h=some fs∧fs.length≤5:=by
 intro sh hs h hh;have:∀ sh∈heads,∀ h∈sh.2,((forms.lookup h).any fun fs=>decide (fs.length≤5))=true:=∅;have q:=this sh hs h hh;cases e:forms.lookup h with
 | none=>rw [e] at q;cases q
 | some fs=>rw [e] at q;exact ⟨fs,rfl,Bb q⟩
theorem yw {sh h:Str} (q:(((heads.lookup sh).getD []).any fun y=>y==h)=true):∃ l,heads.lookup sh=some l∧h∈l∧∃ fs,forms.lookup h=some fs∧fs.length≤5:=by
 cases e:heads.lookup sh with
 | none=>rw [e] at q;cases q
 | some l=>
  rw [e] at q;obtain ⟨y,hy,hyh⟩:=Dg.mp q;cases A8.mp hyh;exact ⟨l,rfl,hy,XJ (sh,l) (Bc e) _ hy⟩
theorem zq {d:Aa} {sh:Str} {hands:Bool} (h:zm d sh hands=true):
  ∃ hd ts fs l,d= .tuple (.str hd::ts)∧heads.lookup sh=some l∧hd∈l∧forms.lookup hd=some fs∧fs.length≤5∧ts.length=fs.length∧(∀ p∈ts.zip fs,qq p.1 p.2=true)∧(hd=="hand"&&!hands)=false:=by
 cases d with
 | tuple xs=>
  cases xs with
  | nil=>cases h
  | cons x ts=>
   cases x with
   | str hd=>
    simp only [zm,zH,Al,Bool.not_eq_true',Bj] at h;obtain ⟨⟨h1,h2⟩,h3,h4⟩:=h;obtain ⟨l,e1,e2,fs,e3,e4⟩:=yw h1;rw [e3] at h3 h4;exact ⟨hd,ts,fs,l,rfl,e1,e2,e3,e4,h3,fun p hp=>A6.mp h4 p hp,h2⟩
   | _=>cases h
 | _=>cases h
set_option tactic.hygienic true in
theorem ZP {t:Aa} {sh:Str} (h:qq t sh=true):(qt t sh).length≤12:=by
 unfold qt;split
 ·simp
 ·split
  ·rename_i h1 h2;cases t with
   | tuple xs=>
    rw [Aj];rw [Cb,A8,A8] at h2;rcases h2 with rfl | rfl
    ·have:JG (.tuple xs) 4=true:=h;have:=Bb this;omega
    ·have:JG (.tuple xs) 12=true:=h;exact Bb this
   | _=>simp
  ·simp
theorem YD {α β:Type} (f:α→List β) (m:Nat):∀ l:List α,(∀ x∈l,(f x).length≤m)→(l.flatMap f).length≤m*l.length
 | [],_=>by simp
 | x::r,h=>by
  rw [Df,Am,Ak,Nat.mul_succ];have h1:=h x Ay;have h2:=YD f m r fun y hy=>h y (Au _ hy);omega
theorem XG {d:Aa} {sh:Str} {hands:Bool} (h:zm d sh hands=true):(jd d).length≤60:=by
 obtain ⟨hd,ts,fs,l,rfl,_,_,e,hf,hl,hs,_⟩:=zq h;show ((ts.zip ((forms.lookup hd).getD [])).flatMap _).length≤60;rw [e];show ((ts.zip fs).flatMap _).length≤60;have:=YD (fun p:Aa×Str=>qt p.1 p.2) 12 (ts.zip fs) fun p hp=>ZP (hs p hp);rw [Ek] at this;omega
theorem X0 {lv:Lv} (h:∀ p∈lv,zm p.1 p.2.1 p.2.2=true):(jZ lv).length≤60*lv.length:=
 YD _ 60 lv fun p hp=>by rw [Aj];exact XG (h p hp)
set_option tactic.hygienic true in
theorem Yw {t e:Aa} {sh u:Str} (h:(e,u)∈qt t sh):u="term"∨u="statement":=by
 unfold qt at h;split at h
 ·rename_i h1;rw [A3] at h;cases h;exact .inl (A8.mp h1)
 ·split at h
  ·rename_i h2;cases t with
   | tuple xs=>
    obtain ⟨x,_,ex⟩:=B0.mp h;rw [Cb,A8,A8] at h2;cases ex;rcases h2 with rfl | rfl
    ·exact .inl rfl
    ·exact .inr rfl
   | _=>cases h
  ·cases h
theorem ZO {d e:Aa} {u:Str} (h:(e,u)∈jd d):u="term"∨u="statement":=by
 unfold jd at h;split at h
 ·obtain ⟨p,_,hp⟩:=C9.mp h;exact Yw hp
 ·cases h
theorem XH {t e:Aa} {sh u:Str} (ft:fit t=true) (h:(e,u)∈qt t sh):fit e=true:=by
 unfold qt at h;split at h
 ·rw [A3] at h;cases h;exact ft
 ·split at h
  ·cases t with
   | tuple xs=>
    obtain ⟨x,hx,ex⟩:=B0.mp h;rw [fit] at ft;have q:=Jx ft x hx;cases ex;exact q
   | _=>cases h
  ·cases h
set_option tactic.hygienic true in
theorem qat {d e:Aa} {u:Str} (f:fit d=true) (h:(e,u)∈jd d):fit e=true:=by
 unfold jd at h;split at h
 ·rename_i hd ts;obtain ⟨p,hz,hp⟩:=C9.mp h;rw [fit,zr,Al] at f;exact XH (Jx f.2 p.1 (Cz hz).1) hp
 ·cases h
theorem j6 (d:Aa):qq d "number"=jo d:=by
 unfold qq;rw [if_pos (show (((("number":Str)=="number")=true)) from ∅)]
theorem jf (d:Aa):qq d "name"=zn d:=by
 unfold qq;rw [if_neg (show ¬ (((("name":Str)=="number")=true)) from ∅)];rw [if_pos (show (((("name":Str)=="name")=true)) from ∅)]
theorem J5 (d:Aa):qq d "word"=(match d with | .str x=>qP x&&x !="any" | _=>false):=by
 unfold qq;rw [if_neg (show ¬ (((("word":Str)=="number")=true)) from ∅)];rw [if_neg (show ¬ (((("word":Str)=="name")=true)) from ∅)];rw [if_pos (show (((("word":Str)=="word")=true)) from ∅)]
theorem J6 (d:Aa):qq d "sign"=(match d with | .str x=>signs.any fun y=>y==x | _=>false):=by
 unfold qq;rw [if_neg (show ¬ (((("sign":Str)=="number")=true)) from ∅)];rw [if_neg (show ¬ (((("sign":Str)=="name")=true)) from ∅)];rw [if_neg (show ¬ (((("sign":Str)=="word")=true)) from ∅)];rw [if_pos (show (((("sign":Str)=="sign")=true)) from ∅)]
theorem JA (d:Aa):qq d "names"=areNames d:=by
 unfold qq;rw [if_neg (show ¬ (((("names":Str)=="number")=true)) from ∅)];rw [if_neg (show ¬ (((("names":Str)=="name")=true)) from ∅)];rw [if_neg (show ¬ (((("names":Str)=="word")=true)) from ∅)];rw [if_neg (show ¬ (((("names":Str)=="sign")=true)) from ∅)];rw [if_pos (show (((("names":Str)=="names")=true)) from ∅)]
theorem jV (d:Aa):qq d "terms"=JG d 4:=by
 unfold qq;rw [if_neg (show ¬ (((("terms":Str)=="number")=true)) from ∅)];rw [if_neg (show ¬ (((("terms":Str)=="name")=true)) from ∅)];rw [if_neg (show ¬ (((("terms":Str)=="word")=true)) from ∅)];rw [if_neg (show ¬ (((("terms":Str)=="sign")=true)) from ∅)];rw [if_neg (show ¬ (((("terms":Str)=="names")=true)) from ∅)];rw [if_pos (show (((("terms":Str)=="terms")=true)) from ∅)]
theorem Ji (d:Aa):qq d "body"=JG d 12:=by
 unfold qq;rw [if_neg (show ¬ (((("body":Str)=="number")=true)) from ∅)];rw [if_neg (show ¬ (((("body":Str)=="name")=true)) from ∅)];rw [if_neg (show ¬ (((("body":Str)=="word")=true)) from ∅)];rw [if_neg (show ¬ (((("body":Str)=="sign")=true)) from ∅)];rw [if_neg (show ¬ (((("body":Str)=="names")=true)) from ∅)];rw [if_neg (show ¬ (((("body":Str)=="terms")=true)) from ∅)];rw [if_pos (show (((("body":Str)=="body")=true)) from ∅)]
theorem Wj (d:Aa) {sh:Str} (h0:(sh=="number")=false) (h1:(sh=="name")=false) (h2:(sh=="word")=false) (h3:(sh=="sign")=false) (h4:(sh=="names")=false) (h5:(sh=="terms")=false) (h6:(sh=="body")=false):qq d sh=true:=by
 unfold qq;rw [if_neg (by rw [h0];exact Ai)]
 rw [if_neg (by rw [h1];exact Ai)]
 rw [if_neg (by rw [h2];exact Ai)]
 rw [if_neg (by rw [h3];exact Ai)]
 rw [if_neg (by rw [h4];exact Ai)]
 rw [if_neg (by rw [h5];exact Ai)]
 rw [if_neg (by rw [h6];exact Ai)]
def Yu (d:Aa):List Aa:=(jd d).map (·.1)
mutual
inductive Tr:Aa→Nat→Nat→Prop
 | mk {d:Aa} {sh:Str} {hands:Bool} {s t:Nat}:zm d sh hands=true→Trl (Yu d) s t→Tr d (s+1) (t+1)
inductive Trl:List Aa→Nat→Nat→Prop
 | nil:Trl [] 0 0
 | cons {d:Aa} {ds:List Aa} {s t s' t':Nat}:Tr d s t→Trl ds s' t'→Trl (d::ds) (s+s') (max t t')
end
theorem qfo (a:Nat):∀ b:Nat,max a (b - 1)=max (a+1) b - 1
 | 0=>by simp
 | b+1=>by
  rw [Nat.add_max_add_right];rfl
mutual
theorem Tr.deep:∀ {d:Aa} {s t:Nat},Tr d s t→t≤s
 | _,_,_,.mk _ h=>C8 (Trl.deep h)
theorem Trl.deep:∀ {ds:List Aa} {s t:Nat},Trl ds s t→t≤s
 | _,_,_,.nil=>Aw _
 | _,_,_,.cons h1 h2=>by
  have a:=Tr.deep h1;have b:=Trl.deep h2;omega
end
mutual
inductive Pt:Aa→Str→Bool→Nat→Nat→Prop
 | mk {d:Aa} {sh:Str} {hands:Bool} {s t:Nat}:zm d sh hands=true→Ptl (jd d) (Jd d hands) s t→Pt d sh hands (s+1) (t+1)
inductive Ptl:List (Aa×Str)→Bool→Nat→Nat→Prop
 | nil {hands:Bool}:Ptl [] hands 0 0
 | cons {d:Aa} {sh:Str} {r:List (Aa×Str)} {hands:Bool} {s t s' t':Nat}:Pt d sh hands s t→Ptl r hands s' t'→Ptl ((d,sh)::r) hands (s+s') (max t t')
end
theorem Ptl.append:∀ {a b:List (Aa×Str)} {hands:Bool} {s t s' t':Nat},Ptl a hands s t→Ptl b hands s' t'→Ptl (a++b) hands (s+s') (max t t'):=by
 intro a
 induction a with
 | nil=>
  intro b hands s t s' t' h h';cases h;simpa using h'
 | cons d r ih=>
  intro b hands s t s' t' h h';cases h with
  | cons h1 h2=>
   have:=Ptl.cons h1 (ih h2 h');rw [Dc,Nat.add_assoc,Nat.max_assoc];exact this
mutual
theorem Pt.tr:∀ {d:Aa} {sh:Str} {hands:Bool} {s t:Nat},Pt d sh hands s t→Tr d s t
 | _,_,_,_,_,.mk hf h=> .mk hf (Ptl.tr h)
theorem Ptl.tr:∀ {l:List (Aa×Str)} {hands:Bool} {s t:Nat},Ptl l hands s t→Trl (l.map (·.1)) s t
 | _,_,_,_,.nil=> .nil
 | _,_,_,_,.cons h1 h2=> .cons (Pt.tr h1) (Ptl.tr h2)
end
inductive Lvl:Lv→Nat→Nat→Prop
 | nil:Lvl [] 0 0
 | cons {p:Aa×Str×Bool} {r:Lv} {s t s' t':Nat}:Pt p.1 p.2.1 p.2.2 s t→Lvl r s' t'→Lvl (p::r) (s+s') (max t t')
theorem Lvl.append:∀ {a b:Lv} {s t s' t':Nat},Lvl a s t→Lvl b s' t'→Lvl (a++b) (s+s') (max t t')
 | _,_,_,_,_,_,.nil,h=>by simpa using h
 | _,_,_,_,_,_,.cons h1 h2,h=>by
  have:=Lvl.cons h1 (Lvl.append h2 h);rw [Dc,Nat.add_assoc,Nat.max_assoc];exact this
theorem qh9:∀ {l:List (Aa×Str)} {hands:Bool} {s t:Nat},Ptl l hands s t→Lvl (l.map fun z=>(z.1,z.2,hands)) s t:=by
 intro l
 induction l with
 | nil=>intro hands s t h;cases h;exact .nil
 | cons z r ih=>
  intro hands s t h;cases h with
  | cons h1 h2=>exact .cons h1 (ih h2)
theorem Lvl.lower:∀ {lv:Lv} {s t:Nat},Lvl lv s t→∃ s',Lvl (Tre.jZ lv) s' (t - 1)∧s=lv.length+s':=by
 intro lv
 induction lv with
 | nil=>intro s t h;cases h;exact ⟨0,.nil,rfl⟩
 | cons p r ih=>
  intro s t h;cases h with
  | @cons _ _ s1 t1 s2 t2 h1 h2=>
   obtain ⟨s',h3,e⟩:=ih h2;generalize e1:p.1=d at h1;generalize e2:p.2.1=sh at h1;generalize e3:p.2.2=hands at h1;cases h1 with
   | @mk _ _ _ s0 t0 hf hk=>
    refine ⟨s0+s',?_,?_⟩
    ·have e4:max t0 (t2 - 1)=max (t0+1) t2 - 1:=qfo _ _;have e5:Tre.jZ (p::r)=((jd d).map fun z=>(z.1,z.2,Jd d hands))++Tre.jZ r:=by
      unfold Tre.jZ;rw [Df,e1,e3]
     rw [e5,← e4];exact (qh9 hk).append h3
    ·rw [Ak];omega
theorem Lvl.forms:∀ {lv:Lv} {s t:Nat},Lvl lv s t→(lv.all fun p=>zm p.1 p.2.1 p.2.2)=true:=by
 intro lv
 induction lv with
 | nil=>intro s t _;rfl
 | cons p r ih=>
  intro s t h;cases h with
  | cons h1 h2=>
   rw [B9,ih h2,C1];cases h1 with
   | mk hf _=>exact hf
theorem Lvl.zero {lv:Lv} {s:Nat} (h:Lvl lv s 0):lv=[]:=by
 cases lv with
 | nil=>rfl
 | cons p r=>
  generalize e:0=n at h;cases h with
  | cons h1 h2=>
   cases h1;omega
theorem wQ:∀ (n sz:Nat) (lv:Lv) (s t:Nat),Lvl lv s t→t≤n→sz+s≤300→Vi n sz lv=true
 | 0,sz,lv,s,t,h,hn,hz=>by
  have:t=0:=⋯;subst this;rw [h.zero];rfl
 | n+1,sz,lv,s,t,h,hn,hz=>by
  obtain ⟨s',h2,e⟩:=h.lower;rw [Vi,wQ n (sz+lv.length) (Tre.jZ lv) s' (t - 1) h2 ⋯ ⋯,h.forms,Ao ⋯];simp
theorem vm {d:Aa} {s t:Nat} (h:Pt d "program" false s t) (ht:t≤20) (hs:s≤300):za d=true:=
 wQ 20 0 _ s t (by simpa using Lvl.cons (p:=(d,"program",false)) h .nil) ht ⋯
theorem jq {h sh:Str} {l fs:List Str} {ts:List Aa} {hands:Bool} (e1:heads.lookup sh=some l) (e2:(l.any fun y=>y==h)=true) (e3:forms.lookup h=some fs) (e4:(h=="hand"&&!hands)=false) (e5:zH ts fs=true):zm (.tuple (.str h::ts)) sh hands=true:=by
 simp only [zm,e1,e3,Option.getD_some,e2,e4,e5,E8,C1]
theorem zh {h:Str} {fs:List Str} {ts:List Aa} (e:forms.lookup h=some fs):jd (.tuple (.str h::ts))=(ts.zip fs).flatMap fun p=>qt p.1 p.2:=by
 show (ts.zip ((forms.lookup h).getD [])).flatMap _=_;rw [e];rfl
theorem jt (t:Aa):qt t "term"=[(t,("term":Str))]:=by
 unfold qt;rw [if_pos ∅]
theorem Jc (xs:List Aa):qt (.tuple xs) "body"=xs.map fun x=>(x,("statement":Str)):=by
 unfold qt;rw [if_neg ∅,if_pos ∅];have e:(members.lookup ("body":Str)).getD ""=("statement":Str):=∅;rw [e]
theorem WY (xs:List Aa):qt (.tuple xs) "terms"=xs.map fun x=>(x,("term":Str)):=by
 unfold qt;rw [if_neg ∅,if_pos ∅];have e:(members.lookup ("terms":Str)).getD ""=("term":Str):=∅;rw [e]
theorem JI {t:Aa} {sh:Str} (h:(sh=="term"||(sh=="terms"||sh=="body"))=false):qt t sh=[]:=by
 rw [Bool.or_eq_false_iff] at h;unfold qt;rw [if_neg (by rw [h.1];exact Ai),if_neg (by rw [h.2];exact Ai)]
theorem jS (t:Aa):qq t "term"=true:=Wj t ∅ ∅ ∅ ∅ ∅ ∅ ∅
structure Bd (xs:List Aa) (hands:Bool) (s t:Nat):Prop where
 few:xs.length≤12
 all:Ptl (xs.map fun x=>(x,("statement":Str))) hands s t
theorem J7 {xs:List Aa} (h:xs.length≤12):qq (.tuple xs) "body"=true:=by
 rw [Ji];exact Ao h
theorem qcn {xs:List Aa} (h:xs.length≤4):qq (.tuple xs) "terms"=true:=by
 rw [jV];exact Ao h
theorem jD {h:Str} {ts:List Aa} {hands:Bool} (e:(h=="fun"||(h=="main"||h=="loop"))=false):Jd (.tuple (.str h::ts)) hands=hands:=by
 rw [Bool.or_eq_false_iff] at e;show (if h=="fun" then false else hands||(h=="main"||h=="loop"))=hands
 rw [if_neg (by rw [e.1];exact Ai),e.2,Bool.or_false]
theorem ok1 {t:Aa} {f:Str} (h:qq t f=true):zH [t] [f]=true:=by simp [zH,h]
theorem ok2 {t u:Aa} {f g:Str} (h:qq t f=true) (h':qq u g=true):zH [t,u] [f,g]=true:=by simp [zH,h,h']
theorem ok3 {t u v:Aa} {f g k:Str} (h:qq t f=true) (h':qq u g=true) (h2:qq v k=true):zH [t,u,v] [f,g,k]=true:=by simp [zH,h,h',h2]
theorem zZ {d:Aa} {sh:Str} {hands:Bool} {s t:Nat} (h:Pt d sh hands s t):Ptl [(d,sh)] hands s t:=by simpa using Ptl.cons h .nil
theorem jj {i:Int} {hands:Bool} (h:Ja i=true):Pt (.tuple [.str "number",.int i]) "term" hands 1 1:=by
 refine .mk (jq (l:=["number","name","two","fun","loop","call","step"]) (fs:=["number"]) ∅ ∅ ∅ (by cases hands <;> decide+kernel) (ok1 ((j6 _).trans h))) (s:=0) (t:=0) ?_
 rw [zh (fs:=["number"]) ∅];show Ptl (qt _ _++[]) _ _ _;rw [JI (sh:="number") ∅];exact .nil
theorem qe6 {x:Str} {hands:Bool} (h:qP x=true):Pt (.tuple [.str "name",.str x]) "term" hands 1 1:=by
 refine .mk (jq (l:=["number","name","two","fun","loop","call","step"]) (fs:=["name"]) ∅ ∅ ∅ (by cases hands <;> decide+kernel) (ok1 ((jf _).trans h))) (s:=0) (t:=0) ?_
 rw [zh (fs:=["name"]) ∅];show Ptl (qt _ _++[]) _ _ _;rw [JI (sh:="name") ∅];exact .nil
theorem qcw {g:Str} {a b:Aa} {hands:Bool} {s t s' t':Nat} (h:(signs.any fun y=>y==g)=true) (ha:Pt a "term" hands s t) (hb:Pt b "term" hands s' t'):Pt (.tuple [.str "two",.str g,a,b]) "term" hands (s+s'+1) (max t t'+1):=by
 refine .mk (jq (l:=["number","name","two","fun","loop","call","step"]) (fs:=["sign","term","term"]) ∅ ∅ ∅ (by cases hands <;> decide+kernel) (ok3 ((J6 _).trans h) (jS _) (jS _))) ?_
 rw [zh (fs:=["sign","term","term"]) ∅,jD ∅];show Ptl (qt _ _++(qt _ _++(qt _ _++[]))) _ _ _;rw [JI (sh:="sign") ∅,jt,jt];exact (zZ ha).append (zZ hb)
theorem Qm {a b:Aa} {hands:Bool} {s t s' t':Nat} (ha:Pt a "term" hands s t) (hb:Pt b "term" hands s' t'):Pt (.tuple [.str "step",a,b]) "term" hands (s+s'+1) (max t t'+1):=by
 refine .mk (jq (l:=["number","name","two","fun","loop","call","step"]) (fs:=["term","term"]) ∅ ∅ ∅ (by cases hands <;> decide+kernel) (ok2 (jS _) (jS _))) ?_
 rw [zh (fs:=["term","term"]) ∅,jD ∅];show Ptl (qt _ _++(qt _ _++[])) _ _ _;rw [jt,jt];exact (zZ ha).append (zZ hb)
theorem VI {a:Aa} {xs:List Aa} {hands:Bool} {s t s' t':Nat} (ha:Pt a "term" hands s t) (hl:xs.length≤4) (hb:Ptl (xs.map fun x=>(x,("term":Str))) hands s' t'):Pt (.tuple [.str "call",a,.tuple xs]) "term" hands (s+s'+1) (max t t'+1):=by
 refine .mk (jq (l:=["number","name","two","fun","loop","call","step"]) (fs:=["term","terms"]) ∅ ∅ ∅ (by cases hands <;> decide+kernel) (ok2 (jS _) (qcn hl))) ?_
 rw [zh (fs:=["term","terms"]) ∅,jD ∅];show Ptl (qt _ _++(qt _ _++[])) _ _ _;rw [jt,WY,Bo];exact (zZ ha).append hb
theorem Wu {h sh:Str} {l:List Str} {ns xs:List Aa} {hands hi:Bool} {s t:Nat} (e1:heads.lookup sh=some l) (e2:(l.any fun y=>y==h)=true) (e3:forms.lookup h=some (["names","body"]:List Str)) (e4:(h=="hand"&&!hands)=false) (hn:areNames (.tuple ns)=true) (hw:∀ ts,Jd (.tuple (.str h::ts)) hands=hi) (hb:Bd xs hi s t):
  Pt (.tuple [.str h,.tuple ns,.tuple xs]) sh hands (s+1) (t+1):=by
 refine .mk (jq e1 e2 e3 e4 (ok2 ((JA _).trans hn) (J7 hb.few))) ?_;rw [zh e3,hw];show Ptl (qt _ _++(qt _ _++[])) _ _ _;rw [JI (sh:="names") ∅,Jc,Cn,Bo];exact hb.all
theorem Zq {ns xs:List Aa} {hands:Bool} {s t:Nat} (hn:areNames (.tuple ns)=true) (hb:Bd xs false s t):Pt (.tuple [.str "fun",.tuple ns,.tuple xs]) "term" hands (s+1) (t+1):=
 Wu (l:=["number","name","two","fun","loop","call","step"]) ∅ ∅ ∅ (by cases hands <;> decide+kernel) hn (fun ts=>by
  show (if (("fun":Str)=="fun")=true then false else _)=false
  rw [if_pos ∅]) hb
theorem Qn {ns xs:List Aa} {hands:Bool} {s t:Nat} (hn:areNames (.tuple ns)=true) (hb:Bd xs true s t):Pt (.tuple [.str "loop",.tuple ns,.tuple xs]) "term" hands (s+1) (t+1):=
 Wu (l:=["number","name","two","fun","loop","call","step"]) ∅ ∅ ∅ (by cases hands <;> decide+kernel) hn (fun ts=>by
  show (if (("loop":Str)=="fun")=true then false else hands||((("loop":Str)=="main")||(("loop":Str)=="loop")))=true
  rw [if_neg ∅,show ((("loop":Str)=="main")||(("loop":Str)=="loop"))=true from ∅,Do]) hb
theorem y8 {ns xs:List Aa} {s t:Nat} (hn:areNames (.tuple ns)=true) (hb:Bd xs true s t):Pt (.tuple [.str "main",.tuple ns,.tuple xs]) "program" false (s+1) (t+1):=
 Wu (l:=["main"]) ∅ ∅ ∅ ∅ hn (fun ts=>by
  show (if (("main":Str)=="fun")=true then false else false||((("main":Str)=="main")||(("main":Str)=="loop")))=true
  rw [if_neg ∅,show ((("main":Str)=="main")||(("main":Str)=="loop"))=true from ∅,Do]) hb
abbrev stm:List Str:=["let","set","do","if","while","hand","back","fault","try"]
theorem qcy {h x:Str} {a:Aa} {hands:Bool} {s t:Nat} (hh:h="let"∨h="set") (hx:qP x=true) (ha:Pt a "term" hands s t):Pt (.tuple [.str h,.str x,a]) "statement" hands (s+1) (t+1):=by
 have e3:forms.lookup h=some (["name","term"]:List Str):=by rcases hh with rfl | rfl <;> decide+kernel
 refine .mk (jq (l:=stm) (fs:=["name","term"]) ∅ (by rcases hh with rfl | rfl <;> decide+kernel) e3 (by rcases hh with rfl | rfl <;> cases hands <;> decide+kernel) (ok2 ((jf _).trans hx) (jS _))) ?_
 rw [zh e3,jD (by rcases hh with rfl | rfl <;> decide+kernel)]
 show Ptl (qt _ _++(qt _ _++[])) _ _ _;rw [JI (sh:="name") ∅,jt];exact zZ ha
theorem qc1 {x:Str} {a:Aa} {hands:Bool} {s t:Nat} (hx:(qP x&&x !="any")=true) (ha:Pt a "term" hands s t):Pt (.tuple [.str "fault",.str x,a]) "statement" hands (s+1) (t+1):=by
 refine .mk (jq (l:=stm) (fs:=["word","term"]) ∅ ∅ ∅ (by cases hands <;> decide+kernel) (ok2 ((J5 _).trans hx) (jS _))) ?_
 rw [zh (fs:=["word","term"]) ∅,jD ∅];show Ptl (qt _ _++(qt _ _++[])) _ _ _;rw [JI (sh:="word") ∅,jt];exact zZ ha
theorem wo {h:Str} {a:Aa} {hands:Bool} {s t:Nat} (hh:h="do"∨h="back"∨(h="hand"∧hands=true)) (ha:Pt a "term" hands s t):Pt (.tuple [.str h,a]) "statement" hands (s+1) (t+1):=by
 have e3:forms.lookup h=some (["term"]:List Str):=by rcases hh with rfl | rfl | ⟨rfl,_⟩ <;> decide+kernel
 refine .mk (jq (l:=stm) (fs:=["term"]) ∅ (by rcases hh with rfl | rfl | ⟨rfl,_⟩ <;> decide+kernel) e3 (by rcases hh with rfl | rfl | ⟨rfl,rfl⟩ <;> first | decide+kernel | (cases hands <;> decide+kernel)) (ok1 (jS _))) ?_
 rw [zh e3,jD (by rcases hh with rfl | rfl | ⟨rfl,_⟩ <;> decide+kernel)]
 show Ptl (qt _ _++[]) _ _ _;rw [jt];exact zZ ha
theorem Xj {a:Aa} {xs:List Aa} {hands:Bool} {s t s' t':Nat} (ha:Pt a "term" hands s t) (hb:Bd xs hands s' t'):Pt (.tuple [.str "while",a,.tuple xs]) "statement" hands (s+s'+1) (max t t'+1):=by
 refine .mk (jq (l:=stm) (fs:=["term","body"]) ∅ ∅ ∅ (by cases hands <;> decide+kernel) (ok2 (jS _) (J7 hb.few))) ?_
 rw [zh (fs:=["term","body"]) ∅,jD ∅];show Ptl (qt _ _++(qt _ _++[])) _ _ _;rw [jt,Jc,Bo];exact (zZ ha).append hb.all
theorem qcz {a:Aa} {xs ys:List Aa} {hands:Bool} {s t s' t' s2 t2:Nat} (ha:Pt a "term" hands s t) (hb:Bd xs hands s' t') (hc:Bd ys hands s2 t2):Pt (.tuple [.str "if",a,.tuple xs,.tuple ys]) "statement" hands (s+(s'+s2)+1) (max t (max t' t2)+1):=by
 refine .mk (jq (l:=stm) (fs:=["term","body","body"]) ∅ ∅ ∅ (by cases hands <;> decide+kernel) (ok3 (jS _) (J7 hb.few) (J7 hc.few))) ?_
 rw [zh (fs:=["term","body","body"]) ∅,jD ∅];show Ptl (qt _ _++(qt _ _++(qt _ _++[]))) _ _ _;rw [jt,Jc,Jc,Bo];exact (zZ ha).append (hb.all.append hc.all)
theorem y6 {x y:Str} {xs ys zs:List Aa} {hands:Bool} {s t s' t' s2 t2:Nat} (hx:qP x=true) (hy:qP y=true) (ha:Bd xs hands s t) (hb:Bd ys hands s' t') (hc:Bd zs hands s2 t2):
  Pt (.tuple [.str "try",.tuple xs,.str x,.str y,.tuple ys,.tuple zs]) "statement" hands (s+(s'+s2)+1) (max t (max t' t2)+1):=by
 have sx:qq (.str x) "name"=true:=(jf _).trans hx;have sy:qq (.str y) "name"=true:=(jf _).trans hy;refine .mk (jq (l:=stm) (fs:=["body","name","name","body","body"]) ∅ ∅ ∅ (by cases hands <;> decide+kernel) (by simp [zH,J7 ha.few,J7 hb.few,J7 hc.few,sx,sy])) ?_
 rw [zh (fs:=["body","name","name","body","body"]) ∅,jD ∅];show Ptl (qt _ _++(qt _ _++(qt _ _++(qt _ _++(qt _ _++[]))))) _ _ _;rw [Jc,JI (sh:="name") ∅,JI (sh:="name") ∅,Jc,Jc,Bo,Cn,Cn];exact ha.all.append (hb.all.append hc.all)
mutual
def noL:Aa→Bool
 | .list _=>false
 | .dict _=>false
 | .tuple xs=>jX xs
 | .none=>true
 | .bool _=>true
 | .int _=>true
 | .str _=>true
def jX:List Aa→Bool
 | []=>true
 | x::r=>noL x&&jX r
end
structure Gd (n:Nat) (d:Aa):Prop where
 nol:noL d=true
 lay:d.canLay0=true
 dep:d.depth≤n
theorem Gd.mono {n m:Nat} {d:Aa} (h:Gd n d) (hm:n≤m):Gd m d:=⟨h.nol,h.lay,Ar h.dep hm⟩
theorem YB {x:Str} {n:Nat} (h:PyData.strOk x=true):Gd n (.str x):=⟨rfl,h,B2 _⟩
theorem qil {i:Int} {n:Nat}:Gd n (.int i):=⟨rfl,rfl,B2 _⟩
theorem ZV {n:Nat}:∀ {xs:List Aa},(∀ x∈xs,Gd n x)→jX xs=true∧PyData.canLayAll0 xs=true∧PyData.depthAll xs≤n
 | [],_=>⟨rfl,rfl,B2 _⟩
 | x::r,h=>by
  obtain ⟨h1,h2,h3⟩:=ZV fun y hy=>h y (Au _ hy);have hx:=h x Ay;refine ⟨?_,?_,?_⟩
  ·rw [jX,hx.nol,h1];rfl
  ·rw [PyData.canLayAll0,hx.lay,h2];rfl
  ·rw [PyData.depthAll];exact Dw.mpr ⟨hx.dep,h3⟩
theorem YA {n:Nat} {xs:List Aa} (h:∀ x∈xs,Gd n x):Gd (n+1) (.tuple xs):=by
 obtain ⟨h1,h2,h3⟩:=ZV h;exact ⟨by rw [noL];exact h1,by rw [PyData.canLay0];exact h2,by rw [PyData.depth];exact C8 h3⟩
theorem Qz {x:Str} (h:qP x=true):PyData.strOk x=true:=by
 unfold qP at h;rw [Al] at h;unfold PyData.strOk;rw [← Array.all_toList,A6];intro c hc;have q:=A6.mp h.2 c hc;rw [Al] at q;have:=Bb q.2;exact Ao ⋯
abbrev v0:List Str:=["number","name","word","sign","names","terms","body","term"]
theorem QA {t:Aa} {n:Nat} (h:zn t=true):Gd n t:=by
 cases t with
 | str x=>exact YB (Qz h)
 | _=>cases h
theorem qki {t:Aa} {f:Str} {n:Nat} (hs:qq t f=true) (hf:f∈v0) (hk:∀ z∈qt t f,Gd n z.1):Gd (n+1) t:=by
 simp only [v0,Av,Be,or_false] at hf;rcases hf with rfl | rfl | rfl | rfl | rfl | rfl | rfl | rfl
 ·rw [j6] at hs;cases t with
  | int i=>exact qil
  | _=>cases hs
 ·rw [jf] at hs;exact QA hs
 ·rw [J5] at hs;cases t with
  | str x=>
   have q:(qP x&&x !="any")=true:=hs;rw [Al] at q;exact YB (Qz q.1)
  | _=>cases hs
 ·rw [J6] at hs;cases t with
  | str x=>
   have q:(signs.any fun y=>y==x)=true:=hs;obtain ⟨y,hy,e⟩:=Dg.mp q;cases A8.mp e;refine YB ?_;have:(signs.all fun y=>PyData.strOk y)=true:=∅;exact A6.mp this _ hy
  | _=>cases hs
 ·rw [JA] at hs;cases t with
  | tuple xs=>
   simp only [areNames,Al] at hs;exact YA fun x hx=>QA (A6.mp hs.1.2 x hx)
  | _=>cases hs
 ·rw [jV] at hs;cases t with
  | tuple xs=>
   rw [WY] at hk;exact YA fun x hx=>hk (x,"term") (Du hx)
  | _=>cases hs
 ·rw [Ji] at hs;cases t with
  | tuple xs=>
   rw [Jc] at hk;exact YA fun x hx=>hk (x,"statement") (Du hx)
  | _=>cases hs
 ·rw [jt] at hk;exact (hk (t,"term") Ay).mono (Fb _)
theorem wC:∀ p∈forms,PyData.strOk p.1=true∧∀ f∈p.2,f∈v0:=by
 have h:(forms.all fun p=>PyData.strOk p.1&&p.2.all fun f=>v0.any fun g=>g==f)=true:=∅;intro p hp;have q:=A6.mp h p hp;rw [Al] at q;refine ⟨q.1,fun f hf=>?_⟩;obtain ⟨g,hg,e⟩:=Dg.mp (A6.mp q.2 f hf);cases A8.mp e;exact hg
theorem qf5 {d:Aa} {sh:Str} {hands:Bool} {n:Nat} (h:zm d sh hands=true) (hk:∀ e∈Yu d,Gd n e):Gd (n+2) d:=by
 obtain ⟨hd,ts,fs,l,rfl,_,_,e,_,hl,hs,_⟩:=zq h;obtain ⟨k1,k2⟩:=wC _ (Bc e);refine YA fun x hx=>?_;rcases Av.mp hx with rfl | hx
 ·exact YB k1
 ·obtain ⟨i,hi,rfl⟩:=List.getElem_of_mem hx;have hz:(ts[i],fs[i]'⋯)∈ts.zip fs:=by
   rw [List.mem_iff_getElem];exact ⟨i,by rw [Ek];omega,by rw [List.getElem_zip]⟩
  refine qki (hs _ hz) (k2 _ (List.getElem_mem _)) fun z hzz=>hk z.1 ?_;unfold Yu;refine Du ?_;rw [zh e];exact C9.mpr ⟨_,hz,hzz⟩
mutual
theorem Tr.gd:∀ {d:Aa} {s t:Nat},Tr d s t→Gd (2*t) d
 | _,_,_,.mk hf h=>qf5 hf (Trl.gd h)
theorem Trl.gd:∀ {ds:List Aa} {s t:Nat},Trl ds s t→∀ d∈ds,Gd (2*t) d
 | _,_,_,.nil=>fun d hd=>nomatch hd
 | _,_,_,.cons h1 h2=>by
  have a:=Tr.gd h1;have b:=Trl.gd h2;intro d hd;rcases Av.mp hd with e | hd
  ·rw [e];exact a.mono ⋯
  ·exact (b d hd).mono ⋯
end
theorem Qy {i:Int} (h:Ja i=true):i.natAbs.log2<1920:=by
 unfold Ja at h;rw [Al] at h;have a:=Bb h.1;have b:=Bb h.2;have c:i.natAbs<2 ^ 1920:=Cq (show i.natAbs≤1000000000000 from ⋯) ∅
 by_cases z:i.natAbs=0
 ·rw [z];decide
 ·exact (Nat.log2_lt z).mpr c
theorem qdj {x:Str} (h:qP x=true):x.length≤8:=by
 unfold qP at h;rw [Al,Al] at h;exact Bb h.1.2
end Tre
set_option tactic.hygienic true
namespace Tre
open PySem
structure Box (α:Type) where
 val:α
theorem Trl.mem:∀ {ds:List Aa} {s t:Nat},Trl ds s t→∀ d∈ds,∃ s' t',Tr d s' t'∧s'≤s∧t'≤t:=by
 intro ds
 induction ds with
 | nil=>intro s t _ d hd;cases hd
 | cons e r ih=>
  intro s t h d hd;cases h with
  | @cons _ _ s1 t1 s2 t2 h1 h2=>
   rcases Av.mp hd with rfl | hd
   ·exact ⟨s1,t1,h1,⋯,⋯⟩
   ·obtain ⟨s',t',a,b,c⟩:=ih h2 d hd;exact ⟨s',t',a,⋯,⋯⟩
end Tre
set_option tactic.hygienic false
namespace Tre
open PySem
theorem jJ {d:Aa} (h:qq d "name"=true):∃ x,d= .str x∧qP x=true:=by
 rw [jf] at h;cases d with
 | str x=>exact ⟨x,rfl,h⟩
 | _=>cases h
theorem Tr.el {G:Prop} {d:Aa} {s t:Nat} (h:Tr d s t) (k:∀ sh hands s0 t0,s=s0+1→t=t0+1→zm d sh hands=true→Trl (Yu d) s0 t0→G):G:=by
 cases h with
 | mk h l=>exact k _ _ _ _ rfl rfl h l
theorem Pt.el {G:Prop} {d:Aa} {sh:Str} {hands:Bool} {s t:Nat} (h:Pt d sh hands s t) (k:∀ s0 t0,s=s0+1→t=t0+1→zm d sh hands=true→Ptl (jd d) (Jd d hands) s0 t0→G):G:=by
 cases h with
 | mk h l=>exact k _ _ rfl rfl h l
theorem Ptl.el {G:Prop} {d:Aa} {u:Str} {r:List (Aa×Str)} {hands:Bool} {s t:Nat} (h:Ptl ((d,u)::r) hands s t) (k:∀ s1 t1 s2 t2,s=s1+s2→t=max t1 t2→Pt d u hands s1 t1→Ptl r hands s2 t2→G):G:=by
 cases h with
 | cons h l=>exact k _ _ _ _ rfl rfl h l
end Tre
set_option tactic.hygienic true
namespace Tre
open PySem
theorem Lvl.split:∀ {a b:Lv} {s t:Nat},Lvl (a++b) s t→∃ s1 t1 s2 t2,Lvl a s1 t1∧Lvl b s2 t2∧s=s1+s2∧t=max t1 t2
 | [],b,s,t,h=>⟨0,0,s,t,.nil,h,(Nat.zero_add _).symm,(Nat.zero_max _).symm⟩
 | p::a,b,_,_,.cons (s:=s0) (t:=t0) h1 h2=>by
  obtain ⟨s1,t1,s2,t2,x,y,e1,e2⟩:=Lvl.split h2;exact ⟨s0+s1,max t0 t1,s2,t2,.cons h1 x,y,⋯,⋯⟩
theorem qho:∀ {l:List (Aa×Str)} {hands:Bool} {s t:Nat},Lvl (l.map fun z=>(z.1,z.2,hands)) s t→Ptl l hands s t:=by
 intro l
 induction l with
 | nil=>intro hands s t h;cases h;exact .nil
 | cons z r ih=>
  intro hands s t h;cases h with
  | cons h1 h2=>exact .cons h1 (ih h2)
theorem Lvl.raise:∀ {lv:Lv} {s t:Nat},(∀ p∈lv,zm p.1 p.2.1 p.2.2=true)→Lvl (Tre.jZ lv) s t→∃ t',Lvl lv (lv.length+s) t'∧t'≤t+1
 | [],s,t,_,h=>by
  cases h;exact ⟨0,.nil,B2 _⟩
 | p::r,s,t,hf,h=>by
  have e:Tre.jZ (p::r)=((jd p.1).map fun z=>(z.1,z.2,Jd p.1 p.2.2))++Tre.jZ r:=by
   unfold Tre.jZ;rw [Df]
  rw [e] at h;obtain ⟨s1,t1,s2,t2,h1,h2,e1,e2⟩:=h.split;obtain ⟨t',h3,l3⟩:=Lvl.raise (fun q hq=>hf q (Au _ hq)) h2;have h4:=Pt.mk (hf p Ay) (qho h1);refine ⟨max (t1+1) t',?_,⋯⟩;have h5:=Lvl.cons h4 h3;rw [Ak,show r.length+1+s=s1+1+(r.length+s2) from ⋯];exact h5
theorem W8:∀ (n sz:Nat) (lv:Lv),sz≤300→Vi n sz lv=true→∃ s t,Lvl lv s t∧t≤n∧sz+s≤300
 | 0,sz,lv,hz,h=>by
  rw [Vi] at h;rw [List.isEmpty_iff.mp h];exact ⟨0,0,.nil,Aw _,hz⟩
 | n+1,sz,lv,hz,h=>by
  rw [Vi,Cb,Al,Al] at h;rcases h with h | ⟨⟨h1,h2⟩,h3⟩
  ·rw [List.isEmpty_iff.mp h];exact ⟨0,0,.nil,B2 _,hz⟩
  ·have h1':=Bb h1;obtain ⟨s,t,h4,h5,h6⟩:=W8 n (sz+lv.length) (Tre.jZ lv) h1' h3;obtain ⟨t',h7,h8⟩:=Lvl.raise (fun p hp=>A6.mp h2 p hp) h4;exact ⟨_,t',h7,⋯,⋯⟩
theorem Jv {d:Aa} (h:za d=true):∃ s t,Pt d "program" false s t∧t≤20∧s≤300:=by
 obtain ⟨s,t,h1,h2,h3⟩:=W8 20 0 _ (B2 _) h;cases h1 with
 | cons p q=>
  cases q;exact ⟨_,_,p,⋯,⋯⟩
end Tre
set_option tactic.hygienic false
namespace Nam
open PySem
def one (c:Nat):Str:=⟨#[c]⟩
def low (c:Nat):Bool:=decide (97≤c)&&decide (c≤122)
def wrd (cs:List Nat):Str:=⟨cs.toArray⟩
theorem Z3 {a b:List Nat} (h:wrd a=wrd b):a=b:=by
 have e:(wrd a).cps=(wrd b).cps:=by rw [h]
 exact congrArg Array.toList e
theorem qeo (cs:List Nat):(wrd cs).length=cs.length:=by simp [wrd,Str.length]
theorem yr:∀ cs:List Nat,(Str.join (Str.ofString "") (cs.map one)).cps.toList=cs
 | []=>∅
 | [c]=>rfl
 | c::d::r=>by
  have ih:=yr (d::r);rw [A4] at ih;show ((one c)++Str.ofString ""++Str.join (Str.ofString "") (one d::r.map one)).cps.toList=_;have e:∀ a b:Str,(a++b).cps.toList=a.cps.toList++b.cps.toList:=fun a b=>by
   show (a.cps++b.cps).toList=_;simp
  rw [e,e,ih];rfl
theorem XE (cs:List Nat):Txt.join (Str.ofString "") (cs.map one)=wrd cs:=by
 rw [A8.mp (PyProof.Rows.join_plain_closes (Str.ofString "") _)];have h:=yr cs;generalize Str.join (Str.ofString "") (cs.map one)=x at h;cases x with
 | mk a=>subst h;rfl
theorem Xo (cs:List Nat):((cs.map one).map (·.length)).sum=cs.length:=by
 induction cs with
 | nil=>rfl
 | cons c r ih=>
  rw [A4,A4,Fd,ih,Ak];show 1+_=_;omega
theorem XC {cs:List Nat} (h1:1≤cs.length) (h8:cs.length≤8) (h:cs.all low=true):Tre.qP (wrd cs)=true:=by
 unfold Tre.qP;rw [qeo,Ao h1,Ao h8];exact h
theorem V7 {α β:Type} (f:α→β):∀ {l:List α},l.Nodup→(∀ a∈l,∀ b∈l,f a=f b→a=b)→(l.map f).Nodup
 | [],_,_=>List.nodup_nil
 | x::r,h,hi=>by
  rw [Cy] at h;rw [A4,Cy];refine ⟨fun hm=>?_,V7 f h.2 fun a ha b hb=>hi a (Au _ ha) b (Au _ hb)⟩;obtain ⟨y,hy,e⟩:=B0.mp hm;have:=hi y (Au _ hy) x Ay e;exact h.1 (this▸hy)
theorem begins (cs:List Nat) (h:cs.length=8):((List.range 8).map fun k=>wrd (cs.take (k+1))).Nodup:=by
 refine V7 _ List.nodup_range fun a ha b hb e=>?_;have e1:=congrArg List.length (Z3 e);rw [Bm,Bm] at e1;have:=De.mp ha;have:=De.mp hb;omega
theorem qkp (cs:List Nat) (j z:Nat) (g:Nat→Nat) (hj:j<z) (hz:z≤cs.length) (hg:∀ a b,a<8→b<8→g a=g b→a=b):((List.range 8).map fun k=>wrd ((cs.set j (g k)).take z)).Nodup:=by
 refine V7 _ List.nodup_range fun a ha b hb e=>?_;have e1:=Z3 e;have e2:((cs.set j (g a)).take z)[j]?=((cs.set j (g b)).take z)[j]?:=by rw [e1]
 rw [List.getElem?_take,List.getElem?_take,if_pos hj,if_pos hj,List.getElem?_set,List.getElem?_set,if_pos rfl,if_pos rfl,if_pos ⋯,if_pos ⋯] at e2;exact hg a b (De.mp ha) (De.mp hb) (Bg e2)
end Nam
namespace Sho
open PySem
theorem str_ext {x y:Str} (h:x.cps.toList=y.cps.toList):x=y:=by
 obtain ⟨a⟩:=x;obtain ⟨b⟩:=y;exact congrArg Str.mk (Array.ext' h)
theorem Vd (x y:Str):(x++y).cps.toList=x.cps.toList++y.cps.toList:=Ez
theorem qbc (x y z:Str):x++y++z=x++(y++z):=str_ext (by rw [Vd,Vd,Vd,Vd,Bq])
theorem QO (x:Str):x++("":Str)=x:=str_ext (by rw [Vd];exact Bo _)
def tight (p w:Str):Bool:=p=="("||w==")"
def glue (p w:Str):Str:=(if tight p w=true then "" else " ")++w
def run:Str→List Str→Str
 | _,[]=>""
 | p,w::r=>glue p w++run w r
def tx:List Str→Str
 | []=>""
 | w::r=>w++run w r
theorem len_app (x y:Str):(x++y).length=x.length+y.length:=by
 show (x++y).cps.size=x.cps.size+y.cps.size;rw [← Bh,Vd,Am,Bh,Bh]
end Sho
namespace Sho
open PySem Tre
abbrev opened:List Str:=["main","fun","loop","call"]
def strOf:Aa→Str
 | .str x=>x
 | .int i=>Str.ofString (toString i)
 | _=>""
section
variable (f:Aa→List Str)
def wT0 (sh:Str) (t:Aa):List Str:=if (sh=="term"||sh=="statement")=true then f t else [strOf t]
def mem (sh:Str):Aa→List (List Str)
 | .tuple xs=>xs.map (wT0 f ((members.lookup sh).getD ""))
 | _=>[]
def wT (sh:Str) (t:Aa):List Str:=if (members.lookup sh).isSome=true then "("::((mem f sh t).flatten++[(")":Str)]) else wT0 f sh t
def itm (h last:Str) (p:Aa×Str):List (List Str):=if (opened.contains h&&p.2==last)=true then mem f p.2 p.1 else [wT f p.2 p.1]
def items (h:Str) (ts:List Aa):List (List Str):=(if (h=="two")=true then [] else [[h]])++(ts.zip ((forms.lookup h).getD [])).flatMap (itm f h (((forms.lookup h).getD []).getLastD ""))
end
def wP0:Nat→Aa→List Str
 | n+1,.tuple (.str h::ts)=>if (h=="number"||h=="name")=true then [strOf (ts.headD .none)] else "("::((items (wP0 n) h ts).flatten++[(")":Str)])
 | _,_=>[]
@[irreducible] def wPB:Box (Nat→Aa→List Str):=⟨wP0⟩
def wP (n:Nat) (d:Aa):List Str:=wPB.val n d
theorem qgj (n:Nat) (d:Aa):wP n d=wP0 n d:=by
 unfold wP wPB;rfl
theorem zR (n:Nat) (h:Str) (ts:List Aa):wP (n+1) (.tuple (.str h::ts))=if (h=="number"||h=="name")=true then [strOf (ts.headD .none)] else "("::((items (wP n) h ts).flatten++[(")":Str)]):=by
 have e:wP n=wP0 n:=funext fun d=>qgj n d;rw [qgj,wP0,e]
theorem VN {x:Str} (h:qP x=true):x≠"("∧x≠")":=by
 constructor
 ·rintro rfl;exact absurd h ∅
 ·rintro rfl;exact absurd h ∅
theorem qdg (i:Int):Str.ofString (toString i)≠"("∧Str.ofString (toString i)≠")":=by
 have a:=PyProof.Rows.intText_free_40 i;have b:=PyProof.Rows.intText_free_41 i;constructor
 ·intro e;rw [e] at a;exact absurd a ∅
 ·intro e;rw [e] at b;exact absurd b ∅
theorem qaa:∀ p∈forms,∀ sh∈p.2,sh∈(["names","body","number","name","sign","term","terms","word"]:List Str):=∅
theorem Yt:∀ p∈forms,opened.contains p.1=true→p.2.getLastD ""="body"∨p.2.getLastD ""="terms":=∅
def wl (ws:List Str):Nat:=(ws.map fun w=>w.length+1).sum
theorem jm (a b:List Str):wl (a++b)=wl a+wl b:=by
 unfold wl;rw [A5,Dq]
theorem wl_cons (w:Str) (a:List Str):wl (w::a)=w.length+1+wl a:=rfl
theorem Vo (a:List Str):wl ("("::(a++[(")":Str)]))=wl a+4:=by
 rw [wl_cons,jm];show 1+1+(wl a+(1+1+0))=_;omega
def wls (is:List (List Str)):Nat:=(is.map wl).sum
theorem Jz:∀ is:List (List Str),wl is.flatten=wls is
 | []=>rfl
 | i::r=>by
  rw [Bx,jm,Jz r];rfl
theorem Va {x:Str} (h:qP x=true):wl [x]≤9:=by
 unfold qP at h;rw [Al,Al] at h;have:=Bb h.1.2;show x.length+1+0≤9;omega
def Ju (f:Aa→List Str) (zs:List (Aa×Str)):Nat:=(zs.map fun z=>wl (f z.1)).sum
theorem V8 {f:Aa→List Str} {x:Aa} {u:Str} (hu:u="body"∨u="terms"):wls (mem f u x)=Ju f (qt x u):=by
 cases x with
 | tuple xs=>
  have e:∀ m:Str,(m=="term"||m=="statement")=true→wls (xs.map (wT0 f m))=Ju f (xs.map fun z=>(z,m)):=fun m hm=>by
   unfold wls Ju;rw [Ck,Ck]
   congr 1
   refine List.map_congr_left fun z _=>?_;show wl (wT0 f m z)=wl (f z);unfold wT0;rw [if_pos hm]
  rcases hu with rfl | rfl
  ·exact e "statement" ∅
  ·exact e "term" ∅
 | _=>rcases hu with rfl | rfl <;> rfl
theorem JW {t:Aa} {u:Str} (h:qq t u=true) (hs:u∈(["name","word","sign"]:List Str)):wl [strOf t]≤9:=by
 simp only [Av,Be,or_false] at hs;rcases hs with rfl | rfl | rfl
 ·obtain ⟨y,rfl,hy⟩:=jJ h;exact Va hy
 ·cases t with
  | str x=>
   have e:qq (.str x) "word"=(qP x&&x !="any"):=rfl;rw [e,Al] at h;exact Va h.1
  | _=>cases h
 ·cases t with
  | str x=>
   have e:qq (.str x) "sign"=signs.any fun y=>y==x:=rfl;rw [e] at h;obtain ⟨y,hy,hx⟩:=Dg.mp h;have q:∀ y∈signs,wl [y]≤9:=∅;rw [← show y=x from A8.mp hx];exact q y hy
  | _=>cases h
theorem XB {f:Aa→List Str}:∀ {xs:List Aa},xs.all zn=true→wls (xs.map (wT0 f "name"))≤9*xs.length
 | [],_=>Aw _
 | x::r,h=>by
  rw [B9,Al] at h;have ih:=XB (f:=f) h.2;have a:wl (wT0 f "name" x)≤9:=by
   unfold wT0;rw [if_neg ∅];cases x with
   | str y=>exact Va h.1
   | _=>cases h.1
  show wl (wT0 f "name" x)+wls (r.map (wT0 f "name"))≤9*(r.length+1);omega
theorem qgi {f:Aa→List Str} {x:Aa} {u:Str} (hu:u∈(["names","body","name","sign","term","terms","word"]:List Str)) (h:qq x u=true):wl (wT f u x)≤40+Ju f (qt x u):=by
 simp only [Av,Be,or_false] at hu;rcases hu with rfl | rfl | rfl | rfl | rfl | rfl | rfl
 ·have e:wT f "names" x=("(":Str)::((mem f "names" x).flatten++[(")":Str)]):=rfl;rw [e,Vo,Jz];cases x with
  | tuple xs=>
   have e2:qq (.tuple xs) "names"=(decide (xs.length≤4)&&xs.all zn&&decide ((xs.map txt).Nodup)):=rfl;rw [e2,Al,Al] at h;have a:=XB (f:=f) h.1.2;have b:=Bb h.1.1;have c:mem f "names" (.tuple xs)=xs.map (wT0 f "name"):=rfl;rw [c];omega
  | _=>cases h
 ·have e:wT f "body" x=("(":Str)::((mem f "body" x).flatten++[(")":Str)]):=rfl;rw [e,Vo,Jz,V8 (.inl rfl)];omega
 ·have e:wT f "name" x=[strOf x]:=rfl;have:=JW h ∅;rw [e];omega
 ·have e:wT f "sign" x=[strOf x]:=rfl;have:=JW h ∅;rw [e];omega
 ·have e:wT f "term" x=f x:=rfl;have e2:Ju f (qt x "term")=wl (f x)+0:=rfl;rw [e,e2];omega
 ·have e:wT f "terms" x=("(":Str)::((mem f "terms" x).flatten++[(")":Str)]):=rfl;rw [e,Vo,Jz,V8 (.inr rfl)];omega
 ·have e:wT f "word" x=[strOf x]:=rfl;have:=JW h ∅;rw [e];omega
theorem qbe {f:Aa→List Str} {h last:Str}:∀ (ps:List (Aa×Str)),(∀ p∈ps,wls (itm f h last p)≤40+Ju f (qt p.1 p.2))→wls (ps.flatMap (itm f h last))≤40*ps.length+Ju f (ps.flatMap fun p=>qt p.1 p.2)
 | [],_=>Aw _
 | p::r,q=>by
  have a:=q p Ay;have b:=qbe r fun p' hp=>q p' (Au _ hp);have e1:wls ((p::r).flatMap (itm f h last))=wls (itm f h last p)+wls (r.flatMap (itm f h last)):=by
   unfold wls;rw [Df,A5,Dq]
  have e2:Ju f ((p::r).flatMap fun p=>qt p.1 p.2)=Ju f (qt p.1 p.2)+Ju f (r.flatMap fun p=>qt p.1 p.2):=by
   unfold Ju;rw [Df,A5,Dq]
  rw [e1,e2,Ak];omega
theorem Z6 {n:Nat} {f:Aa→List Str} (IH:∀ {d:Aa} {s t:Nat},Tr d s t→t≤n→wl (f d)≤2000*s):∀ {ds:List Aa} {s t:Nat},Trl ds s t→t≤n→(ds.map fun d=>wl (f d)).sum≤2000*s
 | [],_,_,_,_=>B2 _
 | x::r,_,_,.cons h1 h2,ht=>by
  have a:=IH h1 (Ar (E3 _ _) ht);have b:=Z6 IH h2 (Ar (Nat.le_max_right _ _) ht);rw [A4,Fd];omega
theorem qbz {x:Aa} (h:qq x "number"=true∨qq x "name"=true):wl [strOf x]≤1922:=by
 rcases h with h | h
 ·have e:qq x "number"=jo x:=rfl;rw [e] at h;cases x with
  | int i=>
   have:=PyProof.Rows.int_text_len_1921 (Qy h);show (Str.ofString (toString i)).length+1+0≤1922;omega
  | _=>cases h
 ·obtain ⟨y,rfl,hy⟩:=jJ h;exact Ar (Va hy) O0
theorem Vy {hd:Str} {ts:List Aa} {fs:List Str} (e:forms.lookup hd=some fs) (hl:ts.length=fs.length) (hs:∀ p∈ts.zip fs,qq p.1 p.2=true) (c:(hd=="number"||hd=="name")=true):∃ x r,ts=x::r∧(qq x "number"=true∨qq x "name"=true):=by
 rw [Cb,A8,A8] at c;rcases c with rfl | rfl
 ·have e2:forms.lookup ("number":Str)=some (["number"]:List Str):=∅;cases e.symm.trans e2
  match ts,hl,hs with
  | [x],_,hs=>exact ⟨x,[],rfl,.inl (hs (x,"number") (by simp))⟩
 ·have e2:forms.lookup ("name":Str)=some (["name"]:List Str):=∅;cases e.symm.trans e2
  match ts,hl,hs with
  | [x],_,hs=>exact ⟨x,[],rfl,.inr (hs (x,"name") (by simp))⟩
set_option tactic.hygienic true in
theorem Z4:∀ (n:Nat) {d:Aa} {s t:Nat},Tr d s t→t≤n→wl (wP n d)≤2000*s
 | 0,_,_,_,h,ht=>h.el fun _ _ _ _ _ et _ _=>⋯
 | n+1,_,_,_,h,ht=>h.el fun sh hands s0 t0 es et hf tl=>by
  obtain ⟨hd,ts,fs,l,rfl,_,_,e,h5,hl,hs,_⟩:=zq hf;have ef:=Bc e;rw [zR]
  by_cases c:(hd=="number"||hd=="name")=true
  ·rw [if_pos c];obtain ⟨x,r,rfl,hx⟩:=Vy e hl hs c;have:=qbz hx;show wl [strOf x]≤_;omega
  ·rw [if_neg c,Vo,Jz];unfold items;rw [e];have q:∀ p∈forms,wl [p.1]≤10:=∅;have a:wls (if (hd=="two")=true then [] else [[hd]])≤10:=by
    split
    ·exact B2 _
    ·exact q _ ef
   have sh7:∀ p∈forms,¬ (p.1=="number"||p.1=="name")=true→∀ u∈p.2,u∈(["names","body","name","sign","term","terms","word"]:List Str):=∅;have b:=qbe (f:=wP n) (h:=hd) (last:=fs.getLastD "") (ts.zip fs) fun p hp=>by
    unfold itm;split
    ·rename_i d;rw [Al,A8] at d;rw [V8 (by rw [d.2];exact Yt _ ef d.1)]
     omega
    ·have w:=qgi (f:=wP n) (sh7 _ ef c p.2 (Cz hp).2) (hs p hp);show wl _+0≤_;omega
   have k:Ju (wP n) ((ts.zip fs).flatMap fun p=>qt p.1 p.2)≤2000*s0:=by
    have z:=Z6 (Z4 n) tl ⋯;unfold Yu at z;rw [zh e,Ck] at z;exact z
   have zl:(ts.zip fs).length≤5:=by
    rw [Ek];omega
   have ap:wls ((if (hd=="two")=true then [] else [[hd]])++(ts.zip ((some fs).getD [])).flatMap (itm (wP n) hd (((some fs).getD []).getLastD "")))=wls (if (hd=="two")=true then [] else [[hd]])+wls ((ts.zip fs).flatMap (itm (wP n) hd (fs.getLastD ""))):=by
    unfold wls;rw [A5,Dq];rfl
   rw [ap];omega
structure Op where
 sh:Str
 ts:List Aa
abbrev unwritten:List Str:=["number","name","two"]
abbrev bracketed:List Str:=["program","term","statement","names","body"]
def fsOf (h:Str):List Str:=if signs.contains h=true then ["term","term"] else (forms.lookup h).getD []
def behind (h:Str) (k:Nat):Option Str:=if (opened.contains h&&decide ((fsOf h).length - 1≤k))=true then members.lookup ((fsOf h).getLastD "") else (fsOf h)[k]?
def wanted (o:Op):Option Str:=if (o.sh=="text")=true then some "program" else match members.lookup o.sh with
 | some m=>some m
 | none=>match o.ts with
  | []=>some "head"
  | .str h::r=>behind h r.length
  | _=>none
def isHead (x sh:Str):Bool:=if signs.contains x=true then sh=="term" else ((heads.lookup sh).getD []).contains x&&!unwritten.contains x
def closed (o:Op):Aa:=if (members.lookup o.sh).isSome=true then .tuple o.ts else match o.ts with
 | .str h::r=>if signs.contains h=true then .tuple (.str "two":: .str h::r) else if opened.contains h=true then .tuple ((.str h::r).take (fsOf h).length++[.tuple ((.str h::r).drop (fsOf h).length)]) else .tuple (.str h::r)
 | ts=> .tuple ts
inductive OpOk:Op→Prop
 | text {ts:List Aa}:OpOk ⟨"text",ts⟩
 | row {sh:Str} {ts:List Aa}:(members.lookup sh).isSome=true→OpOk ⟨sh,ts⟩
 | new {sh:Str}:(heads.lookup sh).isSome=true→OpOk ⟨sh,[]⟩
 | part {sh h:Str} {r:List Aa}:(heads.lookup sh).isSome=true→(signs.contains h=true∨(forms.lookup h).isSome=true)→OpOk ⟨sh,.str h::r⟩
inductive Thing (x:Str) (o:Op):Aa→Prop
 | head:wanted o=some "head"→isHead x o.sh=true→Thing x o (.str x)
 | word {s:Str}:wanted o=some s→(s="name"∨s="word")→Thing x o (.str x)
 | name:wanted o=some "term"→qP x=true→Thing x o (.tuple [.str "name",.str x])
 | num {i:Int}:wanted o=some "term"→Ja i=true→x=Str.ofString (toString i)→Thing x o (.tuple [.str "number",.int i])
inductive Step:List Op→Str→List Op→Prop
 | close {o r:Op} {rs:List Op}:OpOk o→(o.sh=="text")=false→Step (o::r::rs) ")" (⟨r.sh,r.ts++[closed o]⟩::rs)
 | opens {o:Op} {rs:List Op} {s:Str}:OpOk o→wanted o=some s→bracketed.contains s=true→Step (o::rs) "(" (⟨s,[]⟩::o::rs)
 | word {o:Op} {rs:List Op} {x:Str} {t:Aa}:OpOk o→x≠"("→x≠")"→Thing x o t→Step (o::rs) x (⟨o.sh,o.ts++[t]⟩::rs)
inductive Steps:List Op→List Str→List Op→Prop
 | nil {S:List Op}:Steps S [] S
 | cons {S S1 S2:List Op} {x:Str} {r:List Str}:Step S x S1→Steps S1 r S2→Steps S (x::r) S2
theorem Steps.one {S S1:List Op} {x:Str} (h:Step S x S1):Steps S [x] S1:= .cons h .nil
theorem Steps.app {S S1:List Op} {a:List Str} (h:Steps S a S1):∀ {b:List Str} {S2:List Op},Steps S1 b S2→Steps S (a++b) S2:=by
 induction h with
 | nil=>exact fun h=>h
 | cons s _ ih=>exact fun h=> .cons s (ih h)
def Reads (ws:List Str) (u:Str) (t:Aa):Prop:=∀ (o:Op) (rs:List Op),OpOk o→wanted o=some u→Steps (o::rs) ws (⟨o.sh,o.ts++[t]⟩::rs)
theorem v7 {sh m:Str} {f:Aa→List Str} {rs:List Op}:∀ (xs ts0:List Aa),(∀ ys,OpOk ⟨sh,ts0++ys⟩∧wanted ⟨sh,ts0++ys⟩=some m)→(∀ x∈xs,Reads (f x) m x)→Steps (⟨sh,ts0⟩::rs) (xs.map f).flatten (⟨sh,ts0++xs⟩::rs)
 | [],ts0,_,_=>by
  rw [Bo];exact .nil
 | x::r,ts0,hw,hx=>by
  have h0:=hw [];rw [Bo] at h0;have a:=hx x Ay ⟨sh,ts0⟩ rs h0.1 h0.2;have b:=v7 (sh:=sh) (m:=m) (f:=f) (rs:=rs) r (ts0++[x]) (fun ys=>by rw [Bq];exact hw _) fun y hy=>hx y (Au _ hy)
  rw [Bq,D0] at b;exact a.app b
theorem wanted_row {sh m:Str} {ts:List Aa} (h0:(sh=="text")=false) (h:members.lookup sh=some m):wanted ⟨sh,ts⟩=some m:=by
 unfold wanted;rw [h0,if_neg Ai,h]
theorem jv {sh h:Str} {r:List Aa} (h0:(sh=="text")=false) (h1:members.lookup sh=none):wanted ⟨sh,.str h::r⟩=behind h r.length:=by
 unfold wanted;rw [h0,if_neg Ai,h1]
theorem J2 {sh:Str} (h0:(sh=="text")=false) (h1:members.lookup sh=none):wanted ⟨sh,[]⟩=some ("head":Str):=by
 unfold wanted;rw [h0,if_neg Ai,h1]
theorem ye {u m:Str} {f:Aa→List Str} {xs:List Aa} (h0:(u=="text")=false) (hm:members.lookup u=some m) (hb:bracketed.contains u=true) (hx:∀ x∈xs,Reads (f x) m x):Reads ("("::((xs.map f).flatten++[(")":Str)])) u (.tuple xs):=by
 intro o rs ok hw;have ok':∀ ys,OpOk ⟨u,ys⟩:=fun ys=> .row (by rw [hm];rfl)
 have a:Steps (⟨u,[]⟩::o::rs) (xs.map f).flatten (⟨u,[]++xs⟩::o::rs):=v7 xs [] (fun ys=>⟨ok' _,wanted_row h0 hm⟩) hx;refine .cons (.opens ok hw hb) (a.app (.one ?_));have e:closed ⟨u,[]++xs⟩= .tuple xs:=by
  unfold closed;rw [hm];rfl
 have s:=Step.close (o:=⟨u,[]++xs⟩) (r:=o) (rs:=rs) (ok' _) h0;rw [e] at s;exact s
theorem vI {x u:Str} (h:x≠"("∧x≠")") (hu:u="name"∨u="word"):Reads [x] u (.str x):=fun _ _ ok hw=> .one (.word ok h.1 h.2 (.word hw hu))
theorem Yp {xs:List Aa} (h:xs.all zn=true) {f:Aa→List Str}:∀ x∈xs,Reads (wT0 f "name" x) "name" x:=by
 intro x hx;have q:=A6.mp h x hx;cases x with
 | str y=>
  have e:wT0 f "name" (.str y)=[y]:=rfl;rw [e];exact vI (VN q) (.inl rfl)
 | _=>cases q
theorem vH {f:Aa→List Str} {t:Aa} {u:Str} (hu:u∈(["names","body","name","term","word"]:List Str)) (hs:qq t u=true) (kid:∀ z v,(z,v)∈qt t u→Reads (f z) v z):Reads (wT f u t) u t:=by
 simp only [Av,Be,or_false] at hu;rcases hu with rfl | rfl | rfl | rfl | rfl
 ·cases t with
  | tuple xs=>
   have e2:qq (.tuple xs) "names"=(decide (xs.length≤4)&&xs.all zn&&decide ((xs.map txt).Nodup)):=rfl;rw [e2,Al,Al] at hs;exact ye (m:="name") ∅ ∅ ∅ (Yp hs.1.2)
  | _=>cases hs
 ·cases t with
  | tuple xs=>
   refine ye (m:="statement") (f:=wT0 f "statement") ∅ ∅ ∅ fun x hx=>?_;have e:wT0 f "statement" x=f x:=rfl;rw [e];exact kid x "statement" (B0.mpr ⟨x,hx,rfl⟩)
  | _=>cases hs
 ·obtain ⟨y,rfl,hy⟩:=jJ hs;exact vI (VN hy) (.inl rfl)
 ·exact kid t "term" (A3.mpr rfl)
 ·cases t with
  | str x=>
   have e:qq (.str x) "word"=(qP x&&x !="any"):=rfl;rw [e,Al] at hs;exact vI (VN hs.1) (.inr rfl)
  | _=>cases hs
theorem V6 {sh h:Str} {f:Aa→List Str} {rs:List Op} (h0:(sh=="text")=false) (h1:members.lookup sh=none) (h2:(heads.lookup sh).isSome=true) (h3:signs.contains h=true∨(forms.lookup h).isSome=true):
  ∀ (ps:List (Aa×Str)) (pre:List Aa),(∀ i p,ps[i]?=some p→behind h (pre.length+i)=some p.2)→(∀ p∈ps,Reads (wT f p.2 p.1) p.2 p.1)→Steps (⟨sh,.str h::pre⟩::rs) (ps.map fun p=>wT f p.2 p.1).flatten (⟨sh,.str h::(pre++ps.map (·.1))⟩::rs)
 | [],pre,_,_=>by
  rw [Cj,Cj,Bo];exact .nil
 | p::r,pre,hb,hx=>by
  have w:=hb 0 p rfl;have a:=hx p Ay ⟨sh,.str h::pre⟩ rs (.part h2 h3) ((jv h0 h1).trans w);have b:=V6 (f:=f) (rs:=rs) h0 h1 h2 h3 r (pre++[p.1]) (fun i q hq=>by
   have z:=hb (i+1) q hq;rw [Am,Dn];rw [show pre.length+1+i=pre.length+(i+1) from ⋯];exact z) fun q hq=>hx q (Au _ hq)
  rw [Bq,D0] at b;exact a.app b
theorem Ptl.get:∀ {l:List (Aa×Str)} {hands:Bool} {s t:Nat},Ptl l hands s t→∀ q∈l,∃ s' t',Pt q.1 q.2 hands s' t'∧t'≤t
 | [],_,_,_,_,q,hq=>by cases hq
 | (d,u)::r,_,_,_,h,q,hq=>h.el fun s1 t1 s2 t2 _ et p l=>by
  subst et;rcases Av.mp hq with rfl | hq
  ·exact ⟨s1,t1,p,E3 _ _⟩
  ·obtain ⟨s',t',a,b⟩:=Ptl.get l q hq;exact ⟨s',t',a,Ar b (Nat.le_max_right _ _)⟩
theorem Vq:∀ p∈heads,(p.1=="text")=false∧members.lookup p.1=none∧(heads.lookup p.1).isSome=true∧bracketed.contains p.1=true:=∅
theorem ZS:∀ p∈heads,∀ h∈p.2,¬ (h=="number"||h=="name")=true→¬ (h=="two")=true→signs.contains h=false∧isHead h p.1=true∧h≠"("∧h≠")":=∅
theorem Zv:∀ p∈forms,opened.contains p.1=true→∃ a b,p.2=[a,b]∧(a="names"∨a="term")∧(b="body"∨b="terms")∧signs.contains p.1=false∧b≠a:=by
 intro p hp ho;simp only [forms,Av,Be,or_false] at hp;rcases hp with rfl | rfl | rfl | rfl | rfl | rfl | rfl | rfl | rfl | rfl | rfl | rfl | rfl | rfl | rfl | rfl | rfl <;> first
  | exact absurd ho ∅
  | exact ⟨_,_,rfl,∅,∅,∅,∅⟩
theorem Xl:∀ p∈forms,opened.contains p.1=false→¬ (p.1=="number"||p.1=="name")=true→¬ (p.1=="two")=true→∀ u∈p.2,u∈(["names","body","name","term","word"]:List Str):=∅
theorem XA:∀ x∈signs,x≠"("∧x≠")":=∅
theorem vU {α β:Type} {g:α→List β} {k:α→β}:∀ l:List α,(∀ p∈l,g p=[k p])→l.flatMap g=l.map k
 | [],_=>rfl
 | p::r,h=>by
  rw [Df,h p Ay,vU r fun q hq=>h q (Au _ hq)];rfl
theorem reads:∀ (n:Nat) {d:Aa} {sh:Str} {hands:Bool} {s t:Nat},Pt d sh hands s t→t≤n→Reads (wP n d) sh d
 | 0,_,_,_,_,_,h,ht=>h.el fun _ _ _ et _ _=>⋯
 | n+1,_,sh,_,_,_,h,ht=>h.el fun s0 t0 es et hf tl=>by
  obtain ⟨hd,ts,fs,l,rfl,hl1,hl2,e,_,hl,hs,_⟩:=zq hf;have ef:=Bc e;have hm:=Bc hl1;obtain ⟨k0,k1,k2,k3⟩:=Vq _ hm;have kid:∀ p∈ts.zip fs,∀ z v,(z,v)∈qt p.1 p.2→Reads (wP n z) v z:=fun p hp z v hz=>by
   have hk:(z,v)∈jd (.tuple (.str hd::ts)):=by
    rw [zh e];exact C9.mpr ⟨p,hp,hz⟩
   obtain ⟨s',t',q,hq⟩:=Ptl.get tl (z,v) hk;exact reads n q ⋯
  rw [zR]
  by_cases c:(hd=="number"||hd=="name")=true
  ·rw [if_pos c];have hsh:sh="term":=by
    have q:∀ p∈heads,∀ h∈p.2,(h=="number"||h=="name")=true→p.1="term":=∅;exact q _ hm hd hl2 c
   subst hsh;rw [Cb,A8,A8] at c;rcases c with rfl | rfl
   ·have e2:forms.lookup ("number":Str)=some (["number"]:List Str):=∅;cases e.symm.trans e2
    match ts,hl,hs with
    | [x],_,hs=>
     have hx:qq x "number"=true:=hs (x,"number") (by simp)
     have e3:qq x "number"=jo x:=rfl;rw [e3] at hx;cases x with
     | int i=>exact fun o rs ok hw=> .one (.word ok (qdg i).1 (qdg i).2 (.num hw hx rfl))
     | _=>cases hx
   ·have e2:forms.lookup ("name":Str)=some (["name"]:List Str):=∅;cases e.symm.trans e2
    match ts,hl,hs with
    | [x],_,hs=>
     have hx:qq x "name"=true:=hs (x,"name") (by simp)
     obtain ⟨y,rfl,hy⟩:=jJ hx;exact fun o rs ok hw=> .one (.word ok (VN hy).1 (VN hy).2 (.name hw hy))
  rw [if_neg c];intro o rs ok hw;refine .cons (.opens ok hw k3) ?_;unfold items;rw [e]
  by_cases c2:(hd=="two")=true
  ·rw [if_pos c2];rw [A8] at c2;subst c2;have e2:forms.lookup ("two":Str)=some (["sign","term","term"]:List Str):=∅;cases e.symm.trans e2
   match ts,hl,hs,kid with
   | [x,y,z],_,hs,kid=>
    have hx:qq x "sign"=true:=hs (x,"sign") (by simp)
    cases x with
    | str g=>
     have e3:qq (.str g) "sign"=signs.any fun y=>y==g:=rfl;rw [e3] at hx;obtain ⟨g',hg,hx'⟩:=Dg.mp hx;cases A8.mp hx';have gs:signs.contains g=true:=B4.mpr hg;have hsh:sh="term":=by
      have q:∀ p∈heads,("two":Str)∈p.2→p.1="term":=∅;exact q _ hm hl2
     subst hsh;have s1:Step (⟨"term",[]⟩::o::rs) g (⟨"term",[]++[.str g]⟩::o::rs):= .word (.new k2) (XA g hg).1 (XA g hg).2 (.head (J2 k0 k1) (by unfold isHead;rw [if_pos gs];exact A8.mpr rfl))
     have fz:fsOf g=(["term","term"]:List Str):=by unfold fsOf;rw [if_pos gs]
     have no:opened.contains g=false:=by
      have q:∀ x∈signs,opened.contains x=false:=∅;exact q g hg
     have bh:∀ k,behind g k=(["term","term"]:List Str)[k]?:=fun k=>by
      unfold behind;rw [no,fz,B1,if_neg Ai]
     have s2:=V6 (rs:=o::rs) (f:=wP n) (sh:="term") (h:=g) k0 k1 k2 (.inl gs) [(y,"term"),(z,"term")] [] (fun i p hp=>by
      rw [bh]
      match i,hp with
      | 0,hp=>cases hp;rfl
      | 1,hp=>cases hp;rfl) (fun p hp=>by
      simp only [Av,Be,or_false] at hp;rcases hp with rfl | rfl
      ·exact kid (y,"term") (by simp) y "term" (A3.mpr rfl)
      ·exact kid (z,"term") (by simp) z "term" (A3.mpr rfl))
     have s3:=Step.close (o:=⟨"term",.str g::([]++[(y,("term":Str)),(z,("term":Str))].map (·.1))⟩) (r:=o) (rs:=rs) (.part k2 (.inl gs)) k0;have ec:closed ⟨"term",.str g::([]++[(y,("term":Str)),(z,("term":Str))].map (·.1))⟩= .tuple [.str "two",.str g,y,z]:=by
      unfold closed;rw [k1];simp only [Option.isSome_none,Dl,if_false,gs,if_true];rfl
     rw [ec] at s3;exact .cons s1 (s2.app (.one s3))
    | _=>cases hx
  ·rw [if_neg c2];obtain ⟨g0,g1,g2,g3⟩:=ZS _ hm hd hl2 c c2;have s1:Step (⟨sh,[]⟩::o::rs) hd (⟨sh,[]++[.str hd]⟩::o::rs):= .word (.new k2) g2 g3 (.head (J2 k0 k1) g1);have fz:fsOf hd=fs:=by unfold fsOf;rw [g0,if_neg Ai,e];rfl
   have h3:signs.contains hd=true∨(forms.lookup hd).isSome=true:= .inr (by rw [e];rfl)
   by_cases c3:opened.contains hd=true
   ·obtain ⟨a,b,ab,ha,hb,_,nab⟩:=Zv _ ef c3;have ab':fs=[a,b]:=ab;subst ab'
    match ts,hl,hs,kid with
    | [x,y],_,hs,kid=>
     have hy:qq y b=true:=hs (y,b) (by simp)
     have hx:qq x a=true:=hs (x,a) (by simp)
     have row:∃ ys,y= .tuple ys:=by
      rcases hb with rfl | rfl <;> cases y with
      | tuple ys=>exact ⟨ys,rfl⟩
      | _=>cases hy
     obtain ⟨ys,rfl⟩:=row;have bh0:behind hd 0=some a:=by
      unfold behind;rw [fz,c3];rfl
     have bh1:∀ k,1≤k→behind hd k=members.lookup b:=fun k hk=>by
      unfold behind;rw [fz,c3,Bu,if_pos (Ao (show ([a,b]:List Str).length - 1≤k from hk))];rfl
     have s2:Steps (⟨sh,[]++[.str hd]⟩::o::rs) (wT (wP n) a x) (⟨sh,([]++[.str hd])++[x]⟩::o::rs):=by
      refine vH (t:=x) (u:=a) ?_ hx (fun z v hz=>kid (x,a) (by simp) z v hz) _ _ (.part k2 h3) ((jv k0 k1).trans bh0)
      rcases ha with rfl | rfl <;> decide+kernel
     have mb:∃ m,members.lookup b=some m∧(m=="term"||m=="statement")=true∧∀ z∈ys,(z,m)∈qt (.tuple ys) b:=by
      rcases hb with rfl | rfl
      ·exact ⟨"statement",∅,∅,fun z hz=>B0.mpr ⟨z,hz,rfl⟩⟩
      ·exact ⟨"term",∅,∅,fun z hz=>B0.mpr ⟨z,hz,rfl⟩⟩
     obtain ⟨m,em,hm2,hin⟩:=mb;have s3:Steps (⟨sh,[.str hd,x]⟩::o::rs) (ys.map (wT0 (wP n) m)).flatten (⟨sh,[.str hd,x]++ys⟩::o::rs):=v7 ys [.str hd,x] (fun zs=>⟨.part k2 h3,(jv k0 k1).trans ((bh1 _ (by simp)).trans em)⟩) fun z hz=>by
      unfold wT0;rw [if_pos hm2];exact kid (.tuple ys,b) (by simp) z m (hin z hz)
     have s4:=Step.close (o:=⟨sh,[.str hd,x]++ys⟩) (r:=o) (rs:=rs) (.part k2 h3) k0;have ec:closed ⟨sh,[.str hd,x]++ys⟩= .tuple [.str hd,x,.tuple ys]:=by
      unfold closed;rw [k1];simp only [Option.isSome_none,Dl,if_false,Dc,Cn,g0,c3,if_true,fz];rfl
     rw [ec] at s4;have hw2:[[hd]]++(List.zip [x,.tuple ys] ((some [a,b]).getD [])).flatMap (itm (wP n) hd (((some [a,b]).getD []).getLastD ""))=[hd]::wT (wP n) a x::ys.map (wT0 (wP n) m):=by
      have e5:itm (wP n) hd b (x,a)=[wT (wP n) a x]:=by
       unfold itm;rw [c3,Bu];exact if_neg (by rw [A8];exact fun z=>nab z.symm)
      have e6:itm (wP n) hd b (.tuple ys,b)=ys.map (wT0 (wP n) m):=by
       unfold itm;rw [c3,Bu,if_pos (A8.mpr rfl)];show ys.map (wT0 (wP n) ((members.lookup b).getD ""))=_;rw [em];rfl
      show [hd]::(itm (wP n) hd b (x,a)++(itm (wP n) hd b (.tuple ys,b)++[]))=_;rw [e5,e6,Bo];rfl
     rw [hw2,Bx,Bx,Bq,Bq];exact .cons s1 (s2.app (s3.app (.one s4)))
   ·have c3':=Bs.mpr c3;have pf:=Xl _ ef c3' c c2;have s2:=V6 (rs:=o::rs) (f:=wP n) (sh:=sh) (h:=hd) k0 k1 k2 h3 (ts.zip fs) [] (fun i p hp=>by
     have q:=Ef.mp hp;unfold behind;rw [c3',B1,if_neg Ai,fz,A2,Nat.zero_add];exact q.2) (fun p hp=>vH (pf p.2 (Cz hp).2) (hs p hp) (kid p hp))
    have em:(ts.zip fs).map (·.1)=ts:=List.map_fst_zip ⋯;rw [em] at s2;have s4:=Step.close (o:=⟨sh,.str hd::([]++ts)⟩) (r:=o) (rs:=rs) (.part k2 h3) k0;have ec:closed ⟨sh,.str hd::([]++ts)⟩= .tuple (.str hd::ts):=by
     unfold closed;rw [k1];simp only [Option.isSome_none,Dl,if_false,g0,c3'];rfl
    rw [ec] at s4;have hw2:[[hd]]++(List.zip ts ((some fs).getD [])).flatMap (itm (wP n) hd (((some fs).getD []).getLastD ""))=[hd]::(ts.zip fs).map fun p=>wT (wP n) p.2 p.1:=by
     show [hd]::(List.zip ts fs).flatMap (itm (wP n) hd (fs.getLastD ""))=_
     congr 1
     refine vU _ fun p _=>?_;unfold itm;rw [c3',B1,if_neg Ai]
    rw [hw2,Bx];exact .cons s1 ((s2.app (.one s4)))
theorem qbl {f:Aa→List Str} {u m:Str} {xs:List Aa} (h:members.lookup u=some m):wT f u (.tuple xs)=("(":Str)::((xs.map (wT0 f m)).flatten++[(")":Str)]):=by
 unfold wT;rw [if_pos (by rw [h];rfl)]
 unfold mem;rw [h];rfl
end Sho
namespace Sho
open PySem Tre PySem.NumText PyProof.Rows
theorem Jh (x:Str) (c:Nat):Txt.startswith x ⟨#[c]⟩=decide (x.cps.toList.head?=some c):=by
 rw [Cf,Bj];unfold Txt.startswith;rw [Al,Bj];have h:=PySem.StrLaws.subAt_one x c 0;rw [← List.head?_eq_getElem?] at h;exact h
def dig (m:Nat):List Nat:=(Nat.toDigits 10 m).map Char.toNat
theorem vo (m:Nat):∀ c∈dig m,48≤c∧c≤57:=by
 intro c hc;obtain ⟨ch,hch,e⟩:=B0.mp hc;rw [← e];exact digit_range (Nat.isDigit_of_mem_toDigits O0 O0 hch)
theorem VD (m:Nat):dig m≠[]:=by
 intro e;have h:=toDigits_len_ge 10 m;rw [List.map_eq_nil_iff.mp e] at h;exact absurd h O0
theorem w8 {m:Nat} (h:m≤1000000000000):(dig m).length≤13:=by
 unfold dig;rw [Aj];exact toDigits_len_pow O0 O0 ⋯
theorem qaw:∀ m:Nat,m<10→m≠0→(Nat.digitChar m).toNat≠48:=O0
theorem XS:∀ (m:Nat),m≠0→(dig m).head?≠some 48:=by
 intro m
 induction m using Nat.strongRecOn with
 | _ m ih=>
  intro h0
  by_cases h:m<10
  ·unfold dig;rw [Nat.toDigits_of_lt_base h];intro z;exact qaw m h h0 (Bg z)
  ·have hm:m % 10<10:=Nat.mod_lt m O0;have t:Nat.toDigits 10 (m / 10)++Nat.toDigits 10 (m % 10)=Nat.toDigits 10 (10*(m / 10)+m % 10):=Nat.toDigits_append_toDigits O0 ⋯ hm;rw [Nat.div_add_mod] at t;have e:dig m=dig (m / 10)++dig (m % 10):=by
    unfold dig;rw [← t,A5]
   have z:=ih (m / 10) ⋯ ⋯;cases q:dig (m / 10) with
   | nil=>exact absurd q (VD _)
   | cons c r=>
    rw [q] at z e;rw [e];exact z
theorem qfk (m:Nat):(Str.ofString (toString ((m:Nat):Int))).cps.toList=dig m:=PySem.W.KIN.signs_num m
theorem qfl (m:Nat):(Str.ofString (toString (Int.negSucc m))).cps.toList=45::dig (m+1):=by
 rw [signs_ofString];show (("-"++toString (m+1)).toList).map Char.toNat=_;rw [String.toList_append,A5];show 45::((Nat.repr (m+1)).toList.map Char.toNat)=_;rw [Nat.toList_repr];rfl
theorem WG {x:Str} {c:Nat} (h:x.cps.toList.head?=some c) (hc:c<97):qP x=false:=by
 cases e:qP x with
 | false=>rfl
 | true=>
  unfold qP at e;rw [Al] at e;have hm:c∈x.cps.toList:=List.mem_of_mem_head? (by rw [h];rfl)
  have:=A6.mp e.2 c hm;rw [Al,Bj] at this;omega
theorem yL {x:Str} {l:List Nat} (e:x.cps.toList=l) (h:∀ c∈l,48≤c∧c≤57) (hn:l≠[]):Txt.isdigit x=true:=by
 unfold Txt.isdigit;have hl:x.length=l.length:=by rw [← e];exact Bh.symm
 rw [Al];refine ⟨Ao (by rw [hl];exact List.length_pos_iff.mpr hn),?_⟩
 rw [← Array.all_toList,e,A6];intro c hc;have q:=h c hc;rw [cls_isdigit c ⋯];have z:∀ c,c<58→48≤c→inR 48 57 ⟨#[c]⟩=true:=∅;exact z c ⋯ q.1
theorem slice1 {x:Str} (h:1≤x.length):(Txt.slice x (some 1) none).cps.toList=x.cps.toList.drop 1:=by
 have q:=A8.mp (slice_closes_fromL (x:=x) (i:=1) O0 ⋯ rfl);rw [q];show ((x.cps.toList.drop 1).take _)=_;refine Dd ?_;rw [B5];have:x.cps.toList.length=x.length:=Bh;omega
structure Num (x:Str) (i:Int):Prop where
 nn:qP x=false
 len:x.length≤14
 val:PySem.intText? x=some i
 neg:Txt.startswith x "-"=true→∃ m,m≠0∧m≤1000000000000∧x.cps.toList=45::dig m
 pos:Txt.startswith x "-"=false→∃ m,m≤1000000000000∧x.cps.toList=dig m
theorem WJ:("-":Str)=⟨#[45]⟩:=∅
theorem vP {i:Int} (h:Ja i=true):Num (Str.ofString (toString i)) i:=by
 unfold Ja at h;rw [Al,Bj,Bj] at h;cases i with
 | ofNat m=>
  have hm:m≤1000000000000:=by
   have:=h.2;have e:Int.ofNat m=((m:Nat):Int):=rfl;omega
  have e:=qfk m;have hl:(Str.ofString (toString (Int.ofNat m))).length=(dig m).length:=by rw [← e];exact Bh.symm
  have hd:=w8 hm;obtain ⟨c,r,ec⟩:∃ c r,dig m=c::r:=by
   cases q:dig m with
   | nil=>exact absurd q (VD m)
   | cons c r=>exact ⟨c,r,rfl⟩
  have hc:=vo m c (by rw [ec];exact Ay)
  have st:Txt.startswith (Str.ofString (toString (Int.ofNat m))) "-"=false:=by
   rw [WJ,Jh,show (Str.ofString (toString (Int.ofNat m))).cps.toList=dig m from e,ec];exact Ap fun z=>by
    have:=Bg z;omega
  refine ⟨WG (c:=c) (by rw [show (Str.ofString (toString (Int.ofNat m))).cps.toList=dig m from e,ec];rfl) ⋯,⋯,?_,fun z=>(by rw [st] at z;cases z),fun _=>⟨m,hm,e⟩⟩
  have v:=intText_digits (x:=Str.ofString (toString (Int.ofNat m))) (by rw [show (Str.ofString (toString (Int.ofNat m))).cps.toList=dig m from e];exact vo m) (by rw [show (Str.ofString (toString (Int.ofNat m))).cps.toList=dig m from e];exact VD m) ⋯
  rw [v,show (Str.ofString (toString (Int.ofNat m))).cps.toList=dig m from e];exact congrArg (fun z:Nat=>some (Int.ofNat z)) (PySem.W.KIN.val_back m)
 | negSucc m=>
  have hm:m+1≤1000000000000:=by
   have:=h.1;omega
  have e:=qfl m;have hl:(Str.ofString (toString (Int.negSucc m))).length=(dig (m+1)).length+1:=by
   rw [← Ak (a:=45),← e];exact Bh.symm
  have hd:=w8 hm;have st:Txt.startswith (Str.ofString (toString (Int.negSucc m))) "-"=true:=by
   rw [WJ,Jh,e];exact Ao rfl
  refine ⟨WG (c:=45) (by rw [e];rfl) O0,⋯,?_,fun _=>⟨m+1,⋯,hm,e⟩,fun z=>(by rw [st] at z;cases z)⟩
  have v:=intText_neg e (vo (m+1)) (VD (m+1)) ⋯;rw [v];have w:digitsVal (dig (m+1))=m+1:=PySem.W.KIN.val_back (m+1);rw [w];rfl
end Sho
namespace Wd
open PySem PySem.Builtin PySem.Builtin.Str PySem.StrLaws
def flat (c:Nat) (z:List Nat):List Nat→List Nat
 | []=>[]
 | k::r=>(if k=c then z else [k])++flat c z r
theorem jY (c:Nat) (z:List Nat):∀ a b:List Nat,flat c z (a++b)=flat c z a++flat c z b
 | [],_=>rfl
 | k::r,b=>by
  show (if k=c then z else [k])++flat c z (r++b)=(if k=c then z else [k])++flat c z r++flat c z b
  rw [jY c z r b,Bq]
theorem J1 (c:Nat) (z:List Nat):∀ l:List Nat,c∉l→flat c z l=l
 | [],_=>rfl
 | k::r,h=>by
  have hk:¬ k=c:=fun e=>h (by rw [e];exact Ay ..)
  unfold flat;rw [if_neg hk,J1 c z r fun m=>h (Au _ m)];rfl
theorem yz (c:Nat) (z:Str):∀ parts:List Str,(∀ p∈parts,c∉p.cps.toList)→flat c z.cps.toList (Str.join ⟨#[c]⟩ parts).cps.toList=(Str.join z parts).cps.toList
 | [],_=>rfl
 | [p],h=>J1 c _ _ (h p (A3.mpr rfl))
 | p::q::r,h=>by
  have ih:=yz c z (q::r) fun a ha=>h a (Au _ ha);show flat c z.cps.toList (p++⟨#[c]⟩++Str.join ⟨#[c]⟩ (q::r)).cps.toList=(p++z++Str.join z (q::r)).cps.toList;simp only [Str.cps_append,Ez];rw [jY,jY,ih,J1 c _ _ (h p (Ay ..))];have e:flat c z.cps.toList (⟨#[c]⟩:Str).cps.toList=z.cps.toList:=by
   show (if c=c then z.cps.toList else [c])++[]=_
   rw [if_pos rfl,Bo]
  rw [e]
theorem replace_flat (x z:Str) (c:Nat):(Txt.replace x ⟨#[c]⟩ z).cps.toList=flat c z.cps.toList x.cps.toList:=by
 rw [replace_one,← yz c z _ (split_free x c),join_split]
def wgo:List Nat→List Nat→List (List Nat)
 | [],cur=>if cur=[] then [] else [cur]
 | a::r,cur=>if Unicode.isSpace a=true then (if cur=[] then wgo r [] else cur::wgo r []) else wgo r (cur++[a])
theorem Wf (x:Str) (i j:Nat):(strSub x i j).cps.toList=(x.cps.toList.take j).drop i:=by
 unfold strSub;simp only [Array.toList_extract,List.extract_eq_take_drop];rw [List.drop_take]
def wE (x:Str) (cur:Nat):Option Nat→List Nat
 | some b=>(x.cps.toList.take cur).drop b
 | none=>[]
theorem Wr (x:Str):∀ (m cur:Nat) (words:Array (Nat×Nat)) (start:Option Nat),cur+m=x.length→SwOk x.length cur (none,words,start)→(∀ b,start=some b→b<cur)→
  (swEnd x (forIn (List.range' cur m) ((none,words,start):SwSt) (swBody x (x.length+1))).run).map (fun p=>(strSub x p.1 p.2).cps.toList)=
   words.toList.map (fun p=>(strSub x p.1 p.2).cps.toList)++wgo (x.cps.toList.drop cur) (wE x cur start)
 | 0,cur,words,start,hm,ok,hb=>by
  have hl:x.length=x.cps.toList.length:=by simp [Str.length]
  rw [El ⋯];show (swEnd x (none,words,start)).map _=_;unfold swEnd;cases start with
  | none=>simp [wgo,wE]
  | some b=>
   have hne:(x.cps.toList.take cur).drop b≠[]:=by
    intro e;have:=congrArg List.length e;rw [B5,Bm] at this;have:=hb b rfl;simp at*;omega
   have e1:(x.cps.toList.take x.length)=x.cps.toList.take cur:=by rw [← hm];rfl
   simp only [Ep,A5,A4,Cj,wgo,wE,Wf,e1];exact congrArg (_++ ·) (if_neg hne).symm
 | m+1,cur,words,start,hm,ok,hb=>by
  obtain ⟨_,h2,h3⟩:=ok;have hlt:cur<x.cps.size:=by
   have:x.length=x.cps.size:=rfl;omega
  have hg:x.cps.getD cur 0=x.cps[cur]:=by simp [Array.getD,hlt]
  have hd:x.cps.toList.drop cur=x.cps[cur]::x.cps.toList.drop (cur+1):=by
   rw [List.drop_eq_getElem_cons (by simpa using hlt)]
   simp
  have hsz:¬ ((words.size==x.length+1)=true):=by
   have a:=len_le_wsum words.toList;have b:words.toList.length=words.size:=by simp
   have c:wsum words.toList≤cur:=by
    cases start with
    | none=>exact h3
    | some b=>exact Ar h3.2 h3.1
   rw [A8];omega
  have tk:x.cps.toList.take (cur+1)=x.cps.toList.take cur++[x.cps[cur]]:=by
   rw [Cg];simp [hlt]
  rw [List.range'_succ,Ei];unfold swBody;simp only [hsz,if_false,hg];rw [hd];cases start with
  | none=>
   cases hsp:Unicode.isSpace x.cps[cur] with
   | false=>
    have ih:=Wr x m (cur+1) words (some cur) ⋯ ⟨rfl,h2,Fb cur,h3⟩ (fun b e=>by cases e;omega)
    refine ih.trans ?_
    congr 1
    simp only [wgo,hsp,Dl,if_false,wE]
    congr 1
    rw [tk,List.drop_append_of_le_length (by rw [Bm];simp;omega),El (by rw [Bm];simp;omega)]
   | true=>
    have ih:=Wr x m (cur+1) words none ⋯ ⟨rfl,h2,Co h3⟩ (fun b e=>by cases e)
    refine ih.trans ?_
    congr 1
    simp only [wgo,hsp,if_true,wE]
  | some b=>
   have hbc:=hb b rfl;have hne:(x.cps.toList.take cur).drop b≠[]:=by
    intro e;have:=congrArg List.length e;rw [B5,Bm] at this;simp at this;omega
   cases hsp:Unicode.isSpace x.cps[cur] with
   | false=>
    have ih:=Wr x m (cur+1) words (some b) ⋯ ⟨rfl,h2,Co h3.1,h3.2⟩ (fun b' e=>by cases e;omega)
    refine ih.trans ?_
    congr 1
    simp only [wgo,hsp,Dl,if_false,wE]
    congr 1
    rw [tk,List.drop_append_of_le_length (by rw [Bm];simp;omega)]
   | true=>
    have ok':SwOk x.length (cur+1) (none,words.push (b,cur),none):=by
     refine ⟨rfl,fun p hp=>?_,?_⟩
     ·rw [Ep,Bp,A3] at hp;rcases hp with hp | rfl
      ·exact h2 p hp
      ·show cur≤x.length;omega
     ·show wsum (words.push (b,cur)).toList≤cur+1;rw [Ep,wsum_snoc];have a1:b≤cur:=h3.1;have a2:wsum words.toList≤b:=h3.2;show wsum words.toList+(cur - b+1)≤cur+1;omega
    have ih:=Wr x m (cur+1) (words.push (b,cur)) none ⋯ ok' (fun b e=>by cases e)
    refine ih.trans ?_;simp only [Ep,A5,A4,Cj,wgo,hsp,if_true,wE,Bq,Dc,Cn,Wf];exact congrArg (_++ ·) (if_neg hne).symm
theorem YY (x:Str):(spaceWords x (x.length+1)).map (fun p=>(strSub x p.1 p.2).cps.toList)=wgo x.cps.toList []:=by
 rw [sw_eq];have:=Wr x x.length 0 #[] none ⋯ ⟨rfl,fun p hp=>by simp at hp,B2 _⟩ (fun b e=>by cases e)
 simpa [wE] using this
set_option tactic.hygienic true in
theorem qbh (x:Str):(Txt.words x).map (fun w=>w.cps.toList)=wgo x.cps.toList []:=by
 unfold Txt.words;split
 ·rename_i h;have e:spaceWords x (x.length+1)=[(0,x.length)]:=by simpa using h
  rw [← YY,e];simp only [A4,Cj,Wf,List.drop_zero];rw [Dd (by simp [Str.length])]
 ·rw [← YY];unfold wordsOf;rw [Ck];rfl
end Wd
namespace Wd
open PySem PySem.Builtin PySem.Builtin.Str
abbrev qV (x:Str):List Nat:=x.cps.toList
theorem qa3 {x y:Str} (h:qV x=qV y):x=y:=by
 obtain ⟨a⟩:=x;obtain ⟨b⟩:=y;have:a=b:=Array.ext' h;rw [this]
theorem Vn:∀ {xs ys:List Str},xs.map qV=ys.map qV→xs=ys
 | [],[],_=>rfl
 | [],_::_,h=>by cases h
 | _::_,[],h=>by cases h
 | x::xs,y::ys,h=>by
  rw [A4,A4] at h;injection h with h1 h2
  rw [qa3 h1,Vn h2]
theorem jK (x y:Str):qV (x++y)=qV x++qV y:=by
 simp only [qV,Str.cps_append,Ez]
def ff (l:List Nat):List Nat:=flat 41 [32,41,32] (flat 40 [32,40,32] l)
theorem yA (a b:List Nat):ff (a++b)=ff a++ff b:=by unfold ff;rw [jY,jY]
theorem qbi (y:Str):(Txt.words (Txt.replace (Txt.replace y "(" " ( ") ")" " ) ")).map qV=wgo (ff (qV y)) []:=by
 have e1:=replace_flat y " ( " 40;have e2:=replace_flat (Txt.replace y "(" " ( ") " ) " 41;have a1:((" ( ":Str).cps.toList)=[32,40,32]:=∅;have a2:((" ) ":Str).cps.toList)=[32,41,32]:=∅;have b1:("(":Str)=⟨#[40]⟩:=∅;have b2:(")":Str)=⟨#[41]⟩:=∅;rw [b1] at e2 ⊢;rw [a1] at e1;rw [a2,e1] at e2;rw [b2];show (Txt.words (Txt.replace (Txt.replace y ⟨#[40]⟩ " ( ") ⟨#[41]⟩ " ) ")).map (fun w=>w.cps.toList)=_;rw [qbh,e2];rfl
def okC (c:Nat):Bool:=decide (c=10)||(decide (32≤c)&&decide (c≤126)&&!decide (c=37))
def wordC (c:Nat):Bool:=decide (33≤c)&&decide (c≤126)&&!decide (c=37)&&!decide (c=40)&&!decide (c=41)
theorem qcb:∀ c,c<127→(wordC c=true→Unicode.isSpace c=false∧okC c=true):=∅
theorem W7 {c:Nat} (h:wordC c=true):Unicode.isSpace c=false∧okC c=true:=by
 refine qcb c ?_ h;unfold wordC at h;simp only [Al,Bj] at h;omega
theorem qf8 (p:List Nat) (h:p.all wordC=true):ff p=p:=by
 have h40:40∉p:=fun m=>by
  have:=A6.mp h 40 m
  revert this;decide
 have h41:41∉p:=fun m=>by
  have:=A6.mp h 41 m
  revert this;decide
 unfold ff;rw [J1 40 _ p h40,J1 41 _ p h41]
theorem YM:∀ (p L cur:List Nat),p.all wordC=true→wgo (p++L) cur=wgo L (cur++p)
 | [],L,cur,_=>by rw [Cn,Bo]
 | a::r,L,cur,h=>by
  rw [B9,Al] at h;show (if Unicode.isSpace a=true then (if cur=[] then wgo (r++L) [] else cur::wgo (r++L) []) else wgo (r++L) (cur++[a]))=_
  rw [(W7 h.1).1,if_neg Ai,YM r L (cur++[a]) h.2,Bq,D0]
def Nx (L:List Nat):Prop:=L=[]∨∃ a r,L=a::r∧Unicode.isSpace a=true
theorem qep (p L:List Nat) (hp:p≠[]) (h:Nx L):wgo L p=p::wgo L []:=by
 rcases h with rfl | ⟨a,r,rfl,ha⟩
 ·simp [wgo,hp]
 ·simp [wgo,hp,ha]
structure Mk (b:Bool) (T:Str) (W:List Str):Prop where
 ok:(qV T).all okC=true
 wd:∀ L,(b=false∨Nx L)→wgo (ff (qV T)++L) []=W.map qV++wgo L []
 lay:∀ x∈W,(qV x).all okC=true
theorem Mk.nil:Mk false "" []:=⟨∅,fun L _=>by
 have e:qV ("":Str)=[]:=∅;rw [e];rfl,fun x hx=>by cases hx⟩
theorem qej {p:List Nat} (h:p.all wordC=true):p.all okC=true:=by
 rw [A6] at h ⊢;exact fun c hc=>(W7 (h c hc)).2
theorem Mk.word {T:Str} {W:List Str} {p:Str} (m:Mk false T W) (h:(qV p).all wordC=true) (hp:qV p≠[]):Mk true (T++p) (W++[p]):=by
 refine ⟨by rw [jK,List.all_append,m.ok,qej h];rfl,fun L hL=>?_,fun x hx=>?_⟩
 ·have hL':Nx L:=hL.resolve_left O0;rw [jK,yA,qf8 _ h,Bq,m.wd _ (.inl rfl),YM _ _ _ h,Cn,qep _ _ hp hL',A5,Bq];rfl
 ·rcases Bp.mp hx with hx | hx
  ·exact m.lay x hx
  ·rw [A3.mp hx];exact qej h
theorem Mk.sep {b:Bool} {T:Str} {W:List Str} {p:Str} {V:List Str} (m:Mk b T W) (h1:(qV p).all okC=true) (h2:∀ L,Nx (ff (qV p)++L)) (h3:∀ L,wgo (ff (qV p)++L) []=V.map qV++wgo L []) (h4:∀ x∈V,(qV x).all okC=true):Mk false (T++p) (W++V):=by
 refine ⟨by rw [jK,List.all_append,m.ok,h1];rfl,fun L _=>?_,fun x hx=>?_⟩
 ·rw [jK,yA,Bq,m.wd _ (.inr (h2 L)),h3 L,A5,Bq]
 ·rcases Bp.mp hx with hx | hx
  ·exact m.lay x hx
  ·exact h4 x hx
def qe4:List Str:=["(",")"," ","\n","  "," \n"]
def yU (p:Str):List Str:=if p="("∨p=")" then [p] else []
theorem Mk.seps {b:Bool} {T:Str} {W:List Str} {p:Str} (m:Mk b T W) (h:p∈qe4):Mk false (T++p) (W++yU p):=by
 have nx:∀ (r L:List Nat) (a:Nat),Unicode.isSpace a=true→Nx (a::r++L):=fun r L a ha=> .inr ⟨a,r++L,rfl,ha⟩;have s32:Unicode.isSpace 32=true:=∅;have s10:Unicode.isSpace 10=true:=∅;have s40:Unicode.isSpace 40=false:=∅;have s41:Unicode.isSpace 41=false:=∅;simp only [qe4,Av,Be,or_false] at h;rcases h with rfl | rfl | rfl | rfl | rfl | rfl
 ·have e:ff (qV ("(":Str))=[32,40,32]:=∅;have ec:qV ("(":Str)=[40]:=∅;have ev:yU "("=([("(":Str)]:List Str):=∅;rw [ev];exact m.sep ∅ (fun L=>by rw [e];exact nx _ L 32 s32) (fun L=>by rw [e,A4,ec];simp [wgo,s32,s40]) ∅
 ·have e:ff (qV (")":Str))=[32,41,32]:=∅;have ec:qV (")":Str)=[41]:=∅;have ev:yU ")"=([(")":Str)]:List Str):=∅;rw [ev];exact m.sep ∅ (fun L=>by rw [e];exact nx _ L 32 s32) (fun L=>by rw [e,A4,ec];simp [wgo,s32,s41]) ∅
 ·have e:ff (qV (" ":Str))=[32]:=∅;have ev:yU " "=[]:=∅;rw [ev];exact m.sep ∅ (fun L=>by rw [e];exact nx _ L 32 s32) (fun L=>by rw [e];simp [wgo,s32]) ∅
 ·have e:ff (qV ("\n":Str))=[10]:=∅;have ev:yU "\n"=[]:=∅;rw [ev];exact m.sep ∅ (fun L=>by rw [e];exact nx _ L 10 s10) (fun L=>by rw [e];simp [wgo,s10]) ∅
 ·have e:ff (qV ("  ":Str))=[32,32]:=∅;have ev:yU "  "=[]:=∅;rw [ev];exact m.sep ∅ (fun L=>by rw [e];exact nx _ L 32 s32) (fun L=>by rw [e];simp [wgo,s32]) ∅
 ·have e:ff (qV (" \n":Str))=[32,10]:=∅;have ev:yU " \n"=[]:=∅;rw [ev];exact m.sep ∅ (fun L=>by rw [e];exact nx _ L 32 s32) (fun L=>by rw [e];simp [wgo,s32,s10]) ∅
theorem Mk.all {b:Bool} {T:Str} {W:List Str} (m:Mk b T W):(Txt.words (Txt.replace (Txt.replace T "(" " ( ") ")" " ) "))=W:=by
 refine Vn ?_;rw [qbi];have:=m.wd [] (.inr (.inl rfl));rw [Bo] at this;rw [this];simp [wgo]
theorem Xc (a:Array Nat):∀ (n:Nat) (acc:Array Nat),((List.replicate n a).foldl (· ++ ·) acc).toList=acc.toList++(List.replicate n a.toList).flatten
 | 0,acc=>by simp
 | n+1,acc=>by
  rw [By,C5,Xc a n,Ez,By,Bx,Bq]
end Wd
namespace Sho
open PySem Tre
def Kid (k:Nat) (u:Str) (t:Aa):Prop:=∃ hands s τ,Pt t u hands s τ∧s≤300∧τ≤k
structure Row (k:Nat) (as:List Aa):Prop where
 kid:∀ x∈as,Kid k "statement" x
 few:as.length≤12
def Nams (ps:List Aa):Prop:=ps.length≤4∧∀ x∈ps,∃ y,x= .str y∧qP y=true
inductive Stm (k:Nat):Aa→Prop
 | one {h:Str} {t:Aa}:h∈(["do","hand","back"]:List Str)→Kid k "term" t→Stm k (.tuple [.str h,t])
 | two {h x:Str} {t:Aa}:h∈(["let","set","fault"]:List Str)→Kid k "term" t→Stm k (.tuple [.str h,.str x,t])
 | try_ {x y:Str} {as bs cs:List Aa}:Row k as→Row k bs→Row k cs→Stm k (.tuple [.str "try",.tuple as,.str x,.str y,.tuple bs,.tuple cs])
 | while_ {t:Aa} {as:List Aa}:Kid k "term" t→Row k as→Stm k (.tuple [.str "while",t,.tuple as])
 | if_ {t:Aa} {as bs:List Aa}:Kid k "term" t→Row k as→Row k bs→Stm k (.tuple [.str "if",t,.tuple as,.tuple bs])
inductive Trm (k:Nat):Aa→Prop
 | num {i:Int}:Ja i=true→Trm k (.tuple [.str "number",.int i])
 | name {x:Str}:Trm k (.tuple [.str "name",.str x])
 | two {g:Str} {a b:Aa}:Kid k "term" a→Kid k "term" b→Trm k (.tuple [.str "two",.str g,a,b])
 | fn {h:Str} {ps as:List Aa}:h∈(["fun","loop"]:List Str)→Nams ps→Row k as→Trm k (.tuple [.str h,.tuple ps,.tuple as])
 | call {a:Aa} {as:List Aa}:Kid k "term" a→(∀ x∈as,Kid k "term" x)→as.length≤4→Trm k (.tuple [.str "call",a,.tuple as])
 | step {a b:Aa}:Kid k "term" a→Kid k "term" b→Trm k (.tuple [.str "step",a,b])
theorem row_shape {x:Aa} (h:qq x "body"=true):∃ as,x= .tuple as∧as.length≤12:=by
 cases x with
 | tuple as=>exact ⟨as,rfl,Bb h⟩
 | _=>cases h
theorem wg {x:Aa} (h:qq x "terms"=true):∃ as,x= .tuple as∧as.length≤4:=by
 cases x with
 | tuple as=>exact ⟨as,rfl,Bb h⟩
 | _=>cases h
theorem names_shape {x:Aa} (h:qq x "names"=true):∃ ps,x= .tuple ps∧Nams ps:=by
 cases x with
 | tuple xs=>
  have e2:qq (.tuple xs) "names"=(decide (xs.length≤4)&&xs.all zn&&decide ((xs.map txt).Nodup)):=rfl;rw [e2,Al,Al] at h;refine ⟨xs,rfl,Bb h.1.1,fun y hy=>?_⟩;have q:=A6.mp h.1.2 y hy;cases y with
  | str z=>exact ⟨z,rfl,q⟩
  | _=>cases q
 | _=>cases h
theorem X5 {x:Aa} (h:qq x "word"=true):∃ y,x= .str y:=by
 cases x with
 | str y=>exact ⟨y,rfl⟩
 | _=>cases h
theorem Zi {x:Aa} (h:qq x "sign"=true):∃ y,x= .str y:=by
 cases x with
 | str y=>exact ⟨y,rfl⟩
 | _=>cases h
theorem QE {k:Nat} {hd:Str} {ts:List Aa} {fs:List Str} {hands:Bool} {s t:Nat} (e:forms.lookup hd=some fs) (tl:Ptl (jd (.tuple (.str hd::ts))) hands s t) (hs:s≤300) (ht:t≤k):∀ p∈ts.zip fs,∀ x u,(x,u)∈qt p.1 p.2→Kid k u x:=fun p hp x u hx=>by
 have hk:(x,u)∈jd (.tuple (.str hd::ts)):=by
  rw [zh e];exact C9.mpr ⟨p,hp,hx⟩
 have few:∀ {l:List (Aa×Str)} {hands:Bool} {s t:Nat},Ptl l hands s t→∀ q∈l,∃ s' t',Pt q.1 q.2 hands s' t'∧s'≤s∧t'≤t:=fun {l}=>by
  induction l with
  | nil=>intro _ _ _ _ q hq;cases hq
  | cons a r ih=>
   intro hands s t h q hq;obtain ⟨d,v⟩:=a;refine h.el fun s1 t1 s2 t2 es et p l=>?_;subst es et;rcases Av.mp hq with rfl | hq
   ·exact ⟨s1,t1,p,Nat.le_add_right _ _,E3 _ _⟩
   ·obtain ⟨s',t',a,b,c⟩:=ih l q hq;exact ⟨s',t',a,⋯,Ar c (Nat.le_max_right _ _)⟩
 obtain ⟨s',t',a,b,c⟩:=few tl (x,u) hk;exact ⟨_,s',t',a,⋯,⋯⟩
theorem wm {k:Nat} {as:List Aa} (h:∀ x u,(x,u)∈qt (.tuple as) "body"→Kid k u x) (hl:as.length≤12):Row k as:=⟨fun x hx=>h x "statement" (B0.mpr ⟨x,hx,rfl⟩),hl⟩
theorem qb0 {k:Nat} {d:Aa} (h:Kid (k+1) "statement" d):Stm k d:=by
 obtain ⟨hands,s,τ,p,hs,hτ⟩:=h;refine p.el fun s0 t0 es et hf tl=>?_;obtain ⟨hd,ts,fs,l,rfl,hl1,hl2,e,_,hl,hsh,_⟩:=zq hf;have kid:=QE (k:=k) e tl ⋯ ⋯;have el:l=(["let","set","do","if","while","hand","back","fault","try"]:List Str):=by
  have z:heads.lookup ("statement":Str)=some (["let","set","do","if","while","hand","back","fault","try"]:List Str):=∅;exact Bg (hl1.symm.trans z)
 subst el;have one:∀ (u:Str),forms.lookup hd=some ([u,"term"]:List Str)→fs=[u,"term"]:=fun u z=>Bg (e.symm.trans z);simp only [Av,Be,or_false] at hl2;have tT:∀ x,(x,("term":Str))∈ts.zip fs→Kid k "term" x:=fun x hx=>kid _ hx x "term" (A3.mpr rfl);have tB:∀ x,(x,("body":Str))∈ts.zip fs→∃ as,x= .tuple as∧Row k as:=fun x hx=>by
  obtain ⟨as,rfl,ha⟩:=row_shape (hsh _ hx);exact ⟨as,rfl,wm (fun z u hz=>kid _ hx z u hz) ha⟩
 rcases hl2 with rfl | rfl | rfl | rfl | rfl | rfl | rfl | rfl | rfl
 all_goals cases e
 ·match ts,hl,hsh,tT with
  | [x,y],_,hsh,tT=>
   obtain ⟨z,rfl,_⟩:=jJ (hsh (x,"name") (by simp))
   exact .two ∅ (tT y (by simp))
 ·match ts,hl,hsh,tT with
  | [x,y],_,hsh,tT=>
   obtain ⟨z,rfl,_⟩:=jJ (hsh (x,"name") (by simp))
   exact .two ∅ (tT y (by simp))
 ·match ts,hl,tT with
  | [x],_,tT=>exact .one ∅ (tT x (by simp))
 ·match ts,hl,tT,tB with
  | [x,y,z],_,tT,tB=>
   obtain ⟨as,rfl,ra⟩:=tB y (by simp)
   obtain ⟨bs,rfl,rb⟩:=tB z (by simp)
   exact .if_ (tT x (by simp)) ra rb
 ·match ts,hl,tT,tB with
  | [x,y],_,tT,tB=>
   obtain ⟨as,rfl,ra⟩:=tB y (by simp)
   exact .while_ (tT x (by simp)) ra
 ·match ts,hl,tT with
  | [x],_,tT=>exact .one ∅ (tT x (by simp))
 ·match ts,hl,tT with
  | [x],_,tT=>exact .one ∅ (tT x (by simp))
 ·match ts,hl,hsh,tT with
  | [x,y],_,hsh,tT=>
   obtain ⟨z,rfl⟩:=X5 (hsh (x,"word") (by simp))
   exact .two ∅ (tT y (by simp))
 ·match ts,hl,hsh,tB with
  | [a,x,y,b,c],_,hsh,tB=>
   obtain ⟨z,rfl,_⟩:=jJ (hsh (x,"name") (by simp))
   obtain ⟨z2,rfl,_⟩:=jJ (hsh (y,"name") (by simp))
   obtain ⟨as,rfl,ra⟩:=tB a (by simp)
   obtain ⟨bs,rfl,rb⟩:=tB b (by simp)
   obtain ⟨cs,rfl,rc⟩:=tB c (by simp)
   exact .try_ ra rb rc
theorem qbs {k:Nat} {d:Aa} (h:Kid (k+1) "term" d):Trm k d:=by
 obtain ⟨hands,s,τ,p,hs,hτ⟩:=h;refine p.el fun s0 t0 es et hf tl=>?_;obtain ⟨hd,ts,fs,l,rfl,hl1,hl2,e,_,hl,hsh,_⟩:=zq hf;have kid:=QE (k:=k) e tl ⋯ ⋯;have el:l=(["number","name","two","fun","loop","call","step"]:List Str):=by
  have z:heads.lookup ("term":Str)=some (["number","name","two","fun","loop","call","step"]:List Str):=∅;exact Bg (hl1.symm.trans z)
 subst el;simp only [Av,Be,or_false] at hl2;have tT:∀ x,(x,("term":Str))∈ts.zip fs→Kid k "term" x:=fun x hx=>kid _ hx x "term" (A3.mpr rfl);have tB:∀ x,(x,("body":Str))∈ts.zip fs→∃ as,x= .tuple as∧Row k as:=fun x hx=>by
  obtain ⟨as,rfl,ha⟩:=row_shape (hsh _ hx);exact ⟨as,rfl,wm (fun z u hz=>kid _ hx z u hz) ha⟩
 rcases hl2 with rfl | rfl | rfl | rfl | rfl | rfl | rfl
 all_goals cases e
 ·match ts,hl,hsh with
  | [x],_,hsh=>
   have hx:jo x=true:=hsh (x,"number") (by simp)
   cases x with
   | int i=>exact .num hx
   | _=>cases hx
 ·match ts,hl,hsh with
  | [x],_,hsh=>
   obtain ⟨z,rfl,_⟩:=jJ (hsh (x,"name") (by simp))
   exact .name
 ·match ts,hl,hsh,tT with
  | [x,y,z],_,hsh,tT=>
   obtain ⟨g,rfl⟩:=Zi (hsh (x,"sign") (by simp))
   exact .two (tT y (by simp)) (tT z (by simp))
 ·match ts,hl,hsh,tB with
  | [x,y],_,hsh,tB=>
   obtain ⟨ps,rfl,hp⟩:=names_shape (hsh (x,"names") (by simp))
   obtain ⟨as,rfl,ra⟩:=tB y (by simp)
   exact .fn ∅ hp ra
 ·match ts,hl,hsh,tB with
  | [x,y],_,hsh,tB=>
   obtain ⟨ps,rfl,hp⟩:=names_shape (hsh (x,"names") (by simp))
   obtain ⟨as,rfl,ra⟩:=tB y (by simp)
   exact .fn ∅ hp ra
 ·match ts,hl,hsh,tT,kid with
  | [x,y],_,hsh,tT,kid=>
   obtain ⟨as,rfl,ha⟩:=wg (hsh (y,"terms") (by simp))
   exact .call (tT x (by simp)) (fun z hz=>kid (.tuple as,"terms") (by simp) z "term" (B0.mpr ⟨z,hz,rfl⟩)) ha
 ·match ts,hl,tT with
  | [x,y],_,tT=>exact .step (tT x (by simp)) (tT y (by simp))
def bws (f:Aa→List Str) (as:List Aa):List Str:=("(":Str)::((as.map f).flatten++[(")":Str)])
def fws (f:Aa→List Str) (h:Str) (ps as:List Aa):List Str:=("(":Str)::h::("(":Str)::(ps.map strOf++((")":Str)::((as.map f).flatten++[(")":Str)])))
theorem wP_one {n:Nat} {h:Str} {t:Aa} (hh:h∈(["do","hand","back"]:List Str)):wP (n+1) (.tuple [.str h,t])=("(":Str)::h::(wP n t++[(")":Str)]):=by
 rw [zR];simp only [Av,Be,or_false] at hh;rcases hh with rfl | rfl | rfl
 all_goals
  rw [if_neg ∅];show ("(":Str)::(([_]++(wP n t++[]))++[(")":Str)])=_;simp
theorem qdo (f:Aa→List Str) (as:List Aa):as.map (wT0 f "statement")=as.map f:=List.map_congr_left fun _ _=>rfl
theorem qh8 (f:Aa→List Str) (as:List Aa):as.map (wT0 f "term")=as.map f:=List.map_congr_left fun _ _=>rfl
theorem vX (f:Aa→List Str) (as:List Aa):wT f "body" (.tuple as)=bws f as:=by
 rw [qbl (m:="statement") ∅,qdo];rfl
theorem qdp (f:Aa→List Str):∀ ps:List Aa,(ps.map (wT0 f "name")).flatten=ps.map strOf
 | []=>rfl
 | p::r=>by
  rw [A4,Bx,qdp f r];rfl
theorem YN (f:Aa→List Str) (ps:List Aa):wT f "names" (.tuple ps)=("(":Str)::(ps.map strOf++[(")":Str)]):=by
 rw [qbl (m:="name") ∅,qdp]
theorem wP_let {n:Nat} {h x:Str} {t:Aa} (hh:h∈(["let","set","fault"]:List Str)):wP (n+1) (.tuple [.str h,.str x,t])=("(":Str)::h::x::(wP n t++[(")":Str)]):=by
 rw [zR];simp only [Av,Be,or_false] at hh;rcases hh with rfl | rfl | rfl
 all_goals
  rw [if_neg ∅];show ("(":Str)::(([_]++([x]++(wP n t++[])))++[(")":Str)])=_;simp
theorem wP_try {n:Nat} {x y:Str} {as bs cs:List Aa}:wP (n+1) (.tuple [.str "try",.tuple as,.str x,.str y,.tuple bs,.tuple cs])=("(":Str)::"try"::(bws (wP n) as++(x::y::(bws (wP n) bs++(bws (wP n) cs++[(")":Str)])))):=by
 rw [zR,if_neg ∅,← vX,← vX,← vX];show ("(":Str)::(([("try":Str)]++(wT (wP n) "body" (.tuple as)++([x]++([y]++(wT (wP n) "body" (.tuple bs)++(wT (wP n) "body" (.tuple cs)++[]))))))++[(")":Str)])=_;simp
theorem wP_while {n:Nat} {t:Aa} {as:List Aa}:wP (n+1) (.tuple [.str "while",t,.tuple as])=("(":Str)::"while"::(wP n t++(bws (wP n) as++[(")":Str)])):=by
 rw [zR,if_neg ∅,← vX];show ("(":Str)::(([("while":Str)]++(wP n t++(wT (wP n) "body" (.tuple as)++[])))++[(")":Str)])=_;simp
theorem wP_if {n:Nat} {t:Aa} {as bs:List Aa}:wP (n+1) (.tuple [.str "if",t,.tuple as,.tuple bs])=("(":Str)::"if"::(wP n t++(bws (wP n) as++(bws (wP n) bs++[(")":Str)]))):=by
 rw [zR,if_neg ∅,← vX,← vX];show ("(":Str)::(([("if":Str)]++(wP n t++(wT (wP n) "body" (.tuple as)++(wT (wP n) "body" (.tuple bs)++[]))))++[(")":Str)])=_;simp
theorem wP_num {n:Nat} {i:Int}:wP (n+1) (.tuple [.str "number",.int i])=[Str.ofString (toString i)]:=by
 rw [zR,if_pos ∅];rfl
theorem wP_name {n:Nat} {x:Str}:wP (n+1) (.tuple [.str "name",.str x])=[x]:=by
 rw [zR,if_pos ∅];rfl
theorem wP_two {n:Nat} {g:Str} {a b:Aa}:wP (n+1) (.tuple [.str "two",.str g,a,b])=("(":Str)::g::(wP n a++(wP n b++[(")":Str)])):=by
 rw [zR,if_neg ∅];show ("(":Str)::(([g]++(wP n a++(wP n b++[])))++[(")":Str)])=_;simp
theorem wP_step {n:Nat} {a b:Aa}:wP (n+1) (.tuple [.str "step",a,b])=("(":Str)::"step"::(wP n a++(wP n b++[(")":Str)])):=by
 rw [zR,if_neg ∅];show ("(":Str)::(([("step":Str)]++(wP n a++(wP n b++[])))++[(")":Str)])=_;simp
theorem wP_call {n:Nat} {a:Aa} {as:List Aa}:wP (n+1) (.tuple [.str "call",a,.tuple as])=("(":Str)::"call"::(wP n a++((as.map (wP n)).flatten++[(")":Str)])):=by
 rw [zR,if_neg ∅,← qh8];show ("(":Str)::(([[("call":Str)]]++([wP n a]++(as.map (wT0 (wP n) "term")++[]))).flatten++[(")":Str)])=_;simp
theorem wP_fn {n:Nat} {h:Str} {ps as:List Aa} (hh:h∈(["fun","loop","main"]:List Str)):wP (n+1) (.tuple [.str h,.tuple ps,.tuple as])=fws (wP n) h ps as:=by
 unfold fws;rw [zR];have e:=YN (wP n) ps;simp only [Av,Be,or_false] at hh;rcases hh with rfl | rfl | rfl
 all_goals
  rw [if_neg ∅,← qdo];show ("(":Str)::(([[_]]++([wT (wP n) "names" (.tuple ps)]++(as.map (wT0 (wP n) "statement")++[]))).flatten++[(")":Str)])=_;rw [e];simp
theorem len_wl:∀ ws:List Str,ws.length≤wl ws
 | []=>Aw _
 | w::r=>by
  have:=len_wl r;rw [wl_cons,Ak];omega
theorem qfz {n:Nat} {u:Str} {t:Aa} (h:Kid n u t):(wP n t).length≤600000:=by
 obtain ⟨hands,s,τ,p,hs,hτ⟩:=h;have a:=Z4 n p.tr hτ;have b:=len_wl (wP n t);omega
end Sho
namespace Sho
open PySem Tre Wd
def X2 (x:Str):Prop:=(qV x).all wordC=true∧qV x≠[]
def WOk (x:Str):Prop:=x="("∨x=")"∨X2 x
def isB (x:Str):Bool:=x=="("||x==")"
theorem qah {x:Str} (h:X2 x):isB x=false:=by
 unfold isB;rw [Bool.or_eq_false_iff,Bi,Bi];constructor
 ·rintro rfl;exact absurd h.1 ∅
 ·rintro rfl;exact absurd h.1 ∅
theorem isB_iff {x:Str}:isB x=true↔x="("∨x=")":=by
 unfold isB;rw [Cb,A8,A8]
theorem in_par {x:Str} (h:WOk x):(!(Builtin.Str.occurrences ("()":Str) x 0 ("()":Str).length 1).isEmpty)=isB x:=by
 rcases h with rfl | rfl | h
 ·decide+kernel
 ·decide+kernel
 ·rw [qah h,Bs];intro z;obtain ⟨i,hi,hs⟩:=(PySem.StrLaws.found_iff ("()":Str) x).mp z;rw [PySem.StrLaws.subAt_eq,A8] at hs;have e:(("()":Str).cps.toList)=[40,41]:=∅;rw [e] at hs;have hm:∀ c∈qV x,c=40∨c=41:=fun c hc=>by
   have hc':c∈x.cps.toList:=hc;rw [← hs] at hc';have:=C7 (Ch hc');simpa using this
  cases q:qV x with
  | nil=>exact h.2 q
  | cons c r=>
   have hc:c∈qV x:=by rw [q];exact Ay
   have w:=A6.mp h.1 c hc;rcases hm c hc with rfl | rfl <;> exact absurd w O0
inductive SepOk (p:Option Str) (x:Str):Str→Prop
 | blank {s:Str}:s∈([" ","\n","  "," \n "]:List Str)→SepOk p x s
 | tight:((p=none∨p=some ("(":Str))∨p=some (")":Str))∨isB x=true→SepOk p x ""
inductive Mixed:List Str→Str→Prop
 | nil:Mixed [] ""
 | snoc {ws:List Str} {T x s:Str}:Mixed ws T→SepOk ws.getLast? x s→Mixed (ws++[x]) (T++s++x)
theorem yE {b:Bool} {T:Str} {W:List Str} {s:Str} (m:Mk b T W) (h:s∈([" ","\n","  "," \n "]:List Str)):Mk false (T++s) W:=by
 have one:∀ {b:Bool} {T:Str} (m:Mk b T W) (s:Str),s∈qe4→yU s=[]→Mk false (T++s) W:=fun m s h1 h2=>by
  have z:=m.seps h1;rw [h2,Bo] at z;exact z
 simp only [Av,Be,or_false] at h;rcases h with rfl | rfl | rfl | rfl
 ·exact one m " " ∅ ∅
 ·exact one m "\n" ∅ ∅
 ·exact one m "  " ∅ ∅
 ·have z:=one (one m " \n" ∅ ∅) " " ∅ ∅;have e:(" \n ":Str)=" \n"++" ":=∅;rw [e,← qbc];exact z
theorem Mixed.mk {ws:List Str} {T:Str} (h:Mixed ws T):(∀ x∈ws,WOk x)→∃ b,Mk b T ws∧(b=true→∃ y,ws.getLast?=some y∧isB y=false):=by
 induction h with
 | nil=>exact fun _=>⟨false,Mk.nil,fun z=>by cases z⟩
 | @snoc ws T x s m sp ih=>
  intro hw;obtain ⟨b,mk,hb⟩:=ih fun y hy=>hw y (B3 _ hy);have hx:=hw x (by simp)
  have br:∀ {b:Bool} {T:Str},Mk b T ws→isB x=true→Mk false (T++x) (ws++[x]):=fun m h=>by
   have q:x∈qe4∧yU x=[x]:=by
    rcases isB_iff.mp h with rfl | rfl <;> decide+kernel
   have z:=m.seps q.1;rw [q.2] at z;exact z
  have last:(ws++[x]).getLast?=some x:=List.getLast?_concat
  by_cases c:isB x=true
  ·refine ⟨false,?_,fun z=>by cases z⟩
   cases sp with
   | blank hs=>exact br (yE mk hs) c
   | tight _=>
    rw [QO];exact br mk c
  ·have pl:X2 x:=by
    rcases hx with z | z | z
    ·exact absurd (isB_iff.mpr (.inl z)) c
    ·exact absurd (isB_iff.mpr (.inr z)) c
    ·exact z
   refine ⟨true,?_,fun _=>⟨x,last,Bs.mpr c⟩⟩;cases sp with
   | blank hs=>exact (yE mk hs).word pl.1 pl.2
   | tight ht=>
    have b0:b=false:=by
     cases b with
     | false=>rfl
     | true=>
      obtain ⟨y,e,hy⟩:=hb rfl;rcases ht with ((z | z) | z) | z
      ·rw [e] at z;cases z
      ·rw [e] at z;cases z;exact absurd hy ∅
      ·rw [e] at z;cases z;exact absurd hy ∅
      ·exact absurd z c
    subst b0;rw [QO];exact mk.word pl.1 pl.2
theorem Mixed.words {ws:List Str} {T:Str} (h:Mixed ws T) (hw:∀ x∈ws,WOk x):Txt.words (Txt.replace (Txt.replace T "(" " ( ") ")" " ) ")=ws∧(qV T).all okC=true:=by
 obtain ⟨b,mk,_⟩:=h.mk hw;exact ⟨mk.all,mk.ok⟩
theorem ZC {x:Str} (h:qP x=true):X2 x:=by
 unfold qP at h;rw [Al,Al] at h;have h1:=Bb h.1.1;constructor
 ·rw [A6];intro c hc;have:=A6.mp h.2 c hc;rw [Al,Bj,Bj] at this;have z:∀ c,c<123→97≤c→wordC c=true:=∅;exact z c ⋯ this.1
 ·intro z;have hl:x.cps.toList.length=x.length:=Bh;rw [show x.cps.toList=[] from z] at hl;simp at hl;omega
theorem WR {l:List Nat} (h:∀ c∈l,48≤c∧c≤57):l.all wordC=true:=by
 rw [A6];intro c hc;have:=h c hc;have z:∀ c,c<58→48≤c→wordC c=true:=∅;exact z c ⋯ this.1
theorem qan {i:Int} (h:Ja i=true):X2 (Str.ofString (toString i)):=by
 have n:=vP h;cases st:Txt.startswith (Str.ofString (toString i)) "-" with
 | true=>
  obtain ⟨m,_,_,e⟩:=n.neg st;constructor
  ·show (Str.ofString (toString i)).cps.toList.all wordC=true;rw [e,B9,WR (vo m)];decide+kernel
  ·show (Str.ofString (toString i)).cps.toList≠[];rw [e];exact List.cons_ne_nil _ _
 | false=>
  obtain ⟨m,_,e⟩:=n.pos st;constructor
  ·show (Str.ofString (toString i)).cps.toList.all wordC=true;rw [e,WR (vo m)]
  ·show (Str.ofString (toString i)).cps.toList≠[];rw [e];exact VD m
structure Wd1 (x:Str):Prop where
 ok:WOk x
 len:x.length≤14
theorem yO {x:Str} (h:qP x=true):Wd1 x:=⟨.inr (.inr (ZC h)),by
 have w:x.length+1+0≤9:=Va h;omega⟩
theorem Wb {t:Aa} {u:Str} (hs:u∈(["number","name","word","sign"]:List Str)) (h:qq t u=true):Wd1 (strOf t):=by
 simp only [Av,Be,or_false] at hs;rcases hs with rfl | rfl | rfl | rfl
 ·have e:qq t "number"=jo t:=rfl;rw [e] at h;cases t with
  | int i=>exact ⟨.inr (.inr (qan h)),(vP h).len⟩
  | _=>cases h
 ·obtain ⟨y,rfl,hy⟩:=jJ h;exact yO hy
 ·cases t with
  | str x=>
   have e:qq (.str x) "word"=(qP x&&x !="any"):=rfl;rw [e,Al] at h;exact yO h.1
  | _=>cases h
 ·cases t with
  | str x=>
   have e:qq (.str x) "sign"=signs.any fun y=>y==x:=rfl;rw [e] at h;obtain ⟨y,hy,hx⟩:=Dg.mp h;cases A8.mp hx;have q:∀ y∈signs,((qV y).all wordC&&!(qV y).isEmpty&&decide (y.length≤14))=true:=∅;have z:=q _ hy;rw [Al,Al] at z;refine ⟨.inr (.inr ⟨z.1.1,fun w=>?_⟩),Bb z.2⟩;have z2:=z.1.2;rw [show qV x=[] from w] at z2;cases z2
  | _=>cases h
theorem qeq:∀ p∈forms,((qV p.1).all wordC&&!(qV p.1).isEmpty&&decide (p.1.length≤14))=true:=∅
theorem qbj {is:List (List Str)} (h:∀ i∈is,∀ x∈i,Wd1 x):∀ x∈("(":Str)::(is.flatten++[(")":Str)]),Wd1 x:=by
 intro x hx;rcases Av.mp hx with rfl | hx
 ·exact ⟨.inl rfl,∅⟩
 rcases Bp.mp hx with hx | hx
 ·obtain ⟨i,hi,hx⟩:=List.mem_flatten.mp hx;exact h i hi x hx
 ·cases A3.mp hx;exact ⟨.inr (.inl rfl),∅⟩
theorem qbk {f:Aa→List Str} {t:Aa} {u:Str} (hu:u∈(["names","body","terms"]:List Str)) (h:qq t u=true) (kid:∀ z v,(z,v)∈qt t u→∀ x∈f z,Wd1 x):∀ i∈mem f u t,∀ x∈i,Wd1 x:=by
 intro i hi x hx;cases t with
 | tuple xs=>
  obtain ⟨z,hz,rfl⟩:=B0.mp hi;simp only [Av,Be,or_false] at hu;rcases hu with rfl | rfl | rfl
  ·have e2:qq (.tuple xs) "names"=(decide (xs.length≤4)&&xs.all zn&&decide ((xs.map txt).Nodup)):=rfl;rw [e2,Al,Al] at h;have q:=A6.mp h.1.2 z hz;cases z with
   | str y=>
    have hx':x∈[y]:=hx;cases A3.mp hx';exact yO q
   | _=>cases q
  ·exact kid z "statement" (B0.mpr ⟨z,hz,rfl⟩) x hx
  ·exact kid z "term" (B0.mpr ⟨z,hz,rfl⟩) x hx
 | _=>cases hi
set_option tactic.hygienic true in
theorem wd_part:∀ (n:Nat) {d:Aa} {s t:Nat},Tr d s t→t≤n→∀ x∈wP n d,Wd1 x
 | 0,_,_,_,h,ht=>h.el fun _ _ _ _ _ et _ _=>⋯
 | n+1,_,_,_,h,ht=>h.el fun sh hands s0 t0 es et hf tl=>by
  obtain ⟨hd,ts,fs,l,rfl,_,_,e,h5,hl,hs,_⟩:=zq hf;have ef:=Bc e;rw [zR]
  by_cases c:(hd=="number"||hd=="name")=true
  ·rw [if_pos c];obtain ⟨x,r,rfl,hx⟩:=Vy e hl hs c;intro y hy;cases A3.mp hy;rcases hx with hx | hx
   ·exact Wb (u:="number") ∅ hx
   ·exact Wb (u:="name") ∅ hx
  ·rw [if_neg c];refine qbj fun i hi=>?_;have kid:∀ p∈ts.zip fs,∀ z u,(z,u)∈qt p.1 p.2→∀ x∈wP n z,Wd1 x:=fun p hp z u hz=>by
    have hk:z∈Yu (.tuple (.str hd::ts)):=by
     unfold Yu;rw [zh e];exact B0.mpr ⟨(z,u),C9.mpr ⟨p,hp,hz⟩,rfl⟩
    obtain ⟨s',t',q,_,b⟩:=tl.mem z hk;exact wd_part n q ⋯
   unfold items at hi;rw [e] at hi;rcases Bp.mp hi with hi | hi
   ·split at hi
    ·cases hi
    ·cases A3.mp hi;intro y hy;cases A3.mp hy;have z:=qeq _ ef;rw [Al,Al] at z;refine ⟨.inr (.inr ⟨z.1.1,fun w=>?_⟩),Bb z.2⟩;have z2:=z.1.2;rw [show qV ((hd,fs).1)=[] from w] at z2;cases z2
   ·obtain ⟨p,hp,hi⟩:=C9.mp hi;have kd:=kid p hp;have hsp:=hs p hp;have hu:=qaa _ ef p.2 (Cz hp).2;obtain ⟨t,u⟩:=p;unfold itm at hi;split at hi
    ·rename_i c2;rw [Al,A8] at c2;refine qbk ?_ hsp kd i hi;have hb:=Yt _ ef c2.1;rw [c2.2];rcases hb with q | q <;> rw [show ((some fs).getD []).getLastD ""=_ from q] <;> decide+kernel
    ·cases A3.mp hi;show ∀ x∈wT (wP n) u t,Wd1 x;have hu':u∈(["names","body","number","name","sign","term","terms","word"]:List Str):=hu;have q1:∀ u∈(["names","body","number","name","sign","term","terms","word"]:List Str),(members.lookup u).isSome=true→u∈(["names","body","terms"]:List Str):=∅;have q2:∀ u∈(["names","body","number","name","sign","term","terms","word"]:List Str),¬ (members.lookup u).isSome=true→¬ (u=="term"||u=="statement")=true→u∈(["number","name","word","sign"]:List Str):=∅;unfold wT
     by_cases m:(members.lookup u).isSome=true
     ·rw [if_pos m];exact qbj (qbk (q1 u hu' m) hsp kd)
     ·rw [if_neg m];unfold wT0
      by_cases tm:(u=="term"||u=="statement")=true
      ·rw [if_pos tm];rw [Cb,A8,A8] at tm;rcases tm with rfl | rfl
       ·exact kd t "term" (A3.mpr rfl)
       ·exact absurd hu' ∅
      ·rw [if_neg tm];intro y hy;cases A3.mp hy;exact Wb (q2 u hu' m tm) hsp
end Sho
set_option tactic.hygienic true
namespace Sho
open PySem Tre
def figs (x:Str):Str:=if Txt.startswith x "-"=true then Txt.slice x (some 1) none else x
def numeral (x:Str):Bool:=Txt.isdigit (figs x)&&decide ((figs x).length≤13)&&(x=="0"||!Txt.startswith (figs x) "0")
def we (x:Str):Int:=(PySem.intText? x).getD 0
def termF (x:Str):Option Aa:=if qP x=true then some (.tuple [.str "name",.str x]) else if numeral x=true then some (.tuple [.str "number",.int (we x)]) else none
def thingF (x:Str) (o:Op):Option Aa:=match wanted o with
 | none=>none
 | some s=>if (s=="head"&&isHead x o.sh)=true then some (.str x) else if (s=="name"||s=="word")=true then some (.str x) else if (s=="term")=true then termF x else none
def stepF (S:List Op) (x:Str):Option (List Op):=match S with
 | []=>none
 | o::rs=>if (x==")")=true then (match rs with
   | []=>none
   | r::rs'=>some (⟨r.sh,r.ts++[closed o]⟩::rs'))
  else if (x=="(")=true then (match wanted o with
   | none=>none
   | some s=>if bracketed.contains s=true then some (⟨s,[]⟩::o::rs) else none)
  else match thingF x o with
   | none=>none
   | some t=>some (⟨o.sh,o.ts++[t]⟩::rs)
def mrun:List Op→List Str→Option (List Op)
 | S,[]=>some S
 | S,x::r=>match stepF S x with
  | none=>none
  | some S'=>mrun S' r
def start:List Op:=[⟨"text",[]⟩]
theorem mrun_app:∀ (a b:List Str) (S:List Op),mrun S (a++b)=(mrun S a).bind fun S'=>mrun S' b
 | [],b,S=>rfl
 | x::r,b,S=>by
  rw [Dc,mrun,mrun];cases stepF S x with
  | none=>rfl
  | some S'=>exact mrun_app r b S'
def told (ws:List Str):Option Aa:=match mrun start ws with
 | some [⟨_,[d]⟩]=>if za d=true then some d else none
 | _=>none
theorem VZ {ws:List Str} {d:Aa} (h:told ws=some d):∃ sh,mrun start ws=some [⟨sh,[d]⟩]∧za d=true:=by
 unfold told at h;split at h
 ·rename_i sh e he
  by_cases hp:za e=true
  ·rw [if_pos hp] at h;cases h;exact ⟨sh,he,hp⟩
  ·rw [if_neg hp] at h;cases h
 ·cases h
def opn (ws:List Str):Nat:=ws.countP fun x:Str=>x=="("
def cls (ws:List Str):Nat:=ws.countP fun x:Str=>x==")"
theorem YW {S S':List Op} {x:Str} (h:stepF S x=some S'):S'.length+(if (x==")")=true then 1 else 0)=S.length+(if (x=="(")=true then 1 else 0):=by
 cases S with
 | nil=>cases h
 | cons o rs=>
  unfold stepF at h;dsimp only at h
  by_cases c1:(x==")")=true
  ·have c2:(x=="(")=false:=by
    cases A8.mp c1;decide+kernel
   rw [if_pos c1] at h;rw [if_pos c1,c2,if_neg Ai];cases rs with
   | nil=>cases h
   | cons r rs'=>
    cases h;rfl
  ·rw [if_neg c1] at h;rw [if_neg c1]
   by_cases c2:(x=="(")=true
   ·rw [if_pos c2] at h;rw [if_pos c2];split at h
    ·cases h
    ·split at h
     ·cases h;rfl
     ·cases h
   ·rw [if_neg c2] at h;rw [if_neg c2];split at h
    ·cases h
    ·cases h;rfl
theorem WH:∀ {ws:List Str} {S S':List Op},mrun S ws=some S'→S'.length+cls ws=S.length+opn ws
 | [],S,S',h=>by
  cases h;rfl
 | x::r,S,S',h=>by
  rw [mrun] at h;split at h
  ·cases h
  ·rename_i S1 h1;have a:=YW h1;have b:=WH h;unfold cls opn at b ⊢;rw [List.countP_cons,List.countP_cons];omega
theorem qbu {ws:List Str} {d:Aa} (h:told ws=some d):cls ws=opn ws:=by
 obtain ⟨sh,e,_⟩:=VZ h;have a:=WH e;have b:start.length=1:=rfl;have c:[(⟨sh,[d]⟩:Op)].length=1:=rfl;omega
def okW (x:Str):Bool:=qP x||signs.contains x
mutual
def lv:Aa→Bool
 | .str x=>okW x
 | .int i=>Ja i
 | .tuple xs=>lvs xs
 | _=>false
def lvs:List Aa→Bool
 | []=>true
 | x::r=>lv x&&lvs r
end
def JH (x:Str):Bool:=x=="("||x==")"||okW x||(numeral x&&Ja (we x))
theorem lvs_app {a b:List Aa}:lvs (a++b)=(lvs a&&lvs b):=by
 induction a with
 | nil=>rfl
 | cons x r ih=>rw [Dc,lvs,ih,lvs,Bool.and_assoc]
theorem qft {a:List Aa} (n:Nat):lvs (a.take n++[.tuple (a.drop n)])=lvs a:=by
 have e:lvs a=(lvs (a.take n)&&lvs (a.drop n)):=by rw [← lvs_app,C3]
 rw [lvs_app,e,lvs,lvs,lv,C1]
theorem qaq {o:Op} (h:lv (closed o)=true):lvs o.ts=true:=by
 unfold closed at h;split at h
 ·exact h
 ·split at h
  ·rename_i hh r e;rw [e];split at h
   ·have h':(lv (.str "two")&&lvs (.str hh::r))=true:=h;rw [Al] at h';exact h'.2
   ·split at h
    ·have h':lvs ((PyData.str hh::r).take (fsOf hh).length++[.tuple ((PyData.str hh::r).drop (fsOf hh).length)])=true:=h;rw [qft] at h';exact h'
    ·exact h
  ·exact h
theorem qdr {o:Op} {x:Str} {t:Aa} (h:thingF x o=some t) (hl:lv t=true):JH x=true:=by
 have ok:okW x=true→JH x=true:=fun z=>by
  unfold JH;rw [z,Do,Bool.true_or]
 unfold thingF at h;split at h
 ·cases h
 ·split at h
  ·cases h;exact ok hl
  ·split at h
   ·cases h;exact ok hl
   ·split at h
    ·unfold termF at h;split at h
     ·rename_i hn;exact ok (by unfold okW;rw [hn];rfl)
     ·split at h
      ·rename_i hn;cases h;have h':(lv (.str "number")&&(lv (.int (we x))&&true))=true:=hl;rw [Al,C1] at h';have h2:Ja (we x)=true:=h'.2;unfold JH;rw [hn,h2,C1,Do]
      ·cases h
    ·cases h
def lvS (S:List Op):Bool:=S.all fun o=>lvs o.ts
theorem Q7 {S S':List Op} {x:Str} (h:stepF S x=some S') (hl:lvS S'=true):lvS S=true∧JH x=true:=by
 cases S with
 | nil=>cases h
 | cons o rs=>
  unfold stepF at h;dsimp only at h
  by_cases c1:(x==")")=true
  ·rw [if_pos c1] at h;refine ⟨?_,by unfold JH;rw [c1,Do];rfl⟩
   cases rs with
   | nil=>cases h
   | cons r rs'=>
    cases h;unfold lvS at hl ⊢;rw [B9,Al,lvs_app,Al] at hl;rw [B9,B9,hl.1.1,hl.2];have:=hl.1.2;rw [lvs,lvs,C1] at this;rw [qaq this];rfl
  ·rw [if_neg c1] at h
   by_cases c2:(x=="(")=true
   ·rw [if_pos c2] at h;refine ⟨?_,by unfold JH;rw [c2];rfl⟩
    split at h
    ·cases h
    ·split at h
     ·cases h;unfold lvS at hl;rw [B9,Al] at hl;exact hl.2
     ·cases h
   ·rw [if_neg c2] at h;split at h
    ·cases h
    ·rename_i t ht;cases h;unfold lvS at hl ⊢;rw [B9,Al,lvs_app,Al] at hl;have:=hl.1.2;rw [lvs,lvs,C1] at this;exact ⟨by rw [B9,hl.1.1,hl.2];rfl,qdr ht this⟩
theorem yo:∀ {ws:List Str} {S S':List Op},mrun S ws=some S'→lvS S'=true→lvS S=true∧∀ x∈ws,JH x=true
 | [],S,S',h,hl=>by
  cases h;exact ⟨hl,fun x hx=>nomatch hx⟩
 | x::r,S,S',h,hl=>by
  rw [mrun] at h;split at h
  ·cases h
  ·rename_i S1 h1;obtain ⟨a,b⟩:=yo h hl;obtain ⟨c,e⟩:=Q7 h1 a;refine ⟨c,fun y hy=>?_⟩;rcases Av.mp hy with rfl | hy
   ·exact e
   ·exact b y hy
theorem Yq {t:Aa} (h:zn t=true):lv t=true:=by
 cases t with
 | str x=>
  have q:qP x=true:=h;show okW x=true;unfold okW;rw [q];rfl
 | _=>cases h
theorem VQ:∀ {ds:List Aa},(∀ d∈ds,lv d=true)→lvs ds=true
 | [],_=>rfl
 | d::r,h=>by
  rw [lvs,h d Ay,VQ fun e he=>h e (Au _ he)];rfl
theorem qkd {t:Aa} {f:Str} (hs:qq t f=true) (hf:f∈v0) (hk:∀ z∈qt t f,lv z.1=true):lv t=true:=by
 simp only [v0,Av,Be,or_false] at hf;rcases hf with rfl | rfl | rfl | rfl | rfl | rfl | rfl | rfl
 ·rw [j6] at hs;cases t with
  | int i=>exact hs
  | _=>cases hs
 ·rw [jf] at hs;exact Yq hs
 ·rw [J5] at hs;cases t with
  | str x=>
   have q:(qP x&&x !="any")=true:=hs;rw [Al] at q;exact Yq (t:= .str x) q.1
  | _=>cases hs
 ·rw [J6] at hs;cases t with
  | str x=>
   have q:(signs.any fun y=>y==x)=true:=hs;obtain ⟨y,hy,e⟩:=Dg.mp q;cases A8.mp e;show okW _=true;unfold okW;rw [B4.mpr hy,Do]
  | _=>cases hs
 ·rw [JA] at hs;cases t with
  | tuple xs=>
   simp only [areNames,Al] at hs;exact VQ fun x hx=>Yq (A6.mp hs.1.2 x hx)
  | _=>cases hs
 ·rw [jV] at hs;cases t with
  | tuple xs=>
   rw [WY] at hk;exact VQ fun x hx=>hk (x,"term") (Du hx)
  | _=>cases hs
 ·rw [Ji] at hs;cases t with
  | tuple xs=>
   rw [Jc] at hk;exact VQ fun x hx=>hk (x,"statement") (Du hx)
  | _=>cases hs
 ·rw [jt] at hk;exact hk (t,"term") Ay
theorem qf4 {d:Aa} {sh:Str} {hands:Bool} (h:zm d sh hands=true) (hk:∀ e∈Yu d,lv e=true):lv d=true:=by
 obtain ⟨hd,ts,fs,l,rfl,_,_,e,h5,hl,hs,_⟩:=zq h;obtain ⟨k1,k2⟩:=wC _ (Bc e);have hh:okW hd=true:=by
  have k:(forms.all fun p=>okW p.1)=true:=∅;exact A6.mp k _ (Bc e)
 have ez:(ts.zip fs).map (·.1)=ts:=List.map_fst_zip ⋯;show (lv (.str hd)&&lvs ts)=true;rw [show lv (.str hd)=true from hh,Bu];refine VQ fun x hx=>?_;rw [← ez] at hx;obtain ⟨p,hp,rfl⟩:=B0.mp hx;refine qkd (hs p hp) (k2 _ (Cz hp).2) fun z hz=>hk z.1 ?_;unfold Yu;refine Du ?_;rw [zh e];exact C9.mpr ⟨_,hp,hz⟩
mutual
theorem qgk:∀ {d:Aa} {s t:Nat},Tr d s t→lv d=true
 | _,_,_,.mk hf h=>qf4 hf (qbt h)
theorem qbt:∀ {ds:List Aa} {s t:Nat},Trl ds s t→∀ d∈ds,lv d=true
 | _,_,_,.nil=>fun d hd=>nomatch hd
 | _,_,_,.cons h1 h2=>by
  have a:=qgk h1;have b:=qbt h2;intro d hd;rcases Av.mp hd with z | hd
  ·rw [z];exact a
  ·exact b d hd
end
theorem Q0 {ws:List Str} {d:Aa} (h:told ws=some d):∀ x∈ws,JH x=true:=by
 obtain ⟨sh,e,hp⟩:=VZ h;obtain ⟨s,t,p,_,_⟩:=Jv hp;refine (yo e ?_).2;show (lvs [d]&&true)=true;rw [C1,lvs,lvs,C1];exact qgk p.tr
theorem yM:("0":Str)=⟨#[48]⟩:=∅
theorem ZB {x:Str} {i:Int} (h:Num x i):numeral x=true:=by
 unfold numeral;cases hs:Txt.startswith x "-" with
 | true=>
  obtain ⟨m,m0,hm,e⟩:=h.neg hs;have hx:1≤x.length:=by
   have:x.length=x.cps.toList.length:=Bh.symm;rw [this,e,Ak];omega
  have ef:figs x=Txt.slice x (some 1) none:=by unfold figs;rw [hs,if_pos rfl]
  have el:(figs x).cps.toList=dig m:=by rw [ef,slice1 hx,e];rfl
  have ln:(figs x).length=(dig m).length:=by rw [← el];exact Bh.symm
  have h0:Txt.startswith (figs x) "0"=false:=by
   rw [yM,Jh,el];exact Ap (XS m ⋯)
  rw [yL el (vo m) (VD m),h0,E8,Do,C1,Bu];exact Ao (by rw [ln];exact w8 hm)
 | false=>
  obtain ⟨m,hm,e⟩:=h.pos hs;have ef:figs x=x:=by unfold figs;rw [hs,if_neg Ai]
  have ln:(figs x).length=(dig m).length:=by rw [ef,← e];exact Bh.symm
  rw [yL (by rw [ef];exact e) (vo m) (VD m),Bu,Al]
  refine ⟨Ao (by rw [ln];exact w8 hm),?_⟩
  by_cases m0:m=0
  ·subst m0;have:x="0":=by
    rw [yM];have e2:x.cps.toList=[48]:=e;cases x with
    | mk c=>
     congr 1
     exact Array.toList_inj.mp e2
   rw [this];decide+kernel
  ·have h0:Txt.startswith (figs x) "0"=false:=by
    rw [yM,Jh,ef,e];exact Ap (XS m m0)
   rw [h0,E8,Do]
theorem Xy {s:Str} {b:Bool} (h:(s=="head")=false):¬ (s=="head"&&b)=true:=by rw [h];exact Ai
theorem qbv {x:Str} {o:Op} {t:Aa} (h:Thing x o t):thingF x o=some t:=by
 cases h with
 | head hw hh=>
  unfold thingF;rw [hw];show (if _ then _ else _)=_
  rw [if_pos (by rw [hh];decide+kernel)]
 | word hw hs=>
  unfold thingF;rw [hw];show (if _ then _ else _)=_
  rcases hs with rfl | rfl
  ·rw [if_neg (Xy ∅),if_pos ∅]
  ·rw [if_neg (Xy ∅),if_pos ∅]
 | name hw hn=>
  unfold thingF;rw [hw];show (if _ then _ else _)=_
  rw [if_neg (Xy ∅),if_neg ∅,if_pos ∅];unfold termF;rw [if_pos hn]
 | @num i hw hi hx=>
  subst hx;have n:=vP hi;unfold thingF;rw [hw];show (if _ then _ else _)=_
  rw [if_neg (Xy ∅),if_neg ∅,if_pos ∅];unfold termF;rw [if_neg (by rw [n.nn];decide),if_pos (ZB n)]
  unfold we;rw [n.val];rfl
theorem qeu {S S':List Op} {x:Str} (h:Step S x S'):stepF S x=some S':=by
 cases h with
 | close _ _=>
  unfold stepF;dsimp only;rw [if_pos ∅]
 | opens _ hw hb=>
  unfold stepF;dsimp only;rw [if_neg ∅,if_pos ∅,hw];dsimp only;rw [if_pos hb]
 | word _ h1 h2 ht=>
  unfold stepF;dsimp only;rw [if_neg (by rw [Bi.mpr h2];decide),if_neg (by rw [Bi.mpr h1];decide),qbv ht]
theorem Wg {S S':List Op} {ws:List Str} (h:Steps S ws S'):mrun S ws=some S':=by
 induction h with
 | nil=>rfl
 | cons h _ ih=>
  rw [mrun,qeu h];exact ih
theorem told_pre {a:List Str} (h:mrun start a=none) (b:List Str):told (a++b)=none:=by
 unfold told;rw [mrun_app,h];rfl
theorem told_of {ws:List Str} {S:List Op} (h:mrun start ws=some S) (hS:∀ sh d,S=[⟨sh,[d]⟩]→za d=false):told ws=none:=by
 cases e:told ws with
 | none=>rfl
 | some d=>
  obtain ⟨sh,e1,hp⟩:=VZ e;have:=Bg (h.symm.trans e1);rw [hS sh d this] at hp;cases hp
theorem YO {ws:List Str} {x:Str} (hx:x∈ws) (h:JH x=false):told ws=none:=by
 cases e:told ws with
 | none=>rfl
 | some d=>
  have:=Q0 e x hx;rw [h] at this;cases this
theorem wf {ws:List Str} (h:cls ws≠opn ws):told ws=none:=by
 cases e:told ws with
 | none=>rfl
 | some d=>exact absurd (qbu e) h
theorem main_run {d:Aa} {ts:List Aa} {s t:Nat} (p:Pt d "program" false s t) (ht:t≤20):mrun [⟨"text",ts⟩] (wP 20 d)=some [⟨"text",ts++[d]⟩]:=
 Wg (reads 20 p ht ⟨"text",ts⟩ [] .text rfl)
theorem X1 (k:Nat) (h:1≤k):behind "main" k=some ("statement":Str):=by
 unfold behind;have e:(fsOf "main").length - 1=1:=∅;rw [if_pos (by rw [e,Ao h];decide+kernel)]
 decide+kernel
theorem wanted_main {ps:Aa} {as:List Aa}:wanted ⟨"program",.str "main"::ps::as⟩=some ("statement":Str):=by
 rw [jv ∅ ∅];exact X1 _ (by rw [Ak];omega)
theorem okP {ps:Aa} {as:List Aa}:OpOk ⟨"program",.str "main"::ps::as⟩:= .part ∅ (.inr ∅)
def pre (ps as:List Aa):List Str:=("(":Str)::"main"::"("::(ps.map strOf++((")":Str)::(as.map (wP 19)).flatten))
theorem pre_is (ps as:List Aa):fws (wP 19) "main" ps as=pre ps as++[(")":Str)]:=by
 unfold fws pre;simp only [Dc,Bq]
theorem qe8 {ps as:List Aa} {hands:Bool} (hn:areNames (.tuple ps)=true) (hb:∀ x∈as,∃ s t,Pt x "statement" hands s t∧t≤19):mrun start (pre ps as)=some [⟨"program",.str "main":: .tuple ps::as⟩,⟨"text",[]⟩]:=by
 have s1:Steps start ["("] [⟨"program",[]⟩,⟨"text",[]⟩]:= .one (.opens .text rfl ∅);have s2:Steps [⟨"program",[]⟩,⟨"text",[]⟩] ["main"] [⟨"program",[.str "main"]⟩,⟨"text",[]⟩]:= .one (.word (.new ∅) ∅ ∅ (.head (J2 ∅ ∅) ∅));have hs:qq (.tuple ps) "names"=true:=hn;have s3:Steps [⟨"program",[.str "main"]⟩,⟨"text",[]⟩] (wT (wP 19) "names" (.tuple ps)) [⟨"program",[.str "main"]++[.tuple ps]⟩,⟨"text",[]⟩]:=
  vH (f:=wP 19) (u:="names") ∅ hs (fun z v hz=>by cases hz) ⟨"program",[.str "main"]⟩ _ (.part ∅ (.inr ∅)) ((jv ∅ ∅).trans ∅)
 have s4:Steps [⟨"program",[.str "main",.tuple ps]⟩,⟨"text",[]⟩] (as.map (wP 19)).flatten [⟨"program",[.str "main",.tuple ps]++as⟩,⟨"text",[]⟩]:=
  v7 (m:="statement") as [.str "main",.tuple ps] (fun ys=>⟨okP,wanted_main⟩) fun x hx=>by
   obtain ⟨s,t,p,ht⟩:=hb x hx;exact reads 19 p ht
 have e:pre ps as=[("(":Str)]++([("main":Str)]++(wT (wP 19) "names" (.tuple ps)++(as.map (wP 19)).flatten)):=by
  rw [YN];unfold pre;simp only [Dc,Bq,Cn]
 rw [e];exact Wg (s1.app (s2.app (s3.app s4)))
inductive Res where
 | ok (A:List Op) (ts:List Aa)
 | bad
 | shut
def W1 (A:List Op) (ts:List Aa) (x:Str):Res:=match A with
 | []=>if (x==")")=true then .shut else if (x=="(")=true then .ok [⟨"statement",[]⟩] ts else .bad
 | [o]=>if (x==")")=true then .ok [] (ts++[closed o]) else match stepF [o] x with
  | some S=> .ok S ts
  | none=> .bad
 | o::r::A'=>match stepF (o::r::A') x with
  | some S=> .ok S ts
  | none=> .bad
def sim:List Op→List Aa→List Str→Res
 | A,ts,[]=> .ok A ts
 | A,ts,x::r=>match W1 A ts x with
  | .ok A' ts'=>sim A' ts' r
  | .bad=> .bad
  | .shut=> .shut
theorem YC {o:Op} {x:Str} (rs:List Op) (h:(x==")")=false):stepF (o::rs) x=(stepF [o] x).map (· ++rs):=by
 unfold stepF;dsimp only;rw [h,if_neg Ai,if_neg Ai];split
 ·split
  ·rfl
  ·split <;> rfl
 ·split <;> rfl
theorem qd3 {o r:Op} {A:List Op} {x:Str} (rs:List Op):stepF (o::r::(A++rs)) x=(stepF (o::r::A) x).map (· ++rs):=by
 cases h:(x==")") with
 | false=>
  rw [YC _ h,YC (rs:=r::A) h];cases stepF [o] x with
  | none=>rfl
  | some S=>
   show some (S++(r::(A++rs)))=some ((S++(r::A))++rs);rw [Bq];rfl
 | true=>
  unfold stepF;dsimp only;rw [h,if_pos rfl,if_pos rfl];rfl
section
variable {o:Op} {R:List Op}
theorem qhh (hw:∀ ts,wanted ⟨o.sh,o.ts++ts⟩=some ("statement":Str)) {A A':List Op} {ts ts':List Aa} {x:Str} (h:W1 A ts x= .ok A' ts'):stepF (A++⟨o.sh,o.ts++ts⟩::R) x=some (A'++⟨o.sh,o.ts++ts'⟩::R):=by
 match A,h with
 | [],h=>
  unfold W1 at h;dsimp only at h;split at h
  ·cases h
  ·rename_i c1;split at h
   ·rename_i c2;cases h;unfold stepF;rw [Cn];dsimp only;rw [if_neg c1,if_pos c2,hw];dsimp only;rw [if_pos ∅];rfl
   ·cases h
 | [a],h=>
  unfold W1 at h;dsimp only at h;split at h
  ·rename_i c1;cases h;unfold stepF;show (if _ then _ else _)=_
   rw [if_pos c1];show some _=some _;rw [Cn,Bq]
  ·rename_i c1;split at h
   ·rename_i S hS;cases h;show stepF (a::_) x=_;rw [YC _ (Bs.mpr c1),hS];rfl
   ·cases h
 | a::b::A0,h=>
  unfold W1 at h;dsimp only at h;split at h
  ·rename_i S hS;cases h;show stepF (a::b::(A0++_)) x=_;rw [qd3,hS];rfl
  ·cases h
theorem qe0 (hw:∀ ts,wanted ⟨o.sh,o.ts++ts⟩=some ("statement":Str)) {A:List Op} {ts:List Aa} {x:Str} (h:W1 A ts x= .bad):stepF (A++⟨o.sh,o.ts++ts⟩::R) x=none:=by
 match A,h with
 | [],h=>
  unfold W1 at h;dsimp only at h;split at h
  ·cases h
  ·rename_i c1;split at h
   ·cases h
   ·rename_i c2;unfold stepF;rw [Cn];dsimp only;rw [if_neg c1,if_neg c2];have e:thingF x ⟨o.sh,o.ts++ts⟩=none:=by
     unfold thingF;rw [hw];show (if _ then _ else _)=_
     rw [if_neg (Xy ∅),if_neg ∅,if_neg ∅]
    rw [e]
 | [a],h=>
  unfold W1 at h;dsimp only at h;split at h
  ·cases h
  ·rename_i c1;split at h
   ·cases h
   ·rename_i hS;show stepF (a::_) x=_;rw [YC _ (Bs.mpr c1),hS];rfl
 | a::b::A0,h=>
  unfold W1 at h;dsimp only at h;split at h
  ·cases h
  ·rename_i hS;show stepF (a::b::(A0++_)) x=_;rw [qd3,hS];rfl
theorem Qi (hw:∀ ts,wanted ⟨o.sh,o.ts++ts⟩=some ("statement":Str)):∀ {ws:List Str} {A:List Op} {ts:List Aa},(∀ A' ts',sim A ts ws= .ok A' ts'→mrun (A++⟨o.sh,o.ts++ts⟩::R) ws=some (A'++⟨o.sh,o.ts++ts'⟩::R))∧(sim A ts ws= .bad→mrun (A++⟨o.sh,o.ts++ts⟩::R) ws=none)
 | [],A,ts=>⟨fun A' ts' h=>by cases h;rfl,fun h=>by cases h⟩
 | x::r,A,ts=>by
  rw [sim,mrun];cases e:W1 A ts x with
  | ok A1 ts1=>
   rw [qhh hw e];exact Qi hw
  | bad=>
   rw [qe0 hw e];exact ⟨fun _ _ h=>(by cases h),fun _=>rfl⟩
  | shut=>exact ⟨fun _ _ h=>(by cases h),fun h=>(by cases h)⟩
end
def Zf (ws:List Str):Bool:=match sim [] [] ws with
 | .bad=>true
 | .shut=>false
 | .ok A ts=>!A.isEmpty||!za (.tuple [.str "main",.tuple [],.tuple ts])
theorem XX {ps:Aa} {as:List Aa}:closed ⟨"program",.str "main"::ps::as⟩= .tuple [.str "main",ps,.tuple as]:=by
 unfold closed;rw [if_neg (show ¬ (members.lookup ("program":Str)).isSome=true from ∅)];show (if _ then _ else _)=_
 rw [if_neg ∅,if_pos ∅];rfl
theorem Xg:∀ {a b:List (Aa×Str)} {hands:Bool} {s t:Nat},Ptl (a++b) hands s t→∃ s2 t2,Ptl b hands s2 t2∧s2≤s∧t2≤t
 | [],b,_,s,t,h=>⟨s,t,h,Aw _,Aw _⟩
 | p::a,b,_,_,_,.cons (s:=s0) (t:=t0) h1 h2=>by
  obtain ⟨s2,t2,y,l1,l2⟩:=Xg h2;exact ⟨s2,t2,y,⋯,⋯⟩
theorem main_parts {ps as:List Aa} (h:za (.tuple [.str "main",.tuple ps,.tuple as])=true):areNames (.tuple ps)=true∧∃ s t,Bd as true s t∧s<300∧t<20:=by
 obtain ⟨s,t,p,ht,hs⟩:=Jv h;cases p with
 | @mk _ _ _ s' t' hf hp=>
  obtain ⟨hd,ts,fs,l,e0,e1,e2,e3,_,e4,e5,_⟩:=zq hf;cases e0;have hfs:fs=(["names","body"]:List Str):=by
   have:forms.lookup ("main":Str)=some (["names","body"]:List Str):=∅;exact (Bg (this.symm.trans e3)).symm
  subst hfs;refine ⟨e5 (.tuple ps,"names") (by simp),s',t',⟨?_,?_⟩,⋯,⋯⟩
  ·have:=e5 (.tuple as,"body") (by simp)
   obtain ⟨as',e,hl⟩:=row_shape this;cases e;exact hl
  ·have hp':Ptl (qt (.tuple ps) "names"++(qt (.tuple as) "body"++[])) true s' t':=hp;rw [Bo] at hp';exact hp'
theorem less {ps as ts:List Aa} (h:za (.tuple [.str "main",.tuple ps,.tuple (as++ts)])=true):za (.tuple [.str "main",.tuple [],.tuple ts])=true:=by
 obtain ⟨_,s,t,b,hs,ht⟩:=main_parts h;have ba:=b.all;rw [A5] at ba;obtain ⟨s2,t2,y,l1,l2⟩:=Xg ba;have bl:=b.few;rw [Am] at bl;exact vm (y8 ∅ ⟨⋯,y⟩) ⋯ ⋯
theorem X9 {ps as:List Aa} {hands:Bool} (hn:areNames (.tuple ps)=true) (hb:∀ x∈as,∃ s t,Pt x "statement" hands s t∧t≤19) {ws:List Str} (h:Zf ws=true):told (pre ps as++(ws++[(")":Str)]))=none:=by
 have hr:=qe8 hn hb;have sr:=Qi (o:=⟨"program",.str "main":: .tuple ps::as⟩) (R:=[⟨"text",[]⟩]) (fun ts=>wanted_main) (ws:=ws) (A:=[]) (ts:=[]);rw [Bo] at sr;unfold Zf at h;cases e:sim [] [] ws with
 | bad=>
  unfold told;rw [mrun_app,hr];show (match mrun ([]++_) (ws++_) with | some [⟨_,[d]⟩]=>_ | _=>none)=none
  rw [mrun_app,sr.2 e];rfl
 | shut=>
  rw [e] at h;cases h
 | ok A ts=>
  rw [e] at h;dsimp only at h;have rn:=sr.1 A ts e;have full:mrun start (pre ps as++(ws++[(")":Str)]))=stepF (A++⟨"program",.str "main":: .tuple ps::as++ts⟩::[⟨"text",[]⟩]) ")":=by
   rw [mrun_app,hr];show mrun ([]++_) _=_;rw [mrun_app,rn];show mrun _ _=_;rw [mrun];cases stepF (A++⟨"program",.str "main":: .tuple ps::as++ts⟩::[⟨"text",[]⟩]) ")" <;> rfl
  cases hq:stepF (A++⟨"program",.str "main":: .tuple ps::as++ts⟩::[⟨"text",[]⟩]) ")" with
  | none=>
   unfold told;rw [full,hq]
  | some S=>
   refine told_of (full.trans hq) fun sh d eS=>?_;have cn:=YW hq;rw [if_pos ∅,if_neg ∅,eS,Am] at cn;have ln:[(⟨sh,[d]⟩:Op)].length=1:=rfl;rw [ln,Ak] at cn;have a0:A=[]:=Cp (by
    have:([⟨"text",[]⟩]:List Op).length=1:=rfl;omega)
   subst a0;rw [List.isEmpty_nil,Bool.not_true,Ev] at h;have eq2:stepF ([]++⟨"program",.str "main":: .tuple ps::as++ts⟩::[⟨"text",[]⟩]) ")"=some [⟨"text",[closed ⟨"program",.str "main":: .tuple ps::(as++ts)⟩]⟩]:=by
    unfold stepF;show (if _ then _ else _)=_
    rw [if_pos ∅];rfl
   rw [eq2,XX] at hq;have:=(Bg hq).trans eS;cases this;cases hp:za (.tuple [.str "main",.tuple ps,.tuple (as++ts)]) with
   | false=>rfl
   | true=>
    rw [less hp] at h;cases h
def pieces:List (List Str):=[["(","do"],["(","do","x","y",")"],["(","let","x",")"],["(","let","5","x",")"],["(","hand",")"],["(","if","x","(",")",")"],["(","while","x",")"],["(","x",")"],["x"],["7"],["(","fault","5","x",")"],["(","fault","any","x",")"],["(","try","(",")","a","b","(",")",")"],
 ["(","try","(",")","1","b","(",")","(",")",")"],["(","do","(","+","1",")",")"],["(","do","(","fun","x",")",")"],["(","do","(","fun","(","x","x",")",")",")"],["(","do","(","step","x",")",")"],["(","do","(","call",")",")"],["(","do","(",")",")"],["(","do","(","fun","(",")","(","hand","x",")",")",")"],
 ["(","fun","(",")",")"],["(","do","(","let","x","1",")",")"],["(","back",")"],["(","(","do","x",")",")"],["(",")"],["(","if","x","y","(",")",")"],["(","while","x","y",")"],["(","do","(","call","x","a","b","c","d","e",")",")"],["(","do","(","fun","(","a","b","c","d","e",")",")",")"],["(","set","x",")"]]
theorem y9:∀ p∈pieces,Zf p=true:=∅
def strange:List Str:=["Ab","abcdefghi","a1","1a","_","!","+-","==","a.b","x-y","/",">","01","+1","--1","-0","1000000000001","-1000000000001","00","1.5","--","12345678901234567890","-01","-00","-007","000","007"]
theorem YV:∀ x∈strange,JH x=false:=∅
end Sho
namespace Sho
open PySem Tre PySem.NumText PyProof.Rows
def Asc (x:Str):Prop:=∀ c∈x.cps.toList,c<127
theorem XT {x:Str} (ha:∀ c∈x.cps.toList,c<127) (h:Txt.isdigit x=true):x.cps.toList≠[]∧∀ c∈x.cps.toList,48≤c∧c≤57:=by
 unfold Txt.isdigit at h;rw [Al] at h;refine ⟨fun e=>?_,fun c hc=>?_⟩
 ·have a:x.cps.toList.length=x.length:=Bh;have:=Bb h.1;rw [e] at a;have b:([]:List Nat).length=0:=rfl;omega
 ·have q:=h.2;rw [← Array.all_toList,A6] at q;have qc:=q c hc;have ac:=ha c hc;rw [cls_isdigit c ⋯] at qc;have z:∀ c,c<127→inR 48 57 ⟨#[c]⟩=true→48≤c∧c≤57:=∅;exact z c ac qc
theorem val_is {x:Str} (ha:Asc x) (h:numeral x=true):PySem.intText? x=some (we x)∧x.length≤14:=by
 unfold numeral at h;rw [Al,Al] at h;obtain ⟨⟨hd,hl⟩,_⟩:=h;have hl13:=Bb hl;have some_:∀ {n:Int},PySem.intText? x=some n→PySem.intText? x=some (we x):=fun e=>by
  unfold we;rw [e];rfl
 have a:x.cps.toList.length=x.length:=Bh;cases hs:Txt.startswith x "-" with
 | false=>
  have ef:figs x=x:=by unfold figs;rw [hs,if_neg Ai]
  rw [ef] at hd hl13;obtain ⟨ne,all⟩:=XT ha hd;exact ⟨some_ (intText_digits all ne ⋯),⋯⟩
 | true=>
  have ef:figs x=Txt.slice x (some 1) none:=by unfold figs;rw [hs,if_pos rfl]
  rw [ef] at hd hl13;have hh:x.cps.toList.head?=some 45:=by
   rw [WJ,Jh] at hs;exact Bb hs
  obtain ⟨r,er⟩:∃ r,x.cps.toList=45::r:=by
   cases e:x.cps.toList with
   | nil=>rw [e] at hh;cases hh
   | cons c r=>
    rw [e] at hh;cases hh;exact ⟨r,rfl⟩
  have x1:1≤x.length:=by rw [← a,er,Ak];omega
  have es:(Txt.slice x (some 1) none).cps.toList=r:=by rw [slice1 x1,er];rfl
  obtain ⟨ne,all⟩:=XT (x:=Txt.slice x (some 1) none) (by
   rw [es];exact fun c hc=>ha c (by rw [er];exact Au _ hc)) hd
  rw [es] at ne all;have b:(Txt.slice x (some 1) none).cps.toList.length=(Txt.slice x (some 1) none).length:=Bh;have lr:r.length≤13:=by rw [← es,b];exact hl13
  have lx:x.length=r.length+1:=by rw [← a,er,Ak]
  exact ⟨some_ (intText_neg er all ne ⋯),⋯⟩
end Sho
namespace Sho
open PySem Tre
inductive SOk:List Op→Prop
 | base {ts:List Aa}:SOk [⟨"text",ts⟩]
 | push {o r:Op} {rs:List Op}:OpOk o→(o.sh=="text")=false→wanted r≠some ("head":Str)→SOk (r::rs)→SOk (o::r::rs)
theorem SOk.ok {o:Op} {S:List Op} (h:SOk (o::S)):OpOk o:=by
 cases h with
 | base=>exact .text
 | push a _ _ _=>exact a
theorem Qx {r:Op} (h:OpOk r) (hw:wanted r≠some ("head":Str)) (t:Aa):OpOk ⟨r.sh,r.ts++[t]⟩:=by
 cases h with
 | text=>exact .text
 | row h=>exact .row h
 | @new sh h=>
  refine absurd ?_ hw;have z:=Vq;obtain ⟨l,hl⟩:=Bw.mp h;obtain ⟨z1,z2,_,_⟩:=z _ (Bc hl);exact J2 z1 z2
 | part h1 h2=>exact .part h1 h2
theorem ZR {x sh:Str} (h:isHead x sh=true):signs.contains x=true∨(forms.lookup x).isSome=true:=by
 unfold isHead at h
 by_cases hs:signs.contains x=true
 ·exact .inl hs
 ·rw [if_neg hs,Al] at h;refine .inr ?_;have z:∀ p∈heads,∀ y∈p.2,(forms.lookup y).isSome=true:=∅;cases e:heads.lookup sh with
  | none=>rw [e] at h;exact absurd h.1 (by simp)
  | some l=>
   rw [e] at h;exact z _ (Bc e) x (B4.mp h.1)
theorem QV {o:Op} (h:OpOk o) (hw:wanted o=some ("head":Str)):∃ sh,o=⟨sh,[]⟩∧(heads.lookup sh).isSome=true:=by
 cases h with
 | text=>cases hw
 | @row sh ts h=>
  obtain ⟨m,hm⟩:=Bw.mp h;have nt:(sh=="text")=false:=by
   rw [Bi];intro z;rw [z] at h;exact absurd h ∅
  rw [wanted_row nt hm] at hw;have z:∀ p∈members,p.2≠"head":=∅;exact absurd (Bg hw) (z _ (Bc hm))
 | new h=>exact ⟨_,rfl,h⟩
 | @part sh h r h1 h2=>
  obtain ⟨l,hl⟩:=Bw.mp h1;obtain ⟨z1,z2,_,_⟩:=Vq _ (Bc hl);rw [jv z1 z2] at hw
  exfalso
  unfold behind at hw;have m0:∀ p∈members,p.2≠"head":=∅;have f0:∀ p∈forms,("head":Str)∉p.2:=∅;split at hw
  ·exact m0 _ (Bc hw) rfl
  ·have hm:=Br hw;unfold fsOf at hm;split at hm
   ·exact absurd hm ∅
   ·cases e:forms.lookup h with
    | none=>rw [e] at hm;cases hm
    | some fs=>rw [e] at hm;exact f0 _ (Bc e) hm
theorem qiv:∀ s∈bracketed,((members.lookup s).isSome=true∨(heads.lookup s).isSome=true)∧(s=="text")=false∧s≠"head":=∅
theorem Za {x:Str} {o:Op} {t:Aa} (h:thingF x o=some t) (hw:wanted o=some ("head":Str)):t= .str x∧isHead x o.sh=true:=by
 unfold thingF at h;rw [hw] at h;have h':(if (("head":Str)=="head"&&isHead x o.sh)=true then some (PyData.str x) else if (("head":Str)=="name"||("head":Str)=="word")=true then some (.str x) else if (("head":Str)=="term")=true then termF x else none)=some t:=h
 by_cases hh:isHead x o.sh=true
 ·rw [if_pos (by rw [hh];decide+kernel)] at h'
  exact ⟨(Bg h').symm,hh⟩
 ·rw [if_neg (by rw [Bs.mpr hh,Bool.and_false];exact Ai),if_neg ∅,if_neg ∅] at h'
  cases h'
theorem sok_step {S S':List Op} {x:Str} (h:SOk S) (hs:stepF S x=some S'):SOk S':=by
 cases S with
 | nil=>cases hs
 | cons o rs=>
  unfold stepF at hs;dsimp only at hs;split at hs
  ·cases h with
   | base=>cases hs
   | @push _ r rs' a b c e=>
    cases hs;cases e with
    | base=>exact .base
    | push a2 b2 c2 e2=>exact .push (Qx a2 c _) b2 c2 e2
  ·split at hs
   ·split at hs
    ·cases hs
    ·rename_i s hw;split at hs
     ·rename_i hb;cases hs;obtain ⟨z1,z2,z3⟩:=qiv s (B4.mp hb);exact .push (z1.elim (fun z=> .row z) fun z=> .new z) z2 (fun e=>z3 (Bg (hw.symm.trans e))) h
     ·cases hs
   ·split at hs
    ·cases hs
    ·rename_i t ht;cases hs;have top:OpOk ⟨o.sh,o.ts++[t]⟩:=by
      by_cases hw:wanted o=some ("head":Str)
      ·obtain ⟨rfl,hh⟩:=Za ht hw;obtain ⟨sh,rfl,hsh⟩:=QV h.ok hw;exact .part hsh (ZR hh)
      ·exact Qx h.ok hw t
     cases h with
     | base=>exact .base
     | push a b c e=>exact .push top b c e
def fitS (S:List Op):Bool:=S.all fun o=>zr o.ts
theorem wZ {a b:List Aa}:zr (a++b)=(zr a&&zr b):=by
 induction a with
 | nil=>rfl
 | cons x r ih=>rw [Dc,zr,ih,zr,Bool.and_assoc]
theorem ZX {o:Op} (h:zr o.ts=true):fit (closed o)=true:=by
 unfold closed;split
 ·exact h
 ·split
  ·rename_i hh r e;rw [e] at h;split
   ·show (fit (.str "two")&&zr (.str hh::r))=true;rw [h];decide+kernel
   ·split
    ·show zr ((PyData.str hh::r).take (fsOf hh).length++[.tuple ((PyData.str hh::r).drop (fsOf hh).length)])=true;have q:zr ((PyData.str hh::r).take (fsOf hh).length++(PyData.str hh::r).drop (fsOf hh).length)=true:=by
      rw [C3];exact h
     rw [wZ,Al] at q;rw [wZ,q.1,zr,zr,fit,q.2];rfl
    ·exact h
  ·exact h
theorem fit_thing {o:Op} {x:Str} {t:Aa} (h:thingF x o=some t) (hx:x.length≤6000):fit t=true∧noL t=true:=by
 have fx:fit (.str x)=true:=Ao ⋯;unfold thingF at h;split at h
 ·cases h
 ·split at h
  ·cases h;exact ⟨fx,rfl⟩
  ·split at h
   ·cases h;exact ⟨fx,rfl⟩
   ·split at h
    ·unfold termF at h;split at h
     ·cases h;refine ⟨?_,rfl⟩;show (fit (.str "name")&&(fit (.str x)&&true))=true;rw [fx];decide+kernel
     ·split at h
      ·cases h;refine ⟨?_,rfl⟩;show (fit (.str "number")&&(true&&true))=true;decide+kernel
      ·cases h
    ·cases h
theorem fit_step {S S':List Op} {x:Str} (h:fitS S=true) (hs:stepF S x=some S') (hx:x.length≤6000):fitS S'=true:=by
 cases S with
 | nil=>cases hs
 | cons o rs=>
  unfold fitS at h ⊢;rw [B9,Al] at h;unfold stepF at hs;dsimp only at hs;split at hs
  ·cases rs with
   | nil=>cases hs
   | cons r rs'=>
    cases hs;rw [B9,Al] at h;rw [B9,wZ,h.2.1,h.2.2,zr,ZX h.1];rfl
  ·split at hs
   ·split at hs
    ·cases hs
    ·split at hs
     ·cases hs;rw [B9,B9,h.1,h.2];rfl
     ·cases hs
   ·split at hs
    ·cases hs
    ·rename_i t ht;cases hs;rw [B9,wZ,h.1,h.2,zr,(fit_thing ht hx).1];rfl
def flat (u:Str):Nat:=if (u=="names")=true then 40 else if (u=="body"||u=="terms")=true then 4 else if (u=="term")=true then 0 else 9
def tc (u:Str):Nat:=if (u=="term")=true then 1 else if (u=="terms")=true then 4 else 0
def ext (sh:Str):Nat:=if (sh=="statement")=true then 0 else 7
def fl (h last u:Str):Nat:=if (opened.contains h&&u==last)=true then 0 else flat u
def ct (zs:List (Aa×Str)):Nat:=zs.countP fun z=>z.2==("term":Str)
theorem qi3 {f:Aa→List Str} {x:Aa} {u:Str} (hu:u∈(["names","body","name","sign","term","terms","word"]:List Str)) (h:qq x u=true):wl (wT f u x)≤flat u+Ju f (qt x u):=by
 simp only [Av,Be,or_false] at hu;rcases hu with rfl | rfl | rfl | rfl | rfl | rfl | rfl
 ·have w:=qgi (f:=f) (x:=x) (u:="names") ∅ h;have e:flat "names"=40:=∅;omega
 ·have e:wT f "body" x=("(":Str)::((mem f "body" x).flatten++[(")":Str)]):=rfl;have e2:flat "body"=4:=∅;rw [e,Vo,Jz,V8 (.inl rfl)];omega
 ·have e:wT f "name" x=[strOf x]:=rfl;have:=JW h ∅;have e2:flat "name"=9:=∅;rw [e];omega
 ·have e:wT f "sign" x=[strOf x]:=rfl;have:=JW h ∅;have e2:flat "sign"=9:=∅;rw [e];omega
 ·have e:wT f "term" x=f x:=rfl;have e2:Ju f (qt x "term")=wl (f x)+0:=rfl;rw [e,e2];omega
 ·have e:wT f "terms" x=("(":Str)::((mem f "terms" x).flatten++[(")":Str)]):=rfl;have e2:flat "terms"=4:=∅;rw [e,Vo,Jz,V8 (.inr rfl)];omega
 ·have e:wT f "word" x=[strOf x]:=rfl;have:=JW h ∅;have e2:flat "word"=9:=∅;rw [e];omega
theorem qkn (xs:List Aa):ct (xs.map fun z=>(z,("statement":Str)))=0:=by
 unfold ct;rw [List.countP_map];exact List.countP_eq_zero.mpr fun z _=>by
  show ¬ (("statement":Str)=="term")=true;decide+kernel
theorem qgz {x:Aa} {u:Str} (hu:u∈(["names","body","name","sign","term","terms","word"]:List Str)) (h:qq x u=true):ct (qt x u)≤tc u∧∀ z∈qt x u,z.2="term"∨z.2="statement":=by
 simp only [Av,Be,or_false] at hu;rcases hu with rfl | rfl | rfl | rfl | rfl | rfl | rfl
 ·exact ⟨B2 _,fun z hz=>by cases hz⟩
 ·obtain ⟨as,rfl,_⟩:=row_shape h;have e:qt (.tuple as) "body"=as.map fun z=>(z,("statement":Str)):=rfl;rw [e,qkn];refine ⟨B2 _,fun z hz=>?_⟩;obtain ⟨y,_,rfl⟩:=B0.mp hz;exact .inr rfl
 ·exact ⟨B2 _,fun z hz=>by cases hz⟩
 ·exact ⟨B2 _,fun z hz=>by cases hz⟩
 ·refine ⟨?_,fun z hz=>?_⟩
  ·show ct [(x,("term":Str))]≤_;have e:tc "term"=1:=∅;rw [e];unfold ct;exact List.countP_le_length
  ·cases A3.mp hz;exact .inl rfl
 ·obtain ⟨as,rfl,hl⟩:=wg h;have e:qt (.tuple as) "terms"=as.map fun z=>(z,("term":Str)):=rfl;rw [e];refine ⟨?_,fun z hz=>?_⟩
  ·have e2:tc "terms"=4:=∅;rw [e2];unfold ct;refine Ar List.countP_le_length ?_;rw [Aj];exact hl
  ·obtain ⟨y,_,rfl⟩:=B0.mp hz;exact .inl rfl
 ·exact ⟨B2 _,fun z hz=>by cases hz⟩
theorem qbf {f:Aa→List Str} {h last:Str}:∀ (ps:List (Aa×Str)),(∀ p∈ps,wls (itm f h last p)≤fl h last p.2+Ju f (qt p.1 p.2)∧ct (qt p.1 p.2)≤tc p.2)→
  wls (ps.flatMap (itm f h last))≤(ps.map fun p=>fl h last p.2).sum+Ju f (ps.flatMap fun p=>qt p.1 p.2)∧ct (ps.flatMap fun p=>qt p.1 p.2)≤(ps.map fun p=>tc p.2).sum
 | [],_=>⟨Aw _,Aw _⟩
 | p::r,q=>by
  obtain ⟨a,a'⟩:=q p Ay;obtain ⟨b,b'⟩:=qbf r fun p' hp=>q p' (Au _ hp);have e1:wls ((p::r).flatMap (itm f h last))=wls (itm f h last p)+wls (r.flatMap (itm f h last)):=by
   unfold wls;rw [Df,A5,Dq]
  have e2:Ju f ((p::r).flatMap fun p=>qt p.1 p.2)=Ju f (qt p.1 p.2)+Ju f (r.flatMap fun p=>qt p.1 p.2):=by
   unfold Ju;rw [Df,A5,Dq]
  have e3:ct ((p::r).flatMap fun p=>qt p.1 p.2)=ct (qt p.1 p.2)+ct (r.flatMap fun p=>qt p.1 p.2):=by
   unfold ct;rw [Df,Cc]
  rw [e1,e2,e3,A4,Fd,A4,Fd];exact ⟨⋯,⋯⟩
theorem Xi {n:Nat} (IH:∀ {d:Aa} {sh:Str} {hands:Bool} {s t:Nat},Pt d sh hands s t→t≤n→wl (wP n d)≤42*s+ext sh):∀ {l:List (Aa×Str)} {hands:Bool} {s t:Nat},Ptl l hands s t→t≤n→(∀ z∈l,z.2="term"∨z.2="statement")→Ju (wP n) l≤42*s+7*ct l
 | [],_,_,_,.nil,_,_=>Aw _
 | (d,u)::r,_,_,_,.cons h1 h2,ht,hz=>by
  have a:=IH h1 (Ar (E3 _ _) ht);have b:=Xi IH h2 (Ar (Nat.le_max_right _ _) ht) fun z hz'=>hz z (Au _ hz');have e1:Ju (wP n) ((d,u)::r)=wl (wP n d)+Ju (wP n) r:=rfl;have e2:ct ((d,u)::r)=ct r+(if (u=="term")=true then 1 else 0):=by
   unfold ct;rw [List.countP_cons]
  rw [e1,e2];rcases hz (d,u) Ay with z | z
  ·have zu:u="term":=z;subst zu;rw [if_pos ∅];have:ext "term"=7:=∅;omega
  ·have zu:u="statement":=z;subst zu;have:ext "statement"=0:=∅;omega
def qkj (h:Str) (sh:Str):Bool:=decide (4+(if (h=="two")=true then 0 else wl [h])+(((forms.lookup h).getD []).map fun u=>fl h (((forms.lookup h).getD []).getLastD "") u).sum+7*(((forms.lookup h).getD []).map tc).sum≤42+ext sh)
theorem qgf:∀ p∈heads,∀ h∈p.2,¬ (h=="number"||h=="name")=true→qkj h p.1=true:=∅
theorem fine:∀ (n:Nat) {d:Aa} {sh:Str} {hands:Bool} {s t:Nat},Pt d sh hands s t→t≤n→wl (wP n d)≤42*s+ext sh
 | 0,_,_,_,_,_,h,ht=>by
  cases h;omega
 | n+1,_,sh,_,_,_,h,ht=>by
  cases h with
  | @mk d _ hands s0 t0 hf tl=>
   obtain ⟨hd,ts,fs,l,rfl,e1,e2,e,h5,hl,hs,_⟩:=zq hf;have ef:=Bc e;rw [zR]
   by_cases c:(hd=="number"||hd=="name")=true
   ·rw [if_pos c];obtain ⟨x,r,rfl,hx⟩:=Vy e hl hs c;have:wl [strOf x]≤15:=by
     rcases hx with hx | hx
     ·cases x with
      | int i=>
       have nn:Ja i=true:=hx;have:=(vP nn).len;show (Str.ofString (toString i)).length+1+0≤15;omega
      | _=>cases hx
     ·obtain ⟨y,rfl,hy⟩:=jJ hx;exact Ar (Va hy) O0
    show wl [strOf x]≤_;omega
   ·rw [if_neg c,Vo,Jz];unfold items;rw [e];have sh7:∀ p∈forms,¬ (p.1=="number"||p.1=="name")=true→∀ u∈p.2,u∈(["names","body","name","sign","term","terms","word"]:List Str):=∅;have b:=qbf (f:=wP n) (h:=hd) (last:=fs.getLastD "") (ts.zip fs) fun p hp=>by
     have hu:=sh7 _ ef c p.2 (Cz hp).2;refine ⟨?_,(qgz hu (hs p hp)).1⟩;unfold itm fl;split
     ·rename_i d;rw [Al,A8] at d;rw [V8 (by rw [d.2];exact Yt _ ef d.1)]
      omega
     ·have w:=qi3 (f:=wP n) hu (hs p hp);show wl _+0≤_;omega
    have ei:jd (.tuple (.str hd::ts))=(ts.zip fs).flatMap fun p=>qt p.1 p.2:=zh e;rw [ei] at tl;have k:=Xi (fine n) tl ⋯ fun z hz=>by
     obtain ⟨p,hp,hz⟩:=C9.mp hz;exact (qgz (sh7 _ ef c p.2 (Cz hp).2) (hs p hp)).2 z hz
    have ez:(ts.zip fs).map (·.2)=fs:=List.map_snd_zip ⋯;have m1:((ts.zip fs).map fun p=>fl hd (fs.getLastD "") p.2)=fs.map fun u=>fl hd (fs.getLastD "") u:=by
     rw [← ez,Ck]
     congr 1
     rw [ez]
    have m2:((ts.zip fs).map fun p=>tc p.2)=fs.map tc:=by
     rw [← ez,Ck]
     congr 1
     rw [ez]
    have ft:=qgf _ (Bc e1) hd e2 c;unfold qkj at ft;rw [e] at ft;have ft':4+(if (hd=="two")=true then 0 else wl [hd])+(fs.map fun u=>fl hd (fs.getLastD "") u).sum+7*(fs.map tc).sum≤42+ext sh:=Bb ft
    have ap:wls ((if (hd=="two")=true then [] else [[hd]])++(ts.zip ((some fs).getD [])).flatMap (itm (wP n) hd (((some fs).getD []).getLastD "")))=(if (hd=="two")=true then 0 else wl [hd])+wls ((ts.zip fs).flatMap (itm (wP n) hd (fs.getLastD ""))):=by
     unfold wls;rw [A5,Dq];split <;> rfl
    rw [ap];rw [m1,m2] at b;obtain ⟨b1,b2⟩:=b;generalize (if (hd=="two")=true then 0 else wl [hd])=q0 at ft' ⊢
    omega
structure RowP (C:Str→Aa→Prop) (as:List Aa):Prop where
 kid:∀ x∈as,C "statement" x
 few:as.length≤13
inductive StmP (C:Str→Aa→Prop):Aa→Prop
 | one {h:Str} {t:Aa}:h∈(["do","hand","back"]:List Str)→C "term" t→StmP C (.tuple [.str h,t])
 | two {h x:Str} {t:Aa}:h∈(["let","set","fault"]:List Str)→C "term" t→StmP C (.tuple [.str h,.str x,t])
 | try_ {x y:Str} {as bs cs:List Aa}:RowP C as→RowP C bs→RowP C cs→StmP C (.tuple [.str "try",.tuple as,.str x,.str y,.tuple bs,.tuple cs])
 | while_ {t:Aa} {as:List Aa}:C "term" t→RowP C as→StmP C (.tuple [.str "while",t,.tuple as])
 | if_ {t:Aa} {as bs:List Aa}:C "term" t→RowP C as→RowP C bs→StmP C (.tuple [.str "if",t,.tuple as,.tuple bs])
inductive TrmP (C:Str→Aa→Prop):Aa→Prop
 | num {i:Int}:Ja i=true→TrmP C (.tuple [.str "number",.int i])
 | name {x:Str}:TrmP C (.tuple [.str "name",.str x])
 | two {g:Str} {a b:Aa}:C "term" a→C "term" b→TrmP C (.tuple [.str "two",.str g,a,b])
 | fn {h:Str} {ps as:List Aa}:h∈(["fun","loop"]:List Str)→Nams ps→RowP C as→TrmP C (.tuple [.str h,.tuple ps,.tuple as])
 | call {a:Aa} {as:List Aa}:C "term" a→(∀ x∈as,C "term" x)→as.length≤5→TrmP C (.tuple [.str "call",a,.tuple as])
 | step {a b:Aa}:C "term" a→C "term" b→TrmP C (.tuple [.str "step",a,b])
def KidR:Nat→Str→Aa→Prop
 | 0,_,_=>False
 | k+1,u,d=>(wP (k+1) d).length≤600000∧((u="statement"∧StmP (KidR k) d)∨(u="term"∧TrmP (KidR k) d))
abbrev RowR (k:Nat) (as:List Aa):Prop:=RowP (KidR k) as
theorem stm_viewR {k:Nat} {d:Aa} (h:KidR (k+1) "statement" d):StmP (KidR k) d:=by
 rcases h.2 with ⟨_,h⟩ | ⟨e,_⟩
 ·exact h
 ·exact absurd e ∅
theorem trm_viewR {k:Nat} {d:Aa} (h:KidR (k+1) "term" d):TrmP (KidR k) d:=by
 rcases h.2 with ⟨e,_⟩ | ⟨_,h⟩
 ·exact absurd e ∅
 ·exact h
theorem kid_lenR {n:Nat} {u:Str} {t:Aa} (h:KidR n u t):(wP n t).length≤600000:=by
 cases n with
 | zero=>exact h.elim
 | succ n=>exact h.1
theorem JY:∀ (k:Nat) {u:Str} {d:Aa},Kid k u d→u="statement"∨u="term"→KidR k u d
 | 0,_,_,⟨_,_,_,p,_,ht⟩,_=>by
  cases p;omega
 | k+1,u,d,h,hu=>by
  have up:∀ {v:Str} {e:Aa},Kid k v e→v="statement"∨v="term"→KidR k v e:=fun q z=>JY k q z;have row:∀ {as:List Aa},Row k as→RowR k as:=fun r=>⟨fun x hx=>up (r.kid x hx) (.inl rfl),Co r.few⟩;refine ⟨qfz h,?_⟩;rcases hu with rfl | rfl
  ·refine .inl ⟨rfl,?_⟩;cases qb0 h with
   | one a b=>exact .one a (up b (.inr rfl))
   | two a b=>exact .two a (up b (.inr rfl))
   | try_ a b c=>exact .try_ (row a) (row b) (row c)
   | while_ a b=>exact .while_ (up a (.inr rfl)) (row b)
   | if_ a b c=>exact .if_ (up a (.inr rfl)) (row b) (row c)
  ·refine .inr ⟨rfl,?_⟩;cases qbs h with
   | num a=>exact .num a
   | name=>exact .name
   | two a b=>exact .two (up a (.inr rfl)) (up b (.inr rfl))
   | fn a b c=>exact .fn a b (row c)
   | call a b c=>exact .call (up a (.inr rfl)) (fun x hx=>up (b x hx) (.inr rfl)) (Co c)
   | step a b=>exact .step (up a (.inr rfl)) (up b (.inr rfl))
theorem row_relax {k:Nat} {as:List Aa} (r:Row k as):RowR k as:=⟨fun x hx=>JY k (r.kid x hx) (.inl rfl),Co r.few⟩
theorem yq:∀ (ws:List Str) (x:Str),ws≠[]→Str.join " " (ws++[x])=Str.join " " ws++" "++x
 | [],_,h=>absurd rfl h
 | [y],x,_=>rfl
 | y::z::r,x,_=>by
  have ih:=yq (z::r) x (List.cons_ne_nil _ _);show y++" "++Str.join " " (z::r++[x])=y++" "++Str.join " " (z::r)++" "++x;rw [ih];simp only [Str.append_assoc]
theorem mixed_join:∀ (n:Nat) (ws:List Str),ws.length=n→Mixed ws (Str.join " " ws)
 | 0,ws,h=>by
  rw [Cp h];exact .nil
 | n+1,ws,h=>by
  have hne:ws≠[]:=fun z=>by rw [z] at h;cases h
  obtain ⟨r,x,rfl⟩:∃ r x,ws=r++[x]:=⟨ws.dropLast,ws.getLast hne,(List.dropLast_concat_getLast hne).symm⟩;have hr:r.length=n:=by
   rw [Am] at h;exact Nat.succ.inj h
  have ih:=mixed_join n r hr
  by_cases r0:r=[]
  ·subst r0;have e:Str.join " " ([]++[x])=""++""++x:=by
    have z:("":Str)=Str.empty:=rfl;rw [z,Str.empty_append,Str.empty_append];rfl
   rw [e];exact .snoc .nil (.tight (.inl (.inl (.inl rfl))))
  ·rw [yq r x r0];exact .snoc ih (.blank ∅)
theorem join_wl:∀ ws:List Str,(Str.join " " ws).length≤wl ws
 | []=>Aw _
 | [x]=>Fb _
 | x::y::r=>by
  have ih:=join_wl (y::r);show (x++" "++Str.join " " (y::r)).length≤x.length+1+wl (y::r);rw [len_app,len_app];have:(" ":Str).length=1:=rfl;omega
theorem ok_asc {x:Str} (h:WOk x):Asc x:=by
 rcases h with rfl | rfl | h
 ·show ∀ c∈("(":Str).cps.toList,c<127;decide+kernel
 ·show ∀ c∈(")":Str).cps.toList,c<127;decide+kernel
 ·intro c hc;have q:=A6.mp h.1 c hc;unfold Wd.wordC at q;simp only [Al,Bj] at q;omega
end Sho
namespace Sho
open PySem Tre Wd
structure PW (ws:List Str):Prop where
 pre:∃ ps as,ws=Sho.pre ps as++[(")":Str)]∧areNames (.tuple ps)=true∧∀ x∈as,∃ s t,Pt x "statement" true s t∧t≤19
 run:∃ d,∀ ts,mrun [⟨"text",ts⟩] ws=some [⟨"text",ts++[d]⟩]
 ok:∀ x∈ws,WOk x∧x.length≤14
 lg:Sho.wl ws≤6000
structure Bad (ws:List Str):Prop where
 ok:∀ x∈ws,WOk x∧x.length≤6000
 lg:Sho.wl ws≤18000
 no:told ws=none
def okB (x:Str):Bool:=x=="("||x==")"||((qV x).all Wd.wordC&&!(qV x).isEmpty)
theorem ok_of {x:Str} (h:okB x=true):WOk x:=by
 unfold okB at h;rw [Cb,Cb,A8,A8,Al] at h;rcases h with (h | h) | h
 ·exact .inl h
 ·exact .inr (.inl h)
 ·refine .inr (.inr ⟨h.1,fun z=>?_⟩);rw [z] at h;cases h.2
theorem VE (ws:List Str) (n:Nat):wl (ws.take n)+wl (ws.drop n)=wl ws:=by rw [← jm,C3]
theorem YL (ws:List Str) (n:Nat):wl (ws.drop (n+1))≤wl (ws.drop n):=by
 have h:=VE (ws.drop n) 1;rw [List.drop_drop] at h;omega
section
variable {ws:List Str} (h:PW ws)
include h
theorem PW.mid {x:Str} {i j:Nat} (hx:okB x=true) (hl:x.length≤100) (hj:j=i∨j=i+1) (no:told (ws.take i++[x]++ws.drop j)=none):Bad (ws.take i++[x]++ws.drop j):=by
 refine ⟨fun y hy=>?_,?_,no⟩
 ·rcases Bp.mp hy with hy | hy
  ·rcases Bp.mp hy with hy | hy
   ·have:=h.ok y (Ch hy);exact ⟨this.1,⋯⟩
   ·cases A3.mp hy;exact ⟨ok_of hx,⋯⟩
  ·have:=h.ok y (C7 hy);exact ⟨this.1,⋯⟩
 ·rw [jm,jm];have a:=VE ws i;have b:=h.lg;have c:Sho.wl [x]=x.length+1+0:=rfl;rcases hj with rfl | rfl
  ·omega
  ·have:=YL ws i;omega
theorem PW.strange {x:Str} {i j:Nat} (hs:x∈strange) (hj:j=i∨j=i+1):Bad (ws.take i++[x]++ws.drop j):=by
 have z:∀ y∈Sho.strange,okB y=true∧y.length≤100:=∅;exact h.mid (z x hs).1 (z x hs).2 hj (YO (x:=x) (by simp) (YV x hs))
theorem PW.even:cls ws=opn ws:=by
 obtain ⟨d,r⟩:=h.run;have a:=WH (r []);have e1:[(⟨"text",[]⟩:Op)].length=1:=rfl;have e2:[(⟨"text",[]++[d]⟩:Op)].length=1:=rfl;omega
theorem PW.more {x:Str} {i:Nat} (hx:x="("∨x=")"):Bad (ws.take i++[x]++ws.drop i):=by
 have ev:=h.even;have c1:cls (ws.take i)+cls (ws.drop i)=cls ws:=by
  unfold cls;rw [← Cc,C3]
 have c2:opn (ws.take i)+opn (ws.drop i)=opn ws:=by
  unfold opn;rw [← Cc,C3]
 have ok:okB x=true∧x.length≤100:=by rcases hx with rfl | rfl <;> decide+kernel
 refine h.mid ok.1 ok.2 (.inl rfl) (wf ?_);have d1:cls (ws.take i++[x]++ws.drop i)=cls (ws.take i)+cls [x]+cls (ws.drop i):=by
  unfold cls;rw [Cc,Cc]
 have d2:opn (ws.take i++[x]++ws.drop i)=opn (ws.take i)+opn [x]+opn (ws.drop i):=by
  unfold opn;rw [Cc,Cc]
 have e:cls [x]≠opn [x]:=by rcases hx with rfl | rfl <;> decide+kernel
 omega
theorem PW.less {x:Str} {i:Nat} (hi:ws[i]?=some x) (hx:x="("∨x=")"):Bad (ws.take i++ws.drop (i+1)):=by
 have ev:=h.even;have e0:ws=ws.take i++([x]++ws.drop (i+1)):=by
  have:ws.drop i=x::ws.drop (i+1):=by
   obtain ⟨hlt,e⟩:=C0.mp hi;rw [← e];exact List.drop_eq_getElem_cons hlt
  rw [D0,← this,C3]
 have c1:cls ws=cls (ws.take i)+(cls [x]+cls (ws.drop (i+1))):=by
  conv=>lhs;rw [e0]
  unfold cls;rw [Cc,Cc]
 have c2:opn ws=opn (ws.take i)+(opn [x]+opn (ws.drop (i+1))):=by
  conv=>lhs;rw [e0]
  unfold opn;rw [Cc,Cc]
 have d1:cls (ws.take i++ws.drop (i+1))=cls (ws.take i)+cls (ws.drop (i+1)):=by
  unfold cls;rw [Cc]
 have d2:opn (ws.take i++ws.drop (i+1))=opn (ws.take i)+opn (ws.drop (i+1)):=by
  unfold opn;rw [Cc]
 have e:cls [x]≠opn [x]:=by rcases hx with rfl | rfl <;> decide+kernel
 refine ⟨fun y hy=>?_,?_,wf ⋯⟩
 ·rcases Bp.mp hy with hy | hy
  ·have:=h.ok y (Ch hy);exact ⟨this.1,⋯⟩
  ·have:=h.ok y (C7 hy);exact ⟨this.1,⋯⟩
 ·rw [jm];have a:=VE ws i;have b:=h.lg;have:=YL ws i;omega
theorem PW.twice:Bad (ws++ws):=by
 obtain ⟨d,r⟩:=h.run;refine ⟨fun y hy=>?_,?_,?_⟩
 ·have:=h.ok y ((Bp.mp hy).elim id id);exact ⟨this.1,⋯⟩
 ·rw [jm];have:=h.lg;omega
 ·refine told_of (S:=[⟨"text",[d]++[d]⟩]) ?_ fun sh e z=>by cases z
  rw [mrun_app];show (mrun [⟨"text",[]⟩] ws).bind _=_;rw [r []];exact r [d]
theorem PW.then_x:Bad (ws++[("x":Str)]):=by
 obtain ⟨d,r⟩:=h.run;refine ⟨fun y hy=>?_,?_,?_⟩
 ·rcases Bp.mp hy with hy | hy
  ·have:=h.ok y hy;exact ⟨this.1,⋯⟩
  ·cases A3.mp hy;exact ⟨ok_of ∅,∅⟩
 ·rw [jm];have:=h.lg;have:Sho.wl [("x":Str)]=2:=∅;omega
 ·unfold told;rw [mrun_app,show mrun start ws=some [⟨"text",[]++[d]⟩] from r []];rfl
theorem PW.begins:∃ r,ws=("(":Str)::"main"::r:=by
 obtain ⟨ps,as,e,_⟩:=h.pre;exact ⟨_,e⟩
theorem PW.piece {p:List Str} (hp:p∈pieces):Bad (ws.dropLast++p++[(")":Str)]):=by
 obtain ⟨ps,as,e,hn,hb⟩:=h.pre;have e1:ws.dropLast=Sho.pre ps as:=by rw [e,List.dropLast_concat]
 have z:∀ p∈pieces,(p.all fun y=>okB y&&decide (y.length≤100))=true∧Sho.wl p≤1000:=∅;refine ⟨fun y hy=>?_,?_,?_⟩
 ·rcases Bp.mp hy with hy | hy
  ·rcases Bp.mp hy with hy | hy
   ·rw [e1] at hy;have:=h.ok y (by rw [e];exact B3 _ hy)
    exact ⟨this.1,⋯⟩
   ·have q:=A6.mp (z p hp).1 y hy;rw [Al,Bj] at q;exact ⟨ok_of q.1,⋯⟩
  ·cases A3.mp hy;exact ⟨.inr (.inl rfl),∅⟩
 ·rw [jm,jm];have a:=h.lg;have b:=(z p hp).2;rw [e,jm] at a;rw [e1];have:Sho.wl [(")":Str)]=2:=∅;omega
 ·rw [e1,Bq];exact X9 hn hb (y9 p hp)
end
theorem bad_consts:∀ ws∈([[],["(",")"],["main"],["(","main",")"]]:List (List Str)),(ws.all okB)=true∧(told ws).isNone=true∧wl ws≤100:=∅
theorem qbb:∀ x∈(["fun","loop","man","mains","12","("]:List Str),okB x=true∧x.length≤10∧(mrun start [("(":Str),x]).isNone=true:=∅
section
variable {ws:List Str} (h:PW ws)
include h
theorem PW.head {x:Str} (hx:x∈(["fun","loop","man","mains","12","("]:List Str)):Bad ([("(":Str)]++[x]++ws.drop 2):=by
 obtain ⟨z1,z2,z3⟩:=qbb x hx;refine ⟨fun y hy=>?_,?_,?_⟩
 ·rcases Bp.mp hy with hy | hy
  ·rcases Bp.mp hy with hy | hy
   ·cases A3.mp hy;exact ⟨.inl rfl,∅⟩
   ·cases A3.mp hy;exact ⟨ok_of z1,⋯⟩
  ·have:=h.ok y (C7 hy);exact ⟨this.1,⋯⟩
 ·rw [jm,jm];have a:=VE ws 2;have b:=h.lg;have c:Sho.wl [x]=x.length+1+0:=rfl;have d:Sho.wl [("(":Str)]=2:=∅;omega
 ·exact told_pre (Option.isNone_iff_eq_none.mp z3) _
theorem PW.inside:Bad (ws.dropLast.drop 1):=by
 obtain ⟨ps,as,e,hn,hb⟩:=h.pre;have e1:ws.dropLast=Sho.pre ps as:=by rw [e,List.dropLast_concat]
 refine ⟨fun y hy=>?_,?_,?_⟩
 ·rw [e1] at hy;have:=h.ok y (by rw [e];exact B3 _ (C7 hy))
  exact ⟨this.1,⋯⟩
 ·have a:=h.lg;rw [e,jm] at a;rw [e1];have b:=VE (Sho.pre ps as) 1;omega
 ·rw [e1];exact told_pre (a:=[("main":Str)]) ∅ _
end
mutual
theorem Ql:∀ {d:Aa} {sh:Str} {h:Bool} {s t s' t':Nat},Pt d sh h s t→Pt d sh h s' t'→s=s'∧t=t'
 | _,_,_,_,_,_,_,.mk _ a,.mk _ b=>by
  obtain ⟨e1,e2⟩:=Xf a b;exact ⟨⋯,⋯⟩
theorem Xf:∀ {l:List (Aa×Str)} {h:Bool} {s t s' t':Nat},Ptl l h s t→Ptl l h s' t'→s=s'∧t=t'
 | _,_,_,_,_,_,.nil,.nil=>⟨rfl,rfl⟩
 | _,_,_,_,_,_,.cons a b,.cons a' b'=>by
  obtain ⟨e1,e2⟩:=Ql a a';obtain ⟨e3,e4⟩:=Xf b b';exact ⟨⋯,⋯⟩
end
structure Much (d:Aa):Prop where
 nol:noL d=true
 row:∃ as,d= .tuple as∧RowR 20 as∧Bad (fws (wP 20) "main" [] as)
theorem QB {as:List Aa} {s t:Nat} (b:Bd as true s t) (ht:t≤20) (hs:s≤300) (far:300≤s∨20≤t) (kid:∀ x∈as,∃ s' t',Pt x "statement" true s' t'∧t'≤20∧s'≤300) (nl:jX as=true):Much (.tuple as):=by
 have pm:=y8 (ns:=[]) ∅ b;have e:wP 21 (.tuple [.str "main",.tuple [],.tuple as])=fws (wP 20) "main" [] as:=wP_fn ∅;have fi:=fine 21 pm ⋯;have wd:=wd_part 21 pm.tr ⋯;have rd:=Wg (reads 21 pm ⋯ ⟨"text",[]⟩ [] .text rfl);rw [e] at fi wd rd;have e7:ext "program"=7:=∅;refine ⟨by rw [noL];exact nl,as,rfl,⟨fun x hx=>?_,Co b.few⟩,⟨fun x hx=>⟨(wd x hx).ok,Ar (wd x hx).len O0⟩,⋯,?_⟩⟩
 ·obtain ⟨s',t',p',h1,h2⟩:=kid x hx;exact JY 20 ⟨true,s',t',p',h2,h1⟩ (.inl rfl)
 ·refine told_of rd fun sh d z=>?_;cases z;cases hp:za (.tuple [.str "main",.tuple [],.tuple as]) with
  | false=>rfl
  | true=>
   obtain ⟨s2,t2,p2,h1,h2⟩:=Jv hp;obtain ⟨z1,z2⟩:=Ql pm p2;omega
def qko (ws:List Str):Bool:=(ws.all fun x=>okB x&&decide (x.length≤6000))&&decide (wl ws≤18000)&&(told ws).isNone
theorem WX {ws:List Str} (h:qko ws=true):Bad ws:=by
 unfold qko at h;rw [Al,Al,Bj] at h;refine ⟨fun x hx=>?_,h.1.2,Option.isNone_iff_eq_none.mp h.2⟩;have:=A6.mp h.1.1 x hx;rw [Al,Bj] at this;exact ⟨ok_of this.1,this.2⟩
abbrev sv:Aa:= .tuple [.str "number",.int 7]
abbrev dos:Aa:= .tuple [.str "do",sv]
theorem sv_kid {k:Nat}:KidR (k+1) "term" sv:=JY (k+1) ⟨true,1,1,jj O0,O0,⋯⟩ (.inr rfl)
theorem dos_kid {k:Nat}:KidR (k+2) "statement" dos:=JY (k+2) ⟨true,2,2,wo (.inl rfl) (jj O0),O0,⋯⟩ (.inl rfl)
theorem row13 {k:Nat}:RowR (k+2) (List.replicate 13 dos):=⟨fun x hx=>by rw [C2 hx];exact dos_kid,by rw [Dm];exact Aw _⟩
theorem qhm {k:Nat}:RowR k []:=⟨fun x hx=>(by cases hx),O0⟩
theorem qae {k:Nat} {x:Aa} (h:KidR k "statement" x):RowR k [x]:=⟨fun y hy=>by cases A3.mp hy;exact h,(by show 1≤13;decide)⟩
theorem much13:Much (.tuple (List.replicate 13 dos)):=⟨O0,_,rfl,row13,WX ∅⟩
theorem much_if:Much (.tuple [.tuple [.str "if",sv,.tuple [],.tuple (List.replicate 13 dos)]]):=⟨O0,_,rfl,qae ⟨∅,.inl ⟨rfl,.if_ sv_kid qhm row13⟩⟩,WX ∅⟩
theorem much_call:Much (.tuple [.tuple [.str "do",.tuple [.str "call",sv,.tuple (List.replicate 5 sv)]]]):=⟨O0,_,rfl,qae ⟨∅,.inl ⟨rfl,.one ∅ ⟨∅,.inr ⟨rfl,.call sv_kid (fun x hx=>by rw [C2 hx];exact sv_kid) O0⟩⟩⟩⟩,WX ∅⟩
theorem much_loop:Much (.tuple [.tuple [.str "do",.tuple [.str "loop",.tuple [],.tuple (List.replicate 13 dos)]]]):=⟨O0,_,rfl,qae ⟨∅,.inl ⟨rfl,.one ∅ ⟨∅,.inr ⟨rfl,.fn ∅ ⟨O0,fun x hx=>(by cases hx)⟩ row13⟩⟩⟩⟩,WX ∅⟩
theorem much_hand:Much (.tuple [.tuple [.str "do",.tuple [.str "fun",.tuple [],.tuple [.tuple [.str "try",.tuple [],.str "any",.str "x",.tuple [],.tuple [.tuple [.str "hand",sv]]]]]]]):=by
 refine ⟨O0,_,rfl,qae ⟨∅,.inl ⟨rfl,.one ∅ ⟨∅,.inr ⟨rfl,.fn ∅ ⟨O0,fun x hx=>(by cases hx)⟩ (qae ⟨∅,.inl ⟨rfl,.try_ qhm qhm (qae ⟨∅,.inl ⟨rfl,.one ∅ sv_kid⟩⟩)⟩⟩)⟩⟩⟩⟩,WX ∅⟩
theorem wS {x:Aa} {u:Str} {hands:Bool} {s t:Nat} (h:Pt x u hands s t):∀ n:Nat,Ptl ((List.replicate (n+1) x).map fun y=>(y,u)) hands ((n+1)*s) t
 | 0=>by
  rw [Nat.zero_add,Nat.one_mul];exact zZ h
 | n+1=>by
  have q:=Ptl.cons h (wS h n);rw [Nat.max_self,show s+(n+1)*s=(n+1+1)*s by rw [Nat.succ_mul (n+1),Nat.add_comm]] at q
  exact q
abbrev lng:Aa:= .tuple [.str "do",.tuple [.str "call",sv,.tuple [sv,sv,sv,sv]]]
abbrev big:Aa:= .tuple [.str "do",.tuple [.str "fun",.tuple [],.tuple (List.replicate 9 lng)]]
abbrev few:Aa:= .tuple [.str "do",.tuple [.str "call",sv,.tuple [sv,sv]]]
theorem wn {hands:Bool}:Pt sv "term" hands 1 1:=jj O0
theorem Zp {hands:Bool}:Pt lng "statement" hands 7 3:=wo (.inl rfl) (VI (s:=1) (t:=1) (s':=4) (t':=1) wn O0 (.cons wn (.cons wn (.cons wn (.cons wn .nil)))))
theorem qc4 {hands:Bool}:Pt big "statement" hands 65 5:=wo (.inl rfl) (Zq (s:=63) (t:=3) ∅ ⟨O0,wS Zp 8⟩)
theorem qc0 {hands:Bool}:Pt few "statement" hands 5 3:=wo (.inl rfl) (VI (s:=1) (t:=1) (s':=2) (t':=1) wn O0 (.cons wn (.cons wn .nil)))
theorem much_full:Much (.tuple (List.replicate 4 big++List.replicate 5 lng++[few])):=by
 refine QB (s:=300) (t:=5) ⟨O0,?_⟩ O0 O0 (.inl O0) (fun x hx=>?_) O0
 ·rw [A5,A5];exact ((wS qc4 3).append (wS Zp 4)).append (zZ qc0)
 ·rcases Bp.mp hx with hx | hx
  ·rcases Bp.mp hx with hx | hx
   ·rw [C2 hx];exact ⟨_,_,qc4,O0,O0⟩
   ·rw [C2 hx];exact ⟨_,_,Zp,O0,O0⟩
  ·rw [A3.mp hx];exact ⟨_,_,qc0,O0,O0⟩
theorem much_deep {d:Aa} {s:Nat} (n:noL d=true) (hs:s≤200) (p:∀ hands,Pt d "term" hands s 19):Much (.tuple [.tuple [.str "do",d]]):=by
 have ps:Pt (.tuple [.str "do",d]) "statement" true (s+1) 20:=wo (.inl rfl) (p true);refine QB (s:=s+1) (t:=20) ⟨(by show 1≤12;decide),zZ ps⟩ O0 ⋯ (.inr O0) (fun x hx=>?_) ?_
 ·rw [A3.mp hx];exact ⟨_,_,ps,O0,⋯⟩
 ·show (noL (.tuple [.str "do",d])&&true)=true;rw [noL,C1];show (true&&(noL d&&true))=true;rw [n];rfl
theorem qd5 {x:Str}:x.length≤(figs x).length+1:=by
 unfold figs;split
 ·by_cases h1:1≤x.length
  ·have e:=congrArg List.length (slice1 h1);rw [B5] at e;have a:x.cps.toList.length=x.length:=Bh;have b:(Txt.slice x (some 1) none).cps.toList.length=(Txt.slice x (some 1) none).length:=Bh;omega
  ·omega
 ·omega
theorem qds {x:Str} (h:14<x.length):JH x=false:=by
 cases e:JH x with
 | false=>rfl
 | true=>
  unfold JH okW at e;rw [Cb,Cb,Cb,Cb,A8,A8,Al] at e;rcases e with ((e | e) | (e | e)) | e
  ·rw [e] at h;exact absurd h ∅
  ·rw [e] at h;exact absurd h ∅
  ·have:=qdj e;omega
  ·have z:∀ y∈signs,y.length≤14:=∅;have:=z x (B4.mp e);omega
  ·unfold numeral at e;rw [Al,Al] at e;have a:=Bb e.1.1.2;have b:=qd5 (x:=x);omega
theorem qj8:qV (Txt.mul "123456789" 488)=(List.replicate 488 [49,50,51,52,53,54,55,56,57]).flatten:=by
 have e:Txt.mul "123456789" 488=⟨(List.replicate 488 ("123456789":Str).cps).foldl (· ++ ·) #[]⟩:=by
  unfold Txt.mul;rw [if_neg O0,if_neg ∅];rfl
 have e2:("123456789":Str).cps.toList=[49,50,51,52,53,54,55,56,57]:=∅;have e3:=Xc ("123456789":Str).cps 488 #[];rw [e2] at e3;rw [e];refine e3.trans ?_;rw [show (#[]:Array Nat).toList=[] from rfl,Cn]
theorem VS (l:List Nat):∀ m:Nat,(List.replicate m l).flatten.length=m*l.length
 | 0=>by simp
 | m+1=>by rw [By,Bx,Am,VS l m,Nat.succ_mul,Nat.add_comm]
theorem many_figs {w:Str} (hw:w∈(["-",""]:List Str)):okB (w++Txt.mul "123456789" 488)=true∧(w++Txt.mul "123456789" 488).length≤4400∧14<(w++Txt.mul "123456789" 488).length:=by
 have w1:∀ w∈(["-",""]:List Str),(qV w).all wordC=true∧w.length≤1:=∅;obtain ⟨z1,z2⟩:=w1 w hw;have lm:(Txt.mul "123456789" 488).length=4392:=by
  have a:(qV (Txt.mul "123456789" 488)).length=(Txt.mul "123456789" 488).length:=Bh;rw [← a,qj8,VS];rfl
 have ec:qV (w++Txt.mul "123456789" 488)=qV w++qV (Txt.mul "123456789" 488):=jK _ _;have all:(qV (w++Txt.mul "123456789" 488)).all wordC=true:=by
  rw [ec,List.all_append,z1,Bu,qj8,A6];intro c hc;obtain ⟨l,hl,hc⟩:=List.mem_flatten.mp hc;rw [C2 hl] at hc;have z:∀ c∈[49,50,51,52,53,54,55,56,57],wordC c=true:=O0;exact z c hc
 have ln:(w++Txt.mul "123456789" 488).length=w.length+4392:=by rw [len_app,lm]
 refine ⟨?_,⋯,⋯⟩;unfold okB;rw [all,Bu];have:(qV (w++Txt.mul "123456789" 488)).isEmpty=false:=by
  cases h:qV (w++Txt.mul "123456789" 488) with
  | nil=>
   have a:(qV (w++Txt.mul "123456789" 488)).length=(w++Txt.mul "123456789" 488).length:=Bh;rw [h,ln] at a;simp at a
  | cons _ _=>rfl
 rw [this,E8,Do]
theorem bad_figs {w:Str} (hw:w∈(["-",""]:List Str)):Bad ["(","main","(",")","(","do",w++Txt.mul "123456789" 488,")",")"]:=by
 obtain ⟨z1,z2,z3⟩:=many_figs hw;generalize w++Txt.mul "123456789" 488=x at z1 z2 z3 ⊢;refine ⟨fun y hy=>?_,?_,YO (x:=x) (by simp) (qds z3)⟩
 ·simp only [Av,Be,or_false] at hy;rcases hy with rfl | rfl | rfl | rfl | rfl | rfl | rfl | rfl | rfl
  ·exact ⟨.inl rfl,∅⟩
  ·exact ⟨ok_of ∅,∅⟩
  ·exact ⟨.inl rfl,∅⟩
  ·exact ⟨.inr (.inl rfl),∅⟩
  ·exact ⟨.inl rfl,∅⟩
  ·exact ⟨ok_of ∅,∅⟩
  ·exact ⟨ok_of z1,⋯⟩
  ·exact ⟨.inr (.inl rfl),∅⟩
  ·exact ⟨.inr (.inl rfl),∅⟩
 ·have e:wl ["(","main","(",")","(","do",x,")",")"]=2+(5+(2+(2+(2+(3+(x.length+1+(2+(2+0)))))))):=rfl;rw [e];omega
theorem bad_deep {n:Nat} (h1:2≤n) (h2:n≤1400):Bad ((["(","main","(",")","(","do"]:List Str)++List.replicate n ("(":Str)++List.replicate (n+2) (")":Str)):=by
 have wr:∀ (x:Str) (m:Nat),wl (List.replicate m x)=m*(x.length+1):=fun x m=>by
  unfold wl;rw [List.map_replicate,List.sum_replicate_nat]
 refine ⟨fun y hy=>?_,?_,?_⟩
 ·rcases Bp.mp hy with hy | hy
  ·rcases Bp.mp hy with hy | hy
   ·have z:∀ y∈(["(","main","(",")","(","do"]:List Str),okB y=true∧y.length≤6000:=∅;exact ⟨ok_of (z y hy).1,(z y hy).2⟩
   ·rw [C2 hy];exact ⟨.inl rfl,∅⟩
  ·rw [C2 hy];exact ⟨.inr (.inl rfl),∅⟩
 ·rw [jm,jm,wr,wr];have a:wl ["(","main","(",")","(","do"]=16:=∅;have b:("(":Str).length=1:=rfl;have c:(")":Str).length=1:=rfl;rw [a,b,c];omega
 ·obtain ⟨m,rfl⟩:∃ m,n=m+2:=⟨n - 2,⋯⟩;rw [Bq,By,By];exact told_pre (a:=["(","main","(",")","(","do","(","("]) ∅ (List.replicate m ("(":Str)++List.replicate (m+2+2) (")":Str))
end Sho
set_option tactic.hygienic false
namespace Mine
open PySem L2
def top (i:Nat):Stmt:=PySem.Challenge.pw_waitloom_k06_texts_refused.main.body.getD i (.Pass ⟨0,0,0,0⟩)
abbrev v5:Stmt:=top 20
theorem Zm:FnScope ["thing"] ["thing"] (qp v5):=⟨rfl,rfl,rfl,∅,rfl,∅,∅⟩
abbrev vF:Stmt:=top 21
theorem yV:FnScope ["thing"] ["thing"] (qp vF):=⟨rfl,rfl,rfl,∅,rfl,∅,∅⟩
abbrev Wp:Stmt:=top 22
theorem qac:FnScope ["thing","most"] ["thing","most"] (qp Wp):=⟨rfl,rfl,rfl,∅,rfl,∅,∅⟩
abbrev JC:Stmt:=top 23
theorem yX:FnScope ["thing"] ["thing"] (qp JC):=⟨rfl,rfl,rfl,∅,rfl,∅,∅⟩
abbrev vG:Stmt:=top 24
theorem yW:FnScope ["thing","shape"] ["thing","shape"] (qp vG):=⟨rfl,rfl,rfl,∅,rfl,∅,∅⟩
abbrev ve:Stmt:=top 25
theorem vB:FnScope ["thing","shape","hands","head","shapes"] ["thing","shape","hands"] (qp ve):=⟨rfl,rfl,rfl,∅,rfl,∅,∅⟩
abbrev zN:Stmt:=top 26
theorem zI:FnScope ["part","found","thing","shape"] ["part"] (qp zN):=⟨rfl,rfl,rfl,∅,rfl,∅,∅⟩
abbrev Jp:Stmt:=top 27
theorem wG:FnScope ["part","hands"] ["part","hands"] (qp Jp):=⟨rfl,rfl,rfl,∅,rfl,∅,∅⟩
abbrev j9:Stmt:=top 28
theorem zd:FnScope ["thing","level","depth","size","below","part","shape","hands","within"] ["thing"] (qp j9):=⟨rfl,rfl,rfl,∅,rfl,∅,∅⟩
abbrev Jo:Stmt:=top 32
theorem wF:FnScope ["sign"] ["sign"] (qp Jo):=⟨rfl,rfl,rfl,∅,rfl,∅,∅⟩
abbrev v3:Stmt:=top 33
theorem Zl:FnScope ["thing"] ["thing"] (qp v3):=⟨rfl,rfl,rfl,∅,rfl,∅,∅⟩
abbrev Vr:Stmt:=top 34
theorem Y4:FnScope ["text"] ["text"] (qp Vr):=⟨rfl,rfl,rfl,∅,rfl,∅,∅⟩
abbrev Wq:Stmt:=Yy (top 40) 0
theorem qad:FnScope ["self","shape"] ["self","shape"] (qp Wq):=⟨rfl,rfl,rfl,∅,rfl,∅,∅⟩
abbrev Vt:Stmt:=Yy (top 40) 1
theorem Y6:FnScope ["self"] ["self"] (qp Vt):=⟨rfl,rfl,rfl,∅,rfl,∅,∅⟩
abbrev Vu:Stmt:=Yy (top 40) 2
theorem vC:FnScope ["self","head","first"] ["self"] (qp Vu):=⟨rfl,rfl,rfl,∅,rfl,∅,∅⟩
abbrev Jk:Stmt:=top 41
theorem j4:FnScope ["head","place","shapes","last"] ["head","place"] (qp Jk):=⟨rfl,rfl,rfl,∅,rfl,∅,∅⟩
abbrev V5:Stmt:=top 42
theorem Zn:FnScope ["word","shape"] ["word","shape"] (qp V5):=⟨rfl,rfl,rfl,∅,rfl,∅,∅⟩
abbrev vd:Stmt:=top 43
theorem Vk:FnScope ["word","figures"] ["word"] (qp vd):=⟨rfl,rfl,rfl,∅,rfl,∅,∅⟩
abbrev V4:Stmt:=top 44
theorem Zk:FnScope ["word"] ["word"] (qp V4):=⟨rfl,rfl,rfl,∅,rfl,∅,∅⟩
abbrev Vs:Stmt:=top 45
theorem wk:FnScope ["word","opening","wanted"] ["word","opening"] (qp Vs):=⟨rfl,rfl,rfl,∅,rfl,∅,∅⟩
abbrev vD:Stmt:=top 46
theorem va:FnScope ["openings","word","innermost","wanted"] ["openings","word"] (qp vD):=⟨rfl,rfl,rfl,∅,rfl,∅,∅⟩
abbrev Zo:Stmt:=top 47
theorem wR:FnScope ["text","openings","word","found"] ["text"] (qp Zo):=⟨rfl,rfl,rfl,∅,rfl,∅,∅⟩
abbrev JO:Stmt:=top 49
theorem Wl:FnScope ["_law_script","_law_k"] ["_law_script","_law_k"] (qp JO):=⟨rfl,rfl,rfl,∅,rfl,∅,∅⟩
abbrev vc:Stmt:=top 50
theorem jw:FnScope ["_law_state","_law_k","_law_cell"] ["_law_state"] (qp vc):=⟨rfl,rfl,rfl,∅,rfl,∅,∅⟩
abbrev jW:Stmt:=top 51
theorem jh:FnScope ["_law_cell","_law_many","_law_letters","_law_size","_law_word","_law_made","_law_k"] ["_law_cell","_law_many"] (qp jW):=⟨rfl,rfl,rfl,∅,rfl,∅,∅⟩
abbrev vb:Stmt:=top 52
theorem Vj:FnScope ["_law_more","_law_far"] ["_law_more"] (qp vb):=⟨rfl,rfl,rfl,∅,rfl,∅,∅⟩
abbrev Jm:Stmt:=top 53
theorem zQ:FnScope ["_law_state","_law_deep","_law_number_here","_law_kind","_law_more","_law_names_here","_law_params","_law_maker"] ["_law_state","_law_deep"] (qp Jm):=⟨rfl,rfl,rfl,∅,rfl,∅,∅⟩
abbrev Jn:Stmt:=top 54
theorem Y5:FnScope ["_law_state","_law_deep","_law_may_hand"] ["_law_state","_law_deep","_law_may_hand"] (qp Jn):=⟨rfl,rfl,rfl,∅,rfl,∅,∅⟩
abbrev zT:Stmt:=top 55
theorem zf:FnScope ["_law_state","_law_deep","_law_may_hand","_law_number_here","_law_kind","_law_name","_law_word","_law_test","_law_bodies_here"] ["_law_state","_law_deep","_law_may_hand"] (qp zT):=⟨rfl,rfl,rfl,∅,rfl,∅,∅⟩
abbrev JN:Stmt:=top 56
theorem jG:FnScope ["_law_script","_law_most","_law_names_here","_law_state","_law_body_here"] ["_law_script","_law_most"] (qp JN):=⟨rfl,rfl,rfl,∅,rfl,∅,∅⟩
abbrev j8:Stmt:=top 57
theorem jT:FnScope ["_law_body_here","_law_found","_law_one"] ["_law_body_here"] (qp j8):=⟨rfl,rfl,rfl,∅,rfl,∅,∅⟩
abbrev zJ:Stmt:=top 58
theorem vw:FnScope ["_law_part"] ["_law_part"] (qp zJ):=⟨rfl,rfl,rfl,∅,rfl,∅,∅⟩
abbrev ji:Stmt:=top 59
theorem ja:FnScope ["_law_term_here","_law_found","_law_one"] ["_law_term_here"] (qp ji):=⟨rfl,rfl,rfl,∅,rfl,∅,∅⟩
abbrev JB:Stmt:=top 60
theorem j7:FnScope ["_law_one","_law_word","_law_found"] ["_law_one"] (qp JB):=⟨rfl,rfl,rfl,∅,rfl,∅,∅⟩
abbrev JM:Stmt:=top 61
theorem Jj:FnScope ["_law_words_here","e","_law_others"] ["_law_words_here"] (qp JM):=⟨rfl,rfl,rfl,∅,rfl,∅,∅⟩
abbrev JL:Stmt:=top 62
theorem jF:FnScope ["_law_more","_law_some"] ["_law_more"] (qp JL):=⟨rfl,rfl,rfl,∅,rfl,∅,∅⟩
abbrev vE:Stmt:=top 63
theorem qQ:FnScope ["_law_goal","_law_number_here","_law_one","_law_deep","_law_at","_law_wrap","_law_hold","_law_some"] ["_law_goal","_law_number_here"] (qp vE):=⟨rfl,rfl,rfl,∅,rfl,∅,∅⟩
abbrev Jl:Stmt:=top 64
theorem zx:FnScope ["_law_more","_law_one","_law_long","_law_full","_law_some","_law_deep"] ["_law_more"] (qp Jl):=⟨rfl,rfl,rfl,∅,rfl,∅,∅⟩
abbrev jy:Stmt:=top 65
theorem qM:FnScope ["_law_words_here","_law_more","_law_way","_law_figures","_law_at","_law_some","_law_plain","_law_brackets"] ["_law_words_here","_law_more"] (qp jy):=⟨rfl,rfl,rfl,∅,rfl,∅,∅⟩
abbrev Wo:Stmt:=top 66
theorem Wm:FnScope ["_law_script","_law_program_here","_law_words_here","_law_state","_law_turn"] ["_law_script"] (qp Wo):=⟨rfl,rfl,rfl,∅,rfl,∅,∅⟩
structure Ad where
 LoomError:Ae
 BadTree:Ae
 BadText:Ae
 BadName:Ae
 BadCount:Ae
 BadCode:Ae
 NoThing:Ae
 Opening:Ae
structure Cs (K:Frag) (mg:Str→Option Ac) (ad:Ad):Prop where
 all_:mg "all"=none
 isinstance_:mg "isinstance"=none
 str_:mg "str"=none
 len_:mg "len"=none
 bool_:mg "bool"=none
 int_:mg "int"=none
 tuple_:mg "tuple"=none
 set_:mg "set"=none
 zip_:mg "zip"=none
 ord_:mg "ord"=none
 max_:mg "max"=none
 range_:mg "range"=none
 list_:mg "list"=none
 ValueError_:mg "ValueError"=none
 MOST_LETTERS:∃ u,mg "MOST_LETTERS"=some u∧qS (.int 8) u
 GREATEST_NUMBER:∃ u,mg "GREATEST_NUMBER"=some u∧qS (.int 1000000000000) u
 MOST_NAMES:∃ u,mg "MOST_NAMES"=some u∧qS (.int 4) u
 MOST_TERMS:∃ u,mg "MOST_TERMS"=some u∧qS (.int 4) u
 MOST_STATEMENTS:∃ u,mg "MOST_STATEMENTS"=some u∧qS (.int 12) u
 MOST_DEPTH:∃ u,mg "MOST_DEPTH"=some u∧qS (.int 20) u
 MOST_PARTS:∃ u,mg "MOST_PARTS"=some u∧qS (.int 300) u
 PERCENT:∃ u,mg "PERCENT"=some u∧qS (.int 37) u
 MOST_SIGNS:∃ u,mg "MOST_SIGNS"=some u∧qS (.int 6000) u
 MOST_FIGURES:∃ u,mg "MOST_FIGURES"=some u∧qS (.int 13) u
 m_LoomError:mg "LoomError"=some (.ref ad.LoomError)
 m_BadTree:mg "BadTree"=some (.ref ad.BadTree)
 m_BadText:mg "BadText"=some (.ref ad.BadText)
 m_BadName:mg "BadName"=some (.ref ad.BadName)
 m_BadCount:mg "BadCount"=some (.ref ad.BadCount)
 m_BadCode:mg "BadCode"=some (.ref ad.BadCode)
 m_NoThing:mg "NoThing"=some (.ref ad.NoThing)
 m_Opening:mg "Opening"=some (.ref ad.Opening)
 o_BadText:qiz K ad.BadText
 ns_MEMBERS:∃ a,mg "MEMBERS"=some (.ref a)∧(a==sysModules)=false
 cl:Cls K ad.Opening
 aS:PySem.W.findIn K (.ref ad.Opening) "shape"=some none
 aT:PySem.W.findIn K (.ref ad.Opening) "things"=some none
 mkC:PySem.W.makesIn K ad.Opening=true
 kc:PySem.W.keepIn K (.ref ad.Opening)=true
 k_BadText:XK1 K ad.BadText
 e1:PySem.W.exmOne K (.ref ad.BadText) (.ref ad.LoomError)=some true
 i1:PySem.W.kitAny K (.ref ad.BadText) [.ref ad.BadTree,.ref ad.BadName,.ref ad.BadCount]=some false
 i2:PySem.W.kitAny K (.ref ad.BadText) [.ref ad.BadCode,.ref ad.NoThing]=some false
 i3:PySem.W.kitOne K (.ref ad.BadText) (.ref ad.BadText)=some true
 i4:PySem.W.kitOne K (.ref ad.BadText) (.type "ValueError")=some true
theorem Cs.v_BadTree {K:Frag} {mg:Str→Option Ac} {ad:Ad} (c:Cs K mg ad):∃ u,mg "BadTree"=some u∧qS (.ref ad.BadTree) u:=⟨_,c.m_BadTree,rfl⟩
theorem Cs.v_BadText {K:Frag} {mg:Str→Option Ac} {ad:Ad} (c:Cs K mg ad):∃ u,mg "BadText"=some u∧qS (.ref ad.BadText) u:=⟨_,c.m_BadText,rfl⟩
theorem Cs.v_BadName {K:Frag} {mg:Str→Option Ac} {ad:Ad} (c:Cs K mg ad):∃ u,mg "BadName"=some u∧qS (.ref ad.BadName) u:=⟨_,c.m_BadName,rfl⟩
theorem Cs.v_BadCount {K:Frag} {mg:Str→Option Ac} {ad:Ad} (c:Cs K mg ad):∃ u,mg "BadCount"=some u∧qS (.ref ad.BadCount) u:=⟨_,c.m_BadCount,rfl⟩
theorem Cs.v_BadCode {K:Frag} {mg:Str→Option Ac} {ad:Ad} (c:Cs K mg ad):∃ u,mg "BadCode"=some u∧qS (.ref ad.BadCode) u:=⟨_,c.m_BadCode,rfl⟩
theorem Cs.v_NoThing {K:Frag} {mg:Str→Option Ac} {ad:Ad} (c:Cs K mg ad):∃ u,mg "NoThing"=some u∧qS (.ref ad.NoThing) u:=⟨_,c.m_NoThing,rfl⟩
structure Tb (P:Program) (w:World) (K:Frag) (mg:Str→Option Ac):Prop where
 SIGNS:∃ a,mg "SIGNS"=some (.ref a)∧∀ H:Hp,SqT K H a (Tre.signs.map V.str)
 FORMS:KTabT P w K mg "FORMS" Tre.forms
 HEADS:KTabT P w K mg "HEADS" Tre.heads
 MEMBERS:KTabS P w K mg "MEMBERS" Tre.members
def spD (K:Frag) (f:Aa→Bool):Sp:=fun vs H Q _=>∃ x d,vs=[x]∧Rep K H x d∧Tre.fit d=true∧∀ H',qu H H'→Q (.bl (f d)) H'
theorem qj {H:Hp} {p:Ae} (h:H p=none) (o:HO):qu H (upd H p o):=fun b u q=>by rw [qG (qK q h)];exact q
theorem qke (c:Nat):(!decide (([c]:List Nat)<[97]))=decide (97≤c):=by
 rw [Cf];simp [List.cons_lt_cons_iff]
theorem le_z (c:Nat):(!decide (([122]:List Nat)<[c]))=decide (c≤122):=by
 rw [Cf];simp [List.cons_lt_cons_iff]
theorem qfs {n:Nat} (h:n≤1000000):n≤Ag:=Ar h O0
section
variable {P:Program} {w:World} {K:Frag} {mg:Str→Option Ac} {base:Heap} {f:Ae} {fd:FuncData} {ad:Ad}
theorem Zz (F:Fun K "is_name" "is_name" v5 f fd) (c:Cs K mg ad):FnOk P w K mg base CX0 1 f fd ["thing"] (spD K Tre.zn):=by
 refine F.ok Zm (fun vs H Q E h=>?_) (fun cdv A outer s H vs Q E hr h=>?_)
 ·obtain ⟨x,d,rfl,_⟩:=h;rfl
 obtain ⟨x,d,rfl,hk,ft,q⟩:=h;refine ⟨_,(qh (qJ (PW.pt (JT (ju (zS (qE (vT (K:=K) rfl) (by rfl) c.isinstance_ ze (qd (pv 0) (qd (VJ c.str_ WW) qf))))) (Jq (ju (qc3 wv wv qi (qE (zB (K:=K) rfl) (by rfl) c.len_ zj (qd (pv 0) qf)) (vK c.MOST_LETTERS)))))) (ql (qx jI)) qB)
   (ql (qx (qE (QP (K:=K) rfl rfl) (by rfl) c.all_ YI (qd (jU (sc:=qp v5) (NX:=["thing"]) (N:=["letter"]) (js:=[none]) (Ya (K:=K) rfl (pv 0)) (fun _ _ _ _ _=>(zK (i:=0) (show (["letter"]:List Str).Nodup from ∅) rfl (Or.inl rfl))) (fun _ _ _ _ _=>Jr) (fun _ _ _ _ _=>(Wx v9 v9 qg (pv 0) qg)) (zU rfl) ⟨∅,rfl,∅,∅,rfl,∅⟩) qf))))),?_⟩
 refine ⟨_,rfl,x,d,"str",rfl,hk,O0,?_⟩;cases hk with
 | str x=>
  refine ⟨_,rfl,wL ?_⟩;have hx:x.length≤Ag:=qfs (by simpa [Tre.fit] using ft)
  refine ⟨_,rfl,_,_,rfl,⟨hx,rfl⟩,_,_,rfl,rfl,_,rfl,?_⟩;have hl:x.length=x.cps.toList.length:=by simp [Str.length]
  refine VC (fun c1=>?_) (fun c1=>?_)
  ·have c1':(1:Int)≤(x.length:Int):=Bb c1;refine ⟨_,_,rfl,rfl,_,rfl,?_⟩;refine VC (fun c2=>?_) (fun c2=>?_)
   ·have c2':¬ ((x.length:Int)≤8):=by simpa using c2
    have e:Tre.zn (.str x)=false:=by
     simp only [Tre.zn,Tre.qP];rw [Ap (show ¬ x.length≤8 from ⋯)];simp
    have q':=q H (qu.refl _);rw [e] at q';exact q'
   ·have c2':(x.length:Int)≤8:=by simpa using c2
    have hsz:x.cps.size=x.cps.toList.length:=by simp
    refine ⟨_,rfl,.inr (.inr ⟨x,rfl,jr x.cps.size (fun i ys H'=>H'=H∧ys=(x.cps.toList.take i).map fun c=>V.bl (decide (97≤c)&&decide (c≤122))) ⟨rfl,rfl⟩ (fun i ys H' h=>?_) (by rw [hsz,← hl];exact hx) (fun i ys H' hi h=>?_) (fun ys H' h=>?_)⟩)⟩
    ·obtain ⟨_,rfl⟩:=h;rw [Aj];exact Ce _ _
    ·obtain ⟨rfl,rfl⟩:=h;refine ⟨hi,fun v H2 hy=>?_⟩;obtain ⟨rfl,cc,hcc,rfl⟩:=hy;have step:(x.cps.toList.take (i+1)).map (fun c=>V.bl (decide (97≤c)&&decide (c≤122)))=(x.cps.toList.take i).map (fun c=>V.bl (decide (97≤c)&&decide (c≤122)))++[V.bl (decide (97≤cc)&&decide (cc≤122))]:=by
      have hcc':x.cps.toList[i]?=some cc:=by simpa using hcc
      rw [Cg,hcc',A5];rfl
     refine ⟨_,rfl,_,_,rfl,rfl,_,rfl,?_⟩
     by_cases ha:97≤cc
     ·refine zE ((qke cc).trans (Ao ha)) ⟨_,_,rfl,rfl,rfl,?_⟩;rw [step,Ao ha,Bu];exact congrArg (fun b=>_++[V.bl b]) (le_z cc)
     ·refine zF ((qke cc).trans (Ap ha)) ⟨rfl,?_⟩;rw [step,Ap ha,B1]
    ·obtain ⟨rfl,rfl⟩:=h;refine ⟨Aw _,fun D hD=>⟨D,x.cps.toList.map fun c=>decide (97≤c)&&decide (c≤122),rfl,SqL.of (by rw [upd_same,hsz,Cu,Ck];rfl),?_⟩⟩
     have e:Tre.zn (.str x)=(x.cps.toList.map fun c=>decide (97≤c)&&decide (c≤122)).all id:=by
      simp only [Tre.zn,Tre.qP];rw [Ao (show 1≤x.length from ⋯),Ao (show x.length≤8 from ⋯),Dy];rfl
     rw [← e];exact q _ (qj hD _)
  ·have c1':¬ (1:Int)≤(x.length:Int):=of_decide_eq_false (Bs.mpr c1);refine ⟨_,rfl,J0 ?_⟩;have e:Tre.zn (.str x)=false:=by
    simp only [Tre.zn,Tre.qP];rw [Ap (show ¬ 1≤x.length from ⋯)];simp
   have q':=q H (qu.refl _);rw [e] at q';exact q'
 | _=>exact ⟨_,rfl,J0 (J0 (q H (qu.refl _)))⟩
theorem Yl (F:Fun K "is_number" "is_number" vF f fd) (c:Cs K mg ad):FnOk P w K mg base CX0 1 f fd ["thing"] (spD K Tre.jo):=by
 refine F.ok yV (fun vs H Q E h=>?_) (fun cdv A outer s H vs Q E hr h=>?_)
 ·obtain ⟨x,d,rfl,_⟩:=h;rfl
 obtain ⟨x,d,rfl,hk,ft,q⟩:=h;refine ⟨_,(qh (qJ (PW.pt (JT (ju (zS (qE (vT (K:=K) rfl) (by rfl) c.isinstance_ ze (qd (pv 0) (qd (VJ c.int_ Z1) qf))))) (Jq (zS (qE (vT (K:=K) rfl) (by rfl) c.isinstance_ ze (qd (pv 0) (qd (VJ c.bool_ qgd) qf))))))) (ql (qx jI)) qB)
   (ql (qx (Wx wv wv (Ww Vp (vK c.GREATEST_NUMBER)) (pv 0) (vK c.GREATEST_NUMBER))))),?_⟩
 have q0:=q H (qu.refl _);refine ⟨_,rfl,x,d,"int",rfl,hk,O0,?_⟩;have hk2:=hk;cases hk with
 | bl b=>exact ⟨_,rfl,_,rfl,_,_,"bool",rfl,hk2,O0,_,rfl,q0⟩
 | int i=>
  refine ⟨_,rfl,_,rfl,_,_,"bool",rfl,hk2,O0,_,rfl,?_⟩;refine ⟨_,rfl,_,rfl,_,_,rfl,rfl,_,rfl,?_⟩
  by_cases h:(-1000000000000:Int)≤i
  ·refine zE (Ao h) ⟨_,_,rfl,rfl,?_⟩;simp only [Tre.jo,Tre.Ja,Ao h,Bu] at q0;exact q0
  ·refine zF (Ap h) ?_;simp only [Tre.jo,Tre.Ja,Ap h,B1] at q0;exact q0
 | _=>exact ⟨_,rfl,q0⟩
def qcf (K:Frag):Sp:=fun vs H Q _=>∃ x d m,vs=[x,.int (m:Nat)]∧Rep K H x d∧Q (.bl (Tre.JG d m)) H
theorem qak (F:Fun K "is_row" "is_row" Wp f fd) (c:Cs K mg ad):FnOk P w K mg base CX0 1 f fd ["thing","most"] (qcf K):=by
 refine F.ok qac (fun vs H Q E h=>?_) (fun cdv A outer s H vs Q E hr h=>?_)
 ·obtain ⟨x,d,m,rfl,_⟩:=h;rfl
 obtain ⟨x,d,m,rfl,hk,q⟩:=h;refine ⟨_,(ql (qx (Vx (qE (vT (K:=K) rfl) (by rfl) c.isinstance_ ze (qd (pv 0) (qd (VJ c.tuple_ zV) qf))) (JP (jb wv (qE (zB (K:=K) rfl) (by rfl) c.len_ zj (qd (pv 0) qf)) (pv 1) (qD _)))))),?_⟩
 refine ⟨_,rfl,x,d,"tuple",rfl,hk,O0,?_⟩;cases hk with
 | @tup a xs ds hq hs=>
  refine ⟨_,rfl,?_⟩;refine J0 ⟨_,rfl,_,_,rfl,.inr ⟨_,hq,rfl⟩,_,rfl,_,_,rfl,rfl,?_⟩;have e:Tre.JG (.tuple ds) m=decide (((xs.length:Nat):Int)≤(m:Int)):=by
   simp only [Tre.JG];rw [hs.length];exact decide_eq_decide.mpr ⋯
  rw [e] at q;exact q
 | _=>exact ⟨_,rfl,wL q⟩
theorem qa2 {a:Ae} {js:List (Option Nat)} {k:Nat} {te:TE} {σ:St} {H:Hp} {Q:VK} {xs:List V} {ds:List Aa} (hq:SqT K H a xs) (hr:Reps K H xs ds) (fv:Aa→V) (hz:ds.length≤Ag)
  (step:∀ (x:V) (d:Aa) (H':Hp) (R:VK),qu H H'→d∈ds→Rep K H' x d→(∀ H5,qu H' H5→R (fv d) H5)→te ((jC js σ).set k (some x)) H' R)
  (fin:∀ (H':Hp) (D:Ae),qu H H'→H' D=none→Q (.ref D) (upd H' D (.lst (ds.map fv)))):QS (Itt K a) js (zD k) qbx te σ H Q:=by
 have hlen:=hr.length;refine jr ds.length (fun i ys H'=>qu H H'∧ys=(ds.take i).map fv) ⟨qu.refl _,rfl⟩ (fun i ys H' h=>?_) hz (fun i ys H' hi h=>?_) (fun ys H' h=>?_)
 ·rw [h.2,Aj];exact Ce _ _
 ·obtain ⟨g,rfl⟩:=h;have hx:xs[i]?=some xs[i]:=Bl ⋯;refine ⟨⟨xs,xs[i],g.sqT hq,hx⟩,fun v H2 hy=>?_⟩;obtain ⟨rfl,hv⟩:=hy;have e:=(hx.symm.trans (hv xs (g.sqT hq)));cases e;obtain ⟨d,hd,rd⟩:=hr.get hx;show te ((jC js σ).set k (some xs[i])) H2 (fun y H5=>qu H H5∧(ds.take i).map fv++[y]=(ds.take (i+1)).map fv);refine step _ d _ _ g (Br hd) (rd.same g) fun H5 g5=>⟨g.trans g5,?_⟩;rw [Cg,hd,A5];rfl
 ·obtain ⟨g,rfl⟩:=h;refine ⟨⟨xs,g.sqT hq,⋯⟩,fun D hD=>?_⟩;rw [Cu];exact fin H' D g hD
theorem qkf {c:Bool} {A B:Prop} (e:c=true) (h:A):if c=true then A else B:=zE e h
theorem yk {H:Hp}:∀ {xs:List V} {ds:List Aa},Reps K H xs ds→ds.all Tre.zn=true→xs=(ds.map Tre.txt).map V.str
 | _,_,.nil,_=>rfl
 | _,_,.cons h t,e=>by
  rw [B9,Al] at e;cases h with
  | str x=>rw [A4,A4,← yk t e.2];rfl
  | _=>exact absurd e.1 Ai
theorem Yn (F:Fun K "are_names" "are_names" JC f fd) (c:Cs K mg ad) (d_is_name:Def P w K mg base 1 "is_name" ["thing"] (spD K Tre.zn)) (d_is_row:Def P w K mg base 1 "is_row" ["thing","most"] (qcf K)):FnOk P w K mg base CX0 2 f fd ["thing"] (spD K Tre.areNames):=by
 refine F.ok yX (fun vs H Q E h=>?_) (fun cdv A outer s H vs Q E hr h=>?_)
 ·obtain ⟨x,d,rfl,_⟩:=h;rfl
 obtain ⟨x,d,rfl,hk,ft,q⟩:=h;refine ⟨_,(qh (qJ (PW.pt (JT (ju (zS (pdf d_is_row (qd (pv 0) (qd (vK c.MOST_NAMES) qf))))) (Jq (ju (zS (qE (QP (K:=K) rfl rfl) (by rfl) c.all_ YI (qd (jU (sc:=qp JC) (NX:=["thing"]) (N:=["one"]) (js:=[none]) (Ya (K:=K) rfl (pv 0)) (fun _ _ _ _ _=>(zK (i:=0) (show (["one"]:List Str).Nodup from ∅) rfl (Or.inl rfl))) (fun _ _ _ _ _=>Jr) (fun _ _ _ _ _=>(pdf d_is_name (qd (pv 0) qf))) (zU rfl) ⟨∅,rfl,∅,∅,rfl,∅⟩) qf))))))) (ql (qx jI)) qB)
   (ql (qx (jb qZ (qE qa9 (by rfl) c.len_ zj (qd (zo (qa8 (K:=K) rfl rfl) (by rfl) c.set_ qit (qd (pv 0) qf)) qf)) (qE (zB (K:=K) rfl) (by rfl) c.len_ zj (qd (pv 0) qf)) (qD _))))),?_⟩
 have hk2:=hk;refine ⟨_,rfl,_,_,4,rfl,hk2,_,rfl,?_⟩;cases hk with
 | @tup a xs ds hq hs=>
  by_cases h4:ds.length≤4
  ·refine zF (show (!Tre.JG (.tuple ds) 4)=false by simp [Tre.JG,h4]) ?_
   refine ⟨_,rfl,.inr (.inl ⟨a,rfl,⟨xs,hq⟩,qa2 hq hs (fun d=>V.bl (Tre.zn d)) (Ar h4 O0) (fun x d H' R g hd rd hR=>?_) (fun H' D g hD=>?_)⟩)⟩
   ·exact ⟨_,rfl,_,_,rfl,rd,Tre.Jx (by simpa [Tre.fit] using ft) d hd,fun H5 g5=>hR H5 g5⟩
   ·refine ⟨D,ds.map Tre.zn,rfl,SqL.of (by rw [upd_same,Ck];rfl),_,rfl,?_⟩
    have g2:qu H (upd H' D (.lst (ds.map fun d=>V.bl (Tre.zn d)))):=g.trans (qj hD _);have g3:=g2.sqT hq;generalize upd H' D (.lst (ds.map fun d=>V.bl (Tre.zn d)))=H2 at g2 g3 ⊢
    by_cases ha:ds.all Tre.zn=true
    ·refine zF (show (!((ds.map Tre.zn).all id))=false by rw [Dy];simpa using ha) ?_
     obtain rfl:=yk hs ha;have hl:(ds.map Tre.txt).length≤100:=by rw [Aj];omega
     refine ⟨_,rfl,a,ds.map Tre.txt,rfl,g3,hl,fun p hp=>⟨p,ds.map Tre.txt,rfl,upd_same,hl,_,rfl,_,_,rfl,.inr ⟨_,(qj hp _).sqT g3,rfl⟩,rfl,?_⟩⟩;have q':=q _ (g2.trans (qj hp (qe3 P w p (ds.map Tre.txt))));have e:Tre.areNames (.tuple ds)=decide (V.int (((vy (ds.map Tre.txt)).length:Nat):Int)=V.int ((((ds.map Tre.txt).map V.str).length:Nat):Int)):=by
      simp only [Tre.areNames,ha,Ao h4,Bu];rw [decide_eq_decide];refine (qbn _).symm.trans ⟨fun z=>by rw [z,Aj (f:=V.str)],fun z=>?_⟩
      have z':=V.int.inj z;rw [Aj (f:=V.str)] at z';omega
     rw [e] at q';exact q'
    ·refine zE (show (!((ds.map Tre.zn).all id))=true by rw [Dy];simpa using ha) ?_
     have q':=q _ g2;have e:Tre.areNames (.tuple ds)=false:=by simp [Tre.areNames,ha]
     rw [e] at q';exact q'
  ·refine qkf (show (!Tre.JG (.tuple ds) 4)=true by simp [Tre.JG,h4]) ?_
   have q':=q H (qu.refl _);have e:Tre.areNames (.tuple ds)=false:=by simp [Tre.areNames,h4]
   rw [e] at q';exact J0 q'
 | _=>exact J0 (J0 (q H (qu.refl _)))
def Qd (K:Frag):Sp:=fun vs H Q _=>∃ x d sh,vs=[x,.str sh]∧Rep K H x d∧Tre.fit d=true∧∀ H',qu H H'→Q (.bl (Tre.qq d sh)) H'
theorem qjf (a b:Str):decide (V.str a=V.str b)=(a==b):=by
 rw [Cf,Bj,A8];exact ⟨fun h=>V.str.inj h,fun h=>h▸rfl⟩
theorem Ym (F:Fun K "has_shape" "has_shape" vG f fd) (c:Cs K mg ad) (T:Tb P w K mg) (d_is_name:Def P w K mg base 1 "is_name" ["thing"] (spD K Tre.zn)) (d_is_number:Def P w K mg base 1 "is_number" ["thing"] (spD K Tre.jo)) (d_is_row:Def P w K mg base 1 "is_row" ["thing","most"] (qcf K)) (d_are_names:Def P w K mg base 2 "are_names" ["thing"] (spD K Tre.areNames)):FnOk P w K mg base CX0 3 f fd ["thing","shape"] (Qd K):=by
 refine F.ok yW (fun vs H Q E h=>?_) (fun cdv A outer s H vs Q E hr h=>?_)
 ·obtain ⟨x,d,sh,rfl,_⟩:=h;rfl
 obtain ⟨x,d,sh,rfl,hk,ft,q⟩:=h;refine ⟨_,(qh (qJ (qv qZ (pv 1) qg (qD _)) (ql (qx (pdf d_is_number (qd (pv 0) qf)))) qB)
   (qh (qJ (qv qZ (pv 1) qg (qD _)) (ql (qx (pdf d_is_name (qd (pv 0) qf)))) qB)
   (qh (qJ (qv qZ (pv 1) qg (qD _)) (ql (qx (Vx (pdf d_is_name (qd (pv 0) qf)) (JP (jb Xn (pv 0) qg (qD _)))))) qB)
   (qh (qJ (qv qZ (pv 1) qg (qD _)) (ql (qx (Vx (qE (vT (K:=K) rfl) (by rfl) c.isinstance_ ze (qd (pv 0) (qd (VJ c.str_ WW) qf))) (JP (jb (VR (K:=K) rfl) (pv 0) (wt T.SIGNS) rfl))))) qB)
   (qh (qJ (qv qZ (pv 1) qg (qD _)) (ql (qx (pdf d_are_names (qd (pv 0) qf)))) qB)
   (qh (qJ (qv qZ (pv 1) qg (qD _)) (ql (qx (pdf d_is_row (qd (pv 0) (qd (vK c.MOST_TERMS) qf))))) qB)
   (qh (qJ (qv qZ (pv 1) qg (qD _)) (ql (qx (pdf d_is_row (qd (pv 0) (qd (vK c.MOST_STATEMENTS) qf))))) qB)
   (ql (qx jI))))))))),?_⟩
 by_cases e0:sh="number"
 ·subst e0;simp only [Tre.j6] at q;refine ⟨_,rfl,rfl,_,rfl,zE (show decide _=true from Ao rfl) ?_⟩;exact ⟨_,rfl,_,_,rfl,hk,ft,fun H' g=>q H' g⟩
 refine ⟨_,rfl,rfl,_,rfl,zF (show decide _=false from Ap fun z=>e0 (V.str.inj z)) ?_⟩
 by_cases e1:sh="name"
 ·subst e1;simp only [Tre.jf] at q;refine ⟨_,rfl,rfl,_,rfl,zE (show decide _=true from Ao rfl) ?_⟩;exact ⟨_,rfl,_,_,rfl,hk,ft,fun H' g=>q H' g⟩
 refine ⟨_,rfl,rfl,_,rfl,zF (show decide _=false from Ap fun z=>e1 (V.str.inj z)) ?_⟩
 by_cases e2:sh="word"
 ·subst e2;simp only [Tre.J5] at q;refine ⟨_,rfl,rfl,_,rfl,zE (show decide _=true from Ao rfl) ?_⟩;refine ⟨_,rfl,_,_,rfl,hk,ft,fun H' g=>⟨_,rfl,?_⟩⟩;have q':=q H' g;cases hk with
  | str x=>
   by_cases hn:Tre.qP x=true
   ·refine zE hn ⟨_,rfl,rfl,?_⟩;simp only [hn,Bu] at q';show Q (.bl (!decide (V.str x=V.str "any"))) H';rw [qjf];exact q'
   ·have hn':=Bs.mpr hn;refine zF hn' ?_;simp only [hn',B1] at q';exact q'
  | _=>exact wL q'
 refine ⟨_,rfl,rfl,_,rfl,zF (show decide _=false from Ap fun z=>e2 (V.str.inj z)) ?_⟩
 by_cases e3:sh="sign"
 ·subst e3;simp only [Tre.J6] at q;refine ⟨_,rfl,rfl,_,rfl,zE (show decide _=true from Ao rfl) ?_⟩;have q':=q H (qu.refl _);refine ⟨_,rfl,_,_,"str",rfl,hk,O0,_,rfl,?_⟩;cases hk with
  | str x=>
   refine J0 ⟨_,rfl,fun a ha=>⟨a,_,rfl,.inr (ha H),rfl,rfl,?_⟩⟩;exact q'
  | _=>exact wL q'
 refine ⟨_,rfl,rfl,_,rfl,zF (show decide _=false from Ap fun z=>e3 (V.str.inj z)) ?_⟩
 by_cases e4:sh="names"
 ·subst e4;simp only [Tre.JA] at q;refine ⟨_,rfl,rfl,_,rfl,zE (show decide _=true from Ao rfl) ?_⟩;exact ⟨_,rfl,_,_,rfl,hk,ft,fun H' g=>q H' g⟩
 refine ⟨_,rfl,rfl,_,rfl,zF (show decide _=false from Ap fun z=>e4 (V.str.inj z)) ?_⟩
 by_cases e5:sh="terms"
 ·subst e5;simp only [Tre.jV] at q;refine ⟨_,rfl,rfl,_,rfl,zE (show decide _=true from Ao rfl) ?_⟩;exact ⟨_,rfl,_,_,4,rfl,hk,q H (qu.refl _)⟩
 refine ⟨_,rfl,rfl,_,rfl,zF (show decide _=false from Ap fun z=>e5 (V.str.inj z)) ?_⟩
 by_cases e6:sh="body"
 ·subst e6;simp only [Tre.Ji] at q;refine ⟨_,rfl,rfl,_,rfl,zE (show decide _=true from Ao rfl) ?_⟩;exact ⟨_,rfl,_,_,12,rfl,hk,q H (qu.refl _)⟩
 refine ⟨_,rfl,rfl,_,rfl,zF (show decide _=false from Ap fun z=>e6 (V.str.inj z)) ?_⟩;have q':=q H (qu.refl _);rw [Tre.Wj d (Bi.mpr e0) (Bi.mpr e1) (Bi.mpr e2) (Bi.mpr e3) (Bi.mpr e4) (Bi.mpr e5) (Bi.mpr e6)] at q';exact q'
theorem qgc (y:V) (ys:List V):zG (y::ys) (some 1) none=ys:=by
 unfold zG;have e:HT.sIx (y::ys).length 0 (some 1)=1:=by
  show HT.sIx (y::ys).length 0 (some ((1:Nat):Int))=1;rw [HT.sIx_nat];simp
 rw [e,HT.sIx_none];simp
theorem YG (y:V) (ys:List V):¬ (HT.sIx (y::ys).length 0 (some 1)=0∧HT.sIx (y::ys).length (y::ys).length none=(y::ys).length):=by
 have e:HT.sIx (y::ys).length 0 (some 1)=1:=by
  show HT.sIx (y::ys).length 0 (some ((1:Nat):Int))=1;rw [HT.sIx_nat];simp
 rw [e];omega
theorem zX (l:List Str):(l.map V.str).all VT=true:=by
 rw [Dy];exact A6.mpr fun _ _=>rfl
theorem wY (h:Str) (l:List Str):inV (.str h) (l.map V.str)=l.any fun y=>y==h:=by
 unfold inV;rw [List.any_map];rfl
theorem qa1 {a b:Ae} {js:List (Option Nat)} {te:TE} {σ:St} {H:Hp} {Q:VK} {xs:List V} {ds:List Aa} {fs:List Str} (hq:SqT K H a xs) (hr:Reps K H xs ds) (hq2:SqT K H b (fs.map V.str)) (hl:ds.length=fs.length) (hz:ds.length≤Ag) (fv:Aa→Str→V)
  (step:∀ (x:V) (d:Aa) (sh:Str) (H':Hp) (R:VK),qu H H'→(d,sh)∈ds.zip fs→Rep K H' x d→(∀ H5,qu H' H5→R (fv d sh) H5)→te (((jC js σ).set 0 (some x)).set 1 (some (.str sh))) H' R)
  (fin:∀ (H':Hp) (D:Ae),qu H H'→H' D=none→Q (.ref D) (upd H' D (.lst ((ds.zip fs).map fun p=>fv p.1 p.2)))):QS (Itz K a b) js (qf3 K 2 (XM (zD 0) (XM (zD 1) qim))) qbx te σ H Q:=by
 have hlen:=hr.length;have hzip:(ds.zip fs).length=ds.length:=by rw [Ek];omega
 refine jr ds.length (fun i ys H'=>qu H H'∧ys=((ds.zip fs).take i).map fun p=>fv p.1 p.2) ⟨qu.refl _,rfl⟩ (fun i ys H' h=>?_) hz (fun i ys H' hi h=>?_) (fun ys H' h=>?_)
 ·rw [h.2,Aj];exact Ce _ _
 ·obtain ⟨g,rfl⟩:=h;have hx:xs[i]?=some xs[i]:=Bl ⋯;have hf:fs[i]?=some fs[i]:=Bl ⋯;have hy:(fs.map V.str)[i]?=some (.str fs[i]):=by rw [Bt,hf];rfl
  refine ⟨⟨xs,_,_,_,g.sqT hq,g.sqT hq2,hx,hy⟩,fun v H2 yl=>?_⟩;obtain ⟨p,x,y,hp,rfl,e1,e2,rfl⟩:=yl;have e3:=hx.symm.trans (e1 xs (g.sqT hq));cases e3;have e4:=hy.symm.trans (e2 _ (g.sqT hq2));cases e4;obtain ⟨d,hd,rd⟩:=hr.get hx;have g2:=g.trans (qj hp (.tup [xs[i],.str fs[i]]));have hm:(ds.zip fs)[i]?=some (d,fs[i]):=Ef.mpr ⟨hd,hf⟩;refine ⟨p,_,rfl,SqT.of upd_same,rfl,_,_,rfl,_,_,rfl,rfl,?_⟩;show te (((jC js σ).set 0 (some xs[i])).set 1 (some (.str fs[i]))) _ (fun z H5=>qu H H5∧((ds.zip fs).take i).map (fun p=>fv p.1 p.2)++[z]=((ds.zip fs).take (i+1)).map fun p=>fv p.1 p.2);refine step _ d _ _ _ g2 (Br hm) (rd.same g2) fun H5 g5=>⟨g2.trans g5,?_⟩;rw [Cg,hm,A5];rfl
 ·obtain ⟨g,rfl⟩:=h;refine ⟨⟨xs,_,g.sqT hq,g.sqT hq2,.inl ⋯⟩,fun D hD=>?_⟩;rw [← hzip,Cu];exact fin H' D g hD
def qcl (K:Frag):Sp:=fun vs H Q _=>∃ x d sh hands,vs=[x,.str sh,.bl hands]∧Rep K H x d∧Tre.fit d=true∧(Tre.heads.lookup sh).isSome=true∧∀ H',qu H H'→Q (.bl (Tre.zm d sh hands)) H'
theorem Xs (F:Fun K "has_form" "has_form" ve f fd) (c:Cs K mg ad) (T:Tb P w K mg) (d_has_shape:Def P w K mg base 3 "has_shape" ["thing","shape"] (Qd K)):FnOk P w K mg base CX0 4 f fd ["thing","shape","hands"] (qcl K):=by
 refine F.ok vB (fun vs H Q E h=>?_) (fun cdv A outer s H vs Q E hr h=>?_)
 ·obtain ⟨x,d,sh,hands,rfl,_⟩:=h;rfl
 obtain ⟨x,d,sh,hands,rfl,hk,ft,hsh,q⟩:=h;refine ⟨_,(qh (qJ (PW.pt (JT (ju (zS (qE (vT (K:=K) rfl) (by rfl) c.isinstance_ ze (qd (pv 0) (qd (VJ c.tuple_ zV) qf))))) (JT (qv qZ (qE (zB (K:=K) rfl) (by rfl) c.len_ zj (qd (pv 0) qf)) qi (qD _)) (Jq (ju (zS (qE (vT (K:=K) rfl) (by rfl) c.isinstance_ ze (qd (pix K (pv 0) qi) (qd (VJ c.str_ WW) qf))))))))) (ql (qx jI)) qB)
   (qh (pst 3 vB.nd (pix K (pv 0) qi))
   (qh (qJ (qv (qdi (K:=K) rfl) (pv 3) (vg (K:=K) rfl T.HEADS (pv 1) (fun _ _=>rfl)) rfl) (ql (qx jI)) qB)
   (qh (qJ (PW.pt (vJ (qv qZ (pv 3) qg (qD _)) (JD (ju (zS (pv 2)))))) (ql (qx jI)) qB)
   (qh (pst 4 vB.nd (vg (K:=K) rfl T.FORMS (pv 3) (fun _ _=>rfl)))
   (qh (qJ (qv Xn (qE (zB (K:=K) rfl) (by rfl) c.len_ zj (qd (pv 0) qf)) (qo qA (qE (zB (K:=K) rfl) (by rfl) c.len_ zj (qd (pv 4) qf)) qi) (qD _)) (ql (qx jI)) qB)
   (ql (qx (qE (QP (K:=K) rfl rfl) (by rfl) c.all_ YI (qd (jU (sc:=qp ve) (NX:=["thing","shape","hands","head","shapes"]) (N:=["one","wanted"]) (js:=[none,none]) (qc9 (K:=K) rfl c.zip_ (qd (qU (jP (K:=K) rfl) (pv 0) (qY qi) zk) (qd (pv 4) qf))) (fun _ _ _ _ _=>(Qp (K:=K) (n:=2) rfl rfl (jH (zK (i:=0) (show (["one","wanted"]:List Str).Nodup from ∅) rfl (Or.inl rfl)) (jH (zK (i:=1) (show (["one","wanted"]:List Str).Nodup from ∅) rfl (Or.inl rfl)) wW)))) (fun _ _ _ _ _=>Jr) (fun _ _ _ _ _=>(pdf d_has_shape (qd (pv 0) (qd (pv 1) qf)))) (Qv rfl rfl) ⟨∅,rfl,∅,∅,rfl,∅⟩) qf)))))))))),?_⟩
 have q0:=q H (qu.refl _);have hk2:=hk;refine ⟨_,rfl,_,_,"tuple",rfl,hk2,O0,_,rfl,?_⟩;cases hk with
 | @tup a xs ds hq hs=>
  refine wL ⟨_,rfl,_,_,rfl,.inr ⟨_,hq,rfl⟩,rfl,_,rfl,?_⟩;cases hs with
  | nil=>exact J0 (J0 q0)
  | @cons y ys e es r rs=>
   refine zF (show decide _=false from Ap fun z=>by have:=V.int.inj z;rw [Ak] at this;omega) ?_
   have hy:atI (y::ys) 0=some y:=qw (j:=0) rfl;refine ⟨_,rfl,.inr (.inl ⟨_,_,0,_,rfl,rfl,hq,hy,_,_,"str",rfl,r,O0,_,rfl,?_⟩)⟩;cases r with
   | str h=>
    refine wL ?_;refine ⟨_,rfl,.inr (.inl ⟨_,_,0,_,rfl,rfl,hq,hy,?_⟩)⟩;obtain ⟨l,hl⟩:=Bw.mp hsh;refine ⟨_,rfl,_,rfl,sh,l,rfl,hl,fun a2 ha2=>⟨a2,_,rfl,.inr (ha2 H),rfl,zX l,_,rfl,?_⟩⟩;have hin:(((Tre.heads.lookup sh).getD []).any fun y=>y==h)=l.any fun y=>y==h:=by rw [hl];rfl
    have q1:=q0;simp only [Tre.zm,hin] at q1
    by_cases hm:(l.any fun y=>y==h)=true
    ·refine zF (show (!inV (.str h) (l.map V.str))=false by rw [wY,hm];rfl) ?_
     rw [hm,Bu] at q1;obtain ⟨_,_,_,fs,hfs,hf5⟩:=Tre.yw (hin.trans hm);refine ⟨_,rfl,rfl,_,rfl,?_⟩
     by_cases hb:(h=="hand"&&!hands)=true
     ·rw [Al,A8] at hb;obtain ⟨rfl,hb⟩:=hb;refine zE (show decide _=true from Ao rfl) ⟨_,rfl,_,rfl,zE hb ?_⟩;rw [hb] at q1;exact q1
     ·have hb':=Bs.mpr hb;have q2:∀ H',qu H H'→Q (.bl (Tre.zH es fs)) H':=fun H' g=>by
       have:=q H' g;simp only [Tre.zm,hin,hm,hb',hfs,Bu,E8,Option.getD_some] at this;exact this
      refine VC (fun c1=>⟨_,rfl,_,rfl,zF ?hd ?g1⟩) (fun _=>wL ?g2)
      case hd=>
       have c1':h="hand":=V.str.inj (Bb c1);rw [c1'] at hb';simpa using hb'
      all_goals
       refine ⟨_,rfl,h,fs,rfl,hfs,fun a3 ha3=>?_⟩;refine ⟨_,rfl,_,_,rfl,.inr ⟨_,hq,rfl⟩,_,rfl,_,_,rfl,.inr ⟨_,ha3 H,rfl⟩,.inl ⟨_,_,rfl,rfl,rfl,_,rfl,?_⟩⟩;have hys:=rs.length
       by_cases hlen:es.length=fs.length
       ·refine zF (show (!decide _)=false by
         rw [Bool.not_eq_false',Bj,Aj,Ak,hys,hlen];rfl) ?_
        refine ⟨_,rfl,_,rfl,.inr (.inr ⟨a,_,rfl,hq,YG _ _,fun p hp=>?_⟩)⟩;rw [qgc];have g1:=qj hp (.tup ys);refine ⟨_,rfl,p,a3,rfl,⟨ys,SqT.of upd_same⟩,⟨_,ha3 _⟩,qa1 (SqT.of upd_same) (rs.same g1) (ha3 _) hlen (Ar ⋯ (show 5≤Ag from O0)) (fun d sh=>V.bl (Tre.qq d sh)) (fun x d sh H' R g hd rd hR=>?_) (fun H' D g hD=>?_)⟩
        ·have ft':Tre.fit d=true:=by
          rw [Tre.fit,Tre.zr,Al] at ft;exact Tre.Jx ft.2 d (Cz hd).1
         exact ⟨_,rfl,_,rfl,_,_,_,rfl,rd,ft',fun H5 g5=>hR H5 g5⟩
        ·have q3:=q2 _ ((g1.trans g).trans (qj hD (.lst ((es.zip fs).map fun p=>V.bl (Tre.qq p.1 p.2)))));refine ⟨D,(es.zip fs).map fun p=>Tre.qq p.1 p.2,rfl,SqL.of (by rw [upd_same,Ck];rfl),?_⟩
         have e3:Tre.zH es fs=((es.zip fs).map fun p=>Tre.qq p.1 p.2).all id:=by
          unfold Tre.zH;rw [Ao hlen,Bu,Dy];rfl
         rw [e3] at q3;exact q3
       ·refine zE (show (!decide _)=true by
         rw [Bool.not_eq_true',decide_eq_false_iff_not,Aj,Ak,hys];intro z;have:=V.int.inj z;omega) ?_
        have q3:=q2 H (qu.refl _);unfold Tre.zH at q3;rw [Ap hlen,B1] at q3;exact q3
    ·have hm':=Bs.mpr hm;refine zE (show (!inV (.str h) (l.map V.str))=true by rw [wY,hm'];rfl) ?_
     rw [hm',B1,B1] at q1;exact q1
   | _=>exact J0 q0
 | _=>exact J0 (J0 q0)
end
abbrev Lp (J:It) (g:TG) (tb:TS) (D:Ends) (σ:St) (H:Hp):Prop:=
 ∃ W:Nat→Nat→St→Hp→Prop,(∃ m,W 0 m σ H)∧∀ i m σ H,W i m σ H→
  (J.stop i H∧D.nx σ H)∨(J.go i H∧∃ N:St→Hp→Prop,(∀ σ' H',N σ' H'→∃ m',m'<m∧W (i+1) m' σ' H')∧∀ x H',J.yld i H x H'→g x σ H' fun σ2 H2=>tb {D with nx:=N,ct:=N,bk:=D.nx} σ2 H2)
theorem ZW {J:It} {g:TG} {tb:TS} {D:Ends} {σ:St} {H:Hp} (n:Nat) (Pv:Nat→St→Hp→Prop) (h0:Pv 0 σ H)
  (hs:∀ i σ H,i<n→Pv i σ H→J.go i H∧∀ x H',J.yld i H x H'→g x σ H' fun σ2 H2=>tb {D with nx:=Pv (i+1),ct:=Pv (i+1),bk:=D.nx} σ2 H2) (hd:∀ σ H,Pv n σ H→J.stop n H∧D.nx σ H):
  Lp J g tb D σ H:=by
 refine ⟨fun i m σ H=>m=n - i∧i≤n∧Pv i σ H,⟨n,by simp,B2 _,h0⟩,fun i m σ H h=>?_⟩
 obtain ⟨rfl,hi,p⟩:=h
 by_cases lt:i<n
 ·obtain ⟨a,b⟩:=hs i σ H lt p;exact .inr ⟨a,Pv (i+1),fun σ' H' p'=>⟨n - (i+1),⋯,rfl,lt,p'⟩,b⟩
 ·obtain rfl:i=n:=⋯;exact .inl (hd σ H p)
theorem WO {J:It} {g:TG} {tb:TS} {D:Ends} {σ:St} {H:Hp} (n:Nat) (Pv:Nat→St→Hp→Prop) (h0:Pv 0 σ H)
  (hs:∀ i σ H,i<n→Pv i σ H→J.go i H∧∀ x H',J.yld i H x H'→∀ D':Ends,(∀ σ H,Pv (i+1) σ H→D'.nx σ H)→(∀ v H,D.rt v H→D'.rt v H)→g x σ H' fun σ2 H2=>tb D' σ2 H2) (hd:∀ σ H,Pv n σ H→J.stop n H∧D.nx σ H):
  Lp J g tb D σ H:=
 ZW n Pv h0 (fun i σ H hi p=>⟨(hs i σ H hi p).1,fun x H' y=>(hs i σ H hi p).2 x H' y _ (fun _ _ h=>h) fun _ _ h=>h⟩) hd
theorem qin {K:Frag} {a:Ae} {ws:List V} {ds:List Aa} {H0:Hp} {k:Nat} {tb:TS} {D:Ends} {σ:St} {H:Hp} (rs:Reps K H0 ws ds) (Pv:Nat→St→Hp→Prop) (h0:Pv 0 σ H) (sq:∀ i σ H,Pv i σ H→SqT K H a ws)
  (hs:∀ i σ H v d,i<ds.length→ds[i]?=some d→Rep K H0 v d→Pv i σ H→∀ D':Ends,(∀ σ H,Pv (i+1) σ H→D'.nx σ H)→(∀ v H,D.rt v H→D'.rt v H)→tb D' (σ.set k (some v)) H) (hd:∀ σ H,Pv ds.length σ H→D.nx σ H):
  Lp (Itt K a) (zD k) tb D σ H:=by
 have hl:=rs.length;refine WO ds.length Pv h0 (fun i σ H hi p=>?_) fun σ H p=>⟨⟨ws,sq _ σ H p,⋯⟩,hd σ H p⟩;have hx:ws[i]?=some (ws[i]'⋯):=Bl ⋯;obtain ⟨d,he,rd⟩:=rs.get hx;refine ⟨⟨ws,_,sq i σ H p,hx⟩,fun v H' yl=>?_⟩;obtain ⟨rfl,hv⟩:=yl;have ev:=Bg (hx.symm.trans (hv ws (sq i σ H' p)));rw [← ev];exact hs i σ H' _ d hi he rd p
theorem qio {K:Frag} {a:Ae} {ws:List V} {ds:List Aa} {H0:Hp} {k:Nat} {tb:TS} {D:Ends} {σ:St} {H:Hp} (rs:Reps K H0 ws ds) (Pv:Nat→St→Hp→Prop) (h0:Pv 0 σ H) (sq:∀ i σ H,Pv i σ H→SqL K H a ws)
  (hs:∀ i σ H v d,i<ds.length→ds[i]?=some d→Rep K H0 v d→Pv i σ H→∀ D':Ends,(∀ σ H,Pv (i+1) σ H→D'.nx σ H)→(∀ v H,D.rt v H→D'.rt v H)→tb D' (σ.set k (some v)) H) (hd:∀ σ H,Pv ds.length σ H→D.nx σ H):
  Lp (Itl K a) (zD k) tb D σ H:=by
 have hl:=rs.length;refine WO ds.length Pv h0 (fun i σ H hi p=>?_) fun σ H p=>⟨⟨ws,sq _ σ H p,⋯⟩,hd σ H p⟩;have hx:ws[i]?=some (ws[i]'⋯):=Bl ⋯;obtain ⟨d,he,rd⟩:=rs.get hx;refine ⟨⟨ws,_,sq i σ H p,hx⟩,fun v H' yl=>?_⟩;obtain ⟨rfl,hv⟩:=yl;have ev:=Bg (hx.symm.trans (hv ws (sq i σ H' p)));rw [← ev];exact hs i σ H' _ d hi he rd p
abbrev Prs (K:Frag) (H0 H:Hp):List V→List (Aa×Str)→Prop:=Paired fun (y:V) (q:Aa×Str)=>∃ a x,y= .ref a∧H a=some (.tup [x,.str q.2])∧Rep K H0 x q.1
section
variable {P:Program} {w:World} {K:Frag} {mg:Str→Option Ac} {base:Heap} {f:Ae} {fd:FuncData} {ad:Ad}
theorem Prs.write {H0 H:Hp} {p:Ae} {zs:List V} {o:HO} {ys:List V} {l:List (Aa×Str)} (hp:H p=some (.lst zs)) (h:Prs K H0 H ys l):Prs K H0 (upd H p o) ys l:=
 L2.Paired.mapP h fun y q ⟨a,x,e,ha,r⟩=>⟨a,x,e,by rw [qG (yj ha hp (by intro z;cases z))];exact ha,r⟩
theorem Prs.same {H0 H H':Hp} {ys:List V} {l:List (Aa×Str)} (g:qu H H') (h:Prs K H0 H ys l):Prs K H0 H' ys l:=L2.Paired.mapP h fun _ _ ⟨a,x,e,ha,r⟩=>⟨a,x,e,g _ _ ha,r⟩
theorem Prs.append {H0 H:Hp}:∀ {ys zs:List V} {l m:List (Aa×Str)},Prs K H0 H ys l→Prs K H0 H zs m→Prs K H0 H (ys++zs) (l++m)
 | _,_,_,_,.nil,h=>h
 | _,_,_,_,.cons r t,h=> .cons r (Prs.append t h)
theorem jg {H H':Hp} {p:Ae} (g:qu H H') (h:H p=none) (o:HO):qu H (upd H' p o):=fun b u q=>by rw [qG (qK q h)];exact g b u q
def Qg (K:Frag):Sp:=fun vs H Q _=>∃ x d sh hands H0,vs=[x]∧qu H0 H∧Rep K H0 x d∧Tre.zm d sh hands=true∧∀ H' p zs,qu H H'→H p=none→H' p=some (.lst zs)→Prs K H0 H' zs (Tre.jd d)→Q (.ref p) H'
theorem qdm {sh:Str} (h:(sh=="terms"||sh=="body")=true):Tre.members.lookup sh=some ((Tre.members.lookup sh).getD ""):=by
 rw [Cb,A8,A8] at h;rcases h with rfl | rfl <;> decide+kernel
theorem Yx (sh a b:Str):inV (.str sh) [.str a,.str b]=(sh==a||sh==b):=by
 rw [show ([.str a,.str b]:List V)=[a,b].map V.str from rfl,wY];simp only [Ew,List.any_nil,Bool.or_false,Bool.beq_comm]
theorem qhl {sh:Str} {d:Aa} (h:(sh=="terms"||sh=="body")=true) (hs:Tre.qq d sh=true):∃ ds,d= .tuple ds∧ds.length≤12:=by
 have row:∀ m,m≤12→Tre.JG d m=true→∃ ds,d= .tuple ds∧ds.length≤12:=fun m hm h=>by
  cases d with
  | tuple ds=>exact ⟨ds,rfl,Ar (Bb h) hm⟩
  | _=>cases h
 rw [Cb,A8,A8] at h;rcases h with rfl | rfl
 ·rw [Tre.jV] at hs;exact row 4 O0 hs
 ·rw [Tre.Ji] at hs;exact row 12 O0 hs
theorem _root_.L2.Rep.tup_inv {H:Hp} {x:V} {ds:List Aa} (h:Rep K H x (.tuple ds)):∃ a xs,x= .ref a∧SqT K H a xs∧Reps K H xs ds:=by
 cases h with
 | tup hq hs=>exact ⟨_,_,rfl,hq,hs⟩
theorem vN (F:Fun K "inner_with_shapes" "inner_with_shapes" zN f fd) (c:Cs K mg ad) (T:Tb P w K mg):FnOk P w K mg base CX0 1 f fd ["part"] (Qg K):=by
 refine F.ok zI (fun vs H Q E h=>?_) (fun cdv A outer s H vs Q E hr h=>?_)
 ·obtain ⟨x,d,sh,hands,H0,rfl,_⟩:=h;rfl
 obtain ⟨x,d,sh,hands,H0,rfl,gH,hk,hf,q⟩:=h;obtain ⟨hd,es,fs,_,rfl,_,_,hfs,hf5,hlen,hsh,_⟩:=Tre.zq hf;refine ⟨_,(qh (pst 1 zI.nd (qH qf))
   (qh (Vv Dh rfl (qc9 (K:=K) rfl c.zip_ (qd (qU (jP (K:=K) rfl) (pv 0) (qY qi) zk) (qd (vg (K:=K) rfl T.FORMS (pix K (pv 0) qi) (fun _ _=>rfl)) qf))) (Qp (K:=K) (n:=2) rfl rfl (jH (pgn 2 zI.nd) (jH (pgn 3 zI.nd) wW))) (ql (qJ (qv qZ (pv 3) qg (qD _)) (ql (jk (vx (K:=K) rfl B7 Cr Ct jz (pv 1) (qd (qr (qd (pv 2) (qd (pv 3) qf))) qf)))) (ql (qJ (qv (VR (K:=K) rfl) (pv 3) (qr (qd qg (qd qg qf))) rfl) (ql (jk (vx (K:=K) rfl B7 PySem.F.slot_list_extend PySem.F.type_list_extend yn (pv 1) (qd (jU (sc:=qp zN) (NX:=["part","found","thing","shape"]) (N:=["one","shape"]) (js:=[none,some 3]) (Ya (K:=K) rfl (pv 2)) (fun _ _ _ _ _=>(zK (i:=0) (show (["one","shape"]:List Str).Nodup from ∅) rfl (Or.inl rfl))) (fun _ _ _ _ _=>Jr) (fun _ _ _ _ _=>(qr (qd (pv 0) (qd (Yb T.MEMBERS (pv 1) (fun _ _=>rfl)) qf)))) (zU rfl) ⟨∅,rfl,∅,∅,rfl,∅⟩) qf)))) qB)))))
   (ql (qx (pv 1))))),?_⟩
 cases hk with
 | @tup a xs ds hq hs=>
  cases hs with
  | @cons y ys e es' r rs=>
   cases r;have hys:=rs.length;refine ⟨(O0:0≤Ag),fun p0 hp0=>?_⟩;have g0:=qj hp0 (.lst []);refine ⟨_,rfl,_,rfl,.inr (.inr ⟨a,_,rfl,(gH.trans g0).sqT hq,YG _ _,fun p1 hp1=>?_⟩)⟩;rw [qgc];have g1:=g0.trans (qj hp1 (.tup ys));have n01:p0≠p1:=qK upd_same hp1;refine ⟨_,rfl,.inr (.inl ⟨_,_,0,_,rfl,rfl,(gH.trans g1).sqT hq,qw (j:=0) rfl,hd,fs,rfl,hfs,fun a3 ha3=>⟨p1,a3,rfl,⟨ys,SqT.of upd_same⟩,⟨_,ha3 _⟩,?_⟩⟩)⟩;refine WO es.length (fun i σ H'=>∃ o2 o3 zs,σ=[some (.ref a),some (.ref p0),o2,o3]∧qu H H'∧H' p1=some (.tup ys)∧H' p0=some (.lst zs)∧Prs K H0 H' zs (((es.zip fs).take i).flatMap fun p=>Tre.qt p.1 p.2)∧zs.length≤12*i) ?_ (fun i σ H2 hi h=>?_) (fun σ H2 h=>?_)
   ·exact ⟨none,none,[],rfl,g1,upd_same,by rw [qG n01];exact upd_same,.nil,Aw _⟩
   ·obtain ⟨o2,o3,zs,rfl,g2,h1,h0,pr,hz⟩:=h;obtain ⟨yi,hx⟩:=Jw (l:=ys) (i:=i) ⋯;obtain ⟨sh1,hfi⟩:=Jw (l:=fs) (i:=i) ⋯;have hy:(fs.map V.str)[i]?=some (.str sh1):=by rw [Bt,hfi];rfl
    refine ⟨⟨ys,_,_,_,SqT.of h1,ha3 _,hx,hy⟩,fun v H3 yl D' hn _=>?_⟩;obtain ⟨q1,xx,yy,hq1,rfl,e1,e2,rfl⟩:=yl;have e3:=hx.symm.trans (e1 ys (SqT.of h1));cases e3;have e4:=hy.symm.trans (e2 _ (ha3 _));cases e4;obtain ⟨d,hd',rd⟩:=rs.get hx;have hm:(es.zip fs)[i]?=some (d,sh1):=Ef.mpr ⟨hd',hfi⟩;have hshape:Tre.qq d sh1=true:=hsh _ (Br hm);have step:((es.zip fs).take (i+1)).flatMap (fun p=>Tre.qt p.1 p.2)=((es.zip fs).take i).flatMap (fun p=>Tre.qt p.1 p.2)++Tre.qt d sh1:=by
     rw [Cg,hm,List.flatMap_append];simp
    have g3:=qj hq1 (.tup [yi,.str sh1]);refine ⟨q1,_,rfl,SqT.of upd_same,rfl,_,_,rfl,_,_,rfl,rfl,?_⟩;have h0':=g3 _ _ h0;have h1':=g3 _ _ h1;have pr':=pr.same g3;have g2':=g2.trans g3;generalize upd H2 q1 (.tup [yi,.str sh1])=H3 at h0' h1' pr' g2' ⊢;refine ⟨_,rfl,rfl,_,rfl,?_⟩
    by_cases ht:sh1="term"
    ·refine zE (show decide _=true from Ao (congrArg V.str ht)) ?_;refine ⟨_,rfl,.inl ⟨rfl,zs,SqL.of h0'⟩,_,rfl,_,rfl,(O0:2≤Ag),fun q2 hq2=>?_⟩;have g4:=qj hq2 (.tup [yi,.str sh1]);refine ⟨p0,zs,_,rfl,rfl,g4 _ _ h0',Cq (show zs.length≤100 from ⋯) O0,?_⟩;have e5:Tre.qt d sh1=[(d,sh1)]:=by unfold Tre.qt;rw [if_pos (A8.mpr ht)]
     refine hn _ _ ⟨_,_,zs++[.ref q2],rfl,jg (g2'.trans g4) hp0 _,?_,upd_same,?_,?_⟩
     ·rw [qG (Ne.symm n01)];exact g4 _ _ h1'
     ·rw [step,e5];refine Prs.append (Prs.write (g4 _ _ h0') (pr'.same g4)) (.cons ⟨q2,yi,rfl,?_,rd⟩ .nil);rw [qG (Ne.symm (qK h0' hq2))];exact upd_same
     ·rw [Am,Dn];omega
    ·refine zF (show decide _=false from Ap fun z=>ht (V.str.inj z)) ?_;refine ⟨_,rfl,(O0:2≤Ag),fun q2 hq2=>⟨q2,_,rfl,.inr (SqT.of upd_same),rfl,rfl,_,rfl,?_⟩⟩;have g4:=qj hq2 (.tup [.str "terms",.str "body"]);have h0'':=g4 _ _ h0';have h1'':=g4 _ _ h1';have pr'':=pr'.same g4;have g2'':=g2'.trans g4;generalize upd H3 q2 (.tup [.str "terms",.str "body"])=H4 at h0'' h1'' pr'' g2'' ⊢;have ht':(sh1=="term")=false:=Bi.mpr ht
     by_cases hb:(sh1=="terms"||sh1=="body")=true
     ·refine zE (show inV _ _=true from (Yx sh1 "terms" "body").trans hb) ?_;obtain ⟨ds2,rfl,h12⟩:=qhl hb hshape;obtain ⟨at',ws,ew,hw,hrs⟩:=rd.tup_inv;have hwl:=hrs.length;refine ⟨_,rfl,.inl ⟨rfl,zs,SqL.of h0''⟩,_,rfl,.inr (.inl ⟨at',ew,⟨ws,(gH.trans g2'').sqT hw⟩,?_⟩)⟩;refine jr ds2.length (fun j vs H'=>qu H4 H'∧Prs K H0 H' vs ((ds2.take j).map fun z=>(z,(Tre.members.lookup sh1).getD ""))) ⟨qu.refl _,.nil⟩ (fun j vs H' h=>?_) (Ar h12 O0) (fun j vs H' hj h=>?_) (fun vs H' h=>?_)
      ·have:=Cw h.2;rw [this,Aj];exact Ce _ _
      ·obtain ⟨g5,pv⟩:=h;have hw2:=(gH.trans (g2''.trans g5)).sqT hw;have hxw:ws[j]?=some ws[j]:=Bl ⋯;refine ⟨⟨ws,_,hw2,hxw⟩,fun v H6 yl=>?_⟩;obtain ⟨rfl,hv⟩:=yl;have e6:=hxw.symm.trans (hv ws hw2);cases e6;obtain ⟨dd,hdd,rdd⟩:=hrs.get hxw;refine ⟨_,rfl,_,rfl,sh1,_,rfl,qdm hb,(O0:2≤Ag),fun q3 hq3=>⟨g5.trans (qj hq3 _),?_⟩⟩;rw [Cg,hdd,A5];exact Prs.append (pv.same (qj hq3 _)) (.cons ⟨q3,ws[j],rfl,upd_same,rdd⟩ .nil)
      ·obtain ⟨g5,pv⟩:=h;refine ⟨⟨ws,(gH.trans (g2''.trans g5)).sqT hw,⋯⟩,fun D hD=>?_⟩;rw [Cu] at pv;have hvl:=Cw pv;rw [Aj] at hvl;have g6:=g5.trans (qj hD (.lst vs));refine ⟨p0,D,zs,vs,rfl,rfl,g6 _ _ h0'',upd_same,Ar (show zs.length+vs.length≤100 from ⋯) O0,?_⟩;have e5:Tre.qt (.tuple ds2) sh1=ds2.map fun z=>(z,(Tre.members.lookup sh1).getD ""):=by
        unfold Tre.qt;rw [if_neg (by rw [ht'];exact Ai),if_pos hb]
       refine hn _ _ ⟨_,_,zs++vs,rfl,jg (g2''.trans g6) hp0 _,?_,upd_same,?_,?_⟩
       ·rw [qG (Ne.symm n01)];exact g6 _ _ h1''
       ·rw [step,e5];exact Prs.append (Prs.write (g6 _ _ h0'') (pr''.same g6)) (Prs.write (g6 _ _ h0'') (pv.same (qj hD _)))
       ·rw [Am];omega
     ·have hb':=Bs.mpr hb;refine zF (show inV _ _=false from (Yx sh1 "terms" "body").trans hb') ?_;have e5:Tre.qt d sh1=[]:=by
       unfold Tre.qt;rw [if_neg (by rw [ht'];exact Ai),if_neg (by rw [hb'];exact Ai)]
      refine hn _ _ ⟨_,_,zs,rfl,g2'',h1'',h0'',?_,⋯⟩;rw [step,e5,Bo];exact pr''
   ·obtain ⟨o2,o3,zs,rfl,g2,h1,h0,pr,hz⟩:=h;refine ⟨⟨ys,_,SqT.of h1,ha3 _,.inl ⋯⟩,_,rfl,q _ p0 zs g2 hp0 h0 ?_⟩;have e5:Tre.jd (.tuple (.str hd::es))=((es.zip fs).take es.length).flatMap fun p=>Tre.qt p.1 p.2:=by
     show ((es.zip ((Tre.forms.lookup hd).getD [])).flatMap _)=_;rw [hfs,Dd (by rw [Ek];omega)]
     rfl
    rw [e5];exact pr
def YZ (K:Frag):Sp:=fun vs H Q _=>∃ x h es hands,vs=[x,.bl hands]∧Rep K H x (.tuple (.str h::es))∧∀ H',qu H H'→Q (.bl (Tre.Jd (.tuple (.str h::es)) hands)) H'
theorem wK (F:Fun K "hands_within" "hands_within" Jp f fd) (c:Cs K mg ad):FnOk P w K mg base CX0 1 f fd ["part","hands"] (YZ K):=by
 refine F.ok wG (fun vs H Q E h=>?_) (fun cdv A outer s H vs Q E hr h=>?_)
 ·obtain ⟨x,h,es,hands,rfl,_⟩:=h;rfl
 obtain ⟨x,h,es,hands,rfl,hk,q⟩:=h;refine ⟨_,(qh (qJ (qv qZ (pix K (pv 0) qi) qg (qD _)) (ql (qx jI)) qB)
   (ql (qx (Qq (pv 1) (JP (jb (VR (K:=K) rfl) (pix K (pv 0) qi) (qr (qd qg (qd qg qf))) rfl)))))),?_⟩
 obtain ⟨a,xs,rfl,hq,hs⟩:=hk.tup_inv;cases hs with
 | @cons y ys e es' r rs=>
  cases r;have e1:Tre.Jd (.tuple (.str h::es)) hands=if h=="fun" then false else hands||(h=="main"||h=="loop"):=rfl
  rw [e1] at q;refine ⟨_,rfl,.inr (.inl ⟨_,_,0,_,rfl,rfl,hq,qw (j:=0) rfl,rfl,_,rfl,?_⟩)⟩
  by_cases hf:h="fun"
  ·refine zE (show decide _=true from Ao (congrArg V.str hf)) ?_;rw [if_pos (A8.mpr hf)] at q;exact q _ (qu.refl _)
  ·refine zF (show decide _=false from Ap fun z=>hf (V.str.inj z)) ?_;rw [if_neg (fun z=>hf (A8.mp z))] at q;refine ⟨_,rfl,_,rfl,?_⟩;cases hands with
   | true=>exact J0 (q _ (qu.refl _))
   | false=>
    refine wL ⟨_,rfl,.inr (.inl ⟨_,_,0,_,rfl,rfl,hq,qw (j:=0) rfl,(O0:2≤Ag),fun p hp=>⟨p,_,rfl,.inr (SqT.of upd_same),rfl,rfl,?_⟩⟩)⟩;have q':=q _ (qj hp (.tup [.str "main",.str "loop"]));rw [Ev,← Yx h "main" "loop"] at q';exact q'
abbrev Trs (K:Frag) (H0 H:Hp):List V→Tre.Lv→Prop:=Paired fun (y:V) (q:Aa×Str×Bool)=>∃ a x,y= .ref a∧H a=some (.tup [x,.str q.2.1,.bl q.2.2])∧Rep K H0 x q.1
theorem Trs.write {H0 H:Hp} {p:Ae} {zs:List V} {o:HO} {ys:List V} {l:Tre.Lv} (hp:H p=some (.lst zs)) (h:Trs K H0 H ys l):Trs K H0 (upd H p o) ys l:=
 L2.Paired.mapP h fun _ _ ⟨a,x,e,ha,r⟩=>⟨a,x,e,by rw [qG (yj ha hp (by intro z;cases z))];exact ha,r⟩
theorem Trs.same {H0 H H':Hp} {ys:List V} {l:Tre.Lv} (g:qu H H') (h:Trs K H0 H ys l):Trs K H0 H' ys l:=L2.Paired.mapP h fun _ _ ⟨a,x,e,ha,r⟩=>⟨a,x,e,g _ _ ha,r⟩
theorem Trs.append {H0 H:Hp}:∀ {ys zs:List V} {l m:Tre.Lv},Trs K H0 H ys l→Trs K H0 H zs m→Trs K H0 H (ys++zs) (l++m)
 | _,_,_,_,.nil,h=>h
 | _,_,_,_,.cons r t,h=> .cons r (Trs.append t h)
theorem Trs.get {H0 H:Hp}:∀ {ys:List V} {l:Tre.Lv} {i:Nat} {q:Aa×Str×Bool},Trs K H0 H ys l→l[i]?=some q→∃ a x,ys[i]?=some (.ref a)∧H a=some (.tup [x,.str q.2.1,.bl q.2.2])∧Rep K H0 x q.1
 | _,_,_,_,.nil,h=>by simp at h
 | _,_,0,_,.cons ⟨a,x,e,ha,r⟩ t,h=>by
  simp at h;subst h;exact ⟨a,x,by rw [e];rfl,ha,r⟩
 | _,_,i+1,_,.cons r t,h=>by
  simp only [List.getElem?_cons_succ] at h ⊢;exact Trs.get t h
theorem Prs.get {H0 H:Hp}:∀ {ys:List V} {l:List (Aa×Str)} {i:Nat} {q:Aa×Str},Prs K H0 H ys l→l[i]?=some q→∃ a x,ys[i]?=some (.ref a)∧H a=some (.tup [x,.str q.2])∧Rep K H0 x q.1
 | _,_,_,_,.nil,h=>by simp at h
 | _,_,0,_,.cons ⟨a,x,e,ha,r⟩ t,h=>by
  simp at h;subst h;exact ⟨a,x,by rw [e];rfl,ha,r⟩
 | _,_,i+1,_,.cons r t,h=>by
  simp only [List.getElem?_cons_succ] at h ⊢;exact Prs.get t h
def PvP (K:Frag) (x:V) (d:Aa) (H:Hp) (m:Nat) (σ:St) (H':Hp):Prop:=∃ (L:Ae) (zs:List V) (lv:Tre.Lv) (n sz:Nat) (o4 o5 o6 o7 o8:Option V),σ=[some x,some (.ref L),some (.int n),some (.int sz),o4,o5,o6,o7,o8]∧qu H H'∧H' L=some (.lst zs)∧H L=none∧Trs K H H' zs lv∧m+n=20∧
 Tre.Vi m sz lv=Tre.za d∧(∀ p∈lv,Tre.fit p.1=true∧(Tre.heads.lookup p.2.1).isSome=true)∧sz≤300∧lv.length≤18000
theorem QW (n sz:Nat):Tre.Vi n sz []=true:=by cases n <;> rfl
theorem W3 (F:Fun K "is_program" "is_program" j9 f fd) (c:Cs K mg ad) (d_has_form:Def P w K mg base 4 "has_form" ["thing","shape","hands"] (qcl K)) (d_hands_within:Def P w K mg base 1 "hands_within" ["part","hands"] (YZ K)) (d_inner_with_shapes:Def P w K mg base 1 "inner_with_shapes" ["part"] (Qg K)):FnOk P w K mg base CX0 5 f fd ["thing"] (spD K Tre.za):=by
 refine F.ok zd (fun vs H Q E h=>?_) (fun cdv A outer s H vs Q E hr h=>?_)
 ·obtain ⟨x,d,rfl,_⟩:=h;rfl
 obtain ⟨x,d,rfl,hk,ft,q⟩:=h;refine ⟨_,(qh (pst 1 zd.nd (qH (qd (qr (qd (pv 0) (qd qg (qd jI qf)))) qf)))
   (qh (pst 2 zd.nd qi)
   (qh (pst 3 zd.nd qi)
   (qh (Wv Dh (pt_k (K:=K) rfl (pv 1)) (qh (qc7 (i:=2) zd.nd rfl (by first | exact Or.inl rfl | exact Or.inr rfl) qi qdv)
   (qh (qc7 (i:=3) zd.nd rfl (by first | exact Or.inl rfl | exact Or.inr rfl) (qE (zB (K:=K) rfl) (by rfl) c.len_ zj (qd (pv 1) qf)) qdv)
   (qh (qJ (PW.pt (JT (qv Wz (pv 2) (vK c.MOST_DEPTH) (qD _)) (Jq (qv Wz (pv 3) (vK c.MOST_PARTS) (qD _))))) (ql (qx jI)) qB)
   (qh (pst 4 zd.nd (qH qf))
   (qh (Vv Dh rfl (Ya (K:=K) rfl (pv 1)) (Qp (K:=K) (n:=3) rfl rfl (jH (pgn 5 zd.nd) (jH (pgn 6 zd.nd) (jH (pgn 7 zd.nd) wW)))) (qh (qJ (ju (zS (pdf d_has_form (qd (pv 5) (qd (pv 6) (qd (pv 7) qf)))))) (ql (qx jI)) qB)
   (qh (pst 8 zd.nd (pdf d_hands_within (qd (pv 5) (qd (pv 7) qf))))
   (ql (jk (vx (K:=K) rfl B7 PySem.F.slot_list_extend PySem.F.type_list_extend yn (pv 4) (qd (jU (sc:=qp j9) (NX:=["thing","level","depth","size","below","part","shape","hands","within"]) (N:=["inner","inner_shape","within"]) (js:=[none,none,some 8]) (Ya (K:=K) rfl (pdf d_inner_with_shapes (qd (pv 5) qf))) (fun _ _ _ _ _=>(Qp (K:=K) (n:=2) rfl rfl (jH (zK (i:=0) (show (["inner","inner_shape","within"]:List Str).Nodup from ∅) rfl (Or.inl rfl)) (jH (zK (i:=1) (show (["inner","inner_shape","within"]:List Str).Nodup from ∅) rfl (Or.inl rfl)) wW)))) (fun _ _ _ _ _=>Jr) (fun _ _ _ _ _=>(qr (qd (pv 0) (qd (pv 1) (qd (pv 2) qf))))) (Qv rfl rfl) ⟨∅,rfl,∅,∅,rfl,∅⟩) qf)))))))
   (ql (pst 1 zd.nd (pv 4)))))))))
   (ql (qx jI)))))),?_⟩
 refine ⟨_,rfl,(O0:3≤Ag),fun p1 hp1=>⟨(O0:1≤Ag),fun L0 hL0=>?_⟩⟩;have g0:=(qj hp1 (.tup [x,.str "program",.bl false])).trans (qj hL0 (.lst [.ref p1]));refine ⟨PvP K x d H,⟨20,?_⟩,?_⟩
 ·refine ⟨L0,_,[(d,"program",false)],0,0,none,none,none,none,none,rfl,g0,upd_same,(qj hp1 _).free hL0,?_,rfl,rfl,fun p hp=>?_,O0,by simp⟩
  ·exact .cons ⟨p1,x,rfl,by rw [qG (qK upd_same hL0)];exact upd_same,hk⟩ .nil
  ·rw [A3] at hp;subst hp;exact ⟨ft,by show (Tre.heads.lookup (Str.ofString "program")).isSome=true;decide+kernel⟩
 ·rintro m σ H1 ⟨L,zs,lv,n,sz,o4,o5,o6,o7,o8,rfl,g,hL,hL0',tr,hn,hw,hlv,hsz,hll⟩;refine ⟨_,rfl,_,.inl ⟨zs,SqL.of hL,rfl⟩,?_⟩
  by_cases he:lv=[]
  ·subst he;cases tr;rw [QW] at hw;rw [← hw] at q;exact q _ g
  have hlen:=Cw tr;have hz1:1≤lv.length:=by
   cases lv with
   | nil=>exact absurd rfl he
   | cons _ _=>simp
  have hemp:lv.isEmpty=false:=by
   cases lv with
   | nil=>exact absurd rfl he
   | cons _ _=>rfl
  have qF:Tre.za d=false→∀ H',qu H H'→Q (.bl false) H':=fun e H' g'=>e▸q H' g';refine zE (show (!zs.isEmpty)=true by cases zs with | nil=>simp at hlen;omega | cons _ _=>rfl) ?_
  refine ⟨fun σ' H'=>∃ m',m'<m∧PvP K x d H m' σ' H',fun σ' H' h=>h,?_⟩;refine ⟨_,rfl,_,_,rfl,rfl,_,rfl,_,rfl,_,_,rfl,.inl ⟨zs,SqL.of hL,rfl⟩,_,_,rfl,rfl,?_⟩;refine ⟨_,rfl,_,_,rfl,rfl,_,rfl,?_⟩;cases m with
  | zero=>
   refine zE (show decide _=true from Ao (by show (20:Int)<(n:Int)+1;omega)) (J0 (qF ?_ _ g))
   rw [← hw];exact hemp
  | succ m=>
   refine zF (show decide _=false from Ap (by show ¬ (20:Int)<(n:Int)+1;omega)) ?_
   refine ⟨_,rfl,_,_,rfl,rfl,_,rfl,?_⟩;rw [Tre.Vi,hemp,Ev] at hw
   by_cases hs:sz+lv.length≤300
   ·refine zF (show decide _=false from Ap (by show ¬ (300:Int)<(sz:Int)+((zs.length:Nat):Int);omega)) ?_
    rw [Ao hs,Bu] at hw;refine ⟨(O0:0≤Ag),fun B hB=>?_⟩;have gB:=qj hB (.lst []);have hB0:H B=none:=g.free hB;have nLB:L≠B:=qK hL hB;refine ⟨_,rfl,.inl ⟨L,rfl,⟨zs,SqL.of (gB _ _ hL)⟩,?_⟩⟩;refine WO lv.length (fun i σ H'=>∃ o5 o6 o7 o8 bs,σ=[some x,some (.ref L),some (.int ((n:Int)+1)),some (.int ((sz:Int)+(zs.length:Nat))),some (.ref B),o5,o6,o7,o8]∧qu H H'∧H' L=some (.lst zs)∧H' B=some (.lst bs)∧Trs K H H' zs lv∧Trs K H H' bs (Tre.jZ (lv.take i))∧
     ∀ p∈lv.take i,Tre.zm p.1 p.2.1 p.2.2=true) ?_ (fun i σ H2 hi h=>?_) (fun σ H2 h=>?_)
    ·exact ⟨_,_,_,_,[],rfl,g.trans gB,gB _ _ hL,upd_same,tr.same gB,.nil,fun p hp=>by simp at hp⟩
    ·obtain ⟨o5,o6,o7,o8,bs,rfl,g2,hL2,hB2,tr2,trb,hfs⟩:=h;have hqi:lv[i]?=some lv[i]:=Bl hi;generalize lv[i]=p at hqi;obtain ⟨a,xi,hzi,hai,rxi⟩:=tr2.get hqi;refine ⟨⟨zs,_,SqL.of hL2,hzi⟩,fun v H3 yl D' hn hr'=>?_⟩;obtain ⟨rfl,hv⟩:=yl;have e1:=hzi.symm.trans (hv zs (SqL.of hL2));cases e1;refine ⟨a,_,rfl,SqT.of hai,rfl,_,_,rfl,_,_,rfl,_,_,rfl,rfl,?_⟩;obtain ⟨hfit,hhd⟩:=hlv p (Br hqi);refine ⟨_,rfl,_,rfl,_,rfl,xi,p.1,p.2.1,p.2.2,rfl,rxi.same g2,hfit,hhd,fun H4 g4=>⟨_,rfl,?_⟩⟩
     by_cases hf:Tre.zm p.1 p.2.1 p.2.2=true
     ·refine zF (show (!Tre.zm p.1 p.2.1 p.2.2)=false by rw [hf];rfl) ?_
      obtain ⟨hd,es,fs,l,ep,_⟩:=Tre.zq hf;refine ⟨_,rfl,_,rfl,xi,hd,es,p.2.2,rfl,ep▸rxi.same (g2.trans g4),fun H5 g5=>?_⟩;have g25:=(g2.trans g4).trans g5;have g35:=g4.trans g5;have hB5:=g35 _ _ hB2;refine ⟨_,rfl,.inl ⟨rfl,bs,SqL.of hB5⟩,_,rfl,xi,p.1,p.2.1,p.2.2,H,rfl,g25,rxi,hf,fun H6 p6 ps g6 hp6 hl6 prs=> .inl ⟨p6,rfl,⟨ps,SqL.of hl6⟩,?_⟩⟩;have hpl:=Cw prs;have hil:=Tre.XG hf;refine jr (Tre.jd p.1).length (fun j vs H'=>qu H6 H'∧Trs K H H' vs (((Tre.jd p.1).take j).map fun z=>(z.1,z.2,Tre.Jd p.1 p.2.2))) ⟨qu.refl _,.nil⟩ (fun j vs H' h=>?_) (Ar hil O0) (fun j vs H' hj h=>?_) (fun vs H' h=>?_)
      ·have:=Cw h.2;rw [this,Aj];exact Ce _ _
      ·obtain ⟨g7,tv⟩:=h;have hj2:(Tre.jd p.1)[j]?=some (Tre.jd p.1)[j]:=Bl hj;generalize (Tre.jd p.1)[j]=z at hj2;obtain ⟨az,xz,hpz,haz,rxz⟩:=prs.get hj2;refine ⟨⟨ps,_,SqL.of (g7 _ _ hl6),hpz⟩,fun v H8 yl=>?_⟩;obtain ⟨rfl,hv⟩:=yl;have e6:=hpz.symm.trans (hv ps (SqL.of (g7 _ _ hl6)));cases e6;refine ⟨az,_,rfl,SqT.of (g7 _ _ haz),rfl,_,_,rfl,_,_,rfl,rfl,?_⟩;refine ⟨_,rfl,_,rfl,_,rfl,(O0:3≤Ag),fun q3 hq3=>⟨g7.trans (qj hq3 _),?_⟩⟩;rw [Cg,hj2,A5];refine Trs.append (tv.same (qj hq3 _)) (.cons ⟨q3,xz,rfl,?_,rxz⟩ .nil);rw [upd_same,ep]
      ·obtain ⟨g7,tv⟩:=h;refine ⟨⟨ps,SqL.of (g7 _ _ hl6),⋯⟩,fun D hD=>?_⟩;rw [Cu] at tv;have hvl:=Cw tv;rw [Aj] at hvl;have hbl:=Cw trb;have hbb:=Tre.X0 hfs;have hti:=Ce i lv;have gD:=qj hD (.lst vs);have g3D:=((g35.trans g6).trans g7).trans gD;refine ⟨B,D,bs,vs,rfl,rfl,g3D _ _ hB2,upd_same,Ar (show bs.length+vs.length≤100000 from ⋯) O0,?_⟩;have eb:Tre.jZ (lv.take (i+1))=Tre.jZ (lv.take i)++(Tre.jd p.1).map fun z=>(z.1,z.2,Tre.Jd p.1 p.2.2):=by
        unfold Tre.jZ;rw [Cg,hqi,List.flatMap_append];simp
       refine hn _ _ ⟨_,_,_,_,bs++vs,rfl,jg (g2.trans g3D) hB0 _,?_,upd_same,Trs.write (g3D _ _ hB2) (tr2.same g3D),?_,fun p' hp'=>?_⟩
       ·rw [qG nLB];exact g3D _ _ hL2
       ·rw [eb];exact Trs.append (Trs.write (g3D _ _ hB2) (trb.same g3D)) (Trs.write (g3D _ _ hB2) (tv.same gD))
       ·rw [Cg,hqi,Bp] at hp';rcases hp' with hp' | hp'
        ·exact hfs p' hp'
        ·simp at hp';subst hp';exact hf
     ·have hf':=Bs.mpr hf;refine zE (show (!Tre.zm p.1 p.2.1 p.2.2)=true by rw [hf'];rfl) (hr' _ _ (qF ?_ _ (g2.trans g4)))
      rw [← hw];have:(List.all lv fun p=>Tre.zm p.1 p.2.1 p.2.2)=false:=by
       rw [List.all_eq_false];exact ⟨p,Br hqi,hf⟩
      rw [this,B1]
    ·obtain ⟨o5,o6,o7,o8,bs,rfl,g2,hL2,hB2,tr2,trb,hfs⟩:=h;rw [Cu] at trb hfs;have e1:(n:Int)+1=((n+1:Nat):Int):=⋯;have e2:(sz:Int)+((zs.length:Nat):Int)=((sz+lv.length:Nat):Int):=⋯;have hbb:=Tre.X0 hfs;refine ⟨⟨zs,SqL.of hL2,⋯⟩,_,rfl,m,Nat.lt_succ_self m,B,bs,Tre.jZ lv,n+1,sz+lv.length,some (.ref B),o5,o6,o7,o8,?_,g2,hB2,hB0,trb,⋯,?_,fun p hp=>?_,hs,⋯⟩
     ·show [some x,some (.ref B),some (.int ((n:Int)+1)),some (.int ((sz:Int)+((zs.length:Nat):Int))),some (.ref B),o5,o6,o7,o8]=_;rw [e1,e2]
     ·rw [← hw];have:(List.all lv fun p=>Tre.zm p.1 p.2.1 p.2.2)=true:=A6.mpr fun p hp=>hfs p hp;rw [this,Bu]
     ·obtain ⟨q',hq',hp2⟩:=C9.mp hp;obtain ⟨z,hz,rfl⟩:=B0.mp hp2;refine ⟨Tre.qat (hlv q' hq').1 hz,?_⟩;rcases Tre.ZO hz with e | e
      ·show (Tre.heads.lookup z.2).isSome=true;rw [e];decide+kernel
      ·show (Tre.heads.lookup z.2).isSome=true;rw [e];decide+kernel
   ·refine zE (show decide _=true from Ao (by show (300:Int)<(sz:Int)+((zs.length:Nat):Int);omega)) (qF ?_ _ g)
    rw [← hw,Ap hs];rfl
def yS (K:Frag):Sp:=fun vs H Q _=>∃ (a:Ae) (ns:List Int) (k:Int),vs=[.ref a,.int k]∧SqL K H a (ns.map V.int)∧0≤k∧∀ i,Q (.int i) H
theorem WD (F:Fun K "_law_cell_at" "_law_cell_at" JO f fd) (c:Cs K mg ad):FnOk P w K mg base CX0 1 f fd ["_law_script","_law_k"] (yS K):=by
 refine F.ok Wl (fun vs H Q E h=>?_) (fun cdv A outer s H vs Q E hr h=>?_)
 ·obtain ⟨a,ns,k,rfl,_⟩:=h;rfl
 obtain ⟨a,ns,k,rfl,hS,hk,q⟩:=h;refine ⟨_,(qh (qJ (qv vM (pv 1) (qE (zB (K:=K) rfl) (by rfl) c.len_ zj (qd (pv 0) qf)) (qD _)) (ql (qx (pix K (pv 0) (pv 1)))) qB)
   (ql (qx qi))),?_⟩
 refine ⟨_,rfl,_,rfl,_,_,rfl,.inl ⟨_,hS,rfl⟩,_,_,rfl,rfl,_,rfl,?_⟩;refine VC (fun c1=>?_) (fun c1=>?_)
 ·have c1':k<(((ns.map V.int).length:Nat):Int):=Bb c1;rw [Aj] at c1';have hk2:k.toNat<ns.length:=⋯;have ek:k=((k.toNat:Nat):Int):=⋯;have hv:atI (ns.map V.int) ((k.toNat:Nat):Int)=some (.int ns[k.toNat]):=qw (by rw [Bt,Bl hk2] <;> rfl)
  rw [← ek] at hv;exact ⟨_,rfl,_,rfl,.inl ⟨_,_,_,_,rfl,rfl,hS,hv,q _⟩⟩
 ·exact q 0
def stK (a:Ae) (k l:Int) (nm:Ae):List (Key×V):=[(Sum.inr "cells",.ref a),(Sum.inr "at",.int k),(Sum.inr "left",.int l),(Sum.inr "names",.ref nm)]
theorem kne {a b:Str} (h:¬ a=b):¬ (Sum.inr a:Key)=Sum.inr b:=fun e=>h (Sum.inr.inj e)
theorem qao:¬ (Sum.inr ("cells":Str):Key)=Sum.inr ("at":Str):=kne ∅
theorem qh3:¬ (Sum.inr ("cells":Str):Key)=Sum.inr ("left":Str):=kne ∅
theorem qj6:¬ (Sum.inr ("cells":Str):Key)=Sum.inr ("names":Str):=kne ∅
theorem qh4:¬ (Sum.inr ("at":Str):Key)=Sum.inr ("left":Str):=kne ∅
theorem qj7:¬ (Sum.inr ("at":Str):Key)=Sum.inr ("names":Str):=kne ∅
theorem qj5:¬ (Sum.inr ("left":Str):Key)=Sum.inr ("names":Str):=kne ∅
theorem n_la:¬ (Sum.inr ("left":Str):Key)=Sum.inr ("at":Str):=kne ∅
theorem n_na:¬ (Sum.inr ("names":Str):Key)=Sum.inr ("at":Str):=kne ∅
theorem n_nl:¬ (Sum.inr ("names":Str):Key)=Sum.inr ("left":Str):=kne ∅
section
variable (a:Ae) (k l:Int) (nm:Ae)
theorem qb9:vv (stK a k l nm) (Sum.inr "cells")=some (.ref a):=jE rfl
theorem qca:vv (stK a k l nm) (Sum.inr "at")=some (.int k):=(je qao).trans (jE rfl)
theorem vY:vv (stK a k l nm) (Sum.inr "left")=some (.int l):=(je qh3).trans ((je qh4).trans (jE rfl))
theorem YX:vv (stK a k l nm) (Sum.inr "names")=some (.ref nm):=(je qj6).trans ((je qj7).trans ((je qj5).trans (jE rfl)))
theorem qb8 (j:Int):jn (stK a k l nm) (Sum.inr "at") (.int j)=stK a j l nm:=by
 unfold jn;rw [if_pos (by rw [JR,qca];rfl)]
 unfold stK;simp only [A4,Cj];rw [if_neg qao,if_pos trivial,if_neg n_la,if_neg n_na]
theorem Wh (j:Int):jn (stK a k l nm) (Sum.inr "left") (.int j)=stK a k j nm:=by
 unfold jn;rw [if_pos (by rw [JR,vY];rfl)]
 unfold stK;simp only [A4,Cj];rw [if_neg qh3,if_neg qh4,if_pos trivial,if_neg n_nl]
end
def V2 (K:Frag):Sp:=fun vs H Q _=>∃ (d a nm:Ae) (ns:List Int) (k l:Int),vs=[.ref d]∧H d=some (.dK (stK a k l nm))∧SqL K H a (ns.map V.int)∧0≤k∧k≤1000000∧
 ∀ (n:Int) (H':Hp),0≤n→n<268435456→H'=upd H d (.dK (stK a (k+1) l nm))→Q (.int n) H'
theorem Xr (F:Fun K "_law_next" "_law_next" vc f fd) (c:Cs K mg ad) (d_law_cell_at:Def P w K mg base 1 "_law_cell_at" ["_law_script","_law_k"] (yS K)):FnOk P w K mg base CX0 2 f fd ["_law_state"] (V2 K):=by
 refine F.ok jw (fun vs H Q E h=>?_) (fun cdv A outer s H vs Q E hr h=>?_)
 ·obtain ⟨d,a,nm,ns,k,l,rfl,_⟩:=h;rfl
 obtain ⟨d,a,nm,ns,k,l,rfl,hd,hS,hk0,hk1,q⟩:=h;have hu:=XI hr;refine ⟨_,(qh (wV hu (pv 0) qg (qo qA (zO hu (pv 0) qg (fun _ _=>rfl)) qi) rfl)
   (qh (pst 1 jw.nd (zO hu (pv 0) qg (fun _ _=>rfl)))
   (qh (pst 2 jw.nd (pdf d_law_cell_at (qd (zO hu (pv 0) qg (fun _ _=>rfl)) (qd (qo qL (pv 1) (qE (yD rfl) (by rfl) c.max_ qei (qd qi (qd (qE (zB (K:=K) rfl) (by rfl) c.len_ zj (qd (zO hu (pv 0) qg (fun _ _=>rfl)) qf)) qf)))) qf))))
   (ql (qx (qo zg (qo qL (qo qA (qo Js (pv 2) qi) (qo Js (qo Js (pv 1) (pv 1)) qi)) qi) qi)))))),?_⟩
 clear hu;refine ⟨_,rfl,_,_,rfl,(by rw [← qca a k l nm];exact jQ.k (k:=Sum.inr "at") hd),.inl ⟨_,_,rfl,rfl,?_⟩⟩
 refine ⟨_,rfl,d,upd H d (.dK (stK a (k+1) l nm)),rfl,(by rw [← qb8 a k l nm (k+1)];exact X3.k (k:=Sum.inr "at") hd (Cq (show 4≤1000 from O0) O0)),?_⟩
 have hd':upd H d (.dK (stK a (k+1) l nm)) d=some (.dK (stK a (k+1) l nm)):=upd_same;have hS':SqL K (upd H d (.dK (stK a (k+1) l nm))) a (ns.map V.int):=(Stay.put hd).sqL hS;have gAt:jQ (upd H d (.dK (stK a (k+1) l nm))) d (.str "at") (some (.int (k+1))):=by rw [← qca a (k+1) l nm];exact jQ.k (k:=Sum.inr "at") hd'
 have gCe:jQ (upd H d (.dK (stK a (k+1) l nm))) d (.str "cells") (some (.ref a)):=by rw [← qb9 a (k+1) l nm];exact jQ.k (k:=Sum.inr "cells") hd'
 have hm:0<(if (((ns.map V.int).length:Nat):Int)>1 then (((ns.map V.int).length:Nat):Int) else 1):=by split <;> omega
 refine ⟨_,rfl,d,_,rfl,gAt,_,rfl,d,_,rfl,gCe,_,rfl,_,rfl,d,_,rfl,gCe,_,_,rfl,.inl ⟨_,hS',rfl⟩,_,_,rfl,_,_,rfl,rfl,hm,a,ns,_,rfl,hS',A7 _ ⋯,fun i=>?_⟩;have b1:qem (k+1) (k+1):= .inl ⟨⋯,⋯⟩;refine ⟨_,rfl,_,_,rfl,rfl,.inr ⟨O0,O0⟩,_,rfl,_,rfl,_,_,rfl,rfl,b1,_,_,rfl,rfl,.inr ⟨O0,O0⟩,.inl ⟨_,_,rfl,rfl,_,_,rfl,rfl,(show (0:Int)<2147483647 from O0),_,_,rfl,rfl,⟨O0,O0⟩,?_⟩⟩;refine q _ _ ?_ ?_ rfl
 ·exact Int.ediv_nonneg (A7 _ O0) O0
 ·have:=Az (i*48271+(k+1)*(k+1)*69621) (show (0:Int)<2147483647 from O0);show (i*48271+(k+1)*(k+1)*69621) % 2147483647 / 8<268435456;omega
theorem vP {i:Int} (h: -1000000000000≤i) (h':i≤1000000000000):Tre.Ja i=true:=by
 unfold Tre.Ja;rw [Ao h,Ao h'];rfl
theorem Vf {xs:List V} {i:Int} {p:V→Prop} (h:∀ x∈xs,p x) (h0:0≤i) (h1:i<(xs.length:Int)):∃ v,atI xs i=some v∧p v:=by
 have hk:i.toNat<xs.length:=⋯;have ek:i=((i.toNat:Nat):Int):=⋯;have q:atI xs ((i.toNat:Nat):Int)=some xs[i.toNat]:=qw (Bl hk);rw [← ek] at q;exact ⟨_,q,h _ (List.getElem_mem hk)⟩
def VH:Sp:=fun vs H Q _=>∃ m:Int,vs=[.int m]∧0≤m∧m<268435456∧∀ (i:Int) (H':Hp),Tre.Ja i=true→qu H H'→Q (.int i) H'
theorem W2 (F:Fun K "_law_number" "_law_number" vb f fd) (c:Cs K mg ad):FnOk P w K mg base CX0 1 f fd ["_law_more"] VH:=by
 refine F.ok Vj (fun vs H Q E h=>?_) (fun cdv A outer s H vs Q E hr h=>?_)
 ·obtain ⟨m,rfl,_⟩:=h;rfl
 obtain ⟨m,rfl,hm0,hm1,q⟩:=h;refine ⟨_,(qh (pst 1 Vj.nd (qo zy (qo qL (pv 0) (qo qA (qo Js qi (qo Yc qi qi)) qi)) (qo Yc qi qi)))
   (ql (qx (pix K (qH (qd (qo qL (qo zg (pv 0) qi) qi) (qd (qo zy (qo qL (qo zg (pv 0) qi) qi) qi) (qd (pv 1) (qd (pix K (qH (qd (qo Yc qi qi) (qd (qo zy qi (qo Yc qi qi)) (qd qi qf)))) (qo qL (qo zg (pv 0) qi) qi)) qf))))) (qo qL (pv 0) qi))))),?_⟩
 have cp:qkr 10 12:=⟨O0,O0,O0⟩;have e12:(10:Int) ^ Int.toNat 12=1000000000000:=∅;refine ⟨_,rfl,_,_,rfl,rfl,cp,_,_,rfl,rfl,.inl ⟨O0,O0⟩,.inl ⟨_,_,rfl,rfl,_,_,rfl,rfl,(show (0:Int)<2*10 ^ Int.toNat 12+1 by rw [e12];decide),_,_,rfl,rfl,cp,_,_,rfl,rfl,?_⟩⟩
 have c8:YK m 8:=⟨O0,O0⟩;refine ⟨_,rfl,_,_,rfl,rfl,c8,_,_,rfl,rfl,(show (0:Int)<10 from O0),_,rfl,_,_,rfl,rfl,c8,_,_,rfl,rfl,(show (0:Int)<2000 from O0),_,_,rfl,rfl,_,rfl,?_⟩;refine ⟨_,_,rfl,rfl,cp,_,_,rfl,rfl,cp,_,_,rfl,rfl,(O0:3≤Ag),fun p1 hp1=>?_⟩;rw [e12];have n1:Tre.Ja 1000000000000=true:=O0;have n2:Tre.Ja (0 - 1000000000000)=true:=O0;have n3:Tre.Ja 0=true:=O0;obtain ⟨v4,h4,i4,rfl,k4⟩:=Vf (xs:=[V.int 1000000000000,V.int (0 - 1000000000000),V.int 0]) (i:=m / 8 % 3) (p:=fun v=>∃ i,v= .int i∧Tre.Ja i=true) (by
  simp only [Av,Be,or_false];rintro x (rfl | rfl | rfl)
  ·exact ⟨_,rfl,n1⟩
  ·exact ⟨_,rfl,n2⟩
  ·exact ⟨_,rfl,n3⟩) (A7 _ O0) (Az _ O0)
 refine ⟨_,rfl,_,_,rfl,rfl,c8,_,_,rfl,rfl,(show (0:Int)<3 from O0),.inl ⟨p1,_,_,_,rfl,rfl,SqL.of upd_same,h4,(O0:4≤Ag),fun p2 hp2=>?_⟩⟩;have a1:=A7 (m / 8) (show (10:Int)≠0 from O0);have a2:=Az (m / 8) (show (0:Int)<10 from O0);have b1:=A7 (m / 8) (show (2000:Int)≠0 from O0);have b2:=Az (m / 8) (show (0:Int)<2000 from O0);have d1:=A7 m (show (2*1000000000000+1:Int)≠0 from O0);have d2:=Az m (show (0:Int)<2*1000000000000+1 from O0);obtain ⟨v,h,i,rfl,k⟩:=Vf (xs:=[V.int (m / 8 % 10),V.int (m / 8 % 2000 - 1000),V.int (m % (2*1000000000000+1) - 1000000000000),V.int i4]) (i:=m % 4) (p:=fun v=>∃ i,v= .int i∧Tre.Ja i=true) (by
  simp only [Av,Be,or_false];rintro x (rfl | rfl | rfl | rfl)
  ·exact ⟨_,rfl,vP ⋯ ⋯⟩
  ·exact ⟨_,rfl,vP ⋯ ⋯⟩
  ·exact ⟨_,rfl,vP ⋯ ⋯⟩
  ·exact ⟨_,rfl,k4⟩) (A7 _ O0) (Az _ O0)
 exact ⟨_,rfl,_,_,rfl,rfl,(show (0:Int)<4 from O0),.inl ⟨p2,_,_,_,rfl,rfl,SqL.of upd_same,h,q i _ k ((qj hp1 _).trans (qj hp2 _))⟩⟩
end
end Mine
namespace Mine
open PySem L2 Nam
section
variable {P:Program} {w:World} {K:Frag} {mg:Str→Option Ac} {base:Heap} {f:Ae} {fd:FuncData} {ad:Ad}
theorem qdt {i:Int} (h0:0≤i) (h1:i<26):atI (Str.ofString "abcdefghijklmnopqrstuvwxyz").cps.toList i=some (97+i.toNat):=by
 have e:(Str.ofString "abcdefghijklmnopqrstuvwxyz").cps.toList=(List.range 26).map fun k=>97+k:=∅;have ek:i=((i.toNat:Nat):Int):=⋯;have hk:i.toNat<26:=⋯;rw [e];have q:atI ((List.range 26).map fun k=>97+k) ((i.toNat:Nat):Int)=some (97+i.toNat):=qw (by rw [Bt,List.getElem?_range hk];rfl)
 rw [← ek] at q;exact q
def cw (m:Int) (k:Nat):Nat:=97+((m / 64+5*(k:Int)) % 26).toNat
def gw (m:Int) (k:Nat):Nat:=97+((m / 2048+7*(k:Int)) % 26).toNat
theorem qiq (m:Int) (k:Nat):low (cw m k)=true:=by
 have e0:=A7 (m / 64+5*(k:Int)) (show (26:Int)≠0 from O0);have e1:=Az (m / 64+5*(k:Int)) (show (0:Int)<26 from O0);unfold low cw;rw [Ao ⋯,Ao ⋯];rfl
theorem qij (m:Int) (k:Nat):low (gw m k)=true:=by
 have e0:=A7 (m / 2048+7*(k:Int)) (show (26:Int)≠0 from O0);have e1:=Az (m / 2048+7*(k:Int)) (show (0:Int)<26 from O0);unfold low gw;rw [Ao ⋯,Ao ⋯];rfl
theorem qik (m:Int) (a b:Nat) (ha:a<8) (hb:b<8) (h:gw m a=gw m b):a=b:=by
 unfold gw at h;omega
theorem VU (xs:List V) (n:Int) (k:Nat) (h:n=(k:Int)):zG xs none (some n)=xs.take k:=by
 subst h;unfold zG;rw [HT.sIx_nat,HT.sIx_none,Nat.sub_zero,List.drop_zero,List.take_eq_take_iff];omega
structure Nms (l:List Str):Prop where
 len:l.length=8
 good:∀ x∈l,Tre.qP x=true
 nd:l.Nodup
def Qf:Sp:=fun vs H Q _=>∃ m:Int,vs=[.int m,.int 8]∧0≤m∧m<2147483647∧∀ (l:List Str) (p:Ae) (H':Hp),Nms l→qu H H'→H' p=some (.lst (l.map V.str))→Q (.ref p) H'
theorem Yj (F:Fun K "_law_names" "_law_names" jW f fd) (c:Cs K mg ad):FnOk P w K mg base CX0 1 f fd ["_law_cell","_law_many"] Qf:=by
 refine F.ok jh (fun vs H Q E h=>?_) (fun cdv A outer s H vs Q E hr h=>?_)
 ·obtain ⟨m,rfl,_⟩:=h;rfl
 obtain ⟨m,rfl,hm0,hm1,q⟩:=h;refine ⟨_,(qh (pst 2 jh.nd qg)
   (qh (pst 3 jh.nd (qo qA qi (qo qL (pv 0) qi)))
   (qh (pst 4 jh.nd (jU (sc:=qp jW) (NX:=["_law_cell","_law_many","_law_letters","_law_size","_law_word","_law_made","_law_k"]) (N:=["_law_k","_law_letters","_law_cell"]) (js:=[none,some 2,some 0]) (zW rfl c.range_ (qd qi qf)) (fun _ _ _ _ _=>(zK (i:=0) (show (["_law_k","_law_letters","_law_cell"]:List Str).Nodup from ∅) rfl (Or.inl rfl))) (fun _ _ _ _ _=>Jr) (fun _ _ _ _ _=>(pix K (pv 1) (qo qL (qo qA (qo zg (pv 2) qi) (qo Js qi (pv 0))) qi))) (zU rfl) ⟨∅,rfl,∅,∅,rfl,∅⟩))
   (qh (qJ (qv qZ (qo qL (qo zg (pv 0) qi) qi) qi (qD _)) (ql (qx (jU (sc:=qp jW) (NX:=["_law_cell","_law_many","_law_letters","_law_size","_law_word","_law_made","_law_k"]) (N:=["_law_k","_law_word"]) (js:=[none,some 4]) (zW rfl c.range_ (qd (pv 1) qf)) (fun _ _ _ _ _=>(zK (i:=0) (show (["_law_k","_law_word"]:List Str).Nodup from ∅) rfl (Or.inl rfl))) (fun _ _ _ _ _=>Jr) (fun _ _ _ _ _=>(vx (K:=K) rfl Ci D9 D8 (WM (K:=K) rfl) qg (qd (qU (jP (K:=K) rfl) (pv 1) zk (qY (qo qA (pv 0) qi))) qf))) (zU rfl) ⟨∅,rfl,∅,∅,rfl,∅⟩))) qB)
   (qh (pst 5 jh.nd (qH qf))
   (qh (Vv Dh rfl (zW rfl c.range_ (qd (pv 1) qf)) (pgn 6 jh.nd) (qh (qhr (pix K (pv 2) (qo qL (qo qA (qo zg (pv 0) qi) (qo Js qi (pv 6))) qi)) (qhu (pv 4) (qo qL (qo zg (pv 0) qi) (pv 3)) qcp))
   (ql (jk (vx (K:=K) rfl B7 Cr Ct jz (pv 5) (qd (vx (K:=K) rfl Ci D9 D8 (WM (K:=K) rfl) qg (qd (qU (jP (K:=K) rfl) (pv 4) zk (qY (pv 3))) qf)) qf))))))
   (ql (qx (pv 5))))))))),?_⟩
 refine ⟨_,rfl,_,_,rfl,rfl,(show (0:Int)<8 from O0),.inl ⟨_,_,rfl,rfl,?_⟩⟩;have lone:∀ (l:List Nat),l.map (fun c=>V.str (one c))=(l.map one).map V.str:=fun l=>by rw [Ck];rfl
 refine ⟨_,rfl,O0,O0,jr 8 (fun i ys H'=>H'=H∧ys=(((List.range i).map (cw m)).map fun c=>V.str (one c))) ⟨rfl,rfl⟩ (fun i ys H' h=>?_) O0 (fun i ys H' hi h=>?_) (fun ys H' h=>?_)⟩
 ·rw [h.2,Aj,Aj,Er];exact Aw _
 ·obtain ⟨rfl,rfl⟩:=h;refine ⟨hi,fun v H2 yl=>?_⟩;obtain ⟨rfl,rfl⟩:=yl;have e0:=A7 (m / 64+5*(0+(i:Int))) (show (26:Int)≠0 from O0);have e1:=Az (m / 64+5*(0+(i:Int))) (show (0:Int)<26 from O0);refine ⟨_,rfl,_,rfl,_,_,rfl,rfl,⟨O0,O0⟩,_,rfl,_,_,rfl,rfl,.inl ⟨O0,O0⟩,.inl ⟨_,_,rfl,rfl,_,_,rfl,rfl,(show (0:Int)<26 from O0),.inr (.inr ⟨_,_,_,rfl,rfl,∅,qdt e0 e1,rfl,?_⟩)⟩⟩;rw [List.range_succ,A5,A5];have e2:cw m i=97+((m / 64+5*(0+(i:Int))) % 26).toNat:=by unfold cw;rw [Int.zero_add]
  simp only [A4,Cj,e2];rfl
 ·obtain ⟨rfl,rfl⟩:=h;refine ⟨Aw _,fun pw hpw=>?_⟩;have g0:=qj hpw (.lst ((((List.range 8).map (cw m)).map fun c=>V.str (one c))));have hw0:upd H' pw (.lst ((((List.range 8).map (cw m)).map fun c=>V.str (one c)))) pw=some (.lst ((((List.range 8).map (cw m)).map fun c=>V.str (one c)))):=upd_same;generalize upd H' pw (.lst ((((List.range 8).map (cw m)).map fun c=>V.str (one c))))=H1 at g0 hw0 ⊢;have hcl:((List.range 8).map (cw m)).length=8:=by rw [Aj,Er]
  have hlow:((List.range 8).map (cw m)).all low=true:=by
   rw [Dy];exact A6.mpr fun k _=>qiq m k
  generalize (List.range 8).map (cw m)=cs at hw0 hcl hlow ⊢;have z0:=A7 m (show (8:Int)≠0 from O0);have z1:=Az m (show (0:Int)<8 from O0);refine ⟨_,rfl,_,_,rfl,rfl,⟨O0,O0⟩,_,_,rfl,rfl,(show (0:Int)<4 from O0),rfl,_,rfl,?_⟩;refine VC (fun _=>?_) (fun _=>?_)
  ·refine ⟨_,rfl,8,rfl,O0,O0,jr 8 (fun i ys H'=>qu H1 H'∧ys=((List.range i).map fun k=>V.str (wrd (cs.take (k+1))))) ⟨qu.refl _,rfl⟩ (fun i ys H' h=>?_) O0 (fun i ys H2 hi h=>?_) (fun ys H2 h=>?_)⟩
   ·rw [h.2,Aj,Er];exact Aw _
   ·obtain ⟨g2,rfl⟩:=h;refine ⟨hi,fun v H3 yl=>?_⟩;obtain ⟨rfl,rfl⟩:=yl;refine ⟨rfl,_,rfl,_,rfl,.inl ⟨_,_,rfl,rfl,_,rfl,.inl ⟨pw,_,rfl,SqL.of (g2 _ _ hw0),fun p hp=>⟨_,p,(cs.take (i+1)).map one,rfl,rfl,SqL.of ?_,?_,g2.trans (qj hp _),?_⟩⟩⟩⟩
    ·rw [upd_same,VU _ _ (i+1) ⋯,← lone,Fc]
    ·rw [Xo];have:=Ce (i+1) cs;have e:(Str.ofString "").length=0:=∅;rw [e,Nat.mul_zero];omega
    ·rw [XE,List.range_succ,A5];rfl
   ·obtain ⟨g2,rfl⟩:=h;refine ⟨Aw _,fun D hD=>q ((List.range 8).map fun k=>wrd (cs.take (k+1))) D _ ⟨by simp,fun x hx=>?_,begins cs hcl⟩ ((g0.trans g2).trans (qj hD _)) (by rw [upd_same,Ck];rfl)⟩
    obtain ⟨k,hk,rfl⟩:=B0.mp hx;have hk':=De.mp hk;refine XC (by rw [Bm];omega) (by rw [Bm];omega) (A6.mpr fun c hc=>A6.mp hlow c (Ch hc))
  ·refine ⟨(O0:0≤Ag),fun pm hpm=>?_⟩;have gm:=qj hpm (.lst []);have nwm:pw≠pm:=qK hw0 hpm;have hpw0:H' pw=none:=hpw;refine ⟨_,rfl,8,rfl,O0,O0,?_⟩;have j0:=A7 (m / 8) (show (1+m % 8:Int)≠0 from ⋯);have j1:=Az (m / 8) (show (0:Int)<1+m % 8 from ⋯);generalize hj:(m / 8 % (1+m % 8)).toNat=j;generalize hz:(1+m % 8).toNat=z;have hjz:j<z:=⋯;have hz8:z≤8:=⋯;refine ZW 8 (fun i σ H2=>∃ (ws:List Nat) (o6:Option V),σ=[some (.int m),some (.int 8),some (.str (Str.ofString "abcdefghijklmnopqrstuvwxyz")),some (.int (1+m % 8)),some (.ref pw),some (.ref pm),o6]∧qu H' H2∧H2 pw=some (.lst (ws.map fun c=>V.str (one c)))∧
    H2 pm=some (.lst ((List.range i).map fun k=>V.str (wrd ((cs.set j (gw m k)).take z))))∧ws.length=8∧∀ x,ws.set j x=cs.set j x) ?_ (fun i σ H2 hi h=>?_) (fun σ H2 h=>?_)
   ·exact ⟨cs,none,rfl,g0.trans gm,gm _ _ hw0,upd_same,hcl,fun _=>rfl⟩
   ·obtain ⟨ws,o6,rfl,g2,hw2,hm2,hwl,hws⟩:=h;refine ⟨hi,fun v H3 yl=>?_⟩;obtain ⟨rfl,rfl⟩:=yl;have e0:=A7 (m / 2048+7*(0+(i:Int))) (show (26:Int)≠0 from O0);have e1:=Az (m / 2048+7*(0+(i:Int))) (show (0:Int)<26 from O0);have eg:gw m i=97+((m / 2048+7*(0+(i:Int))) % 26).toNat:=by unfold gw;rw [Int.zero_add]
    have hix:ixN (ws.map fun c=>V.str (one c)).length (m / 8 % (1+m % 8))=some j:=by
     unfold ixN;rw [Aj,hwl,if_pos j0,if_pos ⋯,hj]
    refine ⟨_,rfl,_,rfl,_,_,rfl,rfl,⟨O0,O0⟩,_,rfl,_,_,rfl,rfl,.inl ⟨O0,O0⟩,.inl ⟨_,_,rfl,rfl,_,_,rfl,rfl,(show (0:Int)<26 from O0),.inr (.inr ⟨_,_,_,rfl,rfl,∅,qdt e0 e1,?_⟩)⟩⟩;refine ⟨_,rfl,_,rfl,_,_,rfl,rfl,⟨O0,O0⟩,_,rfl,_,_,rfl,rfl,(show (0:Int)<1+m % 8 from ⋯),pw,_,_,j,rfl,rfl,hw2,hix,?_⟩;rw [← eg];have es:(ws.map fun c=>V.str (one c)).set j (.str (one (gw m i)))=(cs.set j (gw m i)).map fun c=>V.str (one c):=by rw [← hws,List.map_set]
    refine ⟨_,rfl,.inl ⟨rfl,_,SqL.of (by rw [qG (Ne.symm nwm)];exact hm2)⟩,rfl,_,rfl,_,rfl,_,rfl,.inl ⟨pw,(cs.set j (gw m i)).map (fun c=>V.str (one c)),rfl,SqL.of ?_,fun p hp=>?_⟩⟩
    ·rw [upd_same];exact congrArg (fun l=>some (HO.lst l)) es
    ·have gw2:=jg g2 hpw (.lst ((ws.map fun c=>V.str (one c)).set j (.str ⟨#[gw m i]⟩)));have hw3:upd H3 pw (.lst ((ws.map fun c=>V.str (one c)).set j (.str ⟨#[gw m i]⟩))) pw=some (.lst ((cs.set j (gw m i)).map fun c=>V.str (one c))):=by rw [upd_same];exact congrArg (fun l=>some (HO.lst l)) es
     have hm3:upd H3 pw (.lst ((ws.map fun c=>V.str (one c)).set j (.str ⟨#[gw m i]⟩))) pm=some (.lst ((List.range i).map fun k=>V.str (wrd ((cs.set j (gw m k)).take z)))):=by rw [qG (Ne.symm nwm)];exact hm2
     change upd H3 pw (.lst ((ws.map fun c=>V.str (one c)).set j (.str ⟨#[gw m i]⟩))) p=none at hp
     generalize upd H3 pw (.lst ((ws.map fun c=>V.str (one c)).set j (.str ⟨#[gw m i]⟩)))=H4 at hp gw2 hw3 hm3 ⊢;have gp:=qj hp (.lst (zG ((cs.set j (gw m i)).map fun c=>V.str (one c)) none (some (1+m % 8))));refine ⟨_,p,((cs.set j (gw m i)).take z).map one,rfl,rfl,SqL.of ?_,?_,pm,_,_,rfl,rfl,gp _ _ hm3,?_,?_⟩
     ·rw [upd_same,VU _ _ z ⋯,← lone,Fc]
     ·rw [Xo];have:=Ce z (cs.set j (gw m i));have e:(Str.ofString "").length=0:=∅;rw [e,Nat.mul_zero];omega
     ·rw [Aj,Er];exact Nat.lt_trans hi O0
     ·refine ⟨cs.set j (gw m i),_,rfl,jg (gw2.trans gp) (g0.free hpm) _,?_,?_,by rw [Ea];exact hcl,fun x=>by rw [List.set_set]⟩
      ·rw [qG nwm];exact gp _ _ hw3
      ·rw [upd_same,XE,List.range_succ,A5];rfl
   ·obtain ⟨ws,o6,rfl,g2,hw2,hm2,hwl,hws⟩:=h;refine ⟨Aw _,_,rfl,q ((List.range 8).map fun k=>wrd ((cs.set j (gw m k)).take z)) pm _ ⟨by simp,fun x hx=>?_,qkp cs j z (gw m) hjz ⋯ fun a b ha hb h=>qik m a b ha hb h⟩ g2 (by rw [hm2,Ck];rfl)⟩
    obtain ⟨k,hk,rfl⟩:=B0.mp hx;refine XC (by rw [Bm,Ea];omega) (by rw [Bm,Ea];omega) (A6.mpr fun c hc=>?_)
    rcases List.mem_or_eq_of_mem_set (Ch hc) with hc | rfl
    ·exact A6.mp hlow c hc
    ·exact qij m k
end
end Mine
namespace Tre
open PySem
mutual
def inL (L:List Str):Aa→Bool
 | .str x=>L.contains x
 | .tuple xs=>qdx L xs
 | .list _=>false
 | .dict _=>false
 | _=>true
def qdx (L:List Str):List Aa→Bool
 | []=>true
 | x::r=>inL L x&&qdx L r
end
def words:List Str:=["number","name","two","fun","loop","call","step","main","let","set","do","if","while","hand","back","fault","try","great","kind","any","unset","anya","+","-","*","<","="]
structure Ft (names:List Str) (d:Aa):Prop where
 fit:Tre.fit d=true
 ins:inL (words++names) d=true
structure Fts (names:List Str) (ds:List Aa):Prop where
 fit:Tre.zr ds=true
 ins:qdx (words++names) ds=true
section
variable {names:List Str}
theorem Fts.nil:Fts names []:=⟨rfl,rfl⟩
theorem Fts.cons {d:Aa} {r:List Aa} (h:Ft names d) (hr:Fts names r):Fts names (d::r):=⟨by rw [zr,h.fit,hr.fit];rfl,by rw [qdx,h.ins,hr.ins];rfl⟩
theorem Fts.snoc:∀ {xs:List Aa} {x:Aa},Fts names xs→Ft names x→Fts names (xs++[x])
 | [],x,_,h=> .cons h .nil
 | y::r,x,h,h'=>by
  have a:=h.fit;have b:=h.ins;rw [zr,Al] at a;rw [qdx,Al] at b;exact .cons ⟨a.1,b.1⟩ (Fts.snoc ⟨a.2,b.2⟩ h')
theorem Fts.tup {l:List Aa} (h:Fts names l):Ft names (.tuple l):=⟨by rw [Tre.fit];exact h.fit,by rw [inL];exact h.ins⟩
theorem Fts.of:∀ {xs:List Aa},(∀ x∈xs,Ft names x)→Fts names xs
 | [],_=> .nil
 | y::r,h=> .cons (h y Ay) (Fts.of fun x hx=>h x (Au _ hx))
theorem Ft.int (i:Int):Ft names (.int i):=⟨rfl,rfl⟩
theorem Ft.word {x:Str} (h:(words.contains x&&decide (x.length≤1000000))=true):Ft names (.str x):=by
 rw [Al] at h;refine ⟨h.2,?_⟩;rw [inL,B4];exact B3 _ (B4.mp h.1)
theorem Ft.name {x:Str} (h:qP x=true) (hx:x∈words++names):Ft names (.str x):=by
 unfold qP at h;rw [Al,Al] at h;have:=Bb h.1.2;refine ⟨Ao ⋯,?_⟩;rw [inL,B4];exact hx
end
end Tre
namespace Mine
open PySem L2
structure DIn (K:Frag) (H:Hp) (st a nm:Ae) (ns:List Int) (names:List Str) (k l:Int):Prop where
 dict:H st=some (.dK (stK a k l nm))
 cells:SqL K H a (ns.map V.int)
 nms:SqL K H nm (names.map V.str)
 good:Nms names
section
variable {P:Program} {w:World} {K:Frag} {mg:Str→Option Ac} {base:Heap} {f:Ae} {fd:FuncData} {ad:Ad}
theorem DIn.same {H H':Hp} {st a nm:Ae} {ns:List Int} {names:List Str} {k l:Int} (h:DIn K H st a nm ns names k l) (g:qu H H'):DIn K H' st a nm ns names k l:=⟨g _ _ h.dict,g.seq h.cells,g.seq h.nms,h.good⟩
theorem DIn.put {H:Hp} {st a nm:Ae} {ns:List Int} {names:List Str} {k l k' l':Int} (h:DIn K H st a nm ns names k l):DIn K (upd H st (.dK (stK a k' l' nm))) st a nm ns names k' l':=⟨upd_same,(Stay.put h.dict).sqL h.cells,(Stay.put h.dict).sqL h.nms,h.good⟩
def Y0 (K:Frag) (n:Nat):Sp:=fun vs H Q _=>∃ st a nm ns names k l deep may,vs=[.ref st,.int deep,.bl may]∧DIn K H st a nm ns names k l∧Bud.PS n deep k l∧∀ H' x d (s t:Nat) k' l',Stay st H H'→DIn K H' st a nm ns names k' l'→Rep K H' x d→Tre.Ft names d→Tre.Pt d "statement" may s t→Bud.BS n k l s t k' l'→Q x H'
def vt (K:Frag) (n:Nat):Sp:=fun vs H Q _=>∃ st a nm ns names k l deep,vs=[.ref st,.int deep]∧DIn K H st a nm ns names k l∧Bud.PT n deep k l∧∀ H' x d (s t:Nat) k' l',Stay st H H'→DIn K H' st a nm ns names k' l'→Rep K H' x d→Tre.Ft names d→(∀ hands,Tre.Pt d "term" hands s t)→Bud.BT n deep k l s t k' l'→Q x H'
def vA (K:Frag) (n:Nat):Sp:=fun vs H Q _=>∃ st a nm ns names k l deep may,vs=[.ref st,.int deep,.bl may]∧DIn K H st a nm ns names k l∧Bud.PB n deep k l∧∀ H' x ds (s t:Nat) k' l',Stay st H H'→DIn K H' st a nm ns names k' l'→Rep K H' x (.tuple ds)→Tre.Fts names ds→Tre.Bd ds may s t→Bud.BB n k l s t k' l'→Q x H'
section
variable {n i j v:Nat} {σ:St} {H:Hp} {Q:VK} {st a nm:Ae} {ns:List Int} {names:List Str} {k l deep:Int} {may:Bool}
theorem jL (hi:σ[i]?=some (some (.ref st))) (hj:σ[j]?=some (some (.int deep))) (di:DIn K H st a nm ns names k l) (p:Bud.PT n (deep - 1) k l) (h:∀ H' x d (s t:Nat) k' l',Stay st H H'→DIn K H' st a nm ns names k' l'→Rep K H' x d→Tre.Ft names d→(∀ hands,Tre.Pt d "term" hands s t)→Bud.BT n (deep - 1) k l s t k' l'→Q x H'):
  zP (vt K n) [] E0 (qz (qN i) (qz (tOp (rI0 fun i j=>V.int (i - j)) (qN j) (tC (V.int 1))) zi)) σ H Q:=⟨_,hi,_,hj,_,_,rfl,rfl,st,a,nm,ns,names,k,l,_,rfl,di,p,h⟩
theorem qg2 (di:DIn K H st a nm ns names k l) (p:Bud.PB n deep k l) (h:∀ H' x ds (s t:Nat) k' l',Stay st H H'→DIn K H' st a nm ns names k' l'→Rep K H' x (.tuple ds)→Tre.Fts names ds→Tre.Bd ds may s t→Bud.BB n k l s t k' l'→Q x H'):vA K n [.ref st,.int deep,.bl may] H Q E0:=⟨st,a,nm,ns,names,k,l,_,may,rfl,di,p,h⟩
theorem Wa (hi:σ[i]?=some (some (.ref st))) (hj:σ[j]?=some (some (.int deep))) (hv:σ[v]?=some (some (.bl may))) (di:DIn K H st a nm ns names k l) (p:Bud.PB n (deep - 1) k l) (h:∀ H' x ds (s t:Nat) k' l',Stay st H H'→DIn K H' st a nm ns names k' l'→Rep K H' x (.tuple ds)→Tre.Fts names ds→Tre.Bd ds may s t→Bud.BB n k l s t k' l'→Q x H'):
  zP (vA K n) [] E0 (qz (qN i) (qz (tOp (rI0 fun i j=>V.int (i - j)) (qN j) (tC (V.int 1))) (qz (qN v) zi))) σ H Q:=⟨_,hi,_,hj,_,_,rfl,rfl,_,hv,qg2 di p h⟩
theorem qg1 (di:DIn K H st a nm ns names k l) (p:Bud.PS n deep k l) (h:∀ H' x d (s t:Nat) k' l',Stay st H H'→DIn K H' st a nm ns names k' l'→Rep K H' x d→Tre.Ft names d→Tre.Pt d "statement" may s t→Bud.BS n k l s t k' l'→Q x H'):Y0 K n [.ref st,.int deep,.bl may] H Q E0:=⟨st,a,nm,ns,names,k,l,_,may,rfl,di,p,h⟩
end
theorem wy (F:Fun K "_law_body" "_law_body" Jn f fd) (c:Cs K mg ad) (n:Nat) (d_law_next:Def P w K mg base 2 "_law_next" ["_law_state"] (V2 K)) (d_law_statement:Def P w K mg base (4*n+5) "_law_statement" ["_law_state","_law_deep","_law_may_hand"] (Y0 K n)):FnOk P w K mg base CX0 (4*n+6) f fd ["_law_state","_law_deep","_law_may_hand"] (vA K n):=by
 refine F.ok (k:=4*n+5) Y5 (fun vs H Q E h=>?_) (fun cdv A outer s H vs Q E hr h=>?_)
 ·obtain ⟨st,a,nm,ns,names,k,l,deep,may,rfl,_⟩:=h;rfl
 obtain ⟨st,a,nm,ns,names,k,l,deep,may,rfl,di,pp,q⟩:=h;refine ⟨_,(ql (qx (zo (jR (K:=K) rfl) (by rfl) c.tuple_ zV (qd (jU (sc:=qp Jn) (NX:=["_law_state","_law_deep","_law_may_hand"]) (N:=["_law_turn","_law_state","_law_deep","_law_may_hand"]) (js:=[none,some 0,some 1,some 2]) (zW rfl c.range_ (qd (qo qL (pdf d_law_next (qd (pv 0) qf)) qi) qf)) (fun _ _ _ _ _=>(zK (i:=0) (show (["_law_turn","_law_state","_law_deep","_law_may_hand"]:List Str).Nodup from ∅) rfl (Or.inl rfl))) (fun _ _ _ _ _=>Jr) (fun _ _ _ _ _=>(pdf d_law_statement (qd (pv 1) (qd (pv 2) (qd (pv 3) qf))))) (zU rfl) ⟨∅,rfl,∅,∅,rfl,∅⟩) qf)))),?_⟩
 refine ⟨_,rfl,st,a,nm,ns,k,l,rfl,di.dict,di.cells,pp.2.1,(by have:=pp.2.2;omega),fun z H1 hz0 hz1 e1=>?_⟩
 have z0:=A7 z (show (4:Int)≠0 from O0);have z1:=Az z (show (0:Int)<4 from O0);have di1:DIn K H1 st a nm ns names (k+1) l:=e1▸di.put;have st1:Stay st H H1:=e1▸Stay.put di.dict;refine ⟨_,_,rfl,rfl,(show (0:Int)<4 from O0),_,rfl,⋯,⋯,?_⟩;generalize hc:(z % 4).toNat=cnt;have hc3:cnt≤3:=⋯;refine jr cnt (fun i ys H'=>∃ (ds:List Aa) (k' l':Int) (s t:Nat),Stay st H H'∧DIn K H' st a nm ns names k' l'∧Reps K H' ys ds∧ds.length=i∧Tre.Fts names ds∧Tre.Ptl (ds.map fun x=>(x,("statement":Str))) may s t∧Bud.BI n k l i s t k' l') ?_ (fun i ys H' h=>?_) (Ar hc3 O0) (fun i ys H' hi h=>?_) (fun ys H' h=>?_)
 ·exact ⟨[],k+1,l,0,0,st1,di1,.nil,rfl,.nil,.nil,.nil⟩
 ·obtain ⟨ds,k',l',s,t,_,_,rs,hl,_⟩:=h;have:=rs.length;omega
 ·obtain ⟨ds,k',l',s,t,sy,di2,rs,hl,hf,pt,b⟩:=h;refine ⟨hi,fun v H3 yl=>?_⟩;obtain ⟨rfl,rfl⟩:=yl;refine ⟨_,rfl,_,rfl,_,rfl,qg1 di2 (b.pre pp ⋯) fun H4 x d s2 t2 k2 l2 sy4 di4 rx fx px b2=>?_⟩;refine ⟨ds++[d],k2,l2,s+s2,max t t2,sy.trans sy4,di4,(rs.stay sy4).append (.cons rx .nil),by rw [Am,hl];rfl,hf.snoc fx,?_,b.snoc b2⟩
  rw [A5];exact pt.append (Tre.zZ px)
 ·obtain ⟨ds,k',l',s,t,sy,di2,rs,hl,hf,pt,b⟩:=h;refine ⟨Aw _,fun D hD=>?_⟩;refine ⟨D,ys,rfl,.inl ⟨SqL.of upd_same,fun p hp=>?_⟩⟩;have g:=(qj hD (.lst ys)).trans (qj hp (.tup ys));exact q _ _ ds s t k' l' (sy.then g) (di2.same g) (.tup (SqT.of upd_same) (rs.same g)) hf ⟨⋯,pt⟩ (b.out hc3)
theorem qa0 {names:List Str} (g:Nms names) {lo hi:Int} (h0:0≤lo) (h1:lo≤hi∧hi≤lo+3):∃ cut:List Str,zG (names.map V.str) (some lo) (some hi)=cut.map V.str∧Tre.areNames (.tuple (cut.map PyData.str))=true∧∀ x∈cut,Tre.qP x=true∧x∈names:=by
 obtain ⟨i,rfl⟩:∃ i:Nat,lo=(i:Int):=⟨lo.toNat,⋯⟩;obtain ⟨j,rfl⟩:∃ j:Nat,hi=(j:Int):=⟨hi.toNat,⋯⟩;refine ⟨(names.drop (min i names.length)).take (min j names.length - min i names.length),?_,?_,fun x hx=>⟨g.good x (C7 (Ch hx)),C7 (Ch hx)⟩⟩
 ·unfold zG;rw [HT.sIx_nat,HT.sIx_nat,Aj,Fc,List.map_drop]
 ·have hl:((names.drop (min i names.length)).take (min j names.length - min i names.length)).length≤4:=by
   have:=Ce (min j names.length - min i names.length) (names.drop (min i names.length));omega
  have hsub:∀ x∈(names.drop (min i names.length)).take (min j names.length - min i names.length),Tre.qP x=true:=fun x hx=>g.good x (C7 (Ch hx));have hnd:((names.drop (min i names.length)).take (min j names.length - min i names.length)).Nodup:=(List.Pairwise.drop g.nd).take;generalize (names.drop (min i names.length)).take (min j names.length - min i names.length)=cut at hl hsub hnd;simp only [Tre.areNames];rw [Aj,Ao hl,Bu,Ck,Al];refine ⟨?_,Ao ?_⟩
  ·rw [Dy];exact A6.mpr fun x hx=>hsub x hx
  ·have e:(Tre.txt ∘ PyData.str)=id:=rfl;rw [e,List.map_id];exact hnd
theorem qfm {kd:Int} (h:¬ (kd=1∨kd=8∨kd=9)):inV (.int kd) [.int 1,.int 8,.int 9]=false:=by
 have e:∀ a:Int,¬ kd=a→eqV (.int a) (.int kd)=false:=fun a n=>Bi.mpr fun z=>n z.symm;have n1:¬ kd=1:=fun z=>h (.inl z);have n8:¬ kd=8:=fun z=>h (.inr (.inl z));have n9:¬ kd=9:=fun z=>h (.inr (.inr z));show (eqV (.int 1) (.int kd)||(eqV (.int 8) (.int kd)||(eqV (.int 9) (.int kd)||false)))=false;rw [e 1 n1,e 8 n8,e 9 n9];rfl
theorem qe1 {i:Int} (h0:0≤i) (h1:i<5):∃ c,atI (Str.ofString "+-*<=").cps.toList i=some c∧(Tre.signs.any fun y=>y==(⟨#[c]⟩:Str))=true∧(Tre.words.contains (⟨#[c]⟩:Str)&&decide ((⟨#[c]⟩:Str).length≤1000000))=true:=by
 have e:(Str.ofString "+-*<=").cps.toList=[43,45,42,60,61]:=∅;rw [e];have h:i=0∨i=1∨i=2∨i=3∨i=4:=⋯;rcases h with rfl | rfl | rfl | rfl | rfl
 ·exact ⟨43,rfl,∅,∅⟩
 ·exact ⟨45,rfl,∅,∅⟩
 ·exact ⟨42,rfl,∅,∅⟩
 ·exact ⟨60,rfl,∅,∅⟩
 ·exact ⟨61,rfl,∅,∅⟩
theorem qdy {i:Nat} {m kd:Int} {A B:TS} {D:Ends} {σ:St} {H:Hp} (h:σ[i]?=some (some (.int kd))) (hA:kd=m→A D σ H) (hB:¬ kd=m→B D σ H):Vg (Jg (tOp rEq (qN i) (tC (V.int m)))) A B D σ H:=by
 refine ⟨_,h,rfl,_,rfl,?_⟩
 by_cases e:kd=m
 ·exact zE (show decide _=true from Ao (congrArg V.int e)) (hA e)
 ·exact zF (show decide _=false from Ap fun z=>e (V.int.inj z)) (hB e)
theorem qf1 {i:Nat} {m kd:Int} {A B:TS} {D:Ends} {σ:St} {H:Hp} (h:σ[i]?=some (some (.int kd))) (hA:kd<m→A D σ H) (hB:¬ kd<m→B D σ H):Vg (Jg (tOp (rI0 fun i j=>V.bl (decide (i<j))) (qN i) (tC (V.int m)))) A B D σ H:=by
 refine ⟨_,h,_,_,rfl,rfl,_,rfl,?_⟩
 by_cases e:kd<m
 ·exact zE (show decide _=true from Ao e) (hA e)
 ·exact zF (show decide _=false from Ap e) (hB e)
def Q5 (T:Sp):TS:=J3 (Jy (qz (tC (V.str (Str.ofString "step"))) (qz (zP T [] E0 (qz (qN 0) (qz (tOp (rI0 fun i j=>V.int (i - j)) (qN 1) (tC (V.int 1))) zi))) (qz (zP T [] E0 (qz (qN 0) (qz (tOp (rI0 fun i j=>V.int (i - j)) (qN 1) (tC (V.int 1))) zi))) zi))))
def Q4 (K:Frag) (T:Sp):TS:=jO (Vg (Jg (tOp rEq (qN 3) (tC (V.int 6)))) (jO (vz (zP T [] E0 (qz (qN 0) (qz (tOp (rI0 fun i j=>V.int (i - j)) (qN 1) (tC (V.int 1))) zi))) (zD 7)) (J3 (Jy (qz (tC (V.str (Str.ofString "call"))) (qz (qN 7) (qz (tCB (fun xs H Q=>∃ p ys,xs=[V.ref p]∧((SqL K H p ys∧∀ (l:Ae),H l=none→Q (V.ref l) (upd H l (HO.tup ys)))∨SqT K H p ys∧Q (V.ref p) H)) (qz (YT (QH (qz (tOp (rI (fun x j=>0<j) fun i j=>V.int (i % j)) (qN 4) (tC (V.int 5))) zi)) [none,some 0,some 1] (zD 0) qbx (zP T [] E0 (qz (qN 1) (qz (tOp (rI0 fun i j=>V.int (i - j)) (qN 2) (tC (V.int 1))) zi)))) zi)) zi)))))) vq) (Q5 T)
def Q3 (K:Frag) (T:Sp) (B:Sp):TS:=jO (Vg (Jg (tOp (rI0 fun i j=>V.bl (decide (i<j))) (qN 3) (tC (V.int 6)))) (jO (vz (tCB (fun xs H Q=>∃ p ys,xs=[V.ref p]∧((SqL K H p ys∧∀ (l:Ae),H l=none→Q (V.ref l) (upd H l (HO.tup ys)))∨SqT K H p ys∧Q (V.ref p) H)) (qz (tSl (Xd K) (qN 5) (YS (tOp (rI (fun x j=>0<j) fun i j=>V.int (i % j)) (qN 4) (tC (V.int 5)))) (YS (tOp JS (tOp (rI (fun x j=>0<j) fun i j=>V.int (i % j)) (qN 4) (tC (V.int 5))) (tOp (rI (fun x j=>0<j) fun i j=>V.int (i % j)) (tOp (rI YK fun i j=>V.int (i / j)) (qN 4) (tC (V.int 5))) (tC (V.int 4)))))) zi)) (zD 6)) (J3 (Jy (qz (tOp (rIx K) (V1 (qz (tC (V.str (Str.ofString "fun"))) (qz (tC (V.str (Str.ofString "loop"))) zi))) (tOp (rI0 fun i j=>V.int (i - j)) (qN 3) (tC (V.int 4)))) (qz (qN 6) (qz (zP B [] E0 (qz (qN 0) (qz (tOp (rI0 fun i j=>V.int (i - j)) (qN 1) (tC (V.int 1))) (qz (tOp rEq (qN 3) (tC (V.int 5))) zi)))) zi)))))) vq) (Q4 K T)
def Q2 (K:Frag) (T:Sp) (B:Sp):TS:=jO (Vg (Jg (tOp (rI0 fun i j=>V.bl (decide (i<j))) (qN 3) (tC (V.int 4)))) (J3 (Jy (qz (tC (V.str (Str.ofString "two"))) (qz (tOp (rIx K) (tC (V.str (Str.ofString "+-*<="))) (tOp (rI (fun x j=>0<j) fun i j=>V.int (i % j)) (qN 4) (tC (V.int 5)))) (qz (zP T [] E0 (qz (qN 0) (qz (tOp (rI0 fun i j=>V.int (i - j)) (qN 1) (tC (V.int 1))) zi))) (qz (zP T [] E0 (qz (qN 0) (qz (tOp (rI0 fun i j=>V.int (i - j)) (qN 1) (tC (V.int 1))) zi))) zi)))))) vq) (Q3 K T B)
def Q1 (K:Frag) (T:Sp) (B:Sp):TS:=jO (Vg (Jg (tOp (rIn K false) (qN 3) (Jy (qz (tC (V.int 1)) (qz (tC (V.int 8)) (qz (tC (V.int 9)) zi)))))) (J3 (Jy (qz (tC (V.str (Str.ofString "name"))) (qz (tOp (rIx K) (qN 5) (tOp (rI (fun x j=>0<j) fun i j=>V.int (i % j)) (qN 4) (tCB (fun xs H Q=>∃ x n,xs=[x]∧qbd K x H n∧Q (V.int ↑n) H) (qz (qN 5) zi)))) zi)))) vq) (Q2 K T B)
def qbw (K:Frag) (T B:Sp):TS:=jO (Vg (Jg (tOp rEq (qN 3) (tC (V.int 0)))) (J3 (Jy (qz (tC (V.str (Str.ofString "number"))) (qz (zP VH [] E0 (qz (qN 4) zi)) zi)))) vq) (Q1 K T B)
theorem V0 {H H2:Hp} {Q:VK} {n:Nat} {T B:Sp} {st a nm:Ae} {ns:List Int} {names:List Str} {k l deep z kd mo:Int} (hT:0<n→T=vt K (n - 1)) (hB:0<n→B=vA K (n - 1)) (pp:Bud.PT n deep k l)
  (q:∀ H' x d (s t:Nat) k' l',Stay st H H'→DIn K H' st a nm ns names k' l'→Rep K H' x d→Tre.Ft names d→(∀ hands,Tre.Pt d "term" hands s t)→Bud.BT n deep k l s t k' l'→Q x H')
  (di2:DIn K H2 st a nm ns names (k+1) (l - 1)) (sy2:Stay st H H2) (m0:0≤mo) (m1:mo<268435456) (hkd:0≤kd∧kd<10∧(deep<1∨l - 1<0→kd<2)):
  qbw K T B {nx:=fun _ H'=>Q .non H',rt:=Q} [some (.ref st),some (.int deep),some (.int z),some (.int kd),some (.int mo),some (.ref nm),none,none] H2:=by
 have fin1:∀ (H':Hp) (x:V) (d:Aa),qu H2 H'→Rep K H' x d→Tre.Ft names d→(∀ hands,Tre.Pt d "term" hands 1 1)→Q x H':=fun H' x d g r ff pt=>
  q H' x d 1 1 (k+1) (l - 1) (sy2.then g) (di2.same g) r ff pt .one
 obtain ⟨kd0,kd1,kd2⟩:=hkd;refine qdy rfl (fun e0=>?_) (fun e0=>?_)
 ·skip
  refine ⟨_,rfl,_,rfl,m0,m1,fun i H3 hi g=>⟨(O0:2≤Ag),fun p hp=>?_⟩⟩;exact fin1 _ _ (.tuple [.str "number",.int i]) (g.trans (qj hp _)) (.tup (SqT.of upd_same) (.cons (.str _) (.cons (.int _) .nil))) (Tre.Fts.tup (.cons (.word ∅) (.cons (.int _) .nil))) fun hands=>Tre.jj hi
 refine ⟨_,rfl,(O0:3≤Ag),fun p1 hp1=>⟨p1,_,rfl,.inr (SqT.of upd_same),rfl,rfl,_,rfl,?_⟩⟩;have gp1:=qj hp1 (.tup [.int 1,.int 8,.int 9]);have di3:=di2.same gp1;have sy3:=sy2.then gp1;have fin3:∀ (H':Hp) (x:V) (d:Aa),qu (upd H2 p1 (.tup [.int 1,.int 8,.int 9])) H'→Rep K H' x d→Tre.Ft names d→(∀ hands,Tre.Pt d "term" hands 1 1)→Q x H':=fun H' x d g=>fin1 H' x d (gp1.trans g);generalize upd H2 p1 (.tup [.int 1,.int 8,.int 9])=H3 at di3 sy3 fin3 ⊢;have hnl:names.length=8:=di2.good.len
 by_cases e1:kd=1∨kd=8∨kd=9
 ·refine zE (show inV _ _=true by rcases e1 with rfl | rfl | rfl <;> decide+kernel) ?_
  obtain ⟨v,hv,x,rfl,hx,hxn⟩:=Vf (xs:=names.map V.str) (i:=mo % (((names.map V.str).length:Nat):Int)) (p:=fun v=>∃ x,v= .str x∧Tre.qP x=true∧x∈names) (fun y hy=>by
   obtain ⟨x,hx,rfl⟩:=B0.mp hy;exact ⟨x,rfl,di2.good.good x hx,hx⟩) (A7 _ (by rw [Aj,hnl];decide)) (Az _ (by rw [Aj,hnl];decide))
  refine ⟨_,rfl,_,rfl,_,rfl,_,_,rfl,.inl ⟨_,di3.nms,rfl⟩,_,_,rfl,rfl,(show (0:Int)<(((names.map V.str).length:Nat):Int) by rw [Aj,hnl];decide),.inl ⟨_,_,_,_,rfl,rfl,di3.nms,hv,(O0:2≤Ag),fun p hp=>?_⟩⟩
  exact fin3 _ _ (.tuple [.str "name",.str x]) (qj hp _) (.tup (SqT.of upd_same) (.cons (.str _) (.cons (.str _) .nil))) (Tre.Fts.tup (.cons (.word ∅) (.cons (.name hx (Bn _ hxn)) .nil))) fun hands=>Tre.qe6 hx
 refine zF (show inV _ _=false from qfm e1) ?_;have hn1:0<n:=by have:=pp.1;omega
 have hl1:0≤l - 1:=⋯;have hd1:1≤deep:=⋯;clear kd0 kd1 kd2 e0 e1 m0 m1;obtain ⟨n',rfl⟩:∃ n',n=n'+1:=⟨n - 1,⋯⟩;have eT:T=vt K n':=hT hn1;have eB:B=vA K n':=hB hn1;have hS:=pp.many hl1 hd1;clear hT hB hn1 pp hl1 hd1;subst eT;subst eB;refine qf1 rfl (fun e4=>?_) (fun e4=>?_)
 ·skip
  obtain ⟨ch,hch,hsg,hsw⟩:=qe1 (i:=mo % 5) (A7 _ O0) (Az _ O0);refine ⟨_,rfl,_,_,rfl,rfl,(show (0:Int)<5 from O0),.inr (.inr ⟨_,_,_,rfl,rfl,∅,hch,?_⟩)⟩;refine jL rfl rfl di3 hS.pt fun H4 x1 d1 s1 t1 k1 l1 sy4 di4 r1 f1 p1 b1=>?_;refine jL rfl rfl di4 (hS.pt1 b1) fun H5 x2 d2 s2 t2 k2 l2 sy5 di5 r2 f2 p2 b2=>⟨(O0:4≤Ag),fun p hp=>?_⟩;have g:=qj hp (.tup [.str "two",.str ⟨#[ch]⟩,x1,x2]);refine q _ _ (.tuple [.str "two",.str ⟨#[ch]⟩,d1,d2]) (s1+s2+1) (max t1 t2+1) k2 l2 (((sy3.trans sy4).trans sy5).then g) (di5.same g) (.tup (SqT.of upd_same) (.cons (.str _) (.cons (.str _) (.cons ((r1.stay sy5).same g) (.cons (r2.same g) .nil))))) ?_ (fun hands=>Tre.qcw hsg (p1 hands) (p2 hands)) (hS.two b1 b2);exact Tre.Fts.tup (.cons (.word ∅) (.cons (.word hsw) (.cons f1 (.cons f2 .nil))))
 refine qf1 rfl (fun e6=>?_) (fun e6=>?_)
 ·skip
  refine ⟨_,rfl,_,rfl,_,_,rfl,rfl,(show (0:Int)<5 from O0),_,rfl,_,rfl,_,_,rfl,rfl,(show (0:Int)<5 from O0),_,rfl,_,_,rfl,rfl,⟨O0,O0⟩,_,_,rfl,rfl,(show (0:Int)<4 from O0),.inl ⟨_,_,rfl,rfl,_,rfl,.inl ⟨nm,_,rfl,di3.nms,fun p2 hp2=>⟨p2,_,rfl,.inl ⟨SqL.of upd_same,fun p3 hp3=>?_⟩⟩⟩⟩⟩;obtain ⟨cut,ecut,hcut,hgood⟩:=qa0 di2.good (lo:=mo % 5) (hi:=mo % 5+mo / 5 % 4) ⋯ ⋯;dsimp only at hp3 ⊢;rw [ecut] at hp3 ⊢;have g2:=qj hp2 (.lst (cut.map V.str));have g3:=qj hp3 (.tup (cut.map V.str));have h3:upd (upd H3 p2 (.lst (cut.map V.str))) p3 (.tup (cut.map V.str)) p3=some (.tup (cut.map V.str)):=upd_same;have di4:=(di3.same g2).same g3;have sy4:=(sy3.then g2).then g3;generalize upd (upd H3 p2 (.lst (cut.map V.str))) p3 (.tup (cut.map V.str))=H4 at h3 di4 sy4 ⊢;refine ⟨(O0:2≤Ag),fun p4 hp4=>?_⟩;have g4:=qj hp4 (.lst [.str "fun",.str "loop"]);have di5:=di4.same g4;have sy5:=sy4.then g4;have fcut:Tre.Fts names (cut.map PyData.str):= .of fun d hd=>by
   obtain ⟨x,hx,rfl⟩:=B0.mp hd;exact .name (hgood x hx).1 (Bn _ (hgood x hx).2)
  obtain ⟨hh,bb,hat,hbb,hwd⟩:∃ (hh:Str) (bb:Bool),atI [V.str "fun",V.str "loop"] (kd - 4)=some (.str hh)∧decide (V.int kd=V.int 5)=bb∧((hh="fun"∧bb=false)∨(hh="loop"∧bb=true)):=by
   have h45:kd=4∨kd=5:=⋯;rcases h45 with rfl | rfl
   ·exact ⟨"fun",false,qw (j:=0) rfl,O0,.inl ⟨rfl,rfl⟩⟩
   ·exact ⟨"loop",true,qw (j:=1) rfl,O0,.inr ⟨rfl,rfl⟩⟩
  refine ⟨_,rfl,_,_,rfl,rfl,.inl ⟨p4,_,_,_,rfl,rfl,SqL.of upd_same,hat,_,rfl,_,rfl,_,rfl,_,_,rfl,rfl,_,rfl,rfl,?_⟩⟩;dsimp only;rw [hbb];refine qg2 (may:=bb) di5 hS.pb fun H6 x6 ds s6 t6 k6 l6 sy6 di6 r6 f6 bd6 b6=>⟨(O0:3≤Ag),fun p hp=>?_⟩;have g:=qj hp (.tup [.str hh,.ref p3,x6]);refine q _ _ (.tuple [.str hh,.tuple (cut.map PyData.str),.tuple ds]) (s6+1) (t6+1) k6 l6 ((sy5.trans sy6).then g) (di6.same g) (.tup (SqT.of upd_same) (.cons (.str _) (.cons (.tup (g.sqT (sy6.sqT (SqT.of (g4 _ _ h3)))) (Reps.strs cut)) (.cons (r6.same g) .nil)))) ?_ (fun hands=>?_) (hS.fn b6)
  ·exact Tre.Fts.tup (.cons (.word (by rcases hwd with ⟨rfl,_⟩ | ⟨rfl,_⟩ <;> decide+kernel)) (.cons fcut.tup (.cons f6.tup .nil)))
  ·rcases hwd with ⟨rfl,rfl⟩ | ⟨rfl,rfl⟩
   ·exact Tre.Zq hcut bd6
   ·exact Tre.Qn hcut bd6
 refine qdy rfl (fun e7=>?_) (fun e7=>?_)
 ·skip
  refine jL rfl rfl di3 hS.pt fun H4 x1 d1 s1 t1 k1 l1 sy4 di4 r1 f1 p1 b1=>?_;have mo0:=A7 mo (show (5:Int)≠0 from O0);have mo1:=Az mo (show (0:Int)<5 from O0);refine ⟨_,rfl,_,rfl,_,_,rfl,rfl,(show (0:Int)<5 from O0),_,rfl,⋯,⋯,?_⟩;generalize hcn:(mo % 5).toNat=cnt;have hc4:cnt≤4:=⋯;refine jr cnt (fun i ys H'=>∃ (ds:List Aa) (k' l':Int) (s t:Nat),Stay st H H'∧DIn K H' st a nm ns names k' l'∧Reps K H' ys ds∧Rep K H' x1 d1∧ds.length=i∧Tre.Fts names ds∧(∀ hands,Tre.Ptl (ds.map fun x=>(x,("term":Str))) hands s t)∧Bud.CI n' k l s1 i s t k' l') ?_ (fun i ys H' h=>?_) (Ar hc4 O0) (fun i ys H' hi h=>?_) (fun ys H' h=>?_)
  ·exact ⟨[],k1,l1,0,0,sy3.trans sy4,di4,.nil,r1,rfl,.nil,fun _=> .nil,.nil hS b1⟩
  ·obtain ⟨ds,k',l',s,t,_,_,rs,_,hl,_⟩:=h;have:=rs.length;omega
  ·obtain ⟨ds,k',l',s,t,sy,di5,rs,r1',hl,hf,pt,ci⟩:=h;refine ⟨hi,fun v H5 yl=>?_⟩;obtain ⟨rfl,rfl⟩:=yl;refine jL rfl rfl di5 (ci.pre hS ⋯) fun H6 x d s2 t2 k2 l2 sy6 di6 rx fx px b2=>?_;refine ⟨ds++[d],k2,l2,s+s2,max t t2,sy.trans sy6,di6,(rs.stay sy6).append (.cons rx .nil),r1'.stay sy6,by rw [Am,hl];rfl,hf.snoc fx,fun hands=>?_,ci.snoc b2⟩
   rw [A5];exact (pt hands).append (Tre.zZ (px hands))
  ·obtain ⟨ds,k',l',s,t,sy,di5,rs,r1',hl,hf,pt,ci⟩:=h;refine ⟨Aw _,fun D hD=>?_⟩;refine ⟨D,ys,rfl,.inl ⟨SqL.of upd_same,fun p2 hp2=>⟨(O0:3≤Ag),fun p3 hp3=>?_⟩⟩⟩;have ga:=(qj hD (.lst ys)).trans (qj hp2 (.tup ys));have gb:=qj hp3 (.tup [.str "call",x1,.ref p2]);have g:=ga.trans gb;refine q _ _ (.tuple [.str "call",d1,.tuple ds]) (s1+s+1) (max t1 t+1) k' l' (sy.then g) (di5.same g) (.tup (SqT.of upd_same) (.cons (.str _) (.cons (r1'.same g) (.cons (.tup (gb.sqT (SqT.of upd_same)) (rs.same g)) .nil)))) ?_ (fun hands=>Tre.VI (p1 hands) ⋯ (pt hands)) (ci.out hS b1 hc4);exact Tre.Fts.tup (.cons (.word ∅) (.cons f1 (.cons hf.tup .nil)))
 refine jL rfl rfl di3 hS.pt fun H4 x1 d1 s1 t1 k1 l1 sy4 di4 r1 f1 p1 b1=>?_;refine jL rfl rfl di4 (hS.pt1 b1) fun H5 x2 d2 s2 t2 k2 l2 sy5 di5 r2 f2 p2 b2=>⟨(O0:3≤Ag),fun p hp=>?_⟩;have g:=qj hp (.tup [.str "step",x1,x2]);refine q _ _ (.tuple [.str "step",d1,d2]) (s1+s2+1) (max t1 t2+1) k2 l2 (((sy3.trans sy4).trans sy5).then g) (di5.same g) (.tup (SqT.of upd_same) (.cons (.str _) (.cons ((r1.stay sy5).same g) (.cons (r2.same g) .nil)))) ?_ (fun hands=>Tre.Qm (p1 hands) (p2 hands)) (hS.two b1 b2);exact Tre.Fts.tup (.cons (.word ∅) (.cons f1 (.cons f2 .nil)))
theorem ww (F:Fun K "_law_term" "_law_term" Jm f fd) (c:Cs K mg ad) (n:Nat) (T B:Sp) (hT:0<n→T=vt K (n - 1)) (hB:0<n→B=vA K (n - 1)) (d_law_next:Def P w K mg base 2 "_law_next" ["_law_state"] (V2 K)) (d_law_number:Def P w K mg base 1 "_law_number" ["_law_more"] VH)
  (d_law_term:Def P w K mg base (4*n+3) "_law_term" ["_law_state","_law_deep"] T) (d_law_body:Def P w K mg base (4*n+3) "_law_body" ["_law_state","_law_deep","_law_may_hand"] B):FnOk P w K mg base CX0 (4*n+4) f fd ["_law_state","_law_deep"] (vt K n):=by
 refine F.ok (k:=4*n+3) zQ (fun vs H Q E h=>?_) (fun cdv A outer s H vs Q E hr h=>?_)
 ·obtain ⟨st,a,nm,ns,names,k,l,deep,rfl,_⟩:=h;rfl
 obtain ⟨st,a,nm,ns,names,k,l,deep,rfl,di,pp,q⟩:=h;have hu:=XI hr;refine ⟨_,(qh (pst 2 zQ.nd (pdf d_law_next (qd (pv 0) qf)))
   (qh (wV hu (pv 0) qg (qo zy (zO hu (pv 0) qg (fun _ _=>rfl)) qi) rfl)
   (qh (pst 3 zQ.nd (qo qL (pv 2) qi))
   (qh (pst 4 zQ.nd (qo zg (pv 2) qi))
   (qh (pst 5 zQ.nd (zO hu (pv 0) qg (fun _ _=>rfl)))
   (qh (qJ (PW.pt (JT (qv vM (pv 1) qi (qD _)) (Jq (qv vM (zO hu (pv 0) qg (fun _ _=>rfl)) qi (qD _))))) (ql (pst 3 zQ.nd (qo qL (pv 3) qi))) qB)
   (qh (qJ (qv qZ (pv 3) qi (qD _)) (ql (qx (qr (qd qg (qd (pdf d_law_number (qd (pv 4) qf)) qf))))) qB)
   (qh (qJ (qv (VR (K:=K) rfl) (pv 3) (qr (qd qi (qd qi (qd qi qf)))) rfl) (ql (qx (qr (qd qg (qd (pix K (pv 5) (qo qL (pv 4) (qE (zB (K:=K) rfl) (by rfl) c.len_ zj (qd (pv 5) qf)))) qf))))) qB)
   (qh (qJ (qv vM (pv 3) qi (qD _)) (ql (qx (qr (qd qg (qd (pix K qg (qo qL (pv 4) qi)) (qd (pdf d_law_term (qd (pv 0) (qd (qo zy (pv 1) qi) qf))) (qd (pdf d_law_term (qd (pv 0) (qd (qo zy (pv 1) qi) qf))) qf))))))) qB)
   (qh (qJ (qv vM (pv 3) qi (qD _)) (qh (pst 6 zQ.nd (zo (jR (K:=K) rfl) (by rfl) c.tuple_ zV (qd (qU (jP (K:=K) rfl) (pv 5) (qY (qo qL (pv 4) qi)) (qY (qo qA (qo qL (pv 4) qi) (qo qL (qo zg (pv 4) qi) qi)))) qf)))
   (ql (qx (qr (qd (pix K (qH (qd qg (qd qg qf))) (qo zy (pv 3) qi)) (qd (pv 6) (qd (pdf d_law_body (qd (pv 0) (qd (qo zy (pv 1) qi) (qd (jb qZ (pv 3) qi (qD _)) qf)))) qf))))))) qB)
   (qh (qJ (qv qZ (pv 3) qi (qD _)) (qh (pst 7 zQ.nd (pdf d_law_term (qd (pv 0) (qd (qo zy (pv 1) qi) qf))))
   (ql (qx (qr (qd qg (qd (pv 7) (qd (zo (jR (K:=K) rfl) (by rfl) c.tuple_ zV (qd (jU (sc:=qp Jm) (NX:=["_law_state","_law_deep","_law_number_here","_law_kind","_law_more","_law_names_here","_law_params","_law_maker"]) (N:=["_law_turn","_law_state","_law_deep"]) (js:=[none,some 0,some 1]) (zW rfl c.range_ (qd (qo qL (pv 4) qi) qf)) (fun _ _ _ _ _=>(zK (i:=0) (show (["_law_turn","_law_state","_law_deep"]:List Str).Nodup from ∅) rfl (Or.inl rfl))) (fun _ _ _ _ _=>Jr) (fun _ _ _ _ _=>(pdf d_law_term (qd (pv 1) (qd (qo zy (pv 2) qi) qf)))) (zU rfl) ⟨∅,rfl,∅,∅,rfl,∅⟩) qf)) qf))))))) qB)
   (ql (qx (qr (qd qg (qd (pdf d_law_term (qd (pv 0) (qd (qo zy (pv 1) qi) qf))) (qd (pdf d_law_term (qd (pv 0) (qd (qo zy (pv 1) qi) qf))) qf))))))))))))))))),?_⟩
 clear hu;refine ⟨_,rfl,st,a,nm,ns,k,l,rfl,di.dict,di.cells,pp.2.1,(by have:=pp.2.2;omega),fun z H1 hz0 hz1 e1=>?_⟩
 have di1:DIn K H1 st a nm ns names (k+1) l:=e1▸di.put;have sy1:Stay st H H1:=e1▸Stay.put di.dict;clear e1;refine ⟨_,rfl,_,_,rfl,(by rw [← vY a (k+1) l nm];exact jQ.k (k:=Sum.inr "left") di1.dict),_,_,rfl,rfl,?_⟩
 refine ⟨_,rfl,st,upd H1 st (.dK (stK a (k+1) (l - 1) nm)),rfl,(by rw [← Wh a (k+1) l nm (l - 1)];exact X3.k (k:=Sum.inr "left") di1.dict (Cq (show 4≤1000 from O0) O0)),?_⟩
 have di2:DIn K (upd H1 st (.dK (stK a (k+1) (l - 1) nm))) st a nm ns names (k+1) (l - 1):=di1.put;have sy2:Stay st H (upd H1 st (.dK (stK a (k+1) (l - 1) nm))):=sy1.trans (Stay.put di1.dict);generalize upd H1 st (.dK (stK a (k+1) (l - 1) nm))=H2 at di2 sy2 ⊢;have gL:jQ H2 st (.str "left") (some (.int (l - 1))):=by rw [← vY a (k+1) (l - 1) nm];exact jQ.k (k:=Sum.inr "left") di2.dict
 have gN:jQ H2 st (.str "names") (some (.ref nm)):=by rw [← YX a (k+1) (l - 1) nm];exact jQ.k (k:=Sum.inr "names") di2.dict
 refine ⟨_,rfl,_,_,rfl,rfl,(show (0:Int)<10 from O0),_,rfl,_,_,rfl,rfl,⟨O0,O0⟩,_,rfl,st,_,rfl,gN,?_⟩;have m0:0≤z / 10:=⋯;have m1:z / 10<268435456:=⋯;refine ⟨_,rfl,_,_,rfl,rfl,_,rfl,?_⟩;have kz0:=A7 z (show (10:Int)≠0 from O0);have kz1:=Az z (show (0:Int)<10 from O0);have km0:=A7 (z % 10) (show (2:Int)≠0 from O0);have km1:=Az (z % 10) (show (0:Int)<2 from O0);refine VC (fun c1=>J0 ⟨_,rfl,_,_,rfl,rfl,(show (0:Int)<2 from O0),?g1⟩) (fun c1=>⟨_,rfl,st,_,rfl,gL,_,_,rfl,rfl,_,rfl,VC (fun c2=>⟨_,rfl,_,_,rfl,rfl,(show (0:Int)<2 from O0),?g2⟩) (fun c2=>?g3)⟩)
 case g1=>
  have hkd:0≤z % 10 % 2∧z % 10 % 2<10∧(deep<1∨l - 1<0→z % 10 % 2<2):=⟨km0,⋯,fun _=>km1⟩;exact V0 hT hB pp q di2 sy2 m0 m1 hkd
 case g2=>
  have hkd:0≤z % 10 % 2∧z % 10 % 2<10∧(deep<1∨l - 1<0→z % 10 % 2<2):=⟨km0,⋯,fun _=>km1⟩;exact V0 hT hB pp q di2 sy2 m0 m1 hkd
 case g3=>
  have c1':¬ deep<1:=by simpa using c1
  have c2':¬ l - 1<0:=by simpa using c2
  have hkd:0≤z % 10∧z % 10<10∧(deep<1∨l - 1<0→z % 10<2):=⟨kz0,kz1,fun h=>⋯⟩;exact V0 hT hB pp q di2 sy2 m0 m1 hkd
theorem qkg {c:Bool} {A B:Prop} (hA:c=true→B→A) (hB:B):if c=true then A else B:=by
 cases c with
 | true=>exact zE rfl (hA rfl hB)
 | false=>exact zF rfl hB
structure BS where
 xs:List Aa
 s:Nat
 t:Nat
def qb6 (K:Frag):TS:=J3 (Jy (qz (tC (V.str (Str.ofString "try"))) (qz (tOp (rIx K) (qN 8) (tC (V.int 0))) (qz (qN 6) (qz (qN 5) (qz (tOp (rIx K) (qN 8) (tC (V.int 1))) (qz (tOp (rIx K) (qN 8) (tC (V.int 2))) zi)))))))
def qb5 (K:Frag) (B:Sp):TS:=jO (vz (YT (QH (qz (tC (V.int 3)) zi)) [none,some 0,some 2,some 1] (zD 0) qbx (zP B [] E0 (qz (qN 1) (qz (tOp (rI0 fun i j=>V.int (i - j)) (qN 3) (tC (V.int 1))) (qz (qN 2) zi))))) (zD 8)) (qb6 K)
def qb4 (K:Frag) (m:Nat) (B:Sp):TS:=jO (Vg (Jg (tOp rEq (qN 4) (tC (V.int 7)))) (jO (vz (zP (vt K m) [] E0 (qz (qN 0) (qz (tOp (rI0 fun i j=>V.int (i - j)) (qN 1) (tC (V.int 1))) zi))) (zD 7)) (J3 (Jy (qz (tC (V.str (Str.ofString "if"))) (qz (qN 7) (qz (zP B [] E0 (qz (qN 0) (qz (tOp (rI0 fun i j=>V.int (i - j)) (qN 1) (tC (V.int 1))) (qz (qN 2) zi)))) (qz (zP B [] E0 (qz (qN 0) (qz (tOp (rI0 fun i j=>V.int (i - j)) (qN 1) (tC (V.int 1))) (qz (qN 2) zi)))) zi))))))) vq) (qb5 K B)
def qb3 (K:Frag) (m:Nat) (B:Sp):TS:=jO (Vg (Jg (tOp rEq (qN 4) (tC (V.int 6)))) (J3 (Jy (qz (tC (V.str (Str.ofString "while"))) (qz (zP (vt K m) [] E0 (qz (qN 0) (qz (tOp (rI0 fun i j=>V.int (i - j)) (qN 1) (tC (V.int 1))) zi))) (qz (zP B [] E0 (qz (qN 0) (qz (tOp (rI0 fun i j=>V.int (i - j)) (qN 1) (tC (V.int 1))) (qz (qN 2) zi)))) zi))))) vq) (qb4 K m B)
def qb2 (K:Frag) (m:Nat) (B:Sp):TS:=jO (Vg (Jg (tOp rEq (qN 4) (tC (V.int 5)))) (J3 (Jy (qz (tC (V.str (Str.ofString "fault"))) (qz (tOp (rIx K) (V1 (qz (qN 6) (qz (tC (V.str (Str.ofString "anya"))) zi))) (tCB (fun xs H Q=>(∃ i,xs=[V.int i]∧Q (V.int i) H)∨∃ k,xs=[V.bl k]∧Q (V.int (if k=true then 1 else 0)) H) (qz (tOp rEq (qN 6) (tC (V.str (Str.ofString "any")))) zi))) (qz (zP (vt K m) [] E0 (qz (qN 0) (qz (tOp (rI0 fun i j=>V.int (i - j)) (qN 1) (tC (V.int 1))) zi))) zi))))) vq) (qb3 K m B)
def qb1 (K:Frag) (m:Nat) (B:Sp):TS:=jO (Vg (Jg (tOp (rI0 fun i j=>V.bl (decide (i<j))) (qN 4) (tC (V.int 5)))) (J3 (Jy (qz (tOp (rIx K) (V1 (qz (tC (V.str (Str.ofString "hand"))) (qz (tC (V.str (Str.ofString "do"))) (qz (tC (V.str (Str.ofString "back"))) zi)))) (tOp (rI0 fun i j=>V.int (i - j)) (qN 4) (tC (V.int 2)))) (qz (zP (vt K m) [] E0 (qz (qN 0) (qz (tOp (rI0 fun i j=>V.int (i - j)) (qN 1) (tC (V.int 1))) zi))) zi)))) vq) (qb2 K m B)
def Qa (K:Frag) (m:Nat) (B:Sp):TS:=jO (Vg (Jg (tOp (rI0 fun i j=>V.bl (decide (i<j))) (qN 4) (tC (V.int 2)))) (J3 (Jy (qz (tOp (rIx K) (V1 (qz (tC (V.str (Str.ofString "let"))) (qz (tC (V.str (Str.ofString "set"))) zi))) (qN 4)) (qz (qN 5) (qz (zP (vt K m) [] E0 (qz (qN 0) (qz (tOp (rI0 fun i j=>V.int (i - j)) (qN 1) (tC (V.int 1))) zi))) zi))))) vq) (qb1 K m B)
def qet (K:Frag) (m:Nat) (B:Sp):TS:=jO (Vg (qjd (Jg (tOp rEq (qN 4) (tC (V.int 2)))) (qi9 (tB (qN 2)))) (vz (tC (V.int 3)) (zD 4)) vq) (Qa K m B)
theorem Y8 {H H3:Hp} {Q:VK} {n m:Nat} {B:Sp} {st a nm:Ae} {ns:List Int} {names:List Str} {k l deep z kd:Int} {may:Bool} {x wd:Str} (hm:Bud.Near n m) (hB:0<n→B=vA K m) (pp:Bud.PS n deep k l)
  (q:∀ H' x d (s t:Nat) k' l',Stay st H H'→DIn K H' st a nm ns names k' l'→Rep K H' x d→Tre.Ft names d→Tre.Pt d "statement" may s t→Bud.BS n k l s t k' l'→Q x H')
  (hx:Tre.qP x=true∧x∈names) (hw:Tre.qP wd=true∧wd∈Tre.words++names) (di3:DIn K H3 st a nm ns names (k+1) (l - 1)) (sy3:Stay st H H3) (e3':kd=2→may=true) (hkd:0≤kd∧kd<10∧(deep<2∨l - 1<0→kd<5)):
  Qa K m B {nx:=fun _ H'=>Q .non H',rt:=Q} [some (.ref st),some (.int deep),some (.bl may),some (.int z),some (.int kd),some (.str x),some (.str wd),none,none] H3:=by
 have pt:=pp.pt hm;obtain ⟨kd0,kd1,kd2⟩:=hkd;refine qf1 rfl (fun e2=>?_) (fun e2=>?_)
 ·skip
  refine ⟨(O0:2≤Ag),fun p1 hp1=>?_⟩;have gp1:=qj hp1 (.lst [.str "let",.str "set"]);have di4:=di3.same gp1;have sy4:=sy3.then gp1;obtain ⟨hh,hat,hhl⟩:∃ hh:Str,atI [V.str "let",V.str "set"] kd=some (.str hh)∧(hh="let"∨hh="set"):=by
   have:kd=0∨kd=1:=⋯;rcases this with rfl | rfl
   ·exact ⟨"let",qw (j:=0) rfl,.inl rfl⟩
   ·exact ⟨"set",qw (j:=1) rfl,.inr rfl⟩
  refine ⟨_,rfl,.inl ⟨p1,_,_,_,rfl,rfl,SqL.of upd_same,hat,_,rfl,?_⟩⟩;refine jL rfl rfl di4 pt fun H5 x1 d1 s1 t1 k1 l1 sy5 di5 r1 f1 q1 b1=>⟨(O0:3≤Ag),fun p hp=>?_⟩;have g:=qj hp (.tup [.str hh,.str x,x1]);exact q _ _ (.tuple [.str hh,.str x,d1]) (s1+1) (t1+1) k1 l1 ((sy4.trans sy5).then g) (di5.same g) (.tup (SqT.of upd_same) (.cons (.str _) (.cons (.str _) (.cons (r1.same g) .nil)))) (Tre.Fts.tup (.cons (.word (by rcases hhl with rfl | rfl <;> decide+kernel)) (.cons (.name hx.1 (Bn _ hx.2)) (.cons f1 .nil)))) (Tre.qcy hhl hx.1 (q1 may)) (pp.one hm b1)
 refine qf1 rfl (fun e5=>?_) (fun e5=>?_)
 ·skip
  refine ⟨(O0:3≤Ag),fun p1 hp1=>?_⟩;have gp1:=qj hp1 (.lst [.str "hand",.str "do",.str "back"]);have di4:=di3.same gp1;have sy4:=sy3.then gp1;obtain ⟨hh,hat,hhl⟩:∃ hh:Str,atI [V.str "hand",V.str "do",V.str "back"] (kd - 2)=some (.str hh)∧(hh="do"∨hh="back"∨(hh="hand"∧may=true)):=by
   have:kd=2∨kd=3∨kd=4:=⋯;rcases this with rfl | rfl | rfl
   ·exact ⟨"hand",qw (j:=0) rfl,.inr (.inr ⟨rfl,e3' rfl⟩)⟩
   ·exact ⟨"do",qw (j:=1) rfl,.inl rfl⟩
   ·exact ⟨"back",qw (j:=2) rfl,.inr (.inl rfl)⟩
  refine ⟨_,rfl,_,_,rfl,rfl,.inl ⟨p1,_,_,_,rfl,rfl,SqL.of upd_same,hat,?_⟩⟩;refine jL rfl rfl di4 pt fun H5 x1 d1 s1 t1 k1 l1 sy5 di5 r1 f1 q1 b1=>⟨(O0:2≤Ag),fun p hp=>?_⟩;have g:=qj hp (.tup [.str hh,x1]);exact q _ _ (.tuple [.str hh,d1]) (s1+1) (t1+1) k1 l1 ((sy4.trans sy5).then g) (di5.same g) (.tup (SqT.of upd_same) (.cons (.str _) (.cons (r1.same g) .nil))) (Tre.Fts.tup (.cons (.word (by rcases hhl with rfl | rfl | ⟨rfl,_⟩ <;> decide+kernel)) (.cons f1 .nil))) (Tre.wo hhl (q1 may)) (pp.one hm b1)
 have hl1:0≤l - 1:=⋯;have hd1:2≤deep:=⋯;have hnm:n=m+1:=by have:=pp.1;have:=hm.2;omega
 subst hnm;have hm1:1≤m:=by have:=pp.1;omega
 have eB:B=vA K m:=hB ⋯;have hS:=pp.many hl1 ⋯;clear kd2 kd0 e3' e2 hB hl1 hd1;subst eB;refine qdy rfl (fun e6=>?_) (fun e6=>?_)
 ·skip
  obtain ⟨y,hat,hy,hyn⟩:∃ y:Str,atI [V.str wd,V.str "anya"] (if decide (V.str wd=V.str "any")=true then 1 else 0)=some (.str y)∧(Tre.qP y&&y !="any")=true∧y∈Tre.words++names:=by
   by_cases ew:wd="any"
   ·rw [if_pos (Ao (congrArg V.str ew))];exact ⟨"anya",qw (j:=1) rfl,∅,B3 _ ∅⟩
   ·rw [if_neg (by rw [Ap fun z=>ew (V.str.inj z)];exact Ai)]
    exact ⟨wd,qw (j:=0) rfl,by rw [hw.1,Bu];exact bne_iff_ne.mpr ew,hw.2⟩
  refine ⟨_,rfl,(O0:2≤Ag),fun p1 hp1=>?_⟩;have gp1:=qj hp1 (.lst [.str wd,.str "anya"]);have di4:=di3.same gp1;have sy4:=sy3.then gp1;refine ⟨_,rfl,rfl,.inr ⟨_,rfl,.inl ⟨p1,_,_,_,rfl,rfl,SqL.of upd_same,hat,?_⟩⟩⟩;refine jL rfl rfl di4 pt fun H5 x1 d1 s1 t1 k1 l1 sy5 di5 r1 f1 q1 b1=>⟨(O0:3≤Ag),fun p hp=>?_⟩;have g:=qj hp (.tup [.str "fault",.str y,x1]);have hy1:Tre.qP y=true:=(Al _ _▸hy).1;exact q _ _ (.tuple [.str "fault",.str y,d1]) (s1+1) (t1+1) k1 l1 ((sy4.trans sy5).then g) (di5.same g) (.tup (SqT.of upd_same) (.cons (.str _) (.cons (.str _) (.cons (r1.same g) .nil)))) (Tre.Fts.tup (.cons (.word ∅) (.cons (.name hy1 hyn) (.cons f1 .nil)))) (Tre.qc1 hy (q1 may)) (pp.one hm b1)
 refine qdy rfl (fun e7=>?_) (fun e7=>?_)
 ·skip
  refine jL rfl rfl di3 pt fun H4 x1 d1 s1 t1 k1 l1 sy4 di4 r1 f1 q1 b1=>?_;refine Wa rfl rfl rfl di4 (hS.pb1 b1) fun H5 x2 ds2 s2 t2 k2 l2 sy5 di5 r2 f2 bd2 b2=>⟨(O0:3≤Ag),fun p hp=>?_⟩;have g:=qj hp (.tup [.str "while",x1,x2]);exact q _ _ (.tuple [.str "while",d1,.tuple ds2]) (s1+s2+1) (max t1 t2+1) k2 l2 (((sy3.trans sy4).trans sy5).then g) (di5.same g) (.tup (SqT.of upd_same) (.cons (.str _) (.cons ((r1.stay sy5).same g) (.cons (r2.same g) .nil)))) (Tre.Fts.tup (.cons (.word ∅) (.cons f1 (.cons f2.tup .nil)))) (Tre.Xj (q1 may) bd2) (hS.wh b1 b2)
 refine qdy rfl (fun e8=>?_) (fun e8=>?_)
 ·skip
  refine jL rfl rfl di3 pt fun H4 x1 d1 s1 t1 k1 l1 sy4 di4 r1 f1 q1 b1=>?_;refine ⟨_,rfl,?_⟩;refine Wa rfl rfl rfl di4 (hS.pb1 b1) fun H5 x2 ds2 s2 t2 k2 l2 sy5 di5 r2 f2 bd2 b2=>?_;refine Wa rfl rfl rfl di5 (hS.pb2 b1 b2) fun H6 x3 ds3 s3 t3 k3 l3 sy6 di6 r3 f3 bd3 b3=>⟨(O0:4≤Ag),fun p hp=>?_⟩;have g:=qj hp (.tup [.str "if",x1,x2,x3]);exact q _ _ (.tuple [.str "if",d1,.tuple ds2,.tuple ds3]) (s1+(s2+s3)+1) (max t1 (max t2 t3)+1) k3 l3 ((((sy3.trans sy4).trans sy5).trans sy6).then g) (di6.same g) (.tup (SqT.of upd_same) (.cons (.str _) (.cons (((r1.stay sy5).stay sy6).same g) (.cons ((r2.stay sy6).same g) (.cons (r3.same g) .nil))))) (Tre.Fts.tup (.cons (.word ∅) (.cons f1 (.cons f2.tup (.cons f3.tup .nil))))) (Tre.qcz (q1 may) bd2 bd3) (hS.if_ b1 b2 b3)
 refine ⟨_,rfl,O0,O0,?_⟩;refine jr 3 (fun i ys H'=>∃ (bs:List BS) (k' l':Int),Stay st H H'∧DIn K H' st a nm ns names k' l'∧Reps K H' ys (bs.map fun b=> .tuple b.xs)∧bs.length=i∧(∀ b∈bs,Tre.Bd b.xs may b.s b.t∧Tre.Fts names b.xs∧b.t≤m+2)∧Bud.TI m k l i (bs.map fun b=>b.s).sum k' l') ?_ (fun i ys H' h=>?_) O0 (fun i ys H' hi h=>?_) (fun ys H' h=>?_)
 ·exact ⟨[],k+1,l - 1,sy3,di3,.nil,rfl,fun b hb=>(by cases hb),.nil hS hm1⟩
 ·obtain ⟨bs,k',l',_,_,rs,hl,_⟩:=h;have:=rs.length;rw [Aj] at this;omega
 ·obtain ⟨bs,k',l',sy,di5,rs,hl,hb,ti⟩:=h;refine ⟨hi,fun v H5 yl=>?_⟩;obtain ⟨rfl,rfl⟩:=yl;refine Wa rfl rfl rfl di5 (ti.pre hS hi) fun H6 x2 ds2 s2 t2 k2 l2 sy6 di6 r2 f2 bd2 b2=>?_;refine ⟨bs++[⟨ds2,s2,t2⟩],k2,l2,sy.trans sy6,di6,?_,by rw [Am,hl];rfl,fun b hb'=>?_,?_⟩
  ·rw [A5];exact (rs.stay sy6).append (.cons r2 .nil)
  ·rcases Bp.mp hb' with h1 | h1
   ·exact hb b h1
   ·cases A3.mp h1;exact ⟨bd2,f2,b2.2.1⟩
  ·rw [A5,Dq];exact ti.snoc b2
 ·obtain ⟨bs,k',l',sy,di5,rs,hl,hb,ti⟩:=h
  match bs,hl with
  | [z0,z1,z2],_=>
   refine ⟨Aw _,fun D hD=>?_⟩;cases rs with
   | @cons y0 _ _ _ r0 rs=>
    cases rs with
    | @cons y1 _ _ _ r1 rs=>
     cases rs with
     | @cons y2 _ _ _ r2 rs=>
      cases rs;have gD:=qj hD (.lst [y0,y1,y2]);have sD:SqL K (upd H' D (.lst [y0,y1,y2])) D [y0,y1,y2]:=SqL.of upd_same;refine ⟨_,rfl,.inl ⟨D,_,_,_,rfl,rfl,sD,qw (j:=0) rfl,_,rfl,_,rfl,_,rfl,.inl ⟨D,_,_,_,rfl,rfl,sD,qw (j:=1) rfl,_,rfl,.inl ⟨D,_,_,_,rfl,rfl,sD,qw (j:=2) rfl,(O0:6≤Ag),fun p hp=>?_⟩⟩⟩⟩;have g:=gD.trans (qj hp (.tup [.str "try",y0,.str wd,.str x,y1,y2]));obtain ⟨bd0,f0,t0⟩:=hb z0 (by simp)
      obtain ⟨bd1,f1,t1⟩:=hb z1 (by simp)
      obtain ⟨bd2,f2,t2⟩:=hb z2 (by simp)
      exact q _ _ (.tuple [.str "try",.tuple z0.xs,.str wd,.str x,.tuple z1.xs,.tuple z2.xs]) (z0.s+(z1.s+z2.s)+1) (max z0.t (max z1.t z2.t)+1) k' l' (sy.then g) (di5.same g) (.tup (SqT.of upd_same) (.cons (.str _) (.cons (r0.same g) (.cons (.str _) (.cons (.str _) (.cons (r1.same g) (.cons (r2.same g) .nil))))))) (Tre.Fts.tup (.cons (.word ∅) (.cons f0.tup (.cons (.name hw.1 hw.2) (.cons (.name hx.1 (Bn _ hx.2)) (.cons f1.tup (.cons f2.tup .nil))))))) (Tre.y6 hw.1 hx.1 bd0 bd1 bd2) (ti.out hS rfl t0 t1 t2)
theorem We {H H3:Hp} {Q:VK} {n m:Nat} {B:Sp} {st a nm:Ae} {ns:List Int} {names:List Str} {k l deep z kd:Int} {may:Bool} {x wd:Str} (hm:Bud.Near n m) (hB:0<n→B=vA K m) (pp:Bud.PS n deep k l)
  (q:∀ H' x d (s t:Nat) k' l',Stay st H H'→DIn K H' st a nm ns names k' l'→Rep K H' x d→Tre.Ft names d→Tre.Pt d "statement" may s t→Bud.BS n k l s t k' l'→Q x H')
  (hx:Tre.qP x=true∧x∈names) (hw:Tre.qP wd=true∧wd∈Tre.words++names) (di3:DIn K H3 st a nm ns names (k+1) (l - 1)) (sy3:Stay st H H3) (hkd:0≤kd∧kd<10∧(deep<2∨l - 1<0→kd<5)):
  qet K m B {nx:=fun _ H'=>Q .non H',rt:=Q} [some (.ref st),some (.int deep),some (.bl may),some (.int z),some (.int kd),some (.str x),some (.str wd),none,none] H3:=by
 refine ⟨_,rfl,rfl,_,rfl,?_⟩
 by_cases e3:kd=2∧may=false
 ·obtain ⟨rfl,rfl⟩:=e3;refine zE (show decide _=true from Ao rfl) ⟨_,rfl,_,rfl,zE (show (!false)=true from rfl) ?_⟩;exact Y8 (kd:=3) hm hB pp q hx hw di3 sy3 (fun z=>absurd z O0) ⟨O0,O0,fun _=>O0⟩
 have e3':kd=2→may=true:=fun e=>by
  cases may with
  | true=>rfl
  | false=>exact absurd ⟨e,rfl⟩ e3
 refine qkg (fun hc hB=>⟨_,rfl,_,rfl,zF (show (!may)=false by rw [e3' (V.int.inj (Bb hc))];rfl) hB⟩) ?_
 exact Y8 hm hB pp q hx hw di3 sy3 e3' hkd
theorem JX (F:Fun K "_law_statement" "_law_statement" zT f fd) (c:Cs K mg ad) (n lt lb:Nat) (hlt:lt≤4*n+4) (hlb:lb≤4*n+4) (B:Sp) (hB:0<n→B=vA K (n - 1)) (d_law_next:Def P w K mg base 2 "_law_next" ["_law_state"] (V2 K))
  (d_law_term:Def P w K mg base lt "_law_term" ["_law_state","_law_deep"] (vt K (n - 1))) (d_law_body:Def P w K mg base lb "_law_body" ["_law_state","_law_deep","_law_may_hand"] B):FnOk P w K mg base CX0 (4*n+5) f fd ["_law_state","_law_deep","_law_may_hand"] (Y0 K n):=by
 refine F.ok (k:=4*n+4) zf (fun vs H Q E h=>?_) (fun cdv A outer s H vs Q E hr h=>?_)
 ·obtain ⟨st,a,nm,ns,names,k,l,deep,may,rfl,_⟩:=h;rfl
 obtain ⟨st,a,nm,ns,names,k,l,deep,may,rfl,di,pp,q⟩:=h;have hu:=XI hr;refine ⟨_,(qh (pst 3 zf.nd (pdf d_law_next (qd (pv 0) qf)))
   (qh (wV hu (pv 0) qg (qo zy (zO hu (pv 0) qg (fun _ _=>rfl)) qi) rfl)
   (qh (pst 4 zf.nd (qo qL (pv 3) qi))
   (qh (pst 5 zf.nd (pix K (zO hu (pv 0) qg (fun _ _=>rfl)) (qo qL (qo zg (pv 3) qi) (qE (zB (K:=K) rfl) (by rfl) c.len_ zj (qd (zO hu (pv 0) qg (fun _ _=>rfl)) qf)))))
   (qh (pst 6 zf.nd (pix K (qH (qd qg (qd qg (qd qg (qd qg (qd (pv 5) qf)))))) (qo qL (qo zg (pv 3) qi) qi)))
   (qh (qJ (PW.pt (JT (qv vM (pv 1) qi (qD _)) (Jq (qv vM (zO hu (pv 0) qg (fun _ _=>rfl)) qi (qD _))))) (ql (pst 4 zf.nd (qo qL (pv 4) qi))) qB)
   (qh (qJ (PW.pt (vJ (qv qZ (pv 4) qi (qD _)) (JD (ju (zS (pv 2)))))) (ql (pst 4 zf.nd qi)) qB)
   (qh (qJ (qv vM (pv 4) qi (qD _)) (ql (qx (qr (qd (pix K (qH (qd qg (qd qg qf))) (pv 4)) (qd (pv 5) (qd (pdf d_law_term (qd (pv 0) (qd (qo zy (pv 1) qi) qf))) qf)))))) qB)
   (qh (qJ (qv vM (pv 4) qi (qD _)) (ql (qx (qr (qd (pix K (qH (qd qg (qd qg (qd qg qf)))) (qo zy (pv 4) qi)) (qd (pdf d_law_term (qd (pv 0) (qd (qo zy (pv 1) qi) qf))) qf))))) qB)
   (qh (qJ (qv qZ (pv 4) qi (qD _)) (ql (qx (qr (qd qg (qd (pix K (qH (qd (pv 6) (qd qg qf))) (zo qba (by rfl) c.int_ Z1 (qd (jb qZ (pv 6) qg (qD _)) qf))) (qd (pdf d_law_term (qd (pv 0) (qd (qo zy (pv 1) qi) qf))) qf)))))) qB)
   (qh (qJ (qv qZ (pv 4) qi (qD _)) (ql (qx (qr (qd qg (qd (pdf d_law_term (qd (pv 0) (qd (qo zy (pv 1) qi) qf))) (qd (pdf d_law_body (qd (pv 0) (qd (qo zy (pv 1) qi) (qd (pv 2) qf)))) qf)))))) qB)
   (qh (qJ (qv qZ (pv 4) qi (qD _)) (qh (pst 7 zf.nd (pdf d_law_term (qd (pv 0) (qd (qo zy (pv 1) qi) qf))))
   (ql (qx (qr (qd qg (qd (pv 7) (qd (pdf d_law_body (qd (pv 0) (qd (qo zy (pv 1) qi) (qd (pv 2) qf)))) (qd (pdf d_law_body (qd (pv 0) (qd (qo zy (pv 1) qi) (qd (pv 2) qf)))) qf)))))))) qB)
   (qh (wU (i:=8) zf.nd rfl (by first | exact Or.inl rfl | exact Or.inr rfl) (sc:=qp zT) (NX:=["_law_state","_law_deep","_law_may_hand","_law_number_here","_law_kind","_law_name","_law_word","_law_test","_law_bodies_here"]) (N:=["_law_turn","_law_state","_law_may_hand","_law_deep"]) (js:=[none,some 0,some 2,some 1]) (zW rfl c.range_ (qd qi qf)) (fun _ _ _ _ _=>(zK (i:=0) (show (["_law_turn","_law_state","_law_may_hand","_law_deep"]:List Str).Nodup from ∅) rfl (Or.inl rfl))) (fun _ _ _ _ _=>Jr) (fun _ _ _ _ _=>(pdf d_law_body (qd (pv 1) (qd (qo zy (pv 3) qi) (qd (pv 2) qf))))) (zU rfl) ⟨∅,rfl,∅,∅,rfl,∅⟩)
   (ql (qx (qr (qd qg (qd (pix K (pv 8) qi) (qd (pv 6) (qd (pv 5) (qd (pix K (pv 8) qi) (qd (pix K (pv 8) qi) qf)))))))))))))))))))))),?_⟩
 clear hu;refine ⟨_,rfl,st,a,nm,ns,k,l,rfl,di.dict,di.cells,pp.2.1,(by have:=pp.2.2;omega),fun z H1 hz0 hz1 e1=>?_⟩
 have di1:DIn K H1 st a nm ns names (k+1) l:=e1▸di.put;have sy1:Stay st H H1:=e1▸Stay.put di.dict;clear e1;refine ⟨_,rfl,_,_,rfl,(by rw [← vY a (k+1) l nm];exact jQ.k (k:=Sum.inr "left") di1.dict),_,_,rfl,rfl,?_⟩
 refine ⟨_,rfl,st,upd H1 st (.dK (stK a (k+1) (l - 1) nm)),rfl,(by rw [← Wh a (k+1) l nm (l - 1)];exact X3.k (k:=Sum.inr "left") di1.dict (Cq (show 4≤1000 from O0) O0)),?_⟩
 have di2:DIn K (upd H1 st (.dK (stK a (k+1) (l - 1) nm))) st a nm ns names (k+1) (l - 1):=di1.put;have sy2:Stay st H (upd H1 st (.dK (stK a (k+1) (l - 1) nm))):=sy1.trans (Stay.put di1.dict);generalize upd H1 st (.dK (stK a (k+1) (l - 1) nm))=H2 at di2 sy2 ⊢;have gL:∀ H',qu H2 H'→jQ H' st (.str "left") (some (.int (l - 1))):=fun H' g=>by rw [← vY a (k+1) (l - 1) nm];exact jQ.k (k:=Sum.inr "left") (di2.same g).dict
 have gN:jQ H2 st (.str "names") (some (.ref nm)):=by rw [← YX a (k+1) (l - 1) nm];exact jQ.k (k:=Sum.inr "names") di2.dict
 have hnl:names.length=8:=di.good.len;obtain ⟨v,hv,x,rfl,hx⟩:=Vf (xs:=names.map V.str) (i:=z / 10 % (((names.map V.str).length:Nat):Int)) (p:=fun v=>∃ x,v= .str x∧Tre.qP x=true∧x∈names) (fun y hy=>by
  obtain ⟨x,hx,rfl⟩:=B0.mp hy;exact ⟨x,rfl,di.good.good x hx,hx⟩) (A7 _ (by rw [Aj,hnl];decide)) (Az _ (by rw [Aj,hnl];decide))
 refine ⟨_,rfl,_,_,rfl,rfl,(show (0:Int)<10 from O0),?_⟩;refine ⟨_,rfl,st,_,rfl,gN,_,rfl,_,_,rfl,rfl,⟨O0,O0⟩,_,rfl,st,_,rfl,gN,_,_,rfl,.inl ⟨_,di2.nms,rfl⟩,_,_,rfl,rfl,(show (0:Int)<(((names.map V.str).length:Nat):Int) by rw [Aj,hnl];decide),.inl ⟨_,_,_,_,rfl,rfl,di2.nms,hv,?_⟩⟩
 obtain ⟨v,hv2,wd,rfl,hw⟩:=Vf (xs:=[V.str "great",V.str "kind",V.str "any",V.str "unset",V.str x]) (i:=z / 100 % 5) (p:=fun v=>∃ x,v= .str x∧Tre.qP x=true∧x∈Tre.words++names) (fun y hy=>by
  simp only [Av,Be,or_false] at hy;rcases hy with rfl | rfl | rfl | rfl | rfl
  ·exact ⟨_,rfl,∅,B3 _ ∅⟩
  ·exact ⟨_,rfl,∅,B3 _ ∅⟩
  ·exact ⟨_,rfl,∅,B3 _ ∅⟩
  ·exact ⟨_,rfl,∅,B3 _ ∅⟩
  ·exact ⟨_,rfl,hx.1,Bn _ hx.2⟩) (A7 _ O0) (Az _ O0)
 refine ⟨_,rfl,(O0:5≤Ag),fun p0 hp0=>⟨_,rfl,_,_,rfl,rfl,⟨O0,O0⟩,_,_,rfl,rfl,(show (0:Int)<5 from O0),.inl ⟨p0,_,_,_,rfl,rfl,SqL.of upd_same,hv2,?_⟩⟩⟩;have gp0:=qj hp0 (.lst [V.str "great",V.str "kind",V.str "any",V.str "unset",V.str x]);have gL':=gL _ gp0;have di3:=di2.same gp0;have sy3:=sy2.then gp0;clear gL gN hv hv2 di2 sy2 di1 sy1;dsimp only;generalize upd H2 p0 (.lst [V.str "great",V.str "kind",V.str "any",V.str "unset",V.str x])=H3 at gL' di3 sy3 ⊢;refine ⟨_,rfl,_,_,rfl,rfl,_,rfl,?_⟩;have kz0:=A7 z (show (10:Int)≠0 from O0);have kz1:=Az z (show (0:Int)<10 from O0);have km0:=A7 (z % 10) (show (5:Int)≠0 from O0);have km1:=Az (z % 10) (show (0:Int)<5 from O0);refine VC (fun c1=>J0 ⟨_,rfl,_,_,rfl,rfl,(show (0:Int)<5 from O0),?g1⟩) (fun c1=>⟨_,rfl,st,_,rfl,gL',_,_,rfl,rfl,_,rfl,VC (fun c2=>⟨_,rfl,_,_,rfl,rfl,(show (0:Int)<5 from O0),?g2⟩) (fun c2=>?g3)⟩)
 case g1=>
  have hkd:0≤z % 10 % 5∧z % 10 % 5<10∧(deep<2∨l - 1<0→z % 10 % 5<5):=⟨km0,⋯,fun _=>km1⟩;exact We (m:=n - 1) ⟨⋯,⋯⟩ hB pp q hx hw di3 sy3 hkd
 case g2=>
  have hkd:0≤z % 10 % 5∧z % 10 % 5<10∧(deep<2∨l - 1<0→z % 10 % 5<5):=⟨km0,⋯,fun _=>km1⟩;exact We (m:=n - 1) ⟨⋯,⋯⟩ hB pp q hx hw di3 sy3 hkd
 case g3=>
  have c1':¬ deep<2:=by simpa using c1
  have c2':¬ l - 1<0:=by simpa using c2
  have hkd:0≤z % 10∧z % 10<10∧(deep<2∨l - 1<0→z % 10<5):=⟨kz0,kz1,fun h=>⋯⟩;exact We (m:=n - 1) ⟨⋯,⋯⟩ hB pp q hx hw di3 sy3 hkd
end
end Mine
namespace L2
open PySem PySem.Spec PyProof.Rows
section
variable {K:Frag} {H:Hp}
theorem Rd.put {p b:Ae} {zs:List V} {o o':HO} (hp:H p=some (.lst zs)) (hd:∀ l,o≠ .lst l) (h:Rd H b o):Rd (upd H p o') b o:=by
 rcases h with h | ⟨ob,h⟩
 ·refine .inl ?_;rw [qG fun z=>by rw [z,hp] at h;exact hd _ (Bg h).symm]
  exact h
 ·refine .inr ⟨ob,?_⟩;rw [qG fun z=>by rw [z,hp] at h;cases h]
  exact h
theorem SqT.put {p b:Ae} {zs xs:List V} {o':HO} (hp:H p=some (.lst zs)) (h:SqT K H b xs):SqT K (upd H p o') b xs:=by
 rcases h with h | h
 ·exact .inl (Rd.put hp (fun l z=>by cases z) h)
 ·exact .inr h
mutual
theorem Rep.tups {H':Hp} (g:∀ {a:Ae} {xs:List V},SqT K H a xs→SqT K H' a xs):∀ {x:V} {d:Aa},Rep K H x d→Tre.noL d=true→Rep K H' x d
 | _,_,.non,_=> .non
 | _,_,.bl b,_=> .bl b
 | _,_,.int i,_=> .int i
 | _,_,.str x,_=> .str x
 | _,_,.lst h r,n=>by cases n
 | _,_,.tup h r,n=> .tup (g h) (Reps.tups g r (by rw [Tre.noL] at n;exact n))
theorem Reps.tups {H':Hp} (g:∀ {a:Ae} {xs:List V},SqT K H a xs→SqT K H' a xs):∀ {xs:List V} {ds:List Aa},Reps K H xs ds→Tre.jX ds=true→Reps K H' xs ds
 | _,_,.nil,_=> .nil
 | _,_,.cons h t,n=>by
  rw [Tre.jX,Al] at n;exact .cons (Rep.tups g h n.1) (Reps.tups g t n.2)
end
theorem Rep.put {p:Ae} {zs:List V} {o':HO} (hp:H p=some (.lst zs)) {x:V} {d:Aa} (h:Rep K H x d) (n:Tre.noL d=true):Rep K (upd H p o') x d:=h.tups (fun h=>h.put hp) n
theorem Reps.put {p:Ae} {zs:List V} {o':HO} (hp:H p=some (.lst zs)) {xs:List V} {ds:List Aa} (h:Reps K H xs ds) (n:Tre.jX ds=true):Reps K (upd H p o') xs ds:=h.tups (fun h=>h.put hp) n
end
end L2
namespace Mine
open PySem L2
section
variable {P:Program} {w:World} {K:Frag} {mg:Str→Option Ac} {base:Heap} {f:Ae} {fd:FuncData} {ad:Ad}
structure Known (K:Frag) (mg:Str→Option Ac) (x:Str) (ps:List Str) (f:Ae) (fd:FuncData):Prop where
 binds:j5 K fd ps []
 keep:PySem.W.keepIn K (.ref f)=true
 name:mg x=some (.ref f)
theorem Known.out {x:Str} {ps:List Str} {lv:Nat} {sp:Sp} (k:Known K mg x ps f fd) (F:FnOk P w K mg base CX0 lv f fd ps sp):Def P w K mg base lv x ps sp:=⟨f,fd,F,k.binds,k.keep,k.name⟩
theorem Yo {ps:List Str} {lv:Nat}:FnOk P w K mg base CX0 lv f fd ps (fun _ _ _ _=>False):=⟨fun _ _ _ _ h=>h.elim,fun _ _ _ _ _ _ _ _ _ _ _ _ _ h=>h.elim⟩
theorem Def.up {x:Str} {ps:List Str} {sp:Sp} {j k:Nat} (d:Def P w K mg base j x ps sp) (h:j≤k):Def P w K mg base k x ps sp:=by
 obtain ⟨f,fd,F,r⟩:=d.ex;exact ⟨f,fd,F.mono h,r⟩
theorem drawn {fT fS fB:Ae} {dT dS dB:FuncData} (FT:Fun K "_law_term" "_law_term" Jm fT dT) (FS:Fun K "_law_statement" "_law_statement" zT fS dS) (FB:Fun K "_law_body" "_law_body" Jn fB dB) (kT:Known K mg "_law_term" ["_law_state","_law_deep"] fT dT)
  (kS:Known K mg "_law_statement" ["_law_state","_law_deep","_law_may_hand"] fS dS) (kB:Known K mg "_law_body" ["_law_state","_law_deep","_law_may_hand"] fB dB) (c:Cs K mg ad) (d_law_next:Def P w K mg base 2 "_law_next" ["_law_state"] (V2 K)) (d_law_number:Def P w K mg base 1 "_law_number" ["_law_more"] VH):
  ∀ n:Nat,Def P w K mg base (4*n+4) "_law_term" ["_law_state","_law_deep"] (vt K n)∧Def P w K mg base (4*n+5) "_law_statement" ["_law_state","_law_deep","_law_may_hand"] (Y0 K n)∧Def P w K mg base (4*n+6) "_law_body" ["_law_state","_law_deep","_law_may_hand"] (vA K n)
 | 0=>by
  have t:=kT.out (ww FT c 0 _ _ (fun h=>absurd h O0) (fun h=>absurd h O0) d_law_next d_law_number (kT.out Yo) (kB.out Yo));have s:=kS.out (JX FS c 0 4 4 O0 O0 _ (fun h=>absurd h O0) d_law_next t (kB.out Yo));exact ⟨t,s,kB.out (wy FB c 0 d_law_next s)⟩
 | n+1=>by
  obtain ⟨t0,s0,b0⟩:=drawn FT FS FB kT kS kB c d_law_next d_law_number n;have t:=kT.out (ww FT c (n+1) _ _ (fun _=>rfl) (fun _=>rfl) d_law_next d_law_number (Def.up t0 ⋯) (Def.up b0 ⋯));have s:=kS.out (JX FS c (n+1) (4*n+4) (4*n+6) ⋯ ⋯ _ (fun _=>rfl) d_law_next t0 b0);exact ⟨t,s,kB.out (wy FB c (n+1) d_law_next s)⟩
theorem qdl (a:Ae) (k l:Int) (nm:Ae):vQ [] (stK a k l nm)=stK a k l nm:=by
 have new:∀ (kvs:List (Key×V)) (x:Key) (v:V),(∀ kv∈kvs,¬ kv.1=x)→jn kvs x v=kvs++[(x,v)]:=fun kvs x v h=>by
  unfold jn;rw [if_neg];intro z;obtain ⟨kv,hkv,e⟩:=Dg.mp z;exact h kv hkv (Bb e)
 unfold vQ stK;rw [C5,C5,C5,C5,List.foldl_nil];have e1:jn ([]:List (Key×V)) (Sum.inr "cells") (V.ref a)=[((Sum.inr "cells":Key),V.ref a)]:=new [] (Sum.inr "cells") (V.ref a) fun kv h=>nomatch h;have e2:jn [((Sum.inr "cells":Key),V.ref a)] (Sum.inr "at") (V.int k)=[((Sum.inr "cells":Key),V.ref a),((Sum.inr "at":Key),V.int k)]:=new [((Sum.inr "cells":Key),V.ref a)] (Sum.inr "at") (V.int k) fun kv h=>by
  cases A3.mp h;exact qao
 have e3:jn [((Sum.inr "cells":Key),V.ref a),((Sum.inr "at":Key),V.int k)] (Sum.inr "left") (V.int l)=[((Sum.inr "cells":Key),V.ref a),((Sum.inr "at":Key),V.int k),((Sum.inr "left":Key),V.int l)]:=new [((Sum.inr "cells":Key),V.ref a),((Sum.inr "at":Key),V.int k)] (Sum.inr "left") (V.int l) fun kv h=>by
  simp only [Av,Be,or_false] at h;rcases h with rfl | rfl
  ·exact qh3
  ·exact qh4
 have e4:jn [((Sum.inr "cells":Key),V.ref a),((Sum.inr "at":Key),V.int k),((Sum.inr "left":Key),V.int l)] (Sum.inr "names") (V.ref nm)=[((Sum.inr "cells":Key),V.ref a),((Sum.inr "at":Key),V.int k),((Sum.inr "left":Key),V.int l),((Sum.inr "names":Key),V.ref nm)]:=new [((Sum.inr "cells":Key),V.ref a),((Sum.inr "at":Key),V.int k),((Sum.inr "left":Key),V.int l)] (Sum.inr "names") (V.ref nm) fun kv h=>by
  simp only [Av,Be,or_false] at h;rcases h with rfl | rfl | rfl
  ·exact qj6
  ·exact qj7
  ·exact qj5
 rw [e1,e2,e3,e4]
theorem qfi {A B:Prop} (h:if false=true then A else B):B:=by simpa using h
theorem qaz {names:List Str} (g:Nms names) {hi:Int} (h0:0≤hi) (h1:hi≤4):∃ cut:List Str,zG (names.map V.str) none (some hi)=cut.map V.str∧Tre.areNames (.tuple (cut.map PyData.str))=true∧∀ x∈cut,Tre.qP x=true∧x∈names:=by
 refine ⟨names.take hi.toNat,?_,?_,fun x hx=>⟨g.good x (Ch hx),Ch hx⟩⟩
 ·rw [VU _ _ hi.toNat ⋯,Fc]
 ·have hl:(names.take hi.toNat).length≤4:=by
   have:=Ce hi.toNat names;omega
  have hsub:∀ x∈names.take hi.toNat,Tre.qP x=true:=fun x hx=>g.good x (Ch hx);have hnd:(names.take hi.toNat).Nodup:=g.nd.take;generalize names.take hi.toNat=cut at hl hsub hnd;simp only [Tre.areNames];rw [Aj,Ao hl,Bu,Ck,Al];refine ⟨?_,Ao ?_⟩
  ·rw [Dy];exact A6.mpr fun x hx=>hsub x hx
  ·have e:(Tre.txt ∘ PyData.str)=id:=rfl;rw [e,List.map_id];exact hnd
theorem qfn {ds:List Aa} {hands:Bool} {s t:Nat} (h:Tre.Ptl (ds.map fun x=>(x,("statement":Str))) hands s t):Tre.jX ds=true:=by
 have q:=h.tr;rw [Ck] at q;have e:((fun x:Aa×Str=>x.1) ∘ fun x:Aa=>(x,("statement":Str)))=id:=rfl;rw [e,List.map_id] at q;exact (Tre.ZV q.gd).1
def qch (K:Frag):Sp:=fun vs H Q _=>∃ (a:Ae) (ns:List Int) (l0:Int),0≤l0∧l0≤40∧vs=[.ref a,.int l0]∧SqL K H a (ns.map V.int)∧∀ H' x d s t (names:List Str),qu H H'→Rep K H' x d→names.length=8→Tre.Ft names d→Tre.Pt d "program" false s t→(s:Int)≤l0+114→s≤300→t≤12→Q x H'
theorem WC (F:Fun K "_law_program" "_law_program" JN f fd) (c:Cs K mg ad) (d_law_cell_at:Def P w K mg base 1 "_law_cell_at" ["_law_script","_law_k"] (yS K)) (d_law_names:Def P w K mg base 1 "_law_names" ["_law_cell","_law_many"] Qf) (d_law_next:Def P w K mg base 2 "_law_next" ["_law_state"] (V2 K))
  (d_law_statement:Def P w K mg base 33 "_law_statement" ["_law_state","_law_deep","_law_may_hand"] (Y0 K 7)):FnOk P w K mg base CX0 34 f fd ["_law_script","_law_most"] (qch K):=by
 refine F.ok jG (fun vs H Q E h=>?_) (fun cdv A outer s H vs Q E hr h=>?_)
 ·obtain ⟨a,ns,l0,_,_,rfl,_⟩:=h;rfl
 obtain ⟨a,ns,l0,hl00,hl40,rfl,hS,q⟩:=h;have hu:=XI hr;refine ⟨_,(qh (pst 2 jG.nd (pdf d_law_names (qd (qo qL (qo Js (pdf d_law_cell_at (qd (pv 0) (qd qi qf))) qi) qi) (qd qi qf))))
   (qh (pst 3 jG.nd (Qs (JV qg (pv 0) (JV qg qi (JV qg (pv 1) (JV qg (pv 2) Qo)))) rfl rfl (by intro z;cases z) O0))
   (qh (pst 4 jG.nd (qH qf))
   (qh (Wv Dh (PW.pt (vJ (qv Wz (zO hu (pv 3) qg (fun _ _=>rfl)) qi (qD _)) (JD (qv vM (qE (zB (K:=K) rfl) (by rfl) c.len_ zj (qd (pv 4) qf)) (qo qA qi (qo qL (pdf d_law_cell_at (qd (pv 0) (qd qi qf))) qi)) (qD _))))) (ql (jk (vx (K:=K) rfl B7 Cr Ct jz (pv 4) (qd (pdf d_law_statement (qd (pv 3) (qd (qo qA qi (qo qL (pdf d_law_next (qd (pv 3) qf)) qi)) (qd jI qf)))) qf)))))
   (ql (qx (qr (qd qg (qd (zo (jR (K:=K) rfl) (by rfl) c.tuple_ zV (qd (qU (jP (K:=K) rfl) (pv 2) zk (qY (qo qL (pdf d_law_cell_at (qd (pv 0) (qd qi qf))) qi))) qf)) (qd (zo (jR (K:=K) rfl) (by rfl) c.tuple_ zV (qd (pv 4) qf)) qf)))))))))),?_⟩
 clear hu;refine ⟨_,rfl,a,ns,_,rfl,hS,O0,fun i0=>⟨_,_,rfl,rfl,.inr ⟨O0,O0⟩,_,_,rfl,rfl,(show (0:Int)<2147483647 from O0),?_⟩⟩;refine ⟨_,rfl,A7 _ O0,Az _ O0,fun names nm H1 good g1 hnm=>?_⟩;refine fun st hst=>⟨_,rfl,_,rfl,_,rfl,upd_same,stK a 0 l0 nm,rfl,(O0:4≤15),?_⟩;rw [qdl];have u2:upd (upd H1 st (.dK [])) st (.dK (stK a 0 l0 nm))=upd H1 st (.dK (stK a 0 l0 nm)):=by
  funext b;unfold upd;split <;> rfl
 rw [u2];have gst:=qj hst (.dK (stK a 0 l0 nm));have di0:DIn K (upd H1 st (.dK (stK a 0 l0 nm))) st a nm ns names 0 l0:=⟨upd_same,gst.seq (g1.seq hS),gst.seq (SqL.of hnm),good⟩;have hst0:H st=none:=g1.free hst;have g2:=g1.trans gst;have hn2:=gst _ _ hnm;have nst:nm≠st:=fun z=>by rw [z,hst] at hnm;cases hnm
 generalize upd H1 st (.dK (stK a 0 l0 nm))=H2 at di0 g2 hn2 ⊢;refine ⟨(O0:0≤Ag),fun pb hpb=>?_⟩;have hpb0:H pb=none:=g2.free hpb;have gpb:=qj hpb (.lst []);have nsp:pb≠st:=fun z=>by rw [z,di0.dict] at hpb;cases hpb
 have npb:nm≠pb:=fun z=>by rw [z,hpb] at hn2;cases hn2
 refine ⟨fun m σ H'=>H' nm=some (.lst (names.map V.str))∧∃ ys ds k' l' s t,σ=[some (.ref a),some (.int l0),some (.ref nm),some (.ref st),some (.ref pb)]∧qu H H'∧DIn K H' st a nm ns names k' l'∧H' pb=some (.lst ys)∧Reps K H' ys ds∧Tre.Fts names ds∧Tre.Ptl (ds.map fun x=>(x,("statement":Str))) true s t∧
  Bud.WI l0 ds.length m s t k' l',⟨6,gpb _ _ hn2,[],[],0,l0,0,0,rfl,g2.trans gpb,di0.same gpb,upd_same,.nil,.nil,.nil,.nil hl00 hl40⟩,?_⟩
 rintro m σ H3 ⟨hn3,ys,ds,k',l',s,t,rfl,g3,di3,hb3,rs3,ff3,pt3,wi⟩;have gL:jQ H3 st (.str "left") (some (.int l')):=by rw [← vY a k' l' nm];exact jQ.k (k:=Sum.inr "left") di3.dict
 have hln:=rs3.length;refine ⟨_,rfl,st,_,rfl,gL,_,_,rfl,rfl,_,rfl,?_⟩;refine qkg (fun c1 hB=>?_) ?_
 ·have c1':0<l':=Bb c1;refine ⟨_,rfl,_,_,rfl,.inl ⟨_,SqL.of hb3,rfl⟩,_,rfl,a,ns,_,rfl,di3.cells,O0,fun i1=>⟨_,_,rfl,rfl,(show (0:Int)<6 from O0),.inl ⟨_,_,rfl,rfl,_,_,rfl,rfl,_,rfl,VC (fun c2=>?_) (fun c2=>qfi hB)⟩⟩⟩;have c2':((ys.length:Nat):Int)<1+i1 % 6:=Bb c2;have c3:=Az i1 (show (0:Int)<6 from O0);refine ⟨_,fun σ' H' h=>h,?_⟩;refine ⟨_,rfl,.inl ⟨rfl,_,SqL.of hb3⟩,_,rfl,_,rfl,st,a,nm,ns,k',l',rfl,di3.dict,di3.cells,wi.2.2.2.1,(by have:=wi.2.2.2;omega),fun z H4 hz0 hz1 e4=>?_⟩
  have di4:DIn K H4 st a nm ns names (k'+1) l':=e4▸di3.put;have sy4:Stay st H3 H4:=e4▸Stay.put di3.dict;clear e4;have z0:=A7 z (show (6:Int)≠0 from O0);have z1:=Az z (show (0:Int)<6 from O0);refine ⟨_,_,rfl,rfl,(show (0:Int)<6 from O0),.inl ⟨_,_,rfl,rfl,qg1 di4 (wi.pre (show 2+z % 6≤7 from ⋯)) fun H5 x d s2 t2 k2 l2 sy5 di5 rx fx px b2=>?_⟩⟩;have sy:=sy4.trans sy5;have hb5:H5 pb=some (.lst ys):=sy.rest _ _ nsp hb3;refine ⟨pb,_,_,rfl,rfl,hb5,by have:(10:Nat)<Ag:=O0;omega,?_⟩
  have nx:Tre.noL d=true:=(Tre.Tr.gd px.tr).nol;have sm:qu H (upd H5 pb (.lst (ys++[x]))):=fun b o e=>by
   have nb:b≠pb:=fun z=>by rw [z,hpb0] at e;cases e
   have nt:b≠st:=fun z=>by rw [z,hst0] at e;cases e
   rw [qG nb];exact sy.rest b o nt (g3 b o e)
  have hn5:upd H5 pb (.lst (ys++[x])) nm=some (.lst (names.map V.str)):=by
   rw [qG npb];exact sy.rest _ _ nst hn3
  have wj:Bud.WI l0 (ds++[d]).length (m - 1) (s+s2) (max t t2) k2 l2:=by
   rw [Am];exact wi.snoc c1' ⋯ b2
  refine ⟨m - 1,by have:=wi.1;omega,hn5,ys++[x],ds++[d],k2,l2,s+s2,max t t2,rfl,sm,⟨by rw [qG (Ne.symm nsp)];exact di5.dict,sm.seq hS,SqL.of hn5,good⟩,upd_same,?_,ff3.snoc fx,?_,wj⟩
  ·exact Reps.put hb5 ((rs3.stay sy).append (.cons rx .nil)) (qfn (ds:=ds++[d]) (by rw [A5];exact pt3.append (Tre.zZ px)))
  ·rw [A5];exact pt3.append (Tre.zZ px)
 ·obtain ⟨hm3,hs3,ht3,hk3,hkl3,hl3⟩:=wi;refine zF rfl ?_;refine ⟨_,rfl,_,rfl,a,ns,_,rfl,di3.cells,O0,fun i2=>⟨_,_,rfl,rfl,(show (0:Int)<5 from O0),_,rfl,.inl ⟨nm,_,rfl,di3.nms,fun p2 hp2=>⟨p2,_,rfl,.inl ⟨SqL.of upd_same,fun p3 hp3=>?_⟩⟩⟩⟩⟩;have m0:=A7 i2 (show (5:Int)≠0 from O0);have m1:=Az i2 (show (0:Int)<5 from O0);obtain ⟨cut,ecut,hcut,hgood⟩:=qaz good m0 ⋯;dsimp only at hp3 ⊢;rw [ecut] at hp3 ⊢;have g4:=qj hp2 (.lst (cut.map V.str));have g5:=qj hp3 (.tup (cut.map V.str));have h3:upd (upd H3 p2 (.lst (cut.map V.str))) p3 (.tup (cut.map V.str)) p3=some (.tup (cut.map V.str)):=upd_same;have g45:=g4.trans g5;generalize upd (upd H3 p2 (.lst (cut.map V.str))) p3 (.tup (cut.map V.str))=H4 at h3 g45 ⊢;refine ⟨_,rfl,pb,ys,rfl,.inl ⟨SqL.of (g45 _ _ hb3),fun p4 hp4=>⟨(O0:3≤Ag),fun p5 hp5=>?_⟩⟩⟩;have ga:=qj hp4 (.tup ys);have gb:=qj hp5 (.tup [.str "main",.ref p3,.ref p4]);have gc:=ga.trans gb;have fcut:Tre.Fts names (cut.map PyData.str):= .of fun d hd=>by
   obtain ⟨x,hx,rfl⟩:=B0.mp hd;exact .name (hgood x hx).1 (Bn _ (hgood x hx).2)
  refine q _ _ (.tuple [.str "main",.tuple (cut.map PyData.str),.tuple ds]) (s+1) (t+1) names ((g3.trans g45).trans gc) (.tup (SqT.of upd_same) (.cons (.str _) (.cons (.tup (gc.sqT (SqT.of h3)) (Reps.strs cut)) (.cons (.tup (gb.sqT (SqT.of upd_same)) ((rs3.same g45).same gc)) .nil)))) good.len ?_ (Tre.y8 hcut ⟨⋯,pt3⟩) ⋯ ⋯ ⋯;exact Tre.Fts.tup (.cons (.word ∅) (.cons fcut.tup (.cons ff3.tup .nil)))
end
end Mine
set_option tactic.hygienic true
namespace Mine
open PySem L2
structure Tb2 (K:Frag) (mg:Str→Option Ac):Prop where
 UNWRITTEN:∃ a,mg "UNWRITTEN"=some (.ref a)∧∀ H:Hp,SqT K H a (Sho.unwritten.map V.str)
 OPEN_ENDED:∃ a,mg "OPEN_ENDED"=some (.ref a)∧∀ H:Hp,SqT K H a (Sho.opened.map V.str)
 BRACKETED:∃ a,mg "BRACKETED"=some (.ref a)∧∀ H:Hp,SqT K H a (Sho.bracketed.map V.str)
section
variable {P:Program} {w:World} {K:Frag} {mg:Str→Option Ac} {base:Heap} {f:Ae} {fd:FuncData} {ad:Ad}
theorem qgl (z:Str) (ys:List Str):Txt.join z ys=Str.join z ys:=A8.mp (PyProof.Rows.join_plain_closes z ys)
theorem line {n:Nat} (h:n≤16000000):n≤Ag:=Ar h O0
theorem deq {a b:Str} (h:a=b):decide (V.str a=V.str b)=true:=Ao (congrArg V.str h)
theorem dne {a b:Str} (h:a≠b):decide (V.str a=V.str b)=false:=Ap fun z=>h (V.str.inj z)
theorem jp (h:Str) (l:List Str):inV (.str h) (l.map V.str)=l.contains h:=by
 rw [wY,Cf,B4,Dg];exact ⟨fun ⟨y,hy,e⟩=>A8.mp e▸hy,fun hy=>⟨h,hy,A8.mpr rfl⟩⟩
theorem Xz {ps:List Str} {lv:Nat} {sp:Sp} (h:∀ vs H Q E,¬ sp vs H Q E):FnOk P w K mg base CX0 lv f fd ps sp:=⟨fun _ _ _ _ z=>(h _ _ _ _ z).elim,fun _ _ _ _ _ _ _ _ _ _ _ _ _ z=>(h _ _ _ _ z).elim⟩
def qck (K:Frag):Sp:=fun vs H Q _=>∃ x sh,vs=[.str x,.str sh]∧(Tre.heads.lookup sh).isSome=true∧Q (.bl (Sho.isHead x sh)) H
theorem ZA (F:Fun K "is_head" "is_head" V5 f fd) (c:Cs K mg ad) (T:Tb P w K mg) (T2:Tb2 K mg):FnOk P w K mg base CX0 1 f fd ["word","shape"] (qck K):=by
 refine F.ok Zn (fun vs H Q E h=>?_) (fun cdv A outer s H vs Q E hr h=>?_)
 ·obtain ⟨x,sh,rfl,_⟩:=h;rfl
 obtain ⟨x,sh,rfl,hs,q⟩:=h;refine ⟨_,(qh (qJ (qv (VR (K:=K) rfl) (pv 0) (wt T.SIGNS) rfl) (ql (qx (jb qZ (pv 1) qg (qD _)))) qB)
   (ql (qx (Vx (jb (VR (K:=K) rfl) (pv 0) (vg (K:=K) rfl T.HEADS (pv 1) (fun _ _=>rfl)) rfl) (JP (jb (qdi (K:=K) rfl) (pv 0) (wt T2.UNWRITTEN) rfl)))))),?_⟩
 refine qC fun D2 h2 r2=>zb fun B b1 b2=>⟨_,rfl,fun a2 ha2=>⟨a2,_,rfl,.inr (ha2 _),rfl,zX _,_,rfl,?_⟩⟩;rw [if_neg Ai,jp];unfold Sho.isHead at q
 by_cases g:Tre.signs.contains x=true
 ·refine bP g (b1 _ ⟨_,rfl,rfl,r2 _ _ ?_⟩);rw [if_pos g] at q;have e:decide (V.str sh=V.str "term")=(sh=="term"):=by
   rw [Cf,Bj,A8];exact ⟨V.str.inj,congrArg V.str⟩
  show Q (.bl (decide (V.str sh=V.str "term"))) H;rw [e];exact q
 ·refine bN (Bs.mpr g) (b2 _ (h2 _ _ ?_));rw [if_neg g] at q;obtain ⟨l,hl⟩:=Bw.mp hs;rw [hl] at q;refine ⟨_,rfl,_,rfl,sh,l,rfl,hl,fun a3 ha3=>⟨a3,_,rfl,.inr (ha3 _),rfl,zX _,_,rfl,?_⟩⟩;rw [if_neg Ai,jp];have q':Q (.bl (l.contains x&&!Sho.unwritten.contains x)) H:=q
  by_cases h:l.contains x=true
  ·refine zE h ⟨_,rfl,fun a4 ha4=>⟨a4,_,rfl,.inr (ha4 _),rfl,zX _,?_⟩⟩;rw [if_pos rfl,jp];rw [h,Bu] at q';exact q'
  ·have h':=Bs.mpr h;refine zF h' ?_;rw [h',B1] at q';exact q'
def oV:Option Str→V
 | some s=> .str s
 | none=> .non
def Y3 (K:Frag):Sp:=fun vs H Q _=>∃ h k,vs=[.str h,.int (k:Nat)]∧(Tre.signs.contains h=true∨(Tre.forms.lookup h).isSome=true)∧∀ H',qu H H'→Q (oV (Sho.behind h k)) H'
theorem qai:∀ p∈Tre.forms,Sho.opened.contains p.1=true→Tre.signs.contains p.1=false∧(Tre.members.lookup (p.2.getLastD "")).isSome=true:=∅
theorem Q9:∀ h∈Tre.signs,Sho.opened.contains h=false:=∅
theorem qkm (y:Str) (ys:List Str):zG ((y::ys).map V.str) (some 1) none=ys.map V.str:=qgc _ _
theorem qd2:∀ p∈Tre.forms,p.2≠[]:=∅
theorem qfy {l:List Str} (h:l≠[]):(l.map V.str)[l.length - 1]?=some (.str (l.getLastD "")):=by
 obtain ⟨r,x,rfl⟩:∃ r x,l=r++[x]:=⟨l.dropLast,l.getLast h,(List.dropLast_concat_getLast h).symm⟩;rw [List.getLastD_eq_getLast?,List.getLast?_concat,Am,A5];simp
theorem wH (F:Fun K "shape_behind" "shape_behind" Jk f fd) (c:Cs K mg ad) (T:Tb P w K mg) (T2:Tb2 K mg):FnOk P w K mg base CX0 1 f fd ["head","place"] (Y3 K):=by
 refine F.ok j4 (fun vs H Q E h=>?_) (fun cdv A outer s H vs Q E hr h=>?_)
 ·obtain ⟨h,k,rfl,_⟩:=h;rfl
 obtain ⟨h,k,rfl,hh,q⟩:=h;refine ⟨_,(qh (pst 2 j4.nd (VL (qv (VR (K:=K) rfl) (pv 0) (wt T.SIGNS) rfl) (qU (jP (K:=K) rfl) (vg (K:=K) rfl T.FORMS qg (fun _ _=>rfl)) (qY qi) zk) (vg (K:=K) rfl T.FORMS (pv 0) (fun _ _=>rfl))))
   (qh (pst 3 j4.nd (qo zy (qE (zB (K:=K) rfl) (by rfl) c.len_ zj (qd (pv 2) qf)) qi))
   (qh (qJ (PW.pt (vJ (qv (VR (K:=K) rfl) (pv 0) (wt T2.OPEN_ENDED) rfl) (JD (qv qj2 (pv 1) (pv 3) (qD _))))) (ql (qx (Yb T.MEMBERS (pix K (pv 2) (pv 3)) (fun _ _=>rfl)))) qB)
   (ql (qx (VL (qv wv (pv 1) (pv 3) (qD _)) (pix K (pv 2) (pv 1)) qhw)))))),?_⟩
 refine qC fun D2 h2 r2=>?_;have cont:∀ a3 H1,qu H H1→SqT K H1 a3 ((Sho.fsOf h).map V.str)→Sho.fsOf h≠[]→D2.nx [some (.str h),some (.int (k:Nat)),some (.ref a3),none] H1:=fun a3 H1 g1 hq hne=>h2 _ _ ?_
 ·refine ⟨_,rfl,fun a2 ha2=>⟨a2,_,rfl,.inr (ha2 _),rfl,zX _,_,rfl,?_⟩⟩;rw [if_neg Ai,jp]
  by_cases g:Tre.signs.contains h=true
  ·have e:Sho.fsOf h=(["term","term"]:List Str):=by unfold Sho.fsOf;rw [if_pos g]
   refine zE g ⟨("two":Str),(["sign","term","term"]:List Str),rfl,∅,fun a3 ha3=>⟨_,rfl,.inr (.inr ⟨a3,_,rfl,ha3 _,YG _ _,fun p hp=>?_⟩)⟩⟩;refine cont p _ (qj hp _) (SqT.of ?_) ?_
   ·rw [e,upd_same];exact congrArg (fun z=>some (HO.tup z)) (qkm "sign" ["term","term"])
   ·rw [e];exact List.cons_ne_nil _ _
  ·have hs:=hh.resolve_left g;obtain ⟨fs,hf⟩:=Bw.mp hs;have e:Sho.fsOf h=fs:=by unfold Sho.fsOf;rw [if_neg g,hf];rfl
   refine zF (Bs.mpr g) ⟨_,rfl,h,fs,rfl,hf,fun a3 ha3=>cont a3 _ (qu.refl _) ?_ ?_⟩
   ·rw [e];exact ha3 _
   ·rw [e];exact qd2 _ (Bc hf)
 clear h2 r2 D2;have hpos:0<(Sho.fsOf h).length:=List.length_pos_iff.mpr hne;refine ⟨_,rfl,_,_,rfl,.inr ⟨_,hq,rfl⟩,_,_,rfl,rfl,?_⟩;dsimp only;rw [Aj];have el:(((Sho.fsOf h).length:Nat):Int) - 1=(((Sho.fsOf h).length - 1:Nat):Int):=⋯;rw [el];refine qC fun D2 h2 r2=>zb fun B b1 b2=>⟨_,rfl,fun a2 ha2=>⟨a2,_,rfl,.inr (ha2 _),rfl,zX _,_,rfl,?_⟩⟩;rw [if_neg Ai,jp];unfold Sho.behind at q;have els:¬ (Sho.opened.contains h&&decide ((Sho.fsOf h).length - 1≤k))=true→B false H1:=fun cnd=>b2 _ (h2 _ _ ?_)
 ·by_cases o1:Sho.opened.contains h=true
  ·refine zE o1 ⟨_,rfl,_,rfl,_,_,rfl,rfl,_,rfl,?_⟩
   by_cases o2:(Sho.fsOf h).length - 1≤k
   ·rw [o1,Ao o2,if_pos (show (true&&true)=true from rfl)] at q;obtain ⟨s,hb⟩:∃ s,Tre.members.lookup ((Sho.fsOf h).getLastD "")=some s:=by
     by_cases g:Tre.signs.contains h=true
     ·have:=Q9 h (B4.mp g);rw [o1] at this;cases this
     ·obtain ⟨fs,hf⟩:=Bw.mp (hh.resolve_left g);have e:Sho.fsOf h=fs:=by unfold Sho.fsOf;rw [if_neg g,hf];rfl
      rw [e];exact Bw.mp (qai _ (Bc hf) o1).2
    rw [hb] at q;refine bP (Ao ⋯) (b1 _ ⟨_,rfl,_,rfl,.inr (.inl ⟨a3,_,_,_,rfl,rfl,hq,qw (qfy hne),_,s,rfl,hb,r2 _ _ (q H1 g1)⟩)⟩)
   ·exact bN (Ap ⋯) (els fun z=>by rw [Al,Bj] at z;exact o2 z.2)
  ·exact zF (Bs.mpr o1) (els fun z=>by rw [Al] at z;exact o1 z.1)
 rw [if_neg cnd] at q;refine ⟨_,rfl,_,rfl,_,_,rfl,rfl,_,rfl,?_⟩
 by_cases hk:k<(Sho.fsOf h).length
 ·refine zE (Ao ⋯) ⟨_,rfl,_,rfl,.inr (.inl ⟨a3,_,_,_,rfl,rfl,hq,qw (j:=k) (v:= .str ((Sho.fsOf h)[k])) ?_,?_⟩)⟩
  ·rw [Bt,Bl hk];rfl
  ·have:=q H1 g1;rw [Bl hk] at this;exact this
 ·refine zF (Ap ⋯) ?_;have:=q H1 g1;rw [List.getElem?_eq_none ⋯] at this;exact this
end
end Mine
namespace L2
open PySem PySem.Spec PyProof.Rows
section
variable {K:Frag} {H H':Hp}
end
end L2
namespace Mine
open PySem L2
structure OA where
 p:Ae
 l:Ae
def oFl (sh:Str) (l:Ae):List (Str×V):=[("shape",.str sh),("things",.ref l)]
theorem vO (sh:Str) (l:Ae):(oFl sh l).lookup ("shape":Str)=some (.str sh):=rfl
theorem zt (sh:Str) (l:Ae):(oFl sh l).lookup ("things":Str)=some (.ref l):=by rfl
theorem qfh (sh:V) (l:V):vf "things" l (vf "shape" sh [])=([("shape",sh),("things",l)]:List (Str×V)):=by rfl
structure OpAt (K:Frag) (C:Ae) (H:Hp) (x:OA) (o:Sho.Op):Prop where
 ob:∃ dx,H x.p=some (.ins C dx (oFl o.sh x.l))
 ls:∃ vs,H x.l=some (.lst vs)∧Reps K H vs o.ts
 nl:Tre.jX o.ts=true
theorem OpAt.same {K:Frag} {C:Ae} {H H':Hp} {x:OA} {o:Sho.Op} (g:qu H H') (h:OpAt K C H x o):OpAt K C H' x o:=by
 obtain ⟨⟨dx,a⟩,⟨vs,b,r⟩,n⟩:=h;exact ⟨⟨dx,g _ _ a⟩,⟨vs,g _ _ b,r.same g⟩,n⟩
section
variable {P:Program} {w:World} {K:Frag} {mg:Str→Option Ac} {base:Heap} {f:Ae} {fd:FuncData} {ad:Ad}
def Zh (C:Ae):Sp:=fun vs H Q _=>∃ p sh dx,vs=[.ref p,.str sh]∧H p=some (.ins C dx [])∧∀ H' l,(∀ b u,b≠p→H b=some u→H' b=some u)→H l=none→H' l=some (.lst [])→H' p=some (.ins C dx (oFl sh l))→Q .non H'
theorem qal (F:Fun K "__init__" "Opening.__init__" Wq f fd) (c:Cs K mg ad):FnOk P w K mg base CX0 1 f fd ["self","shape"] (Zh ad.Opening):=by
 refine F.ok qad (fun vs H Q E h=>?_) (fun cdv A outer s H vs Q E hr h=>?_)
 ·obtain ⟨p,sh,dx,rfl,_⟩:=h;rfl
 obtain ⟨p,sh,dx,rfl,hp,q⟩:=h;refine ⟨_,(qh (qc6 (pv 0) (pv 1) rfl)
   (ql (qc6 (pv 0) (qH qf) rfl))),?_⟩
 refine ⟨_,rfl,_,rfl,p,_,dx,_,rfl,hp,c.cl,c.aS,O0,?_⟩;refine ⟨O0,fun l hl=>?_⟩;have nl:p≠l:=qK upd_same hl;refine ⟨_,rfl,p,_,dx,vf "shape" (.str sh) [],rfl,(by rw [qG nl];exact upd_same),c.cl,c.aT,(show (1:Nat)<1000 from O0),?_⟩
 have hl0:H l=none:=by rw [qG (Ne.symm nl)] at hl;exact hl
 refine q _ l (fun b u hb h=>?_) hl0 ?_ ?_
 ·rw [qG hb,qG (qK h hl0),qG hb];exact h
 ·rw [qG (Ne.symm nl)];exact upd_same
 ·rw [qfh];exact upd_same
def Zg (K:Frag) (C:Ae):Sp:=fun vs H Q _=>∃ x o,vs=[.ref x.p]∧OpAt K C H x o∧Sho.OpOk o∧∀ H',qu H H'→Q (oV (Sho.wanted o)) H'
theorem Xt (F:Fun K "wanted" "Opening.wanted" Vt f fd) (c:Cs K mg ad) (T:Tb P w K mg) (d_shape_behind:Def P w K mg base 1 "shape_behind" ["head","place"] (Y3 K)):FnOk P w K mg base CX0 2 f fd ["self"] (Zg K ad.Opening):=by
 refine F.ok Y6 (fun vs H Q E h=>?_) (fun cdv A outer s H vs Q E hr h=>?_)
 ·obtain ⟨x,o,rfl,_⟩:=h;rfl
 obtain ⟨x,o,rfl,⟨⟨dx,ob⟩,⟨vs,hl,rs⟩,nl⟩,ok,q⟩:=h;refine ⟨_,(qh (qJ (qv qZ (zY (pv 0) rfl) qg (qD _)) (ql (qx qg)) qB)
   (qh (qJ (qc2 (Xm T.MEMBERS c.ns_MEMBERS (zY (pv 0) rfl))) (ql (qx (Yb T.MEMBERS (zY (pv 0) rfl) (fun _ _=>rfl)))) qB)
   (qh (qJ (qv qZ (qE (zB (K:=K) rfl) (by rfl) c.len_ zj (qd (zY (pv 0) rfl) qf)) qi (qD _)) (ql (qx qg)) qB)
   (ql (qx (pdf d_shape_behind (qd (pix K (zY (pv 0) rfl) qi) (qd (qo zy (qE (zB (K:=K) rfl) (by rfl) c.len_ zj (qd (zY (pv 0) rfl) qf)) qi) qf)))))))),?_⟩
 have q0:=q H (qu.refl _);refine qC fun D2 h2 r2=>zb fun B b1 b2=>⟨_,rfl,x.p,_,dx,_,_,rfl,ob,c.cl,c.aS,vO _ _,rfl,_,rfl,?_⟩
 by_cases h0:o.sh="text"
 ·have e:Sho.wanted o=some ("program":Str):=by
   unfold Sho.wanted;rw [if_pos (A8.mpr h0)]
  rw [e] at q0;exact bP (deq h0) (b1 _ (r2 _ _ q0))
 refine bN (dne h0) (b2 _ (h2 _ _ (qC fun D3 h3 r3=>zb fun B b1 b2=>⟨_,rfl,x.p,_,dx,_,_,rfl,ob,c.cl,c.aS,vO _ _,_,rfl,_,rfl,?_⟩)));have hw2:Sho.wanted o=(match Tre.members.lookup o.sh with
  | some m=>some m
  | none=>match o.ts with
   | []=>some ("head":Str)
   | .str h::r=>Sho.behind h r.length
   | _=>none):=by
  unfold Sho.wanted;exact if_neg (fun z=>h0 (A8.mp z))
 cases em:Tre.members.lookup o.sh with
 | some m=>
  rw [em] at hw2;rw [hw2] at q0;exact bP rfl (b1 _ ⟨_,rfl,x.p,_,dx,_,_,rfl,ob,c.cl,c.aS,vO _ _,o.sh,_,rfl,em,r3 _ _ q0⟩)
 | none=>
  rw [em] at hw2;refine bN rfl (b2 _ (h3 _ _ (qC fun D4 h4 r4=>zb fun B b1 b2=>⟨_,rfl,x.p,_,dx,_,_,rfl,ob,c.cl,c.aT,zt _ _,_,_,rfl,.inl ⟨_,SqL.of hl,rfl⟩,rfl,_,rfl,?_⟩)));have hlen:=rs.length;cases ok with
  | text=>exact absurd rfl h0
  | row h=>rw [em] at h;cases h
  | new h=>
   rw [hw2] at q0;refine bP (Ao ?_) (b1 _ (r4 _ _ q0));rw [hlen];rfl
  | @part sh h r h1 h3'=>
   have hw3:Sho.wanted ⟨sh,.str h::r⟩=Sho.behind h r.length:=hw2;refine bN (Ap fun z=>?_) (b2 _ (h4 _ _ ?_))
   ·have:=V.int.inj z;rw [hlen,Ak] at this;omega
   refine rs.ct fun y ys ey ry ry'=>?_;subst ey;obtain rfl:=ry.strI;refine ⟨_,rfl,x.p,_,dx,_,_,rfl,ob,c.cl,c.aT,zt _ _,.inl ⟨x.l,_,0,_,rfl,rfl,SqL.of hl,qw (j:=0) rfl,?_⟩⟩;refine ⟨_,rfl,x.p,_,dx,_,_,rfl,ob,c.cl,c.aT,zt _ _,_,_,rfl,.inl ⟨_,SqL.of hl,rfl⟩,_,_,rfl,rfl,?_⟩;have e:(((V.str h::ys).length:Nat):Int) - 1=((r.length:Nat):Int):=by
    rw [hlen,Ak];omega
   rw [hw3] at q;refine ⟨h,r.length,?_,h3',q⟩;show [V.str h,V.int ((((V.str h::ys).length:Nat):Int) - 1)]=_;rw [e]
def Y2 (K:Frag) (C:Ae):Sp:=fun vs H Q _=>∃ x o,vs=[.ref x.p]∧OpAt K C H x o∧Sho.OpOk o∧(o.sh=="text")=false∧o.ts.length≤20000∧∀ H' v,qu H H'→Rep K H' v (Sho.closed o)→Q v H'
theorem yc {H:Hp}:∀ {vs:List V} {ds:List Aa} (n:Nat),Reps K H vs ds→Reps K H (vs.take n) (ds.take n)
 | _,_,0,_=> .nil
 | _,_,_+1,.nil=> .nil
 | _,_,n+1,.cons r t=> .cons r (yc n t)
theorem yd {H:Hp}:∀ {vs:List V} {ds:List Aa} (n:Nat),Reps K H vs ds→Reps K H (vs.drop n) (ds.drop n)
 | _,_,0,h=>h
 | _,_,_+1,.nil=> .nil
 | _,_,n+1,.cons r t=>yd n t
theorem Wt {H:Hp}:∀ {vs us:List V} {ds es:List Aa},Reps K H vs ds→Reps K H us es→Reps K H (vs++us) (ds++es)
 | _,_,_,_,.nil,h=>h
 | _,_,_,_,.cons r t,h=> .cons r (Wt t h)
theorem ZZ (xs:List V) (n:Nat):zG xs none (some (n:Int))=xs.take n:=by
 unfold zG;rw [HT.sIx_none,HT.sIx_nat,List.drop_zero,Nat.sub_zero]
 by_cases h:n≤xs.length
 ·rw [Nat.min_eq_left h]
 ·rw [Nat.min_eq_right ⋯,Dd (Aw _),Dd ⋯]
theorem qec (xs:List V) (n:Nat):zG xs (some (n:Int)) none=xs.drop n:=by
 unfold zG;rw [HT.sIx_none,HT.sIx_nat]
 by_cases h:n≤xs.length
 ·rw [Nat.min_eq_left h];exact Dd (by rw [B5];exact Aw _)
 ·rw [Nat.min_eq_right ⋯,El (Aw _),El ⋯,List.take_nil]
theorem QY:∀ p∈Tre.forms,Sho.opened.contains p.1=true→p.2.length=2:=∅
theorem Xu (F:Fun K "closed" "Opening.closed" Vu f fd) (c:Cs K mg ad) (T:Tb P w K mg) (T2:Tb2 K mg):FnOk P w K mg base CX0 1 f fd ["self"] (Y2 K ad.Opening):=by
 refine F.ok vC (fun vs H Q E h=>?_) (fun cdv A outer s H vs Q E hr h=>?_)
 ·obtain ⟨x,o,rfl,_⟩:=h;rfl
 obtain ⟨x,o,rfl,⟨⟨dx,ob⟩,⟨vs,hl,rs⟩,nl⟩,ok,nt,hz,q⟩:=h;have hlen:=rs.length;refine ⟨_,(qh (qJ (PW.pt (JT (qc2 (Xm T.MEMBERS c.ns_MEMBERS (zY (pv 0) rfl))) (Jq (qv qZ (qE (zB (K:=K) rfl) (by rfl) c.len_ zj (qd (zY (pv 0) rfl) qf)) qi (qD _))))) (ql (qx (zo (jR (K:=K) rfl) (by rfl) c.tuple_ zV (qd (zY (pv 0) rfl) qf)))) qB)
   (qh (pst 1 vC.nd (pix K (zY (pv 0) rfl) qi))
   (qh (qJ (qv (VR (K:=K) rfl) (pv 1) (wt T.SIGNS) rfl) (ql (qx (qo (qee (K:=K) rfl) (qr (qd qg qf)) (zo (jR (K:=K) rfl) (by rfl) c.tuple_ zV (qd (zY (pv 0) rfl) qf))))) qB)
   (qh (qJ (qv (VR (K:=K) rfl) (pv 1) (wt T2.OPEN_ENDED) rfl) (qh (pst 2 vC.nd (qE (zB (K:=K) rfl) (by rfl) c.len_ zj (qd (vg (K:=K) rfl T.FORMS (pv 1) (fun _ _=>rfl)) qf)))
   (ql (qx (qo (qee (K:=K) rfl) (zo (jR (K:=K) rfl) (by rfl) c.tuple_ zV (qd (qU (jP (K:=K) rfl) (zY (pv 0) rfl) zk (qY (pv 2))) qf)) (qr (qd (zo (jR (K:=K) rfl) (by rfl) c.tuple_ zV (qd (qU (jP (K:=K) rfl) (zY (pv 0) rfl) (qY (pv 2)) zk) qf)) qf)))))) qB)
   (ql (qx (zo (jR (K:=K) rfl) (by rfl) c.tuple_ zV (qd (zY (pv 0) rfl) qf)))))))),?_⟩
 refine qC fun D2 h2 r2=>zb fun B b1 b2=>?_;refine ⟨_,rfl,x.p,_,dx,_,_,rfl,ob,c.cl,c.aS,vO _ _,_,rfl,_,rfl,?_⟩;cases em:Tre.members.lookup o.sh with
 | some m=>
  have ec:Sho.closed o= .tuple o.ts:=by
   unfold Sho.closed;rw [em];rfl
  rw [ec] at q;refine zE rfl (b1 _ ⟨_,rfl,x.p,_,dx,_,_,rfl,ob,c.cl,c.aT,zt _ _,x.l,vs,rfl,.inl ⟨SqL.of hl,fun l hl0=>r2 _ _ (q _ _ (qj hl0 _) (.tup (SqT.of upd_same) (rs.same (qj hl0 _))))⟩⟩)
 | none=>
  refine zF rfl ⟨_,rfl,x.p,_,dx,_,_,rfl,ob,c.cl,c.aT,zt _ _,_,_,rfl,.inl ⟨_,SqL.of hl,rfl⟩,rfl,_,rfl,?_⟩;cases ok with
  | text=>cases nt
  | row h=>rw [em] at h;cases h
  | @new sh h=>
   have ec:Sho.closed ⟨sh,[]⟩= .tuple []:=by
    unfold Sho.closed;split <;> rfl
   rw [ec] at q;refine bP (Ao ?_) (b1 _ ⟨_,rfl,x.p,_,dx,_,_,rfl,ob,c.cl,c.aT,zt _ _,x.l,vs,rfl,.inl ⟨SqL.of hl,fun l hl0=>r2 _ _ (q _ _ (qj hl0 _) (.tup (SqT.of upd_same) (rs.same (qj hl0 _))))⟩⟩);rw [hlen];rfl
  | @part sh h r h1 h3=>
   have ec:Sho.closed ⟨sh,.str h::r⟩=(if Tre.signs.contains h=true then .tuple (.str "two":: .str h::r) else if Sho.opened.contains h=true then .tuple ((.str h::r).take (Sho.fsOf h).length++[.tuple ((.str h::r).drop (Sho.fsOf h).length)]) else .tuple (.str h::r)):=by
    unfold Sho.closed;rw [em];rfl
   rw [ec] at q;refine bN (Ap fun z=>?_) (b2 _ (h2 _ _ ?_))
   ·have:=V.int.inj z;rw [hlen,Ak] at this;omega
   refine rs.ct fun y ys ey ry ry'=>?_;subst ey;obtain rfl:=ry.strI;have hz':ys.length≤20000:=by
    have z1:(V.str h::ys).length=(PyData.str h::r).length:=hlen;have z2:(PyData.str h::r).length≤20000:=hz;rw [Ak] at z1;omega
   refine qC fun D1 k1 _=>⟨_,rfl,x.p,_,dx,_,_,rfl,ob,c.cl,c.aT,zt _ _,.inl ⟨x.l,_,0,_,rfl,rfl,SqL.of hl,qw (j:=0) rfl,k1 _ _ (qC fun D2 h2 r2=>zb fun B b1 b2=>⟨_,rfl,fun a2 ha2=>⟨a2,_,rfl,.inr (ha2 _),rfl,zX _,_,rfl,?_⟩⟩)⟩⟩;rw [if_neg Ai,jp]
   by_cases g:Tre.signs.contains h=true
   ·rw [if_pos g] at q;refine bP g (b1 _ ⟨O0,fun p hp=>?_⟩);have g1:=qj hp (.tup [.str "two"]);have e1:upd H p (.tup [.str "two"]) p=some (.tup [.str "two"]):=upd_same;have hl1:=g1 _ _ hl;have ob1:=g1 _ _ ob;generalize upd H p (.tup [.str "two"])=H1 at g1 e1 hl1 ob1 ⊢;refine ⟨_,rfl,x.p,_,dx,_,_,rfl,ob1,c.cl,c.aT,zt _ _,x.l,_,rfl,.inl ⟨SqL.of hl1,fun l hl0=>?_⟩⟩;have g2:=qj hl0 (.tup (V.str h::ys));refine ⟨p,l,_,_,rfl,rfl,SqT.of (g2 _ _ e1),SqT.of upd_same,List.cons_ne_nil _ _,Ar (show 1+(ys.length+1)≤30000 from ⋯) O0,(fun z=>by cases z),fun _ p2 hp2=>r2 _ _ ?_⟩
    have g3:=(g1.trans g2).trans (qj hp2 (.tup ([.str "two"]++V.str h::ys)));exact q _ _ g3 (.tup (SqT.of upd_same) (.cons (.str _) (rs.same g3)))
   ·rw [if_neg g] at q;have hs:=h3.resolve_left g;obtain ⟨fs,hf⟩:=Bw.mp hs;have e:Sho.fsOf h=fs:=by unfold Sho.fsOf;rw [if_neg g,hf];rfl
    refine bN (Bs.mpr g) (b2 _ (h2 _ _ (qC fun D3 h3 r3=>zb fun B b1 b2=>⟨_,rfl,fun a3 ha3=>⟨a3,_,rfl,.inr (ha3 _),rfl,zX _,_,rfl,?_⟩⟩)));rw [if_neg Ai,jp]
    by_cases o1:Sho.opened.contains h=true
    ·have e2:fs.length=2:=QY _ (Bc hf) o1;rw [if_pos o1,e,e2] at q;refine bP o1 (b1 _ ⟨_,rfl,h,fs,rfl,hf,fun a4 ha4=>⟨_,_,rfl,.inr ⟨_,ha4 _,rfl⟩,?_⟩⟩);dsimp only;rw [Aj,e2];have n2:(V.str h::ys).take 2≠[]:=by simp
     generalize ew:V.str h::ys=ws at rs hl n2;have wl:ws.length≤20001:=by rw [← ew,Ak];omega
     refine ⟨_,rfl,x.p,_,dx,_,_,rfl,ob,c.cl,c.aT,zt _ _,_,rfl,_,rfl,.inl ⟨x.l,_,rfl,SqL.of hl,fun p1 hp1=>?_⟩⟩;have g1:=qj hp1 (.lst (zG ws none (some ((2:Nat):Int))));refine ⟨p1,_,rfl,.inl ⟨SqL.of upd_same,fun p2 hp2=>?_⟩⟩;have g2:=g1.trans (qj hp2 (.tup (zG ws none (some ((2:Nat):Int)))));have h2:upd (upd H p1 (.lst (zG ws none (some ((2:Nat):Int))))) p2 (.tup (zG ws none (some ((2:Nat):Int)))) p2=some (.tup (zG ws none (some ((2:Nat):Int)))):=upd_same;generalize upd (upd H p1 (.lst (zG ws none (some ((2:Nat):Int))))) p2 (.tup (zG ws none (some ((2:Nat):Int))))=H2 at g2 h2 ⊢;refine ⟨_,rfl,x.p,_,dx,_,_,rfl,g2 _ _ ob,c.cl,c.aT,zt _ _,_,rfl,_,rfl,.inl ⟨x.l,_,rfl,SqL.of (g2 _ _ hl),fun p3 hp3=>?_⟩⟩;have g3:=qj hp3 (.lst (zG ws (some ((2:Nat):Int)) none));refine ⟨p3,_,rfl,.inl ⟨SqL.of upd_same,fun p4 hp4=>?_⟩⟩;have g4:=g3.trans (qj hp4 (.tup (zG ws (some ((2:Nat):Int)) none)));have h4:upd (upd H2 p3 (.lst (zG ws (some ((2:Nat):Int)) none))) p4 (.tup (zG ws (some ((2:Nat):Int)) none)) p4=some (.tup (zG ws (some ((2:Nat):Int)) none)):=upd_same;generalize upd (upd H2 p3 (.lst (zG ws (some ((2:Nat):Int)) none))) p4 (.tup (zG ws (some ((2:Nat):Int)) none))=H4 at g4 h4 ⊢;refine ⟨(O0:1≤Ag),fun p5 hp5=>?_⟩;have g5:=qj hp5 (.tup [.ref p4]);refine ⟨p2,p5,_,_,rfl,rfl,SqT.of ((g4.trans g5) _ _ h2),SqT.of upd_same,?_,?_,(fun z=>by cases z),fun _ p6 hp6=>r3 _ _ ?_⟩
     ·rw [ZZ];exact n2
     ·rw [ZZ];have:=Ce 2 ws;exact Ar (show (ws.take 2).length+1≤3 from ⋯) O0
     have g6:=g5.trans (qj hp6 (.tup (zG ws none (some ((2:Nat):Int))++[.ref p4])));have g7:=(g2.trans g4).trans g6;have h7:upd (upd H4 p5 (.tup [.ref p4])) p6 (.tup (zG ws none (some ((2:Nat):Int))++[.ref p4])) p6=some (.tup (zG ws none (some ((2:Nat):Int))++[.ref p4])):=upd_same;have h47:=g6 _ _ h4;generalize upd (upd H4 p5 (.tup [.ref p4])) p6 (.tup (zG ws none (some ((2:Nat):Int))++[.ref p4]))=H7 at g7 h7 h47 ⊢;refine q _ _ g7 (.tup (SqT.of h7) ?_);rw [ZZ];refine Wt ((yc 2 rs).same g7) (.cons (.tup (SqT.of h47) ?_) .nil);rw [qec];exact (yd 2 rs).same g7
    ·rw [if_neg o1] at q;exact bN (Bs.mpr o1) (b2 _ (h3 _ _ ⟨_,rfl,x.p,_,dx,_,_,rfl,ob,c.cl,c.aT,zt _ _,x.l,_,rfl,.inl ⟨SqL.of hl,fun l hl0=>q _ _ (qj hl0 _) (.tup (SqT.of upd_same) (rs.same (qj hl0 _)))⟩⟩))
def qgp:Sp:=fun vs H Q _=>∃ x,vs=[.str x]∧x.length≤6000∧Q (.bl (Sho.numeral x)) H
theorem slice_le {x:Str}:(Txt.slice x (some 1) none).length≤x.length:=by
 by_cases h1:1≤x.length
 ·have e:=congrArg List.length (Sho.slice1 h1);rw [B5] at e;have a:x.cps.toList.length=x.length:=Bh;have b:(Txt.slice x (some 1) none).cps.toList.length=(Txt.slice x (some 1) none).length:=Bh;omega
 ·have:x.length=0:=⋯;have e:x=⟨#[]⟩:=Sho.str_ext (Cp (by rw [Bh];exact this))
  subst e;decide+kernel
theorem qf7 {x:Str}:(Sho.figs x).length≤x.length:=by
 unfold Sho.figs;split
 ·exact slice_le
 ·exact Aw _
theorem W4 (F:Fun K "is_numeral" "is_numeral" vd f fd) (c:Cs K mg ad):FnOk P w K mg base CX0 1 f fd ["word"] qgp:=by
 refine F.ok Vk (fun vs H Q E h=>?_) (fun cdv A outer s H vs Q E hr h=>?_)
 ·obtain ⟨x,rfl,_⟩:=h;rfl
 obtain ⟨x,rfl,hx,q⟩:=h;refine ⟨_,(qh (pst 1 Vk.nd (VL (zS (vx (K:=K) rfl Ci PySem.F.slot_str_startswith PySem.F.type_str_startswith ym (pv 0) (qd qg qf))) (qU (jP (K:=K) rfl) (pv 0) (qY qi) zk) (pv 0)))
   (qh (qJ (PW.pt (JT (ju (zS (qg0 (K:=K) rfl Ci PySem.F.slot_str_isdigit PySem.F.type_str_isdigit ZD (pv 1)))) (Jq (qv Wz (qE (zB (K:=K) rfl) (by rfl) c.len_ zj (qd (pv 1) qf)) (vK c.MOST_FIGURES) (qD _))))) (ql (qx jI)) qB)
   (ql (qx (Qq (jb qZ (pv 0) qg (qD _)) (JP (qda (vx (K:=K) rfl Ci PySem.F.slot_str_startswith PySem.F.type_str_startswith ym (pv 1) (qd qg qf))))))))),?_⟩
 refine qC fun D2 h2 r2=>?_;have hy:=Ar (qf7 (x:=x)) hx;have cont:D2.nx [some (.str x),some (.str (Sho.figs x))] H:=h2 _ _ ?_
 ·refine ⟨_,rfl,rfl,_,_,rfl,rfl,_,rfl,?_⟩;unfold Sho.figs at cont;cases st:Txt.startswith x "-" with
  | true=>
   rw [st,if_pos rfl] at cont;exact zE rfl ⟨_,rfl,_,rfl,.inr (.inl ⟨x,rfl,Ar hx O0,cont⟩)⟩
  | false=>
   rw [st,if_neg Ai] at cont;exact zF rfl ⟨_,rfl,cont⟩
 clear h2 r2 D2;unfold Sho.numeral at q;generalize Sho.figs x=y at q hy ⊢;refine qC fun D2 h2 r2=>zb fun B b1 b2=>⟨_,rfl,rfl,y,rfl,rfl,_,rfl,?_⟩;cases dg:Txt.isdigit y with
 | false=>
  rw [dg,B1,B1] at q;exact zE rfl (b1 _ (r2 _ _ q))
 | true=>
  rw [dg,Bu] at q;refine zF rfl ⟨_,rfl,_,_,rfl,⟨Ar hy O0,rfl⟩,_,_,rfl,rfl,_,rfl,?_⟩
  by_cases l13:y.length≤13
  ·rw [Ao l13,Bu] at q;refine bN (Ap ⋯) (b2 _ (h2 _ _ ?_));refine ⟨_,rfl,rfl,_,rfl,?_⟩
   by_cases h0:x="0"
   ·rw [A8.mpr h0,Bool.true_or] at q;exact zE (deq h0) q
   ·rw [Bi.mpr h0,Ev] at q;exact zF (dne h0) ⟨_,rfl,rfl,_,_,rfl,rfl,_,rfl,q⟩
  ·rw [Ap l13,B1] at q;exact bP (Ao ⋯) (b1 _ (r2 _ _ q))
def qjh (K:Frag) (CB:Ae):Sp:=fun vs H Q E=>∃ x,vs=[.str x]∧x.length≤6000∧Sho.Asc x∧(∀ t,Sho.termF x=some t→∀ H' v,qu H H'→Rep K H' v t→Q v H')∧(Sho.termF x=none→∀ H',qu H H'→E (.ref CB) none H')
theorem Zx (F:Fun K "term_of" "term_of" V4 f fd) (c:Cs K mg ad) (d_is_name:Def P w K mg base 1 "is_name" ["thing"] (spD K Tre.zn)) (d_is_numeral:Def P w K mg base 1 "is_numeral" ["word"] qgp):FnOk P w K mg base (CX1 P w) 2 f fd ["word"] (qjh K ad.BadText):=by
 refine F.ok1 Zk (fun vs H Q E h=>?_) (fun cdv A outer s H vs Q E hr h=>?_)
 ·obtain ⟨x,rfl,_⟩:=h;rfl
 obtain ⟨x,rfl,hl,asc,q,qe⟩:=h;refine ⟨_,(qh (qJ (zS (pdf d_is_name (qd (pv 0) qf))) (ql (qx (qr (qd qg (qd (pv 0) qf))))) qB)
   (qh (qJ (zS (pdf d_is_numeral (qd (pv 0) qf))) (ql (qx (qr (qd qg (qd (zo qdw (by rfl) c.int_ Z1 (qd (pv 0) qf)) qf))))) qB)
   (ql (JU v8 c.o_BadText c.m_BadText (qd qg qf))))),?_⟩
 refine qC fun D2 h2 r2=>zb fun B b1 b2=>⟨_,rfl,_,.str x,rfl,.str _,?_,fun H1 g1=>⟨_,rfl,?_⟩⟩
 ·unfold Tre.fit;exact Ao ⋯
 show B (Tre.qP x) H1;unfold Sho.termF at q qe;cases hn:Tre.qP x with
 | true=>
  rw [hn,if_pos rfl] at q;exact b1 _ ⟨_,rfl,(O0:2≤Ag),fun p hp=>r2 _ _ (q _ rfl _ _ (g1.trans (qj hp _)) (.tup (SqT.of upd_same) (.cons (.str _) (.cons (.str _) .nil))))⟩
 | false=>
  rw [hn,if_neg Ai] at q qe;refine b2 _ (h2 _ _ (qC fun D3 h3 r3=>zb fun B b1 b2=>⟨_,rfl,x,rfl,hl,_,rfl,?_⟩));cases hm:Sho.numeral x with
  | true=>
   rw [hm,if_pos rfl] at q;obtain ⟨v1,v2⟩:=Sho.val_is asc hm;exact b1 _ ⟨_,rfl,x,_,rfl,v1,⋯,(O0:2≤Ag),fun p hp=>r3 _ _ (q _ rfl _ _ (g1.trans (qj hp _)) (.tup (SqT.of upd_same) (.cons (.str _) (.cons (.int _) .nil))))⟩
  | false=>
   rw [hm,if_neg Ai] at qe;exact b2 _ (h3 _ _ ⟨(by show 1≤Ag;decide),qe rfl _ g1⟩)
def Qc (K:Frag) (C CB:Ae):Sp:=fun vs H Q E=>∃ x a o,vs=[.str x,.ref a.p]∧x.length≤6000∧Sho.Asc x∧OpAt K C H a o∧Sho.OpOk o∧(∀ t,Sho.thingF x o=some t→∀ H' v,qu H H'→Rep K H' v t→Q v H')∧(Sho.thingF x o=none→∀ H',qu H H'→E (.ref CB) none H')
theorem ZQ {o:Sho.Op} (ok:Sho.OpOk o) (hw:Sho.wanted o=some ("head":Str)):(Tre.heads.lookup o.sh).isSome=true:=by
 cases ok with
 | text=>cases hw
 | @row sh ts h=>
  obtain ⟨m,hm⟩:=Bw.mp h;have nt:(sh=="text")=false:=by
   rw [Bi];intro z;rw [z] at h;exact absurd h ∅
  rw [Sho.wanted_row nt hm] at hw;have z:∀ p∈Tre.members,p.2≠"head":=∅;exact absurd (Bg hw) (z _ (Bc hm))
 | new h=>exact h
 | part h _=>exact h
theorem Xq (F:Fun K "thing_of" "thing_of" Vs f fd) (c:Cs K mg ad) (d_O_wanted:MethN P w K mg base ad.Opening 2 "wanted" ["self"] (Zg K ad.Opening)) (d_is_head:Def P w K mg base 1 "is_head" ["word","shape"] (qck K)) (d_term_of:DefX P w K mg base 2 "term_of" ["word"] (qjh K ad.BadText)):FnOk P w K mg base (CX1 P w) 4 f fd ["word","opening"] (Qc K ad.Opening ad.BadText):=by
 refine F.ok1 (k:=3) wk (fun vs H Q E h=>?_) (fun cdv A outer s H vs Q E hr h=>?_)
 ·obtain ⟨x,a,o,rfl,_⟩:=h;rfl
 obtain ⟨x,a,o,rfl,hl,asc,oa,ok,q,qe⟩:=h;refine ⟨_,(qh (pst 2 wk.nd (Zu (pv 1) d_O_wanted (hr.mono (by first | decide | omega))))
   (qh (qJ (PW.pt (vJ (qv qZ (pv 2) qg (qD _)) (JD (zS (pdf d_is_head (qd (pv 0) (qd (zY (pv 1) rfl) qf))))))) (ql (qx (pv 0))) qB)
   (qh (qJ (qv (VR (K:=K) rfl) (pv 2) (qr (qd qg (qd qg qf))) rfl) (ql (qx (pv 0))) qB)
   (qh (qJ (qv qZ (pv 2) qg (qD _)) (ql (qx (vh d_term_of (hr.mono (by first | decide | omega)) Qu (qd (pv 0) qf)))) qB)
   (ql (JU v8 c.o_BadText c.m_BadText (qd qg qf))))))),?_⟩
 obtain ⟨dx,ob⟩:=oa.ob;refine qC fun D2 h2 r2=>⟨_,rfl,a.p,dx,_,rfl,ob,rfl,a,o,rfl,oa,ok,fun H1 g1=>h2 _ _ ?_⟩;have ob1:=g1 _ _ ob;unfold Sho.thingF at q qe;cases hw:Sho.wanted o with
 | none=>
  rw [hw] at qe;refine qC fun D3 h3 r3=>zb fun B b1 b2=>⟨_,rfl,rfl,_,rfl,zF (Ap fun z=>(by cases z)) (b2 _ (h3 _ _ ?_))⟩
  refine qC fun D4 h4 r4=>zb fun B b1 b2=>⟨_,rfl,(O0:2≤Ag),fun q2 hq2=>⟨q2,_,rfl,.inr (SqT.of upd_same),rfl,rfl,_,rfl,?_⟩⟩;refine bN (by rfl) (b2 _ (h4 _ _ (qC fun D5 h5 r5=>zb fun B b1 b2=>⟨_,rfl,rfl,_,rfl,bN (Ap fun z=>(by cases z)) (b2 _ (h5 _ _ ⟨(by show 1≤Ag;decide),qe rfl _ (g1.trans (qj hq2 _))⟩))⟩)))
 | some s=>
  rw [hw] at q qe;refine qC fun D3 h3 r3=>zb fun B b1 b2=>⟨_,rfl,rfl,_,rfl,?_⟩;have low:(s=="head"&&Sho.isHead x o.sh)=false→B false H1:=fun hf=>b2 _ (h3 _ _ ?_)
  ·by_cases hs:s="head"
   ·subst hs;refine zE (deq rfl) ⟨_,rfl,_,rfl,a.p,_,dx,_,_,rfl,ob1,c.cl,c.aS,vO _ _,x,o.sh,rfl,ZQ ok hw,_,rfl,?_⟩;cases hh:Sho.isHead x o.sh with
    | true=>exact b1 _ ⟨_,rfl,r3 _ _ (q _ (if_pos (by rw [hh];decide+kernel)) _ _ g1 (.str _))⟩
    | false=>exact low (by rw [hh,Bool.and_false])
   ·exact zF (dne hs) (low (by rw [Bi.mpr hs,B1]))
  have q':∀ t,(if (s=="name"||s=="word")=true then some (PyData.str x) else if (s=="term")=true then Sho.termF x else none)=some t→∀ H' v,qu H H'→Rep K H' v t→Q v H':=fun t e=>q t (by show (if _ then _ else _)=_;rw [if_neg (by rw [hf];exact Ai)];exact e)
  have qe':(if (s=="name"||s=="word")=true then some (PyData.str x) else if (s=="term")=true then Sho.termF x else none)=none→∀ H',qu H H'→E (.ref ad.BadText) none H':=fun e=>qe (by show (if _ then _ else _)=_;rw [if_neg (by rw [hf];exact Ai)];exact e)
  clear q qe b1 b2 h3 r3 h2 r2;refine qC fun D4 h4 r4=>zb fun B b1 b2=>⟨_,rfl,(O0:2≤Ag),fun q2 hq2=>⟨q2,_,rfl,.inr (SqT.of upd_same),rfl,rfl,_,rfl,?_⟩⟩;have g2:=g1.trans (qj hq2 (.tup [.str "name",.str "word"]));generalize upd H1 q2 (.tup [.str "name",.str "word"])=H2 at g2 ⊢;have e0:inV (.str s) [.str "name",.str "word"]=(s=="name"||s=="word"):=Yx _ _ _;rw [if_neg Ai];show B (inV (.str s) [.str "name",.str "word"]) H2;rw [e0];cases hn:(s=="name"||s=="word") with
  | true=>exact b1 _ ⟨_,rfl,r4 _ _ (q' _ (if_pos hn) _ _ g2 (.str _))⟩
  | false=>
   rw [hn,if_neg Ai] at qe';rw [hn,if_neg Ai] at q';refine b2 _ (h4 _ _ (qC fun D5 h5 r5=>zb fun B b1 b2=>⟨_,rfl,rfl,_,rfl,?_⟩))
   by_cases ht:s="term"
   ·subst ht;refine bP (deq rfl) (b1 _ ⟨_,rfl,x,rfl,hl,asc,fun t e H3 v g3 r=>r5 _ _ (q' t (by rw [if_pos ∅];exact e) _ _ (g2.trans g3) r),fun e H3 g3=>qe' (by rw [if_pos ∅];exact e) _ (g2.trans g3)⟩)
   ·exact bN (dne ht) (b2 _ (h5 _ _ ⟨(by show 1≤Ag;decide),qe' (by rw [if_neg (by rw [Bi.mpr ht];exact Ai)]) _ g2⟩))
end
section
variable {P:Program} {w:World} {K:Frag} {mg:Str→Option Ac} {base:Heap} {f:Ae} {fd:FuncData} {ad:Ad} {C:Ae} {G H H':Hp} {ol:Ae} {x:OA} {xs:List OA} {o:Sho.Op} {S:List Sho.Op}
theorem OpAt.put {q:Ae} {zs zs':List V} (hq:H q=some (.lst zs)) (n:x.l≠q) (h:OpAt K C H x o):OpAt K C (upd H q (.lst zs')) x o:=by
 obtain ⟨⟨dx,a⟩,⟨vs,b,r⟩,nl⟩:=h;exact ⟨⟨dx,by rw [qG (yj a hq (by intro z;cases z))];exact a⟩,⟨vs,by rw [qG n];exact b,r.put hq nl⟩,nl⟩
structure Stk (K:Frag) (C:Ae) (G H:Hp) (ol:Ae) (xs:List OA) (S:List Sho.Op):Prop where
 ls:H ol=some (.lst ((xs.map fun x=>V.ref x.p).reverse))
 at_:Paired (OpAt K C H) xs S
 nd:(xs.map (·.l)).Nodup
 ne:∀ x∈xs,x.l≠ol
 g:qu G H
 g0:G ol=none
 gx:∀ x∈xs,G x.l=none
theorem Stk.same (s:Stk K C G H ol xs S) (h:qu H H'):Stk K C G H' ol xs S:=
 ⟨h _ _ s.ls,L2.Paired.mapP s.at_ fun _ _ z=>z.same h,s.nd,s.ne,s.g.trans h,s.g0,s.gx⟩
theorem vi {q:Ae} {zs zs':List V} (hq:H q=some (.lst zs)):∀ {xs:List OA} {S:List Sho.Op},(∀ x∈xs,x.l≠q)→Paired (OpAt K C H) xs S→Paired (OpAt K C (upd H q (.lst zs'))) xs S
 | _,_,_,.nil=> .nil
 | _,_,n,.cons h t=> .cons (h.put hq (n _ Ay)) (vi hq (fun y hy=>n y (Au _ hy)) t)
theorem qj4 {ds:List Aa} {t:Aa} (h:Tre.jX ds=true) (ht:Tre.noL t=true):Tre.jX (ds++[t])=true:=by
 induction ds with
 | nil=>
  show (Tre.noL t&&true)=true;rw [ht];rfl
 | cons d r ih=>
  rw [Tre.jX,Al] at h;rw [Dc,Tre.jX,h.1,ih h.2];rfl
theorem Stk.push {vs:List V} {v:V} {t:Aa} (s:Stk K C G H ol (x::xs) (o::S)) (hl:H x.l=some (.lst vs)) (rs:Reps K H vs o.ts) (rv:Rep K H v t) (ht:Tre.noL t=true):Stk K C G (upd H x.l (.lst (vs++[v]))) ol (x::xs) (⟨o.sh,o.ts++[t]⟩::S):=by
 obtain ⟨ls,at_,nd,ne,g,g0,gx⟩:=s;cases at_ with
 | cons h tl=>
  obtain ⟨⟨dx,ob⟩,_,nl⟩:=h;rw [A4,Cy] at nd;refine ⟨?_,.cons ⟨⟨dx,?_⟩,⟨vs++[v],upd_same,?_⟩,qj4 nl ht⟩ (vi hl (fun y hy z=>?_) tl),by rw [A4,Cy];exact nd,ne,jg g (gx x Ay) _,g0,gx⟩
  ·rw [qG (Ne.symm (ne x Ay))];exact ls
  ·rw [qG (yj ob hl (by intro z;cases z))]
   exact ob
  ·exact Wt (rs.put hl nl) (.cons (rv.put hl ht) .nil)
  ·exact nd.1 (B0.mpr ⟨y,hy,z⟩)
theorem Stk.pop (s:Stk K C G H ol (x::xs) (o::S)):Stk K C G (upd H ol (.lst ((xs.map fun x=>V.ref x.p).reverse))) ol xs S∧OpAt K C (upd H ol (.lst ((xs.map fun x=>V.ref x.p).reverse))) x o:=by
 obtain ⟨ls,at_,nd,ne,g,g0,gx⟩:=s;cases at_ with
 | cons h tl=>
  rw [A4,Cy] at nd;exact ⟨⟨upd_same,vi ls (fun y hy=>ne y (Au _ hy)) tl,nd.2,fun y hy=>ne y (Au _ hy),jg g g0 _,g0,fun y hy=>gx y (Au _ hy)⟩,h.put ls (ne x Ay)⟩
theorem Stk.open_ {p l dx:Ae} {sh:Str} {H1:Hp} (s:Stk K C G H ol xs S) (hg:qu H H1) (np:H p=none) (nl:H l=none) (hl:H1 l=some (.lst [])) (hp:H1 p=some (.ins C dx (oFl sh l))):Stk K C G (upd H1 ol (.lst ((xs.map fun x=>V.ref x.p).reverse++[.ref p]))) ol (⟨p,l⟩::xs) (⟨sh,[]⟩::S):=by
 have s1:=s.same hg;obtain ⟨ls,at_,nd,ne,g,g0,gx⟩:=s1;have n1:l≠ol:=fun z=>by rw [z,s.ls] at nl;cases nl
 have fresh:∀ y∈xs,y.l≠l:=fun y hy z=>by
  have:∀ {xs:List OA} {S:List Sho.Op},Paired (OpAt K C H) xs S→∀ y∈xs,∃ vs,H y.l=some (.lst vs):=fun h=>by
   induction h with
   | nil=>intro y hy;cases hy
   | cons h _ ih=>
    intro y hy;rcases Av.mp hy with rfl | hy
    ·obtain ⟨_,⟨vs,b,_⟩,_⟩:=h;exact ⟨vs,b⟩
    ·exact ih y hy
  obtain ⟨vs,e⟩:=this s.at_ y hy;rw [z,nl] at e;cases e
 refine ⟨?_,.cons ⟨⟨dx,?_⟩,⟨[],?_,.nil⟩,rfl⟩ (vi ls ne at_),?_,fun y hy=>?_,jg g g0 _,g0,fun y hy=>?_⟩
 ·rw [A4,Eo];exact upd_same
 ·rw [qG (yj hp ls (by intro z;cases z))]
  exact hp
 ·rw [qG n1];exact hl
 ·rw [A4,Cy];exact ⟨fun z=>by obtain ⟨y,hy,e⟩:=B0.mp z;exact fresh y hy e,nd⟩
 ·rcases Av.mp hy with rfl | hy
  ·exact n1
  ·exact ne y hy
 ·rcases Av.mp hy with rfl | hy
  ·cases e:G l with
   | none=>rfl
   | some u=>rw [s.g _ _ e] at nl;cases nl
  ·exact gx y hy
theorem Stk.top (s:Stk K C G H ol (x::xs) (o::S)):OpAt K C H x o:=by
 cases s.at_ with
 | cons h _=>exact h
theorem Stk.shape (s:Stk K C G H ol xs (o::S)):∃ y ys,xs=y::ys:=by
 cases s.at_ with
 | cons h _=>exact ⟨_,_,rfl⟩
theorem Xw {ds:List Aa} (h:Tre.jX ds=true) (n:Nat):Tre.jX (ds.take n)=true∧Tre.jX (ds.drop n)=true:=by
 induction ds generalizing n with
 | nil=>cases n <;> exact ⟨rfl,rfl⟩
 | cons d r ih=>
  have h0:=h;rw [Tre.jX,Al] at h;cases n with
  | zero=>exact ⟨rfl,h0⟩
  | succ n=>
   refine ⟨?_,(ih h.2 n).2⟩;rw [List.take_succ_cons,Tre.jX,h.1,(ih h.2 n).1];rfl
theorem Z0 {o:Sho.Op} (h:Tre.jX o.ts=true):Tre.noL (Sho.closed o)=true:=by
 unfold Sho.closed;split
 ·exact h
 ·split
  ·rename_i hh r e;rw [e] at h;split
   ·exact h
   ·split
    ·rw [Tre.noL];refine qj4 (Xw h _).1 ?_;rw [Tre.noL];exact (Xw h _).2
    ·exact h
  ·exact h
end
section
variable {P:Program} {w:World} {K:Frag} {mg:Str→Option Ac} {base:Heap} {f:Ae} {fd:FuncData} {ad:Ad}
def qcd (K:Frag) (C CB:Ae):Sp:=fun vs H Q E=>∃ ol x G xs S,vs=[.ref ol,.str x]∧Stk K C G H ol xs S∧Sho.SOk S∧x.length≤6000∧Sho.Asc x∧(∀ o∈S,o.ts.length≤19000)∧S.length≤19000∧(∀ S',Sho.stepF S x=some S'→∀ H' xs',Stk K C G H' ol xs' S'→Q .non H')∧(Sho.stepF S x=none→∀ H',qu G H'→E (.ref CB) none H')
theorem qct {α:Type} (R:List α) (v:α):(R++[v])[(R++[v]).length - 1]?=some v:=by simp
theorem Yf (F:Fun K "take_word" "take_word" vD f fd) (c:Cs K mg ad) (T2:Tb2 K mg) (d_Opening:MakeA P w K mg base "Opening" ad.Opening 1 ["self","shape"] (Zh ad.Opening)) (d_O_wanted:MethN P w K mg base ad.Opening 2 "wanted" ["self"] (Zg K ad.Opening)) (d_O_closed:MethN P w K mg base ad.Opening 1 "closed" ["self"] (Y2 K ad.Opening)) (d_thing_of:DefX P w K mg base 4 "thing_of" ["word","opening"] (Qc K ad.Opening ad.BadText)):
  FnOk P w K mg base (CX1 P w) 5 f fd ["openings","word"] (qcd K ad.Opening ad.BadText):=by
 refine F.ok1 (k:=4) va (fun vs H Q E h=>?_) (fun cdv A outer s H vs Q E hr h=>?_)
 ·obtain ⟨ol,x,G,xs,S,rfl,_⟩:=h;rfl
 obtain ⟨ol,x,G,xs,S,rfl,sk,so,hx,asc,hz,hS,q,qe⟩:=h;refine ⟨_,(qh (pst 2 va.nd (pix K (pv 0) (Ww Vp qi)))
   (ql (qJ (qv qZ (pv 1) qg (qD _)) (qh (qJ (qv qZ (qE (zB (K:=K) rfl) (by rfl) c.len_ zj (qd (pv 0) qf)) qi (qD _)) (ql (JU v8 c.o_BadText c.m_BadText (qd qg qf))) qB)
   (qh (jk (qg0 (K:=K) rfl B7 PySem.F.slot_list_pop PySem.F.type_list_pop qh5 (pv 0)))
   (ql (jk (vx (K:=K) rfl B7 Cr Ct jz (zY (pix K (pv 0) (Ww Vp qi)) rfl) (qd (Zu (pv 2) d_O_closed (hr.mono (by first | decide | omega))) qf)))))) (ql (qJ (qv qZ (pv 1) qg (qD _)) (qh (pst 3 va.nd (Zu (pv 2) d_O_wanted (hr.mono (by first | decide | omega))))
   (qh (qJ (qv (qdi (K:=K) rfl) (pv 3) (wt T2.BRACKETED) rfl) (ql (JU v8 c.o_BadText c.m_BadText (qd qg qf))) qB)
   (ql (jk (vx (K:=K) rfl B7 Cr Ct jz (pv 0) (qd (qdb d_Opening (hr.mono (by first | decide | omega)) (qd (pv 3) qf)) qf)))))) (ql (jk (vx (K:=K) rfl B7 Cr Ct jz (zY (pv 2) rfl) (qd (vh d_thing_of (hr.mono (by first | decide | omega)) Qu (qd (pv 1) (qd (pv 2) qf))) qf))))))))),?_⟩
 have top:∃ o S0,S=o::S0:=by cases so <;> exact ⟨_,_,rfl⟩
 obtain ⟨o,S0,rfl⟩:=top;have ok:=so.ok;obtain ⟨a,as,rfl⟩:=sk.shape;have ls:=sk.ls;rw [A4,Eo] at ls;generalize eR:(as.map fun x=>V.ref x.p).reverse=R at ls;have oa:=sk.top;obtain ⟨⟨dx,ob⟩,⟨vs,hl,rs⟩,nl⟩:=sk.top;have lz:o.ts.length≤19000:=hz o Ay;have hvl:=rs.length;unfold Sho.stepF at q qe;dsimp only at q qe;refine qC fun D2 h2 r2=>⟨_,rfl,1,rfl,.inl ⟨ol,_,-1,_,rfl,rfl,SqL.of ls,WZ _ _,h2 _ _ ?_⟩⟩;refine zb fun B b1 b2=>⟨_,rfl,rfl,_,rfl,?_⟩
 by_cases x1:x=")"
 ·subst x1;rw [if_pos ∅] at q qe;refine bP (deq rfl) (b1 _ ?_);have pl:=Cw sk.at_;cases S0 with
  | nil=>
   have as0:as=[]:=Cp (by simpa using pl)
   subst as0;refine qC fun D3 h3 r3=>zb fun B b1 b2=>⟨_,rfl,_,_,rfl,.inl ⟨_,SqL.of ls,rfl⟩,rfl,_,rfl,bP (Ao ?_) (b1 _ ⟨(by show 1≤Ag;decide),qe rfl _ sk.g⟩)⟩
   rw [← eR];rfl
  | cons r rs'=>
   have nt:(o.sh=="text")=false:=by cases so;assumption
   obtain ⟨sk2,oa2⟩:=sk.pop;have e2:∃ b bs,as=b::bs:=sk2.shape;obtain ⟨b,bs,rfl⟩:=e2;have hR:R.length=bs.length+1:=by
    rw [← eR,Ey,Aj];rfl
   refine qC fun D3 h3 r3=>zb fun B b1 b2=>⟨_,rfl,_,_,rfl,.inl ⟨_,SqL.of ls,rfl⟩,rfl,_,rfl,?_⟩;refine bN (Ap fun z=>?_) (b2 _ (h3 _ _ ?_))
   ·have:=V.int.inj z;rw [Am,Dn,hR] at this;omega
   refine qC fun D4 h4 r4=>⟨_,rfl,.inl ⟨rfl,_,SqL.of ls⟩,ol,_,_,rfl,rfl,ls,qct _ _,h4 _ _ ?_⟩;rw [List.dropLast_concat,← eR];generalize upd H ol (.lst ((List.map (fun x=>V.ref x.p) (b::bs)).reverse))=H2 at sk2 oa2 ⊢;have ls2:=sk2.ls;rw [A4,Eo] at ls2;obtain ⟨⟨dx2,ob2⟩,⟨vs2,hl2,rs2⟩,nl2⟩:=sk2.top;obtain ⟨dx3,ob3⟩:=oa2.ob;have lz2:r.ts.length≤19000:=hz r (Au _ Ay);have hvl2:=rs2.length;refine ⟨_,rfl,1,rfl,.inl ⟨ol,_,-1,_,rfl,rfl,SqL.of ls2,WZ _ _,b.p,_,dx2,_,_,rfl,ob2,c.cl,c.aT,zt _ _,.inl ⟨rfl,_,SqL.of hl2⟩,_,rfl,a.p,dx3,_,rfl,ob3,rfl,a,o,rfl,oa2,ok,nt,⋯,fun H3 v g3 rv=>?_⟩⟩;refine ⟨b.l,_,_,rfl,rfl,g3 _ _ hl2,Cq (show vs2.length≤19000 from ⋯) O0,q _ rfl _ (b::bs) ?_⟩;exact (sk2.same g3).push (g3 _ _ hl2) (rs2.same g3) rv (Z0 nl)
 rw [if_neg (fun z=>x1 (A8.mp z))] at q qe;refine bN (dne x1) (b2 _ (zb fun B b1 b2=>⟨_,rfl,rfl,_,rfl,?_⟩))
 by_cases x2:x="("
 ·subst x2;rw [if_pos ∅] at q qe;refine bP (deq rfl) (b1 _ ?_);refine qC fun D3 h3 r3=>⟨_,rfl,a.p,dx,_,rfl,ob,rfl,a,o,rfl,oa,ok,fun H1 g1=>h3 _ _ ?_⟩;have bad:∀ {B:Bool→Hp→Prop},(∀ H,True→B true H)→True:=fun _=>trivial;cases hw:Sho.wanted o with
  | none=>
   rw [hw] at qe;refine qC fun D4 h4 r4=>zb fun B b1 b2=>⟨_,rfl,fun a2 ha2=>⟨a2,_,rfl,.inr (ha2 _),rfl,zX _,_,rfl,?_⟩⟩;rw [if_pos rfl];exact bP (by rfl) (b1 _ ⟨(by show 1≤Ag;decide),qe rfl _ (sk.g.trans g1)⟩)
  | some sh=>
   rw [hw] at q qe;dsimp only at q qe;refine qC fun D4 h4 r4=>zb fun B b1 b2=>⟨_,rfl,fun a2 ha2=>⟨a2,_,rfl,.inr (ha2 _),rfl,zX _,_,rfl,?_⟩⟩;rw [if_pos rfl];show B (!inV (.str sh) (Sho.bracketed.map V.str)) H1;rw [jp];cases hb:Sho.bracketed.contains sh with
   | false=>
    rw [hb,if_neg Ai] at qe;exact b1 _ ⟨(by show 1≤Ag;decide),qe rfl _ (sk.g.trans g1)⟩
   | true=>
    rw [hb,if_pos rfl] at q;refine b2 _ (h4 _ _ ?_);have sk1:=sk.same g1;refine ⟨_,rfl,.inl ⟨rfl,_,SqL.of (g1 _ _ ls)⟩,_,rfl,fun p dx2 hp hd hne=>?_⟩;have n1:=qj hd (.own p);have hp1:upd H1 dx2 (.own p) p=none:=by rw [qG (Ne.symm hne)];exact hp
    have n2:=n1.trans (qj hp1 (.ins ad.Opening dx2 []));refine ⟨p,sh,dx2,rfl,upd_same,fun H3 l k3 hl3 hl4 hp4=>⟨rfl,?_⟩⟩;have g3:qu H1 H3:=fun b u e=>k3 b u (qK e hp) (n2 _ _ e);have hl1:H1 l=none:=by
     cases e:H1 l with
     | none=>rfl
     | some u=>rw [n2 _ _ e] at hl3;cases hl3
    refine ⟨ol,_,_,rfl,rfl,g3 _ _ (g1 _ _ ls),Cq (m:=20000) ?_ O0,q _ rfl _ (⟨p,l⟩::a::as) ?_⟩
    ·have z:=Cw sk.at_;have e:(R++[V.ref a.p]).length=as.length+1:=by
      rw [← eR,Am,Ey,Aj];rfl
     rw [e];rw [Ak] at z;omega
    ·have z:=sk1.open_ (p:=p) (l:=l) (dx:=dx2) (sh:=sh) g3 hp hl1 hl4 hp4;rw [A4,Eo,eR] at z;exact z
 ·rw [if_neg (fun z=>x2 (A8.mp z))] at q qe;refine bN (dne x2) (b2 _ ?_);refine ⟨_,rfl,a.p,_,dx,_,_,rfl,ob,c.cl,c.aT,zt _ _,.inl ⟨rfl,_,SqL.of hl⟩,_,rfl,_,rfl,x,a,o,rfl,hx,asc,oa,ok,fun t ht H3 v g3 rv=>?_,fun hn H3 g3=>?_⟩
  ·rw [ht] at q;refine ⟨a.l,_,_,rfl,rfl,g3 _ _ hl,Cq (show vs.length≤19000 from ⋯) O0,q _ rfl _ (a::as) ?_⟩;exact (sk.same g3).push (g3 _ _ hl) (rs.same g3) rv (Sho.fit_thing ht hx).2
  ·rw [hn] at qe;exact qe rfl _ (sk.g.trans g3)
end
def okC (c:Nat):Bool:=decide (c=10)||(decide (32≤c)&&decide (c≤126)&&!decide (c=37))
def Jf (x:Str):Bool:=decide (x.length≤6000)&&x.cps.toList.all okC
theorem qfx (a c:Nat):(!decide (([c]:List Nat)<[a]))=decide (a≤c):=by
 rw [Cf];simp [List.cons_lt_cons_iff]
section
variable {P:Program} {w:World} {K:Frag} {mg:Str→Option Ac} {base:Heap} {f:Ae} {fd:FuncData} {ad:Ad}
def qce:Sp:=fun vs H Q _=>∃ c:Nat,vs=[.str ⟨#[c]⟩]∧Q (.bl (okC c)) H
theorem qdh (c:Nat):(decide (V.str ⟨#[c]⟩=V.str "\n"))=decide (c=10):=by
 rw [Cf,Bj,Bj];constructor
 ·intro h;have h1:(⟨#[c]⟩:Str)=⟨#[10]⟩:=V.str.inj h;injection h1 with h1
  simpa using h1
 ·intro h;rw [h];rfl
theorem wJ (F:Fun K "is_text_sign" "is_text_sign" Jo f fd) (c:Cs K mg ad):FnOk P w K mg base CX0 1 f fd ["sign"] qce:=by
 refine F.ok wF (fun vs H Q E h=>?_) (fun cdv A outer s H vs Q E hr h=>?_)
 ·obtain ⟨x,rfl,_⟩:=h;rfl
 obtain ⟨x,rfl,q⟩:=h;refine ⟨_,(ql (qx (Qq (jb qZ (pv 0) qg (qD _)) (JP (Vx (Wx v9 v9 qg (pv 0) qg) (JP (jb Xn (qE qef (by rfl) c.ord_ qiu (qd (pv 0) qf)) (vK c.PERCENT) (qD _)))))))),?_⟩
 refine ⟨_,rfl,rfl,_,rfl,?_⟩;unfold okC at q
 by_cases h1:x=10
 ·refine zE ((qdh x).trans (Ao h1)) ?_;rw [Ao h1,Bool.true_or] at q;exact q
 refine zF ((qdh x).trans (Ap h1)) ?_;rw [Ap h1,Ev] at q;refine ⟨_,rfl,_,_,rfl,rfl,_,rfl,?_⟩
 by_cases h2:32≤x
 ·refine zE ((qfx 32 x).trans (Ao h2)) ⟨_,_,rfl,rfl,_,rfl,?_⟩;rw [Ao h2,Bu] at q
  by_cases h3:x≤126
  ·refine zE ((qfx x 126).trans (Ao h3)) ⟨_,rfl,_,rfl,rfl,rfl,?_⟩;rw [Ao h3,Bu] at q;have e:(!decide (V.int ((⟨#[x]⟩:Str).cps.getD 0 0:Nat)=V.int 37))=!decide (x=37):=by
    congr 1
    rw [Cf,Bj,Bj];show V.int ((x:Nat):Int)=V.int 37↔x=37;constructor
    ·intro h;have:=V.int.inj h;omega
    ·intro h;rw [h];rfl
   show Q (.bl (!decide (V.int ((⟨#[x]⟩:Str).cps.getD 0 0:Nat)=V.int 37))) H;rw [e];exact q
  ·refine zF ((qfx x 126).trans (Ap h3)) ?_;rw [Ap h3,B1] at q;exact q
 ·refine zF ((qfx 32 x).trans (Ap h2)) ⟨_,rfl,wL ?_⟩;rw [Ap h2,B1,B1] at q;exact q
def qcc:Sp:=fun vs H Q _=>∃ x,vs=[.str x]∧x.length≤100000∧∀ H',qu H H'→Q (.bl (Jf x)) H'
theorem Zy (F:Fun K "is_text" "is_text" v3 f fd) (c:Cs K mg ad) (d_is_text_sign:Def P w K mg base 1 "is_text_sign" ["sign"] qce):FnOk P w K mg base CX0 2 f fd ["thing"] qcc:=by
 refine F.ok Zl (fun vs H Q E h=>?_) (fun cdv A outer s H vs Q E hr h=>?_)
 ·obtain ⟨x,rfl,_⟩:=h;rfl
 obtain ⟨x,rfl,hx,q⟩:=h;refine ⟨_,(qh (qJ (PW.pt (JT (ju (zS (qE (vT (K:=K) rfl) (by rfl) c.isinstance_ ze (qd (pv 0) (qd (VJ c.str_ WW) qf))))) (Jq (qv Wz (qE (zB (K:=K) rfl) (by rfl) c.len_ zj (qd (pv 0) qf)) (vK c.MOST_SIGNS) (qD _))))) (ql (qx jI)) qB)
   (ql (qx (qE (QP (K:=K) rfl rfl) (by rfl) c.all_ YI (qd (jU (sc:=qp v3) (NX:=["thing"]) (N:=["sign"]) (js:=[none]) (Ya (K:=K) rfl (pv 0)) (fun _ _ _ _ _=>(zK (i:=0) (show (["sign"]:List Str).Nodup from ∅) rfl (Or.inl rfl))) (fun _ _ _ _ _=>Jr) (fun _ _ _ _ _=>(pdf d_is_text_sign (qd (pv 0) qf))) (zU rfl) ⟨∅,rfl,∅,∅,rfl,∅⟩) qf))))),?_⟩
 refine ⟨_,rfl,_,.str x,"str",rfl,.str _,O0,_,rfl,wL ?_⟩;have hx':x.length≤Ag:=line ⋯;have hl:x.length=x.cps.toList.length:=by simp [Str.length]
 refine ⟨_,rfl,_,_,rfl,⟨hx',rfl⟩,_,_,rfl,rfl,_,rfl,?_⟩;refine VC (fun c1=>?_) (fun c1=>?_)
 ·have c1':(6000:Int)<(x.length:Int):=Bb c1;have e:Jf x=false:=by
   unfold Jf;rw [Ap (show ¬ x.length≤6000 from ⋯),B1]
  have q':=q H (qu.refl _);rw [e] at q';exact q'
 ·have c1':¬ (6000:Int)<(x.length:Int):=of_decide_eq_false (Bs.mpr c1);have hsz:x.cps.size=x.cps.toList.length:=by simp
  refine ⟨_,rfl,.inr (.inr ⟨x,rfl,jr x.cps.size (fun i ys H'=>H'=H∧ys=(x.cps.toList.take i).map fun c=>V.bl (okC c)) ⟨rfl,rfl⟩ (fun i ys H' h=>?_) (by rw [hsz,← hl];exact hx') (fun i ys H' hi h=>?_) (fun ys H' h=>?_)⟩)⟩
  ·obtain ⟨_,rfl⟩:=h;rw [Aj];exact Ce _ _
  ·obtain ⟨rfl,rfl⟩:=h;refine ⟨hi,fun v H2 hy=>?_⟩;obtain ⟨rfl,cc,hcc,rfl⟩:=hy;have step:(x.cps.toList.take (i+1)).map (fun c=>V.bl (okC c))=(x.cps.toList.take i).map (fun c=>V.bl (okC c))++[V.bl (okC cc)]:=by
    have hcc':x.cps.toList[i]?=some cc:=by simpa using hcc
    rw [Cg,hcc',A5];rfl
   refine ⟨_,rfl,cc,rfl,rfl,?_⟩;rw [step]
  ·obtain ⟨rfl,rfl⟩:=h;refine ⟨Aw _,fun D hD=>⟨D,x.cps.toList.map okC,rfl,SqL.of (by rw [upd_same,hsz,Cu,Ck];rfl),?_⟩⟩
   have e:Jf x=(x.cps.toList.map okC).all id:=by
    unfold Jf;rw [Ao (show x.length≤6000 from ⋯),Dy];rfl
   rw [← e];exact q _ (qj hD _)
def X4 (y:Str):List Str:=Txt.words (Txt.replace (Txt.replace y "(" " ( ") ")" " ) ")
def spW (CB:Ae):Sp:=fun vs H Q E=>∃ y,vs=[.str y]∧y.length≤100000∧(Jf y=true→∀ H' l,qu H H'→H' l=none→Q (.ref l) (upd H' l (.lst ((X4 y).map V.str))))∧(Jf y=false→∀ H',qu H H'→E (.ref CB) none H')
theorem VS (c:Nat) (z l:List Nat) (hz:z.length=3):(Wd.flat c z l).length≤3*l.length:=by
 induction l with
 | nil=>exact Aw _
 | cons k r ih=>
  show ((if k=c then z else [k])++Wd.flat c z r).length≤_
  rw [Am,Ak];split
  ·omega
  ·rw [Dn];omega
theorem Xb (x z:Str) (c:Nat) (hz:z.cps.toList.length=3):(Txt.replace x ⟨#[c]⟩ z).length≤3*x.length:=by
 have h:=Wd.replace_flat x z c;have h2:=VS c z.cps.toList x.cps.toList hz;rw [← h] at h2;simpa [Str.length] using h2
theorem Xp (F:Fun K "words_of" "words_of" Vr f fd) (c:Cs K mg ad) (d_is_text:Def P w K mg base 2 "is_text" ["thing"] qcc):FnOk P w K mg base (CX1 P w) 3 f fd ["text"] (spW ad.BadText):=by
 refine F.okp Y4 ∅ O0 (fun vs H Q E h=>?_) (fun cdv A outer s H vs Q E hr h=>?_)
 ·obtain ⟨x,rfl,_⟩:=h;rfl
 obtain ⟨x,rfl,hk,q1,q2⟩:=h;refine ⟨_,(qc5 (qJ (ju (zS (qdd d_is_text (hr.mono O0) (qd (pv 0) qf)))) (ql (JU v8 c.o_BadText c.m_BadText (qd qg qf))) qB) (qe7 (qe9 (K:=K) rfl Ci PySem.F.slot_str_split PySem.F.type_str_split qdk (wq (wq (pv 0).toP))))),?_⟩;refine ⟨_,rfl,x,rfl,hk,fun H1 g1=>⟨_,rfl,?_⟩⟩;cases ht:Jf x with
 | false=>exact J0 ⟨(by show 1≤Ag;decide),q2 ht H1 g1⟩
 | true=>
  refine wL ?_;have hl:x.length≤6000:=by
   unfold Jf at ht;rw [Al,Bj] at ht;exact ht.1
  have e3:(" ( ":Str).cps.toList.length=3:=∅;have e4:(" ) ":Str).cps.toList.length=3:=∅;have l1:(Txt.replace x "(" " ( ").length≤3*x.length:=Xb x " ( " 40 e3;have l2:(Txt.replace (Txt.replace x "(" " ( ") ")" " ) ").length≤3*(Txt.replace x "(" " ( ").length:=Xb _ " ) " 41 e4;have e5:(" ( ":Str).length=3:=∅;have e6:(" ) ":Str).length=3:=∅;refine ⟨_,rfl,x,rfl,?_,_,rfl,?_,rfl,_,rfl,rfl,?_,fun l hl'=>q1 ht H1 l g1 hl'⟩
  ·rw [e5];omega
  ·rw [e6];omega
  ·omega
def yQ (K:Frag) (CB:Ae):Sp:=fun vs H Q E=>∃ y ws,vs=[.str y]∧y.length≤100000∧(Jf y=true→X4 y=ws)∧(∀ x∈ws,x.length≤6000∧Sho.Asc x)∧ws.length≤18000∧
 (∀ d,Jf y=true→Sho.told ws=some d→∀ H' v,qu H H'→Rep K H' v d→Q v H')∧(Jf y=false∨Sho.told ws=none→∀ H',qu H H'→E (.ref CB) none H')
theorem jx {H H':Hp} {b:Ae} (g:qu H H') (h:H' b=none):H b=none:=by
 cases e:H b with
 | none=>rfl
 | some u=>rw [g _ _ e] at h;cases h
theorem grow {S S':List Sho.Op} {x:Str} {n:Nat} (h:Sho.stepF S x=some S') (hb:∀ o∈S,o.ts.length≤n):(∀ o∈S',o.ts.length≤n+1)∧S'.length≤S.length+1:=by
 cases S with
 | nil=>cases h
 | cons o rs=>
  have h0:=hb o Ay;have hr:∀ r∈rs,r.ts.length≤n:=fun r hr=>hb r (Au _ hr);unfold Sho.stepF at h;dsimp only at h;split at h
  ·cases rs with
   | nil=>cases h
   | cons r rs'=>
    cases h;refine ⟨fun q hq=>?_,by simp only [Ak];omega⟩
    rcases Av.mp hq with rfl | hq
    ·rw [Am];have:=hr r Ay;exact C8 this
    ·exact Co (hr q (Au _ hq))
  ·split at h
   ·split at h
    ·cases h
    ·split at h
     ·cases h;refine ⟨fun q hq=>?_,by simp only [Ak];omega⟩
      rcases Av.mp hq with rfl | hq
      ·exact B2 _
      ·exact Co (hb q hq)
     ·cases h
   ·split at h
    ·cases h
    ·cases h;refine ⟨fun q hq=>?_,by simp only [Ak];omega⟩
     rcases Av.mp hq with rfl | hq
     ·rw [Am];exact C8 h0
     ·exact Co (hr q hq)
theorem qiw {S:List Sho.Op} (h:Sho.SOk S):∃ S0 ts,S=S0++[⟨"text",ts⟩]:=by
 induction h with
 | base=>exact ⟨[],_,rfl⟩
 | @push o r rs _ _ _ _ ih=>
  obtain ⟨S0,ts,e⟩:=ih;exact ⟨o::S0,ts,by rw [e];rfl⟩
theorem wu {α β:Type} {R:α→β→Prop} {b:β}:∀ {S0:List β} {xs:List α},Paired R xs (S0++[b])→∃ as a,xs=as++[a]∧R a b∧as.length=S0.length
 | [],_,h=>by
  cases h with
  | cons h t=>
   cases t;exact ⟨[],_,rfl,h,rfl⟩
 | _::S0,_,h=>by
  cases h with
  | cons h t=>
   obtain ⟨as,a,e,r,l⟩:=wu t;exact ⟨_::as,a,by rw [e];rfl,r,by rw [Ak,Ak,l]⟩
theorem Q6 {α:Type} {l:List α} {i:Nat} {x:α} (h:l[i]?=some x):l.take (i+1)=l.take i++[x]:=by
 rw [Cg,h];rfl
theorem qfg (F:Fun K "read" "read" Zo f fd) (c:Cs K mg ad) (d_Opening:MakeA P w K mg base "Opening" ad.Opening 1 ["self","shape"] (Zh ad.Opening)) (d_words_of:DefX P w K mg base 3 "words_of" ["text"] (spW ad.BadText)) (d_take_word:DefX P w K mg base 5 "take_word" ["openings","word"] (qcd K ad.Opening ad.BadText)) (d_is_program:Def P w K mg base 5 "is_program" ["thing"] (spD K Tre.za)):
  FnOk P w K mg base (CX1 P w) 6 f fd ["text"] (yQ K ad.BadText):=by
 refine F.ok1 (k:=5) wR (fun vs H Q E h=>?_) (fun cdv A outer s H vs Q E hr h=>?_)
 ·obtain ⟨y,ws,rfl,_⟩:=h;rfl
 obtain ⟨y,ws,rfl,hy,hws,wl,gl,q,qe⟩:=h;refine ⟨_,(qh (pst 1 wR.nd (qH (qd (qdb d_Opening (hr.mono (by first | decide | omega)) (qd qg qf)) qf)))
   (qh (Vv PassesOwn.leaving rfl (Ya (K:=K) rfl (vh d_words_of (hr.mono (by first | decide | omega)) Qu (qd (pv 0) qf))) (pgn 2 wR.nd) (ql (jk (vh d_take_word (hr.mono (by first | decide | omega)) Qu (qd (pv 1) (qd (pv 2) qf))))))
   (qh (pst 3 wR.nd (zY (pix K (pv 1) qi) rfl))
   (qh (qJ (PW.pt (JT (qv Xn (qE (zB (K:=K) rfl) (by rfl) c.len_ zj (qd (pv 1) qf)) qi (qD _)) (JT (qv Xn (qE (zB (K:=K) rfl) (by rfl) c.len_ zj (qd (pv 3) qf)) qi (qD _)) (Jq (ju (zS (pdf d_is_program (qd (pix K (pv 3) qi) qf)))))))) (ql (JU v8 c.o_BadText c.m_BadText (qd qg qf))) qB)
   (ql (qx (pix K (pv 3) qi))))))),?_⟩
 refine qC fun D2 h2 r2=>fun p dx hp hd hne=>?_;have n1:=qj hd (.own p);have hp1:upd H dx (.own p) p=none:=by rw [qG (Ne.symm hne)];exact hp
 have n2:=n1.trans (qj hp1 (.ins ad.Opening dx []));refine ⟨p,"text",dx,rfl,upd_same,fun H1 l0 k1 hl0 hl1 hp2=>⟨rfl,(O0:1≤Ag),fun ol hol=>h2 _ _ ?_⟩⟩;have g1:qu H H1:=fun b u e=>k1 b u (qK e hp) (n2 _ _ e);have hl0':H l0=none:=jx n2 hl0;have g2:=g1.trans (qj hol (.lst [.ref p]));have ol0:H ol=none:=jx g1 hol;have e0:upd H1 ol (.lst [.ref p]) ol=some (.lst [.ref p]):=upd_same;have e1:=qj hol (.lst [.ref p]) _ _ hl1;have e2:=qj hol (.lst [.ref p]) _ _ hp2;have n0:l0≠ol:=qK hl1 hol;generalize upd H1 ol (.lst [.ref p])=H2 at g2 e0 e1 e2 ⊢;clear k1 hl1 hp2 hol n1 n2 hp1 g1 hd hl0;refine qC fun D3 h3 r3=>⟨_,rfl,y,rfl,hy,fun ht H3 l g3 hl=>?_,fun ht H3 g3=>?_⟩
 ·rw [hws ht];refine .inl ⟨l,rfl,⟨_,SqL.of upd_same⟩,?_⟩;have e3:upd H3 l (.lst (ws.map V.str)) l=some (.lst (ws.map V.str)):=upd_same;have g4:=g3.trans (qj hl (.lst (ws.map V.str)));have hlH:H l=none:=jx (g2.trans g3) hl;have nol:ol≠l:=qK (g3 _ _ e0) hl;have nl0:l0≠l:=qK (g3 _ _ e1) hl;generalize eG:upd H l (.lst (ws.map V.str))=G;have gG:qu G (upd H3 l (.lst (ws.map V.str))):=fun b u e=>by
   rw [← eG] at e
   by_cases hb:b=l
   ·rw [hb,upd_same] at e;rw [hb,upd_same];exact e
   ·rw [qG hb] at e;rw [qG hb];exact g3 _ _ (g2 _ _ e)
  have gHG:qu H G:=by
   rw [← eG];exact qj hlH _
  have hGl:G l=some (.lst (ws.map V.str)):=by rw [← eG];exact upd_same
  have sk0:Stk K ad.Opening G (upd H3 l (.lst (ws.map V.str))) ol [⟨p,l0⟩] [⟨"text",[]⟩]:=by
   refine ⟨g4 _ _ e0,.cons ⟨⟨dx,g4 _ _ e2⟩,⟨[],g4 _ _ e1,.nil⟩,rfl⟩ .nil,by simp,fun z hz=>?_,gG,?_,fun z hz=>?_⟩
   ·cases A3.mp hz;exact n0
   ·rw [← eG,qG nol];exact ol0
   ·cases A3.mp hz;rw [← eG,qG nl0];exact hl0'
  generalize upd H3 l (.lst (ws.map V.str))=H4 at sk0 e3 ⊢;refine WO ws.length (fun i σ H'=>∃ o2 xs S,σ=[some (.str y),some (.ref ol),o2,none]∧Stk K ad.Opening G H' ol xs S∧Sho.SOk S∧Sho.fitS S=true∧Sho.mrun Sho.start (ws.take i)=some S∧(∀ o∈S,o.ts.length≤i)∧S.length≤i+1) ?_ (fun i σ H5 hi h=>?_) (fun σ H5 h=>?_)
  ·exact ⟨none,_,_,rfl,sk0,.base,rfl,rfl,fun o ho=>by cases A3.mp ho;exact Aw _,Aw _⟩
  ·obtain ⟨o2,xs,S,rfl,sk,so,fi,mr,hb,hS⟩:=h;obtain ⟨x,ex⟩:=Jw (l:=ws) (i:=i) hi;have hxj:(ws.map V.str)[i]?=some (.str x):=by rw [Bt,ex];rfl
   have hls:=sk.g _ _ hGl;refine ⟨⟨_,_,SqL.of hls,hxj⟩,fun v H6 yl D' hn _=>?_⟩;obtain ⟨rfl,hv3⟩:=yl;cases hxj.symm.trans (hv3 _ (SqL.of hls));obtain ⟨wx,ax⟩:=wl x (Br ex);refine ⟨_,rfl,_,rfl,ol,x,G,xs,S,rfl,sk,so,wx,ax,fun o ho=>Ar (hb o ho) ⋯,⋯,fun S' st H7 xs' sk'=>?_,fun st H7 g7=>?_⟩
   ·obtain ⟨k1,k2⟩:=grow st hb;refine hn _ _ ⟨_,xs',S',rfl,sk',Sho.sok_step so st,Sho.fit_step fi st wx,?_,k1,⋯⟩;rw [Q6 ex,Sho.mrun_app,mr];show Sho.mrun S [x]=some S';rw [Sho.mrun,st];rfl
   ·refine qe (.inr ?_) _ (gHG.trans g7);have e:ws=(ws.take i++[x])++ws.drop (i+1):=by rw [Bq,D0,← XR ex,C3]
    rw [e];refine Sho.told_pre ?_ _;rw [Sho.mrun_app,mr];show Sho.mrun S [x]=none;rw [Sho.mrun,st]
  ·obtain ⟨o2,xs,S,rfl,sk,so,fi,mr,hb,hS⟩:=h;have hls:=sk.g _ _ hGl;refine ⟨⟨_,SqL.of hls,by rw [Aj];exact Aw _⟩,h3 _ _ ?_⟩
   rw [Cu] at mr;obtain ⟨S0,ts,rfl⟩:=qiw so;obtain ⟨as,a,rfl,oa,las⟩:=wu sk.at_;obtain ⟨⟨dx5,ob⟩,⟨vs,hvs,rs⟩,nl⟩:=oa;have ls:=sk.ls;rw [A5,List.reverse_append] at ls;have gHH:=gHG.trans sk.g;refine qC fun D4 h4 r4=>⟨_,rfl,.inl ⟨ol,_,0,_,rfl,rfl,SqL.of ls,qw (j:=0) rfl,a.p,_,dx5,_,_,rfl,ob,c.cl,c.aT,zt _ _,h4 _ _ ?_⟩⟩;refine qC fun D5 h5 r5=>zb fun B b1 b2=>⟨_,rfl,_,_,rfl,.inl ⟨_,SqL.of ls,rfl⟩,rfl,_,rfl,?_⟩;have bad:∀ H6,qu H5 H6→(∀ sh d,S0++[(⟨"text",ts⟩:Sho.Op)]=[⟨sh,[d]⟩]→Tre.za d=false)→B true H6:=fun H6 g6 hn=>b1 _ ⟨(by show 1≤Ag;decide),qe (.inr (Sho.told_of mr hn)) _ (gHH.trans g6)⟩
   have hlen:=rs.length
   by_cases s0:S0=[]
   ·subst s0;have as0:as=[]:=Cp las;subst as0;refine zF rfl ⟨_,rfl,_,_,rfl,.inl ⟨_,SqL.of hvs,rfl⟩,rfl,_,rfl,?_⟩
    by_cases t1:ts.length=1
    ·obtain ⟨d,rfl⟩:∃ d,ts=[d]:=by
      match ts,t1 with
      | [d],_=>exact ⟨d,rfl⟩
     refine rs.ct fun v vs' ev rv rv'=>?_;cases rv'.nilI;subst ev;have fd':Tre.fit d=true:=by
      have z:(Tre.zr [d]&&true)=true:=fi;rw [C1,Tre.zr,Tre.zr,C1] at z;exact z
     refine zF rfl ⟨_,rfl,.inl ⟨a.l,_,0,_,rfl,rfl,SqL.of hvs,qw (j:=0) rfl,v,d,rfl,rv,fd',fun H6 g6=>⟨_,rfl,?_⟩⟩⟩;cases hp:Tre.za d with
     | false=>
      refine bad _ g6 fun sh e z=>?_;cases z;exact hp
     | true=>
      refine b2 _ (h5 _ _ ⟨_,rfl,.inl ⟨a.l,_,0,_,rfl,rfl,SqL.of (g6 _ _ hvs),qw (j:=0) rfl,?_⟩⟩);refine q d ht ?_ _ _ (gHH.trans g6) (rv.same g6);unfold Sho.told;rw [mr];show (if Tre.za d=true then some d else none)=some d
      rw [if_pos hp]
    ·refine zE (by rw [Ap fun z=>t1 (by have:=V.int.inj z;rw [hlen] at this;exact Int.ofNat.inj this)];rfl) (bad _ (qu.refl _) fun sh e z=>?_)
     cases z;exact absurd rfl t1
   ·have nl1:¬ ((((List.map (fun x=>V.ref x.p) [a]).reverse++(List.map (fun x=>V.ref x.p) as).reverse).length:Nat):Int)=1:=fun z=>by
     rw [Am,Ey,Ey,Aj,Aj,las] at z;have h1:[a].length=1:=rfl;exact s0 (Cp ⋯)
    refine zE (by rw [Ap fun z=>nl1 (V.int.inj z)];rfl) (bad _ (qu.refl _) fun sh e z=>?_)
    have:=congrArg List.length z;rw [Am] at this;have h1:[(⟨"text",ts⟩:Sho.Op)].length=1:=rfl;have h2:[(⟨sh,[e]⟩:Sho.Op)].length=1:=rfl;exact absurd (Cp ⋯) s0
 ·exact qe (.inl ht) _ (g2.trans g3)
def Y1 (K:Frag) (n:Nat) (u:Str):Sp:=fun vs H Q _=>∃ x d,vs=[x]∧Rep K H x d∧Sho.KidR n u d∧∀ H' p,qu H H'→H p=none→H' p=some (.lst ((Sho.wP n d).map V.str))→Q (.ref p) H'
def qey (K:Frag) (n:Nat):Sp:=fun vs H Q _=>∃ x as,vs=[x]∧Rep K H x (.tuple as)∧Sho.RowR n as∧(Sho.bws (Sho.wP n) as).length≤700000∧∀ H' p,qu H H'→H p=none→H' p=some (.lst ((Sho.bws (Sho.wP n) as).map V.str))→Q (.ref p) H'
def qcj (K:Frag) (n:Nat):Sp:=fun vs H Q _=>∃ x h ps as,vs=[x]∧Rep K H x (.tuple [.str h,.tuple ps,.tuple as])∧Sho.Nams ps∧Sho.RowR n as∧(Sho.fws (Sho.wP n) h ps as).length≤700000∧∀ H' p,qu H H'→H p=none→H' p=some (.lst ((Sho.fws (Sho.wP n) h ps as).map V.str))→Q (.ref p) H'
theorem yx {α β:Type} (g:α→List β) (as:List α) (i:Nat):((as.take i).map g).flatten.length≤(as.map g).flatten.length:=by
 have e:=congrArg (fun z=>(z.map g).flatten.length) (C3 i as);simp only [A5,List.flatten_append,Am] at e;omega
theorem vn {α β:Type} (g:α→List β) {as:List α} {i:Nat} {x:α} (h:as[i]?=some x):((as.take (i+1)).map g).flatten=((as.take i).map g).flatten++g x:=by
 rw [Cg,h,A5,List.flatten_append];simp
theorem Vl (F:Fun K "_law_bodies" "_law_bodies" j8 f fd) (c:Cs K mg ad) (n:Nat) (d_law_words:Def P w K mg base (4*n+4) "_law_words" ["_law_one"] (Y1 K n "statement")):FnOk P w K mg base CX0 (4*n+5) f fd ["_law_body_here"] (qey K n):=by
 refine F.ok (k:=4*n+4) jT (fun vs H Q E h=>?_) (fun cdv A outer s H vs Q E hr h=>?_)
 ·obtain ⟨x,as,rfl,_⟩:=h;rfl
 obtain ⟨x,as,rfl,hk,row,hl,q⟩:=h;refine ⟨_,(qh (pst 1 jT.nd (qH (qd qg qf)))
   (qh (Vv Dh rfl (Ya (K:=K) rfl (pv 0)) (pgn 2 jT.nd) (ql (pst 1 jT.nd (qo qA (pv 1) (pdf d_law_words (qd (pv 2) qf))))))
   (ql (qx (qo qA (pv 1) (qH (qd qg qf))))))),?_⟩
 refine hk.tpl fun a ws ex hq rs=>?_;subst ex;have hwl:=rs.length;have hL:((as.map (Sho.wP n)).flatten).length+2≤700000:=by
  have e:(Sho.bws (Sho.wP n) as).length=((as.map (Sho.wP n)).flatten).length+2:=by
   unfold Sho.bws;rw [Ak,Am];rfl
  omega
 refine qC fun D2 h2 r2=>⟨(O0:1≤Ag),fun p0 hp0=>h2 _ _ ?_⟩;have g0:=qj hp0 (.lst [.str "("]);have e0:upd H p0 (.lst [.str "("]) p0=some (.lst [.str "("]):=upd_same;generalize upd H p0 (.lst [.str "("])=H0 at g0 e0 ⊢;refine ⟨_,rfl,.inr (.inl ⟨a,rfl,⟨ws,g0.sqT hq⟩,?_⟩)⟩;refine qin rs (fun i σ H'=>∃ p o2,σ=[some (.ref a),some (.ref p),o2]∧qu H H'∧H p=none∧H' p=some (.lst ((("(":Str)::((as.take i).map (Sho.wP n)).flatten).map V.str))) ?_ (fun i σ H' h=>?_) (fun i σ H3 v d hi he rd h D' hn _=>?_) (fun σ H2 h=>?_)
 ·exact ⟨p0,none,rfl,g0,hp0,e0⟩
 ·obtain ⟨p,o2,rfl,g2,hp,hp2⟩:=h;exact g2.sqT hq
 ·obtain ⟨p,o2,rfl,g2,hp,hp2⟩:=h;have kd:=row.kid d (Br he);have l1:=yx (Sho.wP n) as (i+1);rw [vn _ he,Am] at l1;refine ⟨_,rfl,_,rfl,v,d,rfl,rd.same g2,kd,fun H4 p4 g4 hp4 e4=>?_⟩;refine .inr (.inr ⟨p,p4,_,_,rfl,rfl,g4 _ _ hp2,e4,line ?_,fun p5 hp5=>hn _ _ ⟨p5,_,rfl,(g2.trans g4).trans (qj hp5 _),jx (g2.trans g4) hp5,?_⟩⟩)
  ·rw [Aj,Aj,Ak];omega
  ·rw [upd_same,vn _ he,← A5];rfl
 ·obtain ⟨p,o2,rfl,g2,hp,hp2⟩:=h;rw [Cu] at hp2;refine ⟨_,rfl,(O0:1≤Ag),fun p3 hp3=>?_⟩;have g3:=g2.trans (qj hp3 (.lst [.str ")"]));refine .inr (.inr ⟨p,p3,_,_,rfl,rfl,qj hp3 _ _ _ hp2,upd_same,line ?_,fun p5 hp5=>?_⟩)
  ·rw [Aj,Ak];show _+1≤_;omega
  ·refine q _ p5 (g3.trans (qj hp5 _)) (jx g3 hp5) ?_;rw [upd_same];unfold Sho.bws;rw [A4,A4,A5];rfl
@[elab_as_elim] theorem qI {H0 H:Hp} {p:Ae} {o:HO} {R:Hp→Prop} (g:qu H0 H) (hp:H p=none) (q:∀ H',qu H0 H'→qu H H'→H0 p=none→H' p=some o→R H'):R (upd H p o):=q _ (g.trans (qj hp _)) (qj hp _) (jx g hp) upd_same
theorem WF {H:Hp}:∀ {vs:List V} {ps:List Aa},(∀ x∈ps,∃ y,x= .str y∧Tre.qP y=true)→Reps K H vs ps→vs=(ps.map Sho.strOf).map V.str
 | _,_,_,.nil=>rfl
 | _,_,h,.cons r t=>by
  obtain ⟨y,rfl,_⟩:=h _ Ay;cases r.strI;rw [WF (fun x hx=>h x (Au _ hx)) t];rfl
theorem jM (F:Fun K "_law_function_words" "_law_function_words" zJ f fd) (c:Cs K mg ad) (n:Nat) (d_law_bodies:Def P w K mg base (4*n+5) "_law_bodies" ["_law_body_here"] (qey K n)):FnOk P w K mg base CX0 (4*n+6) f fd ["_law_part"] (qcj K n):=by
 refine F.ok (k:=4*n+5) vw (fun vs H Q E h=>?_) (fun cdv A outer s H vs Q E hr h=>?_)
 ·obtain ⟨x,h,ps,as,rfl,_⟩:=h;rfl
 obtain ⟨x,h,ps,as,rfl,hk,nm,row,hl,q⟩:=h;refine ⟨_,(ql (qx (qo qA (qo qA (qo qA (qH (qd qg (qd (pix K (pv 0) qi) (qd qg qf)))) (zo VW (by rfl) c.list_ QN (qd (pix K (pv 0) qi) qf))) (qH (qd qg qf))) (qU (jP (K:=K) rfl) (pdf d_law_bodies (qd (pix K (pv 0) qi) qf)) (qY qi) zk)))),?_⟩
 refine hk.tp3 fun a y1 y2 ex hq r1 r2=>?_;subst ex;refine r1.tpl fun b ys ey hb rb=>?_;subst ey;cases WF nm.2 rb;have hL:ps.length+((as.map (Sho.wP n)).flatten).length+5≤700000:=by
  have e:(Sho.fws (Sho.wP n) h ps as).length=ps.length+((as.map (Sho.wP n)).flatten).length+5:=by
   unfold Sho.fws;simp only [Ak,Am,Aj,A2];omega
  omega
 have lb:(Sho.bws (Sho.wP n) as).length=((as.map (Sho.wP n)).flatten).length+2:=by
  unfold Sho.bws;rw [Ak,Am];rfl
 refine ⟨_,rfl,.inr (.inl ⟨a,_,0,_,rfl,rfl,hq,qw (j:=0) rfl,(O0:3≤Ag),fun p1 hp1=>?_⟩)⟩;refine qI (qu.refl H) hp1 fun H1 g1 s1 n1 e1=>?_;refine ⟨_,rfl,.inr (.inl ⟨a,_,1,_,rfl,rfl,g1.sqT hq,qw (j:=1) rfl,b,_,rfl,.inr (g1.sqT hb),fun p2 hp2=>?_⟩)⟩;refine qI g1 hp2 fun H2 g2 s2 n2 e2=>?_;refine .inr (.inr ⟨p1,p2,_,_,rfl,rfl,s2 _ _ e1,e2,line ?_,fun p3 hp3=>?_⟩)
 ·simp only [Am,Aj,Ak,A2];omega
 refine qI g2 hp3 fun H3 g3 s3 n3 e3=>?_;refine ⟨(O0:1≤Ag),fun p4 hp4=>?_⟩;refine qI g3 hp4 fun H4 g4 s4 n4 e4=>?_;refine .inr (.inr ⟨p3,p4,_,_,rfl,rfl,s4 _ _ e3,e4,line ?_,fun p5 hp5=>?_⟩)
 ·simp only [Am,Aj,Ak,A2];omega
 refine qI g4 hp5 fun H5 g5 s5 n5 e5=>?_;refine ⟨_,rfl,.inr (.inl ⟨a,_,2,_,rfl,rfl,g5.sqT hq,qw (j:=2) rfl,y2,as,rfl,r2.same g5,row,⋯,fun H6 p6 g6 n6 e6=>?_⟩)⟩;refine ⟨_,rfl,.inl ⟨p6,_,rfl,SqL.of e6,fun p7 hp7=>?_⟩⟩;refine qI (g5.trans g6) hp7 fun H7 g7 s7 n7 e7=>?_;have e7':H7 p7=some (.lst (((as.map (Sho.wP n)).flatten++[(")":Str)]).map V.str)):=by
  rw [e7];exact congrArg (fun z=>some (HO.lst z)) (qgc _ _)
 refine .inr (.inr ⟨p5,p7,_,_,rfl,rfl,s7 _ _ (g6 _ _ e5),e7',line ?_,fun p8 hp8=>?_⟩)
 ·simp only [Am,Aj,Ak,A2];omega
 refine qI g7 hp8 fun H8 g8 s8 n8 e8=>?_;refine q _ p8 g8 n8 ?_;rw [e8];unfold Sho.fws;simp
theorem Ve (g:Aa→List Str) (as:List Aa):(Sho.bws g as).length=((as.map g).flatten).length+2:=by
 unfold Sho.bws;rw [Ak,Am];rfl
theorem Yh (F:Fun K "_law_words" "_law_words" JB f fd) (c:Cs K mg ad) (n:Nat) (d_law_term_words:Def P w K mg base (4*n+3) "_law_term_words" ["_law_term_here"] (Y1 K n "term")) (d_law_bodies:Def P w K mg base (4*n+5) "_law_bodies" ["_law_body_here"] (qey K n)):FnOk P w K mg base CX0 (4*n+8) f fd ["_law_one"] (Y1 K (n+1) "statement"):=by
 refine F.ok (k:=4*n+7) j7 (fun vs H Q E h=>?_) (fun cdv A outer s H vs Q E hr h=>?_)
 ·obtain ⟨x,d,rfl,_⟩:=h;rfl
 obtain ⟨x,d,rfl,hk,kd,q⟩:=h;refine ⟨_,(qh (pst 1 j7.nd (pix K (pv 0) qi))
   (qh (qJ (qv (VR (K:=K) rfl) (pv 1) (qr (qd qg (qd qg (qd qg qf)))) rfl) (ql (qx (qo qA (qo qA (qH (qd qg (qd (pv 1) qf))) (pdf d_law_term_words (qd (pix K (pv 0) qi) qf))) (qH (qd qg qf))))) qB)
   (qh (qJ (qv (VR (K:=K) rfl) (pv 1) (qr (qd qg (qd qg (qd qg qf)))) rfl) (ql (qx (qo qA (qo qA (qH (qd qg (qd (pv 1) (qd (pix K (pv 0) qi) qf)))) (pdf d_law_term_words (qd (pix K (pv 0) qi) qf))) (qH (qd qg qf))))) qB)
   (qh (qJ (qv qZ (pv 1) qg (qD _)) (ql (qx (qo qA (qo qA (qo qA (qo qA (qo qA (qH (qd qg (qd (pv 1) qf))) (pdf d_law_bodies (qd (pix K (pv 0) qi) qf))) (qH (qd (pix K (pv 0) qi) (qd (pix K (pv 0) qi) qf)))) (pdf d_law_bodies (qd (pix K (pv 0) qi) qf))) (pdf d_law_bodies (qd (pix K (pv 0) qi) qf))) (qH (qd qg qf))))) qB)
   (qh (pst 2 j7.nd (qo qA (qo qA (qH (qd qg (qd (pv 1) qf))) (pdf d_law_term_words (qd (pix K (pv 0) qi) qf))) (pdf d_law_bodies (qd (pix K (pv 0) qi) qf))))
   (qh (qJ (qv qZ (pv 1) qg (qD _)) (ql (pst 2 j7.nd (qo qA (pv 2) (pdf d_law_bodies (qd (pix K (pv 0) qi) qf))))) qB)
   (ql (qx (qo qA (pv 2) (qH (qd qg qf))))))))))),?_⟩
 have tot:=Sho.kid_lenR kd;have in3:∀ h a b c:Str,inV (.str h) [.str a,.str b,.str c]=([a,b,c]:List Str).contains h:=fun h a b c=>jp h [a,b,c];cases Sho.stm_viewR kd with
 | @one h t hh kt=>
  rw [Sho.wP_one hh] at tot q;have l1:(Sho.wP n t).length+3≤600000:=by
   rw [Ak,Ak,Am] at tot;exact tot
  refine hk.tp2 fun a y1 ex hq r1=>?_;subst ex;refine qC fun D2 h2 r2=>⟨_,rfl,.inr (.inl ⟨a,_,0,_,rfl,rfl,hq,qw (j:=0) rfl,h2 _ _ (qC fun D3 h3 r3=>zb fun B b1 b2=>⟨_,rfl,(O0:3≤Ag),fun q2 hq2=>⟨q2,_,rfl,.inr (SqT.of upd_same),rfl,rfl,_,rfl,?_⟩⟩)⟩)⟩;rw [if_neg Ai,in3];refine qI (qu.refl H) hq2 fun H0 g0 _ _ _=>?_;refine bP (B4.mpr hh) (b1 _ ⟨_,rfl,(O0:2≤Ag),fun p1 hp1=>?_⟩);refine qI g0 hp1 fun H1 g1 s1 n1 e1=>?_;refine ⟨_,rfl,.inr (.inl ⟨a,_,1,_,rfl,rfl,g1.sqT hq,qw (j:=1) rfl,y1,t,rfl,r1.same g1,kt,fun H2 p2 g2 n2 e2=>?_⟩)⟩;refine .inr (.inr ⟨p1,p2,_,_,rfl,rfl,g2 _ _ e1,e2,line ?_,fun p3 hp3=>?_⟩)
  ·simp only [Am,Aj,Ak,A2];omega
  refine qI (g1.trans g2) hp3 fun H3 g3 s3 n3 e3=>?_;refine ⟨(O0:1≤Ag),fun p4 hp4=>?_⟩;refine qI g3 hp4 fun H4 g4 s4 n4 e4=>?_;refine .inr (.inr ⟨p3,p4,_,_,rfl,rfl,s4 _ _ e3,e4,line ?_,fun p5 hp5=>?_⟩)
  ·simp only [Am,Aj,Ak,A2];omega
  refine qI g4 hp5 fun H5 g5 s5 n5 e5=>r3 _ _ (q _ p5 g5 n5 ?_);rw [e5];simp
 | @two h x t hh kt=>
  rw [Sho.wP_let hh] at tot q;have l1:(Sho.wP n t).length+4≤600000:=by
   rw [Ak,Ak,Ak,Am] at tot;exact tot
  have nh:(["do","hand","back"]:List Str).contains h=false:=by
   have z:∀ h∈(["let","set","fault"]:List Str),(["do","hand","back"]:List Str).contains h=false:=∅;exact z h hh
  refine hk.tp3 fun a y1 y2 ex hq r1 r2=>?_;subst ex;obtain rfl:=r1.strI;refine qC fun D2 h2 _=>⟨_,rfl,.inr (.inl ⟨a,_,0,_,rfl,rfl,hq,qw (j:=0) rfl,h2 _ _ (qC fun D3 h3 r3=>zb fun B b1 b2=>⟨_,rfl,(O0:3≤Ag),fun q2 hq2=>⟨q2,_,rfl,.inr (SqT.of upd_same),rfl,rfl,_,rfl,?_⟩⟩)⟩)⟩;rw [if_neg Ai,in3];refine qI (qu.refl H) hq2 fun H0 g0 _ _ _=>?_;refine bN nh (b2 _ (h3 _ _ (qC fun D4 h4 r4=>zb fun B b1 b2=>⟨_,rfl,(O0:3≤Ag),fun q3 hq3=>⟨q3,_,rfl,.inr (SqT.of upd_same),rfl,rfl,_,rfl,?_⟩⟩)));rw [if_neg Ai,in3];refine qI g0 hq3 fun H0 g0 _ _ _=>?_;refine bP (B4.mpr hh) (b1 _ ⟨_,rfl,_,rfl,.inr (.inl ⟨a,_,1,_,rfl,rfl,g0.sqT hq,qw (j:=1) rfl,(O0:3≤Ag),fun p1 hp1=>?_⟩)⟩);refine qI g0 hp1 fun H1 g1 s1 n1 e1=>?_;refine ⟨_,rfl,.inr (.inl ⟨a,_,2,_,rfl,rfl,g1.sqT hq,qw (j:=2) rfl,y2,t,rfl,r2.same g1,kt,fun H2 p2 g2 n2 e2=>?_⟩)⟩;refine .inr (.inr ⟨p1,p2,_,_,rfl,rfl,g2 _ _ e1,e2,line ?_,fun p3 hp3=>?_⟩)
  ·simp only [Am,Aj,Ak,A2];omega
  refine qI (g1.trans g2) hp3 fun H3 g3 s3 n3 e3=>?_;refine ⟨(O0:1≤Ag),fun p4 hp4=>?_⟩;refine qI g3 hp4 fun H4 g4 s4 n4 e4=>?_;refine .inr (.inr ⟨p3,p4,_,_,rfl,rfl,s4 _ _ e3,e4,line ?_,fun p5 hp5=>?_⟩)
  ·simp only [Am,Aj,Ak,A2];omega
  refine qI g4 hp5 fun H5 g5 s5 n5 e5=>?_;refine r4 _ _ (q _ p5 g5 n5 ?_);rw [e5];simp
 | @try_ x y as bs cs ra rb rc=>
  rw [Sho.wP_try] at tot q;have ba:=Ve (Sho.wP n) as;have bb:=Ve (Sho.wP n) bs;have bc:=Ve (Sho.wP n) cs;simp only [Am,Ak,A2] at tot;refine hk.tp6 fun a y1 y2 y3 y4 y5 ex hq r1 r2 r3 r4 r5=>?_;subst ex;obtain rfl:=r2.strI;obtain rfl:=r3.strI;refine qC fun D2 h2 _=>⟨_,rfl,.inr (.inl ⟨a,_,0,_,rfl,rfl,hq,qw (j:=0) rfl,h2 _ _ (qC fun D3 h3 z3=>zb fun B b1 b2=>⟨_,rfl,(O0:3≤Ag),fun q2 hq2=>⟨q2,_,rfl,.inr (SqT.of upd_same),rfl,rfl,_,rfl,?_⟩⟩)⟩)⟩;rw [if_neg Ai,in3];refine qI (qu.refl H) hq2 fun H0 g0 _ _ _=>?_;refine bN ∅ (b2 _ (h3 _ _ (qC fun D4 h4 z4=>zb fun B b1 b2=>⟨_,rfl,(O0:3≤Ag),fun q3 hq3=>⟨q3,_,rfl,.inr (SqT.of upd_same),rfl,rfl,_,rfl,?_⟩⟩)));rw [if_neg Ai,in3];refine qI g0 hq3 fun H0 g0 _ _ _=>?_;refine bN ∅ (b2 _ (h4 _ _ (qC fun D5 h5 z5=>zb fun B b1 b2=>⟨_,rfl,rfl,_,rfl,?_⟩)));refine bP (deq rfl) (b1 _ ⟨_,rfl,(O0:2≤Ag),fun p1 hp1=>?_⟩);refine qI g0 hp1 fun H1 g1 s1 n1 e1=>?_;refine ⟨_,rfl,.inr (.inl ⟨a,_,1,_,rfl,rfl,(g1).sqT hq,qw (j:=1) rfl,y1,as,rfl,r1.same (g1),ra,⋯,fun H2 p2 g2 n2 e2=>?_⟩)⟩;refine .inr (.inr ⟨p1,p2,_,_,rfl,rfl,g2 _ _ e1,e2,line ?_,fun p3 hp3=>?_⟩)
  ·simp only [Am,Aj,Ak,A2];omega
  refine qI (g1.trans g2) hp3 fun H3 g3 s3 n3 e3=>?_;refine ⟨_,rfl,.inr (.inl ⟨a,_,2,_,rfl,rfl,g3.sqT hq,qw (j:=2) rfl,_,rfl,.inr (.inl ⟨a,_,3,_,rfl,rfl,g3.sqT hq,qw (j:=3) rfl,(O0:2≤Ag),fun p4 hp4=>?_⟩)⟩)⟩;refine qI g3 hp4 fun H4 g4 s4 n4 e4=>?_;refine .inr (.inr ⟨p3,p4,_,_,rfl,rfl,s4 _ _ e3,e4,line ?_,fun p5 hp5=>?_⟩)
  ·simp only [Am,Aj,Ak,A2];omega
  refine qI g4 hp5 fun H5 g5 s5 n5 e5=>?_;refine ⟨_,rfl,.inr (.inl ⟨a,_,4,_,rfl,rfl,(g5).sqT hq,qw (j:=4) rfl,y4,bs,rfl,r4.same (g5),rb,⋯,fun H6 p6 g6 n6 e6=>?_⟩)⟩;refine .inr (.inr ⟨p5,p6,_,_,rfl,rfl,g6 _ _ e5,e6,line ?_,fun p7 hp7=>?_⟩)
  ·simp only [Am,Aj,Ak,A2];omega
  refine qI (g5.trans g6) hp7 fun H7 g7 s7 n7 e7=>?_;refine ⟨_,rfl,.inr (.inl ⟨a,_,5,_,rfl,rfl,(g7).sqT hq,qw (j:=5) rfl,y5,cs,rfl,r5.same (g7),rc,⋯,fun H8 p8 g8 n8 e8=>?_⟩)⟩;refine .inr (.inr ⟨p7,p8,_,_,rfl,rfl,g8 _ _ e7,e8,line ?_,fun p9 hp9=>?_⟩)
  ·simp only [Am,Aj,Ak,A2];omega
  refine qI (g7.trans g8) hp9 fun H9 g9 s9 n9 e9=>?_;refine ⟨(O0:1≤Ag),fun p10 hp10=>?_⟩;refine qI g9 hp10 fun H10 g10 s10 n10 e10=>?_;refine .inr (.inr ⟨p9,p10,_,_,rfl,rfl,s10 _ _ e9,e10,line ?_,fun p11 hp11=>?_⟩)
  ·simp only [Am,Aj,Ak,A2];omega
  refine qI g10 hp11 fun H11 g11 s11 n11 e11=>?_;refine z5 _ _ (q _ p11 g11 n11 ?_);rw [e11];simp
 | @while_ t as kt ra=>
  rw [Sho.wP_while] at tot q;have ba:=Ve (Sho.wP n) as;simp only [Am,Ak,A2] at tot;refine hk.tp3 fun a y1 y2 ex hq r1 r2=>?_;subst ex;refine qC fun D2 h2 _=>⟨_,rfl,.inr (.inl ⟨a,_,0,_,rfl,rfl,hq,qw (j:=0) rfl,h2 _ _ (qC fun D3 h3 z3=>zb fun B b1 b2=>⟨_,rfl,(O0:3≤Ag),fun q2 hq2=>⟨q2,_,rfl,.inr (SqT.of upd_same),rfl,rfl,_,rfl,?_⟩⟩)⟩)⟩;rw [if_neg Ai,in3];refine qI (qu.refl H) hq2 fun H0 g0 _ _ _=>?_;refine bN ∅ (b2 _ (h3 _ _ (qC fun D4 h4 z4=>zb fun B b1 b2=>⟨_,rfl,(O0:3≤Ag),fun q3 hq3=>⟨q3,_,rfl,.inr (SqT.of upd_same),rfl,rfl,_,rfl,?_⟩⟩)));rw [if_neg Ai,in3];refine qI g0 hq3 fun H0 g0 _ _ _=>?_;refine bN ∅ (b2 _ (h4 _ _ (qC fun D5 h5 z5=>zb fun B b1 b2=>⟨_,rfl,rfl,_,rfl,?_⟩)));refine bN (dne ∅) (b2 _ (h5 _ _ (qC fun D6 h6 z6=>⟨_,rfl,(O0:2≤Ag),fun p1 hp1=>?_⟩)));refine qI g0 hp1 fun H1 g1 s1 n1 e1=>?_;refine ⟨_,rfl,.inr (.inl ⟨a,_,1,_,rfl,rfl,g1.sqT hq,qw (j:=1) rfl,y1,t,rfl,r1.same g1,kt,fun H2 p2 g2 n2 e2=>?_⟩)⟩;refine .inr (.inr ⟨p1,p2,_,_,rfl,rfl,g2 _ _ e1,e2,line ?_,fun p3 hp3=>?_⟩)
  ·simp only [Am,Aj,Ak,A2];omega
  refine qI (g1.trans g2) hp3 fun H3 g3 s3 n3 e3=>?_;refine ⟨_,rfl,.inr (.inl ⟨a,_,2,_,rfl,rfl,(g3).sqT hq,qw (j:=2) rfl,y2,as,rfl,r2.same (g3),ra,⋯,fun H4 p4 g4 n4 e4=>?_⟩)⟩;refine .inr (.inr ⟨p3,p4,_,_,rfl,rfl,g4 _ _ e3,e4,line ?_,fun p5 hp5=>?_⟩)
  ·simp only [Am,Aj,Ak,A2];omega
  refine qI (g3.trans g4) hp5 fun H5 g5 s5 n5 e5=>?_;refine h6 _ _ (qC fun D7 h7 z7=>zb fun B b1 b2=>⟨_,rfl,rfl,_,rfl,bN (dne ∅) (b2 _ (h7 _ _ ⟨_,rfl,(O0:1≤Ag),fun p6 hp6=>?_⟩))⟩);refine qI g5 hp6 fun H6 g6 s6 n6 e6=>?_;refine .inr (.inr ⟨p5,p6,_,_,rfl,rfl,s6 _ _ e5,e6,line ?_,fun p7 hp7=>?_⟩)
  ·simp only [Am,Aj,Ak,A2];omega
  refine qI g6 hp7 fun H7 g7 s7 n7 e7=>?_;refine q _ p7 g7 n7 ?_;rw [e7];simp
 | @if_ t as bs kt ra rb=>
  rw [Sho.wP_if] at tot q;have ba:=Ve (Sho.wP n) as;have bb:=Ve (Sho.wP n) bs;simp only [Am,Ak,A2] at tot;refine hk.tp4 fun a y1 y2 y3 ex hq r1 r2 r3=>?_;subst ex;refine qC fun D2 h2 _=>⟨_,rfl,.inr (.inl ⟨a,_,0,_,rfl,rfl,hq,qw (j:=0) rfl,h2 _ _ (qC fun D3 h3 z3=>zb fun B b1 b2=>⟨_,rfl,(O0:3≤Ag),fun q2 hq2=>⟨q2,_,rfl,.inr (SqT.of upd_same),rfl,rfl,_,rfl,?_⟩⟩)⟩)⟩;rw [if_neg Ai,in3];refine qI (qu.refl H) hq2 fun H0 g0 _ _ _=>?_;refine bN ∅ (b2 _ (h3 _ _ (qC fun D4 h4 z4=>zb fun B b1 b2=>⟨_,rfl,(O0:3≤Ag),fun q3 hq3=>⟨q3,_,rfl,.inr (SqT.of upd_same),rfl,rfl,_,rfl,?_⟩⟩)));rw [if_neg Ai,in3];refine qI g0 hq3 fun H0 g0 _ _ _=>?_;refine bN ∅ (b2 _ (h4 _ _ (qC fun D5 h5 z5=>zb fun B b1 b2=>⟨_,rfl,rfl,_,rfl,?_⟩)));refine bN (dne ∅) (b2 _ (h5 _ _ (qC fun D6 h6 z6=>⟨_,rfl,(O0:2≤Ag),fun p1 hp1=>?_⟩)));refine qI g0 hp1 fun H1 g1 s1 n1 e1=>?_;refine ⟨_,rfl,.inr (.inl ⟨a,_,1,_,rfl,rfl,g1.sqT hq,qw (j:=1) rfl,y1,t,rfl,r1.same g1,kt,fun H2 p2 g2 n2 e2=>?_⟩)⟩;refine .inr (.inr ⟨p1,p2,_,_,rfl,rfl,g2 _ _ e1,e2,line ?_,fun p3 hp3=>?_⟩)
  ·simp only [Am,Aj,Ak,A2];omega
  refine qI (g1.trans g2) hp3 fun H3 g3 s3 n3 e3=>?_;refine ⟨_,rfl,.inr (.inl ⟨a,_,2,_,rfl,rfl,(g3).sqT hq,qw (j:=2) rfl,y2,as,rfl,r2.same (g3),ra,⋯,fun H4 p4 g4 n4 e4=>?_⟩)⟩;refine .inr (.inr ⟨p3,p4,_,_,rfl,rfl,g4 _ _ e3,e4,line ?_,fun p5 hp5=>?_⟩)
  ·simp only [Am,Aj,Ak,A2];omega
  refine qI (g3.trans g4) hp5 fun H5 g5 s5 n5 e5=>?_;refine h6 _ _ (qC fun D7 h7 z7=>zb fun B b1 b2=>⟨_,rfl,rfl,_,rfl,bP (deq rfl) (b1 _ ?_)⟩);refine ⟨_,rfl,?_⟩;refine ⟨_,rfl,.inr (.inl ⟨a,_,3,_,rfl,rfl,(g5).sqT hq,qw (j:=3) rfl,y3,bs,rfl,r3.same (g5),rb,⋯,fun H6 p6 g6 n6 e6=>?_⟩)⟩;refine .inr (.inr ⟨p5,p6,_,_,rfl,rfl,g6 _ _ e5,e6,line ?_,fun p7 hp7=>?_⟩)
  ·simp only [Am,Aj,Ak,A2];omega
  refine qI (g5.trans g6) hp7 fun H7 g7 s7 n7 e7=>?_;refine h7 _ _ ⟨_,rfl,(O0:1≤Ag),fun p8 hp8=>?_⟩;refine qI g7 hp8 fun H8 g8 s8 n8 e8=>?_;refine .inr (.inr ⟨p7,p8,_,_,rfl,rfl,s8 _ _ e7,e8,line ?_,fun p9 hp9=>?_⟩)
  ·simp only [Am,Aj,Ak,A2];omega
  refine qI g8 hp9 fun H9 g9 s9 n9 e9=>?_;refine q _ p9 g9 n9 ?_;rw [e9];simp
theorem VM (F:Fun K "_law_term_words" "_law_term_words" ji f fd) (c:Cs K mg ad) (n:Nat) (d_law_term_words:Def P w K mg base (4*n+3) "_law_term_words" ["_law_term_here"] (Y1 K n "term")) (d_law_function_words:Def P w K mg base (4*n+6) "_law_function_words" ["_law_part"] (qcj K n)):FnOk P w K mg base CX0 (4*n+7) f fd ["_law_term_here"] (Y1 K (n+1) "term"):=by
 refine F.ok (k:=4*n+6) ja (fun vs H Q E h=>?_) (fun cdv A outer s H vs Q E hr h=>?_)
 ·obtain ⟨x,d,rfl,_⟩:=h;rfl
 obtain ⟨x,d,rfl,hk,kd,q⟩:=h;refine ⟨_,(qh (qJ (qv qZ (pix K (pv 0) qi) qg (qD _)) (ql (qx (qH (qd (zo qje (by rfl) c.str_ WW (qd (pix K (pv 0) qi) qf)) qf)))) qB)
   (qh (qJ (qv qZ (pix K (pv 0) qi) qg (qD _)) (ql (qx (qH (qd (pix K (pv 0) qi) qf)))) qB)
   (qh (qJ (qv qZ (pix K (pv 0) qi) qg (qD _)) (ql (qx (qo qA (qo qA (qo qA (qH (qd qg (qd (pix K (pv 0) qi) qf))) (pdf d_law_term_words (qd (pix K (pv 0) qi) qf))) (pdf d_law_term_words (qd (pix K (pv 0) qi) qf))) (qH (qd qg qf))))) qB)
   (qh (qJ (qv (VR (K:=K) rfl) (pix K (pv 0) qi) (qr (qd qg (qd qg qf))) rfl) (ql (qx (pdf d_law_function_words (qd (pv 0) qf)))) qB)
   (qh (pst 1 ja.nd (qo qA (qH (qd qg (qd (pix K (pv 0) qi) qf))) (pdf d_law_term_words (qd (pix K (pv 0) qi) qf))))
   (qh (Vv Dh rfl (Ya (K:=K) rfl (VL (qv qZ (pix K (pv 0) qi) qg (qD _)) (zo VW (by rfl) c.list_ QN (qd (pix K (pv 0) qi) qf)) (qH (qd (pix K (pv 0) qi) qf)))) (pgn 2 ja.nd) (ql (pst 1 ja.nd (qo qA (pv 1) (pdf d_law_term_words (qd (pv 2) qf))))))
   (ql (qx (qo qA (pv 1) (qH (qd qg qf))))))))))),?_⟩
 have tot:=Sho.kid_lenR kd;have late:∀ (a:Ae) (h:Str) (y1 y2:V) (t:Aa) (xs:List V) (ds:List Aa) (D6:Ends),SqT K H a [.str h,y1,y2]→Rep K H y1 t→Sho.KidR n "term" t→Reps K H xs ds→(∀ x∈ds,Sho.KidR n "term" x)→(Sho.wP n t).length+((ds.map (Sho.wP n)).flatten).length+3≤600000→∀ H0 p0,qu H H0→H p0=none→H0 p0=some (.lst ((("(":Str)::h::Sho.wP n t).map V.str))→∀ pl,SqL K H0 pl xs→
   (∀ H' p o,qu H H'→H p=none→H' p=some (.lst ((("(":Str)::h::(Sho.wP n t++(ds.map (Sho.wP n)).flatten)).map V.str))→D6.nx [some (.ref a),some (.ref p),o] H')→
   Lp (Itl K pl) (zD 2) (vz (tOp JS (qN 1) (zP (Y1 K n "term") [] E0 (qz (qN 2) zi))) (zD 1)) D6 [some (.ref a),some (.ref p0),none] H0:=by
  intro a h y1 y2 t xs ds D6 hq r1 kt rs kds hl H0 p0 g0 n0 e0 pl hpl fin;refine qio rs (fun i σ H'=>∃ p o2,σ=[some (.ref a),some (.ref p),o2]∧qu H0 H'∧H p=none∧H' p=some (.lst ((("(":Str)::h::(Sho.wP n t++((ds.take i).map (Sho.wP n)).flatten)).map V.str))) ?_ (fun i σ H' hh=>?_) (fun i σ H3 v d hi he rd hh D' hn _=>?_) (fun σ H2 hh=>?_)
  ·refine ⟨p0,none,rfl,qu.refl _,n0,?_⟩;rw [List.take_zero,Cj,List.flatten_nil,Bo];exact e0
  ·obtain ⟨p,o2,rfl,g2,hp,hp2⟩:=hh;exact g2.seq hpl
  ·obtain ⟨p,o2,rfl,g2,hp,hp2⟩:=hh;have l1:=yx (Sho.wP n) ds (i+1);rw [vn _ he,Am] at l1;refine ⟨_,rfl,_,rfl,v,d,rfl,rd.same (g0.trans g2),kds d (Br he),fun H4 p4 g4 hp4 e4=>?_⟩;refine .inr (.inr ⟨p,p4,_,_,rfl,rfl,g4 _ _ hp2,e4,line ?_,fun p5 hp5=>?_⟩)
   ·simp only [Am,Aj,Ak,A2];omega
   refine qI (g2.trans g4) hp5 fun H5 g5 s5 n5 e5=>hn _ _ ⟨p5,_,rfl,g5,jx g0 n5,?_⟩;rw [e5,vn _ he];simp
  ·obtain ⟨p,o2,rfl,g2,hp,hp2⟩:=hh;rw [Cu] at hp2;exact fin _ p _ (g0.trans g2) hp hp2
 cases Sho.trm_viewR kd with
 | @num i hi=>
  rw [Sho.wP_num] at q;refine hk.tp2 fun a y1 ex hq r1=>?_;subst ex;cases r1;refine qC fun D2 h2 z2=>zb fun B b1 b2=>⟨_,rfl,.inr (.inl ⟨a,_,0,_,rfl,rfl,hq,qw (j:=0) rfl,rfl,_,rfl,bP (deq rfl) (b1 _ ?_)⟩)⟩;refine ⟨_,rfl,.inr (.inl ⟨a,_,1,_,rfl,rfl,hq,qw (j:=1) rfl,.inr ⟨i,rfl,Tre.Qy hi,(O0:1≤Ag),fun p1 hp1=>?_⟩⟩)⟩;refine qI (qu.refl H) hp1 fun H1 g1 s1 n1 e1=>z2 _ _ (q _ p1 g1 n1 e1)
 | @name x=>
  rw [Sho.wP_name] at q;refine hk.tp2 fun a y1 ex hq r1=>?_;subst ex;cases r1.strI;refine qC fun D2 h2 z2=>zb fun B b1 b2=>⟨_,rfl,.inr (.inl ⟨a,_,0,_,rfl,rfl,hq,qw (j:=0) rfl,rfl,_,rfl,bN (dne ∅) (b2 _ (h2 _ _ ?_))⟩)⟩;refine qC fun D3 h3 z3=>zb fun B b1 b2=>⟨_,rfl,.inr (.inl ⟨a,_,0,_,rfl,rfl,hq,qw (j:=0) rfl,rfl,_,rfl,bP (deq rfl) (b1 _ ?_)⟩)⟩;refine ⟨_,rfl,.inr (.inl ⟨a,_,1,_,rfl,rfl,hq,qw (j:=1) rfl,(O0:1≤Ag),fun p1 hp1=>?_⟩)⟩;refine qI (qu.refl H) hp1 fun H1 g1 s1 n1 e1=>z3 _ _ (q _ p1 g1 n1 e1)
 | @two g t u kt ku=>
  rw [Sho.wP_two] at tot q;simp only [Am,Ak,A2] at tot;refine hk.tp4 fun a y1 y2 y3 ex hq r1 r2 r3=>?_;subst ex;obtain rfl:=r1.strI;refine qC fun D2 h2 z2=>zb fun B b1 b2=>⟨_,rfl,.inr (.inl ⟨a,_,0,_,rfl,rfl,hq,qw (j:=0) rfl,rfl,_,rfl,bN (dne ∅) (b2 _ (h2 _ _ ?_))⟩)⟩;refine qC fun D3 h3 z3=>zb fun B b1 b2=>⟨_,rfl,.inr (.inl ⟨a,_,0,_,rfl,rfl,hq,qw (j:=0) rfl,rfl,_,rfl,bN (dne ∅) (b2 _ (h3 _ _ ?_))⟩)⟩;refine qC fun D4 h4 z4=>zb fun B b1 b2=>⟨_,rfl,.inr (.inl ⟨a,_,0,_,rfl,rfl,hq,qw (j:=0) rfl,rfl,_,rfl,bP (deq rfl) (b1 _ ?_)⟩)⟩;refine ⟨_,rfl,.inr (.inl ⟨a,_,1,_,rfl,rfl,hq,qw (j:=1) rfl,(O0:2≤Ag),fun p1 hp1=>?_⟩)⟩;refine qI (qu.refl H) hp1 fun H1 g1 s1 n1 e1=>?_;refine ⟨_,rfl,.inr (.inl ⟨a,_,2,_,rfl,rfl,g1.sqT hq,qw (j:=2) rfl,y2,t,rfl,r2.same g1,kt,fun H2 p2 g2 n2 e2=>?_⟩)⟩;refine .inr (.inr ⟨p1,p2,_,_,rfl,rfl,g2 _ _ e1,e2,line ?_,fun p3 hp3=>?_⟩)
  ·simp only [Am,Aj,Ak,A2];omega
  refine qI (g1.trans g2) hp3 fun H3 g3 s3 n3 e3=>?_;refine ⟨_,rfl,.inr (.inl ⟨a,_,3,_,rfl,rfl,g3.sqT hq,qw (j:=3) rfl,y3,u,rfl,r3.same g3,ku,fun H4 p4 g4 n4 e4=>?_⟩)⟩;refine .inr (.inr ⟨p3,p4,_,_,rfl,rfl,g4 _ _ e3,e4,line ?_,fun p5 hp5=>?_⟩)
  ·simp only [Am,Aj,Ak,A2];omega
  refine qI (g3.trans g4) hp5 fun H5 g5 s5 n5 e5=>?_;refine ⟨(O0:1≤Ag),fun p6 hp6=>?_⟩;refine qI g5 hp6 fun H6 g6 s6 n6 e6=>?_;refine .inr (.inr ⟨p5,p6,_,_,rfl,rfl,s6 _ _ e5,e6,line ?_,fun p7 hp7=>?_⟩)
  ·simp only [Am,Aj,Ak,A2];omega
  refine qI g6 hp7 fun H7 g7 s7 n7 e7=>z4 _ _ (q _ p7 g7 n7 ?_);rw [e7];simp
 | @fn h ps as hh nm ra=>
  have hh3:h∈(["fun","loop","main"]:List Str):=by
   have z:∀ h∈(["fun","loop"]:List Str),h∈(["fun","loop","main"]:List Str):=∅;exact z h hh
  have nh:∀ h∈(["fun","loop"]:List Str),h≠"number"∧h≠"name"∧h≠"two":=∅;obtain ⟨m1,m2,m3⟩:=nh h hh;rw [Sho.wP_fn hh3] at tot q;have hk2:=hk;refine hk.tp3 fun a y1 y2 ex hq r1 r2=>?_;subst ex;refine qC fun D2 h2 z2=>zb fun B b1 b2=>⟨_,rfl,.inr (.inl ⟨a,_,0,_,rfl,rfl,hq,qw (j:=0) rfl,rfl,_,rfl,bN (dne m1) (b2 _ (h2 _ _ ?_))⟩)⟩;refine qC fun D3 h3 z3=>zb fun B b1 b2=>⟨_,rfl,.inr (.inl ⟨a,_,0,_,rfl,rfl,hq,qw (j:=0) rfl,rfl,_,rfl,bN (dne m2) (b2 _ (h3 _ _ ?_))⟩)⟩;refine qC fun D4 h4 z4=>zb fun B b1 b2=>⟨_,rfl,.inr (.inl ⟨a,_,0,_,rfl,rfl,hq,qw (j:=0) rfl,rfl,_,rfl,bN (dne m3) (b2 _ (h4 _ _ ?_))⟩)⟩;refine qC fun D5 h5 z5=>zb fun B b1 b2=>⟨_,rfl,.inr (.inl ⟨a,_,0,_,rfl,rfl,hq,qw (j:=0) rfl,(O0:2≤Ag),fun q2 hq2=>⟨q2,_,rfl,.inr (SqT.of upd_same),rfl,rfl,_,rfl,?_⟩⟩)⟩;rw [if_neg Ai];refine qI (qu.refl H) hq2 fun H0 g0 _ _ _=>?_;refine bP ((jp h ["fun","loop"]).trans (B4.mpr hh)) (b1 _ ⟨_,rfl,_,h,ps,as,rfl,hk2.same g0,nm,ra,⋯,fun H1 p1 g1 n1 e1=>z5 _ _ (q _ p1 (g0.trans g1) (jx g0 n1) e1)⟩)
 | @call t as kt kas hla=>
  rw [Sho.wP_call] at tot q;simp only [Am,Ak,A2] at tot;refine hk.tp3 fun a y1 y2 ex hq r1 r2=>?_;subst ex;refine r2.tpl fun b ys ey hb rb=>?_;subst ey;refine qC fun D2 h2 z2=>zb fun B b1 b2=>⟨_,rfl,.inr (.inl ⟨a,_,0,_,rfl,rfl,hq,qw (j:=0) rfl,rfl,_,rfl,bN (dne ∅) (b2 _ (h2 _ _ ?_))⟩)⟩;refine qC fun D3 h3 z3=>zb fun B b1 b2=>⟨_,rfl,.inr (.inl ⟨a,_,0,_,rfl,rfl,hq,qw (j:=0) rfl,rfl,_,rfl,bN (dne ∅) (b2 _ (h3 _ _ ?_))⟩)⟩;refine qC fun D4 h4 z4=>zb fun B b1 b2=>⟨_,rfl,.inr (.inl ⟨a,_,0,_,rfl,rfl,hq,qw (j:=0) rfl,rfl,_,rfl,bN (dne ∅) (b2 _ (h4 _ _ ?_))⟩)⟩;refine qC fun D5 h5 z5=>zb fun B b1 b2=>⟨_,rfl,.inr (.inl ⟨a,_,0,_,rfl,rfl,hq,qw (j:=0) rfl,(O0:2≤Ag),fun q2 hq2=>⟨q2,_,rfl,.inr (SqT.of upd_same),rfl,rfl,_,rfl,?_⟩⟩)⟩;rw [if_neg Ai];refine qI (qu.refl H) hq2 fun H0 g0 _ _ _=>?_;refine bN ∅ (b2 _ (h5 _ _ ?_));refine qC fun D6 h6 z6=>⟨_,rfl,.inr (.inl ⟨a,_,0,_,rfl,rfl,g0.sqT hq,qw (j:=0) rfl,(O0:2≤Ag),fun p1 hp1=>?_⟩)⟩;refine qI g0 hp1 fun H1 g1 s1 n1 e1=>?_;refine ⟨_,rfl,.inr (.inl ⟨a,_,1,_,rfl,rfl,g1.sqT hq,qw (j:=1) rfl,y1,t,rfl,r1.same g1,kt,fun H2 p2 g2 n2 e2=>?_⟩)⟩;refine .inr (.inr ⟨p1,p2,_,_,rfl,rfl,g2 _ _ e1,e2,line ?_,fun p3 hp3=>?_⟩)
  ·simp only [Am,Aj,Ak,A2];omega
  refine qI (g1.trans g2) hp3 fun H3 g3 s3 n3 e3=>?_;refine h6 _ _ (qC fun D7 h7 z7=>?_);have fin:∀ H' p o,qu H H'→H p=none→H' p=some (.lst ((("(":Str)::"call"::(Sho.wP n t++((as:List Aa).map (Sho.wP n)).flatten)).map V.str))→D7.nx [some (.ref a),some (.ref p),o] H':=fun H' p o g n e=>h7 _ _ ?_
  ·refine ⟨_,rfl,.inr (.inl ⟨a,_,0,_,rfl,rfl,g3.sqT hq,qw (j:=0) rfl,rfl,_,rfl,?_⟩)⟩;refine zE (deq rfl) ⟨_,rfl,.inr (.inl ⟨a,_,2,_,rfl,rfl,g3.sqT hq,qw (j:=2) rfl,b,_,rfl,.inr (g3.sqT hb),fun p4 hp4=>?_⟩)⟩;refine qI g3 hp4 fun H4 g4 s4 n4 e4=>?_;exact .inl ⟨p4,rfl,⟨_,SqL.of e4⟩,late a "call" y1 _ t ys as D7 hq r1 kt rb kas ⋯ H4 p3 g4 n3 (s4 _ _ e3) p4 (SqL.of e4) fin⟩
  refine ⟨_,rfl,(O0:1≤Ag),fun p5 hp5=>?_⟩;refine qI g hp5 fun H5 g5 s5 n5 e5=>?_;refine .inr (.inr ⟨p,p5,_,_,rfl,rfl,s5 _ _ e,e5,line ?_,fun p6 hp6=>?_⟩)
  ·simp only [Am,Aj,Ak,A2,A4,Cj,Bx,List.flatten_nil,Bo];omega
  refine qI g5 hp6 fun H6 g6 s6 n6 e6=>q _ p6 g6 n6 ?_;rw [e6];simp
 | @step t u kt ku=>
  rw [Sho.wP_step] at tot q;simp only [Am,Ak,A2] at tot;refine hk.tp3 fun a y1 y2 ex hq r1 r2=>?_;subst ex;refine qC fun D2 h2 z2=>zb fun B b1 b2=>⟨_,rfl,.inr (.inl ⟨a,_,0,_,rfl,rfl,hq,qw (j:=0) rfl,rfl,_,rfl,bN (dne ∅) (b2 _ (h2 _ _ ?_))⟩)⟩;refine qC fun D3 h3 z3=>zb fun B b1 b2=>⟨_,rfl,.inr (.inl ⟨a,_,0,_,rfl,rfl,hq,qw (j:=0) rfl,rfl,_,rfl,bN (dne ∅) (b2 _ (h3 _ _ ?_))⟩)⟩;refine qC fun D4 h4 z4=>zb fun B b1 b2=>⟨_,rfl,.inr (.inl ⟨a,_,0,_,rfl,rfl,hq,qw (j:=0) rfl,rfl,_,rfl,bN (dne ∅) (b2 _ (h4 _ _ ?_))⟩)⟩;refine qC fun D5 h5 z5=>zb fun B b1 b2=>⟨_,rfl,.inr (.inl ⟨a,_,0,_,rfl,rfl,hq,qw (j:=0) rfl,(O0:2≤Ag),fun q2 hq2=>⟨q2,_,rfl,.inr (SqT.of upd_same),rfl,rfl,_,rfl,?_⟩⟩)⟩;rw [if_neg Ai];refine qI (qu.refl H) hq2 fun H0 g0 _ _ _=>?_;refine bN ∅ (b2 _ (h5 _ _ ?_));refine qC fun D6 h6 z6=>⟨_,rfl,.inr (.inl ⟨a,_,0,_,rfl,rfl,g0.sqT hq,qw (j:=0) rfl,(O0:2≤Ag),fun p1 hp1=>?_⟩)⟩;refine qI g0 hp1 fun H1 g1 s1 n1 e1=>?_;refine ⟨_,rfl,.inr (.inl ⟨a,_,1,_,rfl,rfl,g1.sqT hq,qw (j:=1) rfl,y1,t,rfl,r1.same g1,kt,fun H2 p2 g2 n2 e2=>?_⟩)⟩;refine .inr (.inr ⟨p1,p2,_,_,rfl,rfl,g2 _ _ e1,e2,line ?_,fun p3 hp3=>?_⟩)
  ·simp only [Am,Aj,Ak,A2];omega
  refine qI (g1.trans g2) hp3 fun H3 g3 s3 n3 e3=>?_;refine h6 _ _ (qC fun D7 h7 z7=>?_);have fin:∀ H' p o,qu H H'→H p=none→H' p=some (.lst ((("(":Str)::"step"::(Sho.wP n t++(([u]:List Aa).map (Sho.wP n)).flatten)).map V.str))→D7.nx [some (.ref a),some (.ref p),o] H':=fun H' p o g n e=>h7 _ _ ?_
  ·refine ⟨_,rfl,.inr (.inl ⟨a,_,0,_,rfl,rfl,g3.sqT hq,qw (j:=0) rfl,rfl,_,rfl,?_⟩)⟩;refine zF (dne ∅) ⟨_,rfl,.inr (.inl ⟨a,_,2,_,rfl,rfl,g3.sqT hq,qw (j:=2) rfl,(O0:1≤Ag),fun p4 hp4=>?_⟩)⟩;refine qI g3 hp4 fun H4 g4 s4 n4 e4=>?_;exact .inl ⟨p4,rfl,⟨_,SqL.of e4⟩,late a "step" y1 y2 t [y2] [u] D7 hq r1 kt (.cons r2 .nil) (fun x hx=>by cases A3.mp hx;exact ku) (by simp only [A4,Cj,Bx,List.flatten_nil,Bo];omega) H4 p3 g4 n3 (s4 _ _ e3) p4 (SqL.of e4) fin⟩
  refine ⟨_,rfl,(O0:1≤Ag),fun p5 hp5=>?_⟩;refine qI g hp5 fun H5 g5 s5 n5 e5=>?_;refine .inr (.inr ⟨p,p5,_,_,rfl,rfl,s5 _ _ e,e5,line ?_,fun p6 hp6=>?_⟩)
  ·simp only [Am,Aj,Ak,A2,A4,Cj,Bx,List.flatten_nil,Bo];omega
  refine qI g5 hp6 fun H6 g6 s6 n6 e6=>q _ p6 g6 n6 ?_;rw [e6];simp
theorem yN {fB fF fT fW:Ae} {dB dF dT dW:FuncData} (FB:Fun K "_law_bodies" "_law_bodies" j8 fB dB) (FF:Fun K "_law_function_words" "_law_function_words" zJ fF dF) (FT:Fun K "_law_term_words" "_law_term_words" ji fT dT) (FW:Fun K "_law_words" "_law_words" JB fW dW)
  (kB:Known K mg "_law_bodies" ["_law_body_here"] fB dB) (kF:Known K mg "_law_function_words" ["_law_part"] fF dF) (kT:Known K mg "_law_term_words" ["_law_term_here"] fT dT) (kW:Known K mg "_law_words" ["_law_one"] fW dW) (c:Cs K mg ad):
  ∀ n:Nat,Def P w K mg base (4*n+3) "_law_term_words" ["_law_term_here"] (Y1 K n "term")∧Def P w K mg base (4*n+5) "_law_bodies" ["_law_body_here"] (qey K n)∧Def P w K mg base (4*n+6) "_law_function_words" ["_law_part"] (qcj K n)
 | 0=>by
  have none0:∀ u vs H Q E,¬ Y1 K 0 u vs H Q E:=fun u vs H Q E ⟨x,d,_,_,z,_⟩=>z;have b:=kB.out (Vl (P:=P) (w:=w) (base:=base) FB c 0 (kW.out (Xz (none0 "statement"))));exact ⟨kT.out (Xz (none0 "term")),b,kF.out (jM FF c 0 b)⟩
 | n+1=>by
  obtain ⟨t,b,g⟩:=yN FB FF FT FW kB kF kT kW c n;have w:=kW.out (Yh FW c n t b);have b2:=kB.out (Vl FB c (n+1) w);exact ⟨kT.out (VM FT c n t g),b2,kF.out (jM FF c (n+1) b2)⟩
end
def JK (a:Ae) (k:Int):List (Key×V):=[(Sum.inr "cells",.ref a),(Sum.inr "at",.int k)]
section
variable (a:Ae) (k:Int)
theorem Q8:vv (JK a k) (Sum.inr "cells")=some (.ref a):=jE rfl
theorem Ze:vv (JK a k) (Sum.inr "at")=some (.int k):=(je qao).trans (jE rfl)
theorem qew (j:Int):jn (JK a k) (Sum.inr "at") (.int j)=JK a j:=by
 unfold jn;rw [if_pos (by rw [JR,Ze];rfl)]
 unfold JK;simp only [A4,Cj];rw [if_neg qao,if_pos trivial]
theorem qex:vQ [] ([(Sum.inr "cells",.ref a),(Sum.inr "at",.int k)]:List (Key×V))=JK a k:=by
 have e1:jn ([]:List (Key×V)) (Sum.inr "cells") (V.ref a)=[]++[(Sum.inr ("cells":Str),V.ref a)]:=Xe _ rfl;have e2:jn ([]++[(Sum.inr ("cells":Str),V.ref a)]:List (Key×V)) (Sum.inr "at") (V.int k)=([]++[(Sum.inr ("cells":Str),V.ref a)])++[(Sum.inr ("at":Str),V.int k)]:=Xe _ ((je qao).trans rfl);show jn (jn ([]:List (Key×V)) (Sum.inr "cells") (V.ref a)) (Sum.inr "at") (V.int k)=JK a k;rw [e1,e2];rfl
end
section
variable {P:Program} {w:World} {K:Frag} {mg:Str→Option Ac} {base:Heap} {f:Ae} {fd:FuncData} {ad:Ad}
def Qe (K:Frag):Sp:=fun vs H Q _=>∃ (d a:Ae) (ns:List Int) (k:Int),vs=[.ref d]∧H d=some (.dK (JK a k))∧SqL K H a (ns.map V.int)∧0≤k∧k≤1000000∧∀ (n:Int) (H':Hp),0≤n→H'=upd H d (.dK (JK a (k+1)))→Q (.int n) H'
theorem Yi (F:Fun K "_law_next" "_law_next" vc f fd) (c:Cs K mg ad) (d_law_cell_at:Def P w K mg base 1 "_law_cell_at" ["_law_script","_law_k"] (yS K)):FnOk P w K mg base CX0 2 f fd ["_law_state"] (Qe K):=by
 refine F.ok jw (fun vs H Q E h=>?_) (fun cdv A outer s H vs Q E hr h=>?_)
 ·obtain ⟨d,a,ns,k,rfl,_⟩:=h;rfl
 obtain ⟨d,a,ns,k,rfl,hd,hS,hk0,hk1,q⟩:=h;have hu:=XI hr;refine ⟨_,(qh (wV hu (pv 0) qg (qo qA (zO hu (pv 0) qg (fun _ _=>rfl)) qi) rfl)
   (qh (pst 1 jw.nd (zO hu (pv 0) qg (fun _ _=>rfl)))
   (qh (pst 2 jw.nd (pdf d_law_cell_at (qd (zO hu (pv 0) qg (fun _ _=>rfl)) (qd (qo qL (pv 1) (qE (yD rfl) (by rfl) c.max_ qei (qd qi (qd (qE (zB (K:=K) rfl) (by rfl) c.len_ zj (qd (zO hu (pv 0) qg (fun _ _=>rfl)) qf)) qf)))) qf))))
   (ql (qx (qo zg (qo qL (qo qA (qo Js (pv 2) qi) (qo Js (qo Js (pv 1) (pv 1)) qi)) qi) qi)))))),?_⟩
 clear hu;refine ⟨_,rfl,_,_,rfl,(by rw [← Ze a k];exact jQ.k (k:=Sum.inr "at") hd),.inl ⟨_,_,rfl,rfl,?_⟩⟩
 refine ⟨_,rfl,d,upd H d (.dK (JK a (k+1))),rfl,(by rw [← qew a k (k+1)];exact X3.k (k:=Sum.inr "at") hd (Cq (show 2≤1000 from O0) O0)),?_⟩
 have hd':upd H d (.dK (JK a (k+1))) d=some (.dK (JK a (k+1))):=upd_same;have hS':SqL K (upd H d (.dK (JK a (k+1)))) a (ns.map V.int):=(Stay.put hd).sqL hS;have gAt:jQ (upd H d (.dK (JK a (k+1)))) d (.str "at") (some (.int (k+1))):=by rw [← Ze a (k+1)];exact jQ.k (k:=Sum.inr "at") hd'
 have gCe:jQ (upd H d (.dK (JK a (k+1)))) d (.str "cells") (some (.ref a)):=by rw [← Q8 a (k+1)];exact jQ.k (k:=Sum.inr "cells") hd'
 have hm:0<(if (((ns.map V.int).length:Nat):Int)>1 then (((ns.map V.int).length:Nat):Int) else 1):=by split <;> omega
 refine ⟨_,rfl,d,_,rfl,gAt,_,rfl,d,_,rfl,gCe,_,rfl,_,rfl,d,_,rfl,gCe,_,_,rfl,.inl ⟨_,hS',rfl⟩,_,_,rfl,_,_,rfl,rfl,hm,a,ns,_,rfl,hS',A7 _ ⋯,fun i=>?_⟩;have b1:qem (k+1) (k+1):= .inl ⟨⋯,⋯⟩;refine ⟨_,rfl,_,_,rfl,rfl,.inr ⟨O0,O0⟩,_,rfl,_,rfl,_,_,rfl,rfl,b1,_,_,rfl,rfl,.inr ⟨O0,O0⟩,.inl ⟨_,_,rfl,rfl,_,_,rfl,rfl,(show (0:Int)<2147483647 from O0),_,_,rfl,rfl,⟨O0,O0⟩,?_⟩⟩;exact q _ _ (Int.ediv_nonneg (A7 _ O0) O0) rfl
structure Wds (ws:List Str):Prop where
 ok:∀ x∈ws,Sho.WOk x∧x.length≤6000
 len:ws.length≤18000
 wl:Sho.wl ws≤100000
theorem Wds.text {ws:List Str} (h:Wds ws):(Str.join " " ws).length≤100000∧(Jf (Str.join " " ws)=true→X4 (Str.join " " ws)=ws)∧(∀ x∈ws,x.length≤6000∧Sho.Asc x)∧((Str.join " " ws).length≤6000→Jf (Str.join " " ws)=true):=by
 have m:=Sho.mixed_join ws.length ws rfl;obtain ⟨e1,e2⟩:=m.words fun x hx=>(h.ok x hx).1;refine ⟨Ar (Sho.join_wl ws) h.wl,fun _=>e1,fun x hx=>⟨(h.ok x hx).2,Sho.ok_asc (h.ok x hx).1⟩,fun hl=>?_⟩;unfold Jf;rw [Ao hl,Bu];exact e2
theorem Zc:∀ ws:List Str,(ws.map (·.length)).sum+ws.length=Sho.wl ws
 | []=>rfl
 | x::r=>by
  have ih:=Zc r;rw [A4,Fd,Ak,Sho.wl_cons];omega
def qcg (K:Frag):Sp:=fun vs H Q _=>∃ p ws,vs=[.ref p]∧SqL K H p (ws.map V.str)∧Wds ws∧Sho.told ws=none∧∀ H',qu H H'→Q (.bl true) H'
theorem WB (F:Fun K "_law_refused" "_law_refused" JM f fd) (c:Cs K mg ad) (d_read:DefX P w K mg base 6 "read" ["text"] (yQ K ad.BadText)):FnOk P w K mg base CX0 7 f fd ["_law_words_here"] (qcg K):=by
 refine F.ok Jj (fun vs H Q E h=>?_) (fun cdv A outer s H vs Q E hr h=>?_)
 ·obtain ⟨p,ws,rfl,_⟩:=h;rfl
 obtain ⟨p,ws,rfl,hS,wd,no,q⟩:=h;refine ⟨_,(qh (qhp (i:=1) (K:=K) rfl (fun _ _=>(ql (jk (vh d_read (hr.mono (by first | decide | omega)) qj1 (qd (vx (K:=K) rfl Ci D9 D8 (WM (K:=K) rfl) qg (qd (pv 0) qf)) qf))))) (fun _=>(qh (pst 2 Jj.nd (Qq (qE (Yv (K:=K) rfl) (by rfl) c.isinstance_ ze (qd (pv 1) (qd (qr (qd (vK c.v_BadTree) (qd (vK c.v_BadName) (qd (vK c.v_BadCount) qf)))) qf))) (JP (qE (Yv (K:=K) rfl) (by rfl) c.isinstance_ ze (qd (pv 1) (qd (qr (qd (vK c.v_BadCode) (qd (vK c.v_NoThing) qf))) qf))))))
   (ql (qx (Vx (qE (Yv (K:=K) rfl) (by rfl) c.isinstance_ ze (qd (pv 1) (qd (vK c.v_BadText) qf))) (Vx (qE (Yv (K:=K) rfl) (by rfl) c.isinstance_ ze (qd (pv 1) (qd (VJ c.ValueError_ W6) qf))) (JP (qda (pv 2))))))))) c.m_LoomError Jj.nd rfl)
   (ql (qx jI))),?_⟩
 obtain ⟨t1,t2,t3,_⟩:=wd.text;refine ⟨rfl,_,rfl,_,p,ws,rfl,rfl,hS,?_,?_⟩
 ·have e:=Zc ws;have a:=wd.wl;have b:((" ":Str)).length=1:=rfl;rw [b];omega
 rw [qgl];refine ⟨_,ws,rfl,t1,t2,t3,wd.len,fun d _ h=>?_,fun _ H1 g1=>⟨_,rfl,c.e1,fun ea hea=>?_⟩⟩
 ·rw [no] at h;cases h
 have h0:upd H1 ea (YE ea ad.BadText) ea=some (YE ea ad.BadText):=upd_same;have g0:=g1.trans (qj hea (YE ea ad.BadText));generalize upd H1 ea (YE ea ad.BadText)=H2 at h0 g0 ⊢;refine qC fun D3 h3 q3=>⟨_,rfl,(by show 3≤Ag;decide),fun p1 hp1=>?_⟩
 have g1:=qj hp1 (.tup [.ref ad.BadTree,.ref ad.BadName,.ref ad.BadCount]);have h1:=g1 _ _ h0;refine ⟨ea,ad.BadText,_,false,rfl,h1,c.k_BadText,.inr ⟨p1,_,_,rfl,upd_same,rfl,c.i1⟩,_,rfl,wL ?_⟩;generalize upd H2 p1 (.tup [.ref ad.BadTree,.ref ad.BadName,.ref ad.BadCount])=H3 at g1 h1 ⊢;refine ⟨_,rfl,(by show 2≤Ag;decide),fun p2 hp2=>?_⟩
 have g2:=qj hp2 (.tup [.ref ad.BadCode,.ref ad.NoThing]);have h2:=g2 _ _ h1;refine ⟨ea,ad.BadText,_,false,rfl,h2,c.k_BadText,.inr ⟨p2,_,_,rfl,upd_same,rfl,c.i2⟩,h3 _ _ ?_⟩;generalize upd H3 p2 (.tup [.ref ad.BadCode,.ref ad.NoThing])=H4 at g2 h2 ⊢;refine ⟨_,rfl,ea,ad.BadText,_,true,rfl,h2,c.k_BadText,.inl ⟨_,rfl,c.i3⟩,_,rfl,J0 ?_⟩;refine ⟨_,rfl,ea,ad.BadText,_,true,rfl,h2,c.k_BadText,.inl ⟨_,rfl,c.i4⟩,_,rfl,J0 ?_⟩;exact ⟨_,rfl,_,rfl,q H4 ((g0.trans g1).trans g2)⟩
theorem bB {B:Bool→Hp→Prop} {b:Bool} {H:Hp} (h1:B true H) (h0:B false H):B b H:=by
 cases b with
 | false=>exact h0
 | true=>exact h1
def Sl (t:TE) (σ:St) (H0:Hp) (ws:List Str):Prop:=∀ H Q,qu H0 H→(∀ p H',qu H H'→H p=none→H' p=some (.lst (ws.map V.str))→Q (.ref p) H')→t σ H Q
def Sw (t:TE) (σ:St) (H0:Hp) (x:Str):Prop:=∀ H (Q:VK),qu H0 H→(∀ H',qu H H'→Q (.str x) H')→t σ H Q
def Sws (t:TA) (σ:St) (H0:Hp) (ws:List Str):Prop:=∀ H (Q:List V→Hp→Prop),qu H0 H→(∀ H',qu H H'→Q (ws.map V.str) H')→t σ H Q
section
variable {t u:TE} {ts:TA} {σ:St} {H H0:Hp} {ws xs:List Str} {x:Str} {i:Nat} {p:Ae} {Q:VK} {r:TS} {D:Ends}
theorem qO:Sw (tC (.str x)) σ H0 x:=fun H Q _ q=>q H (qu.refl _)
theorem qX:Sws zi σ H0 []:=fun H Q _ q=>q H (qu.refl _)
theorem qm (h:Sw t σ H0 x) (r:Sws ts σ H0 ws):Sws (qz t ts) σ H0 (x::ws):=fun H Q g q=>h H _ g fun H1 g1=>r H1 _ (g.trans g1) fun H2 g2=>q H2 (g1.trans g2)
theorem jB (h:Sws ts σ H0 ws) (hl:ws.length≤100:=by decide):Sl (V1 ts) σ H0 ws:=fun H Q g q=>h H _ g fun H1 g1=>⟨Ar (show (ws.map V.str).length≤100 by rw [Aj];exact hl) O0,fun p hp=>q p _ (g1.trans (qj hp _)) (g1.free hp) upd_same⟩
def Sv (t:TE) (σ:St) (H0:Hp) (ws:List Str):Prop:=∀ H (Q:VK),qu H0 H→(∀ p H',qu H H'→H' p=some (.lst (ws.map V.str))→Q (.ref p) H')→t σ H Q
theorem Sl.v (h:Sl t σ H0 ws):Sv t σ H0 ws:=fun H Q g q=>h H Q g fun p H' g' _ e=>q p H' g' e
theorem jA (e:σ[i]?=some (some (.ref p))) (h:H0 p=some (.lst (ws.map V.str))):Sv (qN i) σ H0 ws:=fun H Q g q=>⟨_,e,q p H (qu.refl _) (g _ _ h)⟩
theorem zA (h1:Sv t σ H0 ws) (h2:Sv u σ H0 xs) (hl:ws.length+xs.length≤100000:=by decide):Sl (tOp JS t u) σ H0 (ws++xs):=fun H Q g q=>h1 H _ g fun p1 H1 g1 e1=>h2 H1 _ (g.trans g1) fun p2 H2 g2 e2=>
 qa5 (g2 _ _ e1) e2 (Ar (show (ws.map V.str).length+(xs.map V.str).length≤100000 by rw [Aj,Aj];exact hl) O0) fun p3 hp3=>q p3 _ ((g1.trans g2).trans (qj hp3 _)) ((g1.trans g2).free hp3) (by rw [upd_same,A5])
theorem Sl.set (h:Sl t σ H ws) (q:∀ p H',qu H H'→H p=none→H' p=some (.lst (ws.map V.str))→r D (σ.set i (some (.ref p))) H'):jO (vz t (zD i)) r D σ H:=h H (fun x H1=>r D (σ.set i (some x)) H1) (qu.refl _) q
theorem Sl.ret (h:Sl t σ H ws) (q:∀ p H',qu H H'→H p=none→H' p=some (.lst (ws.map V.str))→D.rt (.ref p) H'):J3 t D σ H:=h H D.rt (qu.refl _) q
theorem XL {ws:List Str} {j:Int} (h0:0≤j) (h1:j<(ws.length:Int)):∃ x∈ws,atI (ws.map V.str) j=some (.str x):=by
 obtain ⟨x,hx⟩:=Jw (l:=ws) (i:=j.toNat) ⋯;refine ⟨x,Br hx,?_⟩;have e:j=((j.toNat:Nat):Int):=⋯;rw [e];exact qw (by rw [Bt,hx];rfl)
theorem Z8 {tk:TE} {j:Int} (h:Sv t σ H0 ws) (ek:∀ H R,qu H0 H→R (.int j) H→tk σ H R) (h0:0≤j) (h1:j<(ws.length:Int)):∃ x∈ws,Sw (tOp (rIx K) t tk) σ H0 x:=by
 obtain ⟨x,hx,e⟩:=XL h0 h1;exact ⟨x,hx,fun H Q g q=>h H _ g fun p H1 g1 e1=>ek _ _ (g.trans g1) (.inl ⟨p,_,j,_,rfl,rfl,SqL.of e1,e,q H1 g1⟩)⟩
end
def yb:Sp:=fun vs H Q _=>∃ more:Int,vs=[.int more]∧∀ H' x,x∈Sho.strange→qu H H'→Q (.str x) H'
seal L2.PE L2.PS L2.PSs L2.PA L2.PT
theorem WA (F:Fun K "_law_strange" "_law_strange" JL f fd) (c:Cs K mg ad):FnOk P w K mg base CX0 1 f fd ["_law_more"] yb:=by
 refine F.ok jF (fun vs H Q E h=>?_) (fun cdv A outer s H vs Q E hr h=>?_)
 ·obtain ⟨more,rfl,_⟩:=h;rfl
 obtain ⟨more,rfl,q⟩:=h;refine ⟨_,(qh (pst 1 jF.nd (qH (qd qg (qd qg (qd qg (qd qg (qd qg (qd qg (qd qg (qd qg (qd qg (qd qg (qd qg (qd qg qf))))))))))))))
   (qh (pst 1 jF.nd (qo qA (pv 1) (qH (qd qg (qd qg (qd qg (qd qg (qd qg (qd qg (qd qg (qd qg (qd qg qf))))))))))))
   (qh (pst 1 jF.nd (qo qA (pv 1) (qH (qd qg (qd qg (qd qg (qd qg (qd qg qf))))))))
   (ql (qx (pix K (pv 1) (qo qL (pv 0) (qE (zB (K:=K) rfl) (by rfl) c.len_ zj (qd (pv 1) qf))))))))),?_⟩
 refine Sl.set (ws:=["Ab","abcdefghi","a1","1a","_","!","+-","==","a.b","x-y","/",">"]) (jB (qm qO (qm qO (qm qO (qm qO (qm qO (qm qO (qm qO (qm qO (qm qO (qm qO (qm qO (qm qO qX))))))))))))) fun p1 H1 g1 _ e1=>?_;refine Sl.set (zA (jA rfl e1) (jB (ws:=["01","+1","--1","-0","1000000000001","-1000000000001","00","1.5","--"]) (qm qO (qm qO (qm qO (qm qO (qm qO (qm qO (qm qO (qm qO (qm qO qX)))))))))).v) fun p2 H2 g2 _ e2=>?_;refine Sl.set (zA (jA rfl e2) (jB (ws:=["12345678901234567890","-01","-00","-007","000"]) (qm qO (qm qO (qm qO (qm qO (qm qO qX)))))).v) fun p3 H3 g3 _ e3=>?_;have i0:=A7 more (show (26:Int)≠0 from O0);have i1:=Az more (show (0:Int)<26 from O0);obtain ⟨x,hx,sx⟩:=Z8 (K:=K) (j:=more % 26) (tk:=tOp (rI (fun x j=>0<j) fun i j=>V.int (i % j)) (qN 0) (tCB (fun xs H Q=>∃ x n,xs=[x]∧qbd K x H n∧Q (V.int ((n:Nat):Int)) H) (qz (qN 1) zi))) (jA (σ:=[some (.int more),some (.ref p3)]) (i:=1) rfl e3) (fun H' R g h=>⟨_,rfl,_,rfl,_,_,rfl,.inl ⟨_,SqL.of (g _ _ e3),rfl⟩,_,_,rfl,rfl,(show (0:Int)<26 from O0),h⟩) i0 i1;refine sx H3 _ (qu.refl _) fun H4 g4=>q H4 x ?_ (((g1.trans g2).trans g3).trans g4);have z:∀ x∈(["Ab","abcdefghi","a1","1a","_","!","+-","==","a.b","x-y","/",">","01","+1","--1","-0","1000000000001","-1000000000001","00","1.5","--","12345678901234567890","-01","-00","-007","000"]:List Str),x∈Sho.strange:=∅;exact z x hx
def qci:Sp:=fun vs H Q _=>∃ more:Int,vs=[.int more]∧∀ H' p ws,qu H H'→H' p=some (.lst (ws.map V.str))→Sho.Bad ws→Q (.ref p) H'
def Qb:Sp:=fun vs H Q _=>∃ p ws more,vs=[.ref p,.int more]∧H p=some (.lst (ws.map V.str))∧Sho.PW ws∧∀ H' p' ws',qu H H'→H' p'=some (.lst (ws'.map V.str))→Sho.Bad ws'→Q (.ref p') H'
def sel (n:Nat) (b:Nat→Bool):List Nat:=(List.range n).filter b
theorem WS {D:Ends} {p:Ae} {ws:List Str} {σ:St} {i:Nat} {tt:TT} {H:Hp} (hσ:σ[0]?=some (some (.ref p))) (hp:H p=some (.lst (ws.map V.str))) (b:Nat→Bool) (hl:ws.length≤6000) (ht:∀ k R,k<ws.length→R (b k) H→tt [some (.int (k:Nat)),some (.ref p)] H R)
  (q:∀ p',H p'=none→D.nx (σ.set i (some (.ref p'))) (upd H p' (.lst ((sel ws.length b).map fun k=>V.int (k:Nat))))):
  vz (YT (QH (qz (tCB (fun xs H Q=>∃ x n,xs=[x]∧qbd K x H n∧Q (V.int ((n:Nat):Int)) H) (qz (qN 0) zi)) zi)) [none,some 0] (zD 0) tt (qN 0)) (zD i) D σ H:=by
 have e0:jC [none,some 0] σ=[none,some (.ref p)]:=by
  unfold jC;simp only [A4,Cj,hσ,Option.join_some]
 refine ⟨_,hσ,_,_,rfl,.inl ⟨_,SqL.of hp,rfl⟩,_,rfl,⋯,?_,?_⟩
 ·rw [Aj];omega
 have el:(((ws.map V.str).length:Nat):Int).toNat=ws.length:=by rw [Aj];exact E9 _
 rw [el];refine jr ws.length (fun i ys H'=>H'=H∧ys=(sel i b).map fun k=>V.int (k:Nat)) ⟨rfl,rfl⟩ (fun i ys H' h=>?_) (Ar hl O0) (fun i ys H' hi h=>?_) (fun ys H' h=>?_)
 ·rw [h.2,Aj];have:=List.length_filter_le b (List.range i);rw [Er] at this;exact this
 ·obtain ⟨rfl,rfl⟩:=h;refine ⟨hi,fun v H3 yl=>?_⟩;obtain ⟨rfl,rfl⟩:=yl;rw [e0];have e1:(0:Int)+(i:Int)=(i:Int):=Int.zero_add _;rw [e1];refine ht i _ hi ?_;have e2:sel (i+1) b=sel i b++(if b i=true then [i] else []):=by
   unfold sel;rw [List.range_succ,List.filter_append];cases hb:b i with
   | true=>rw [if_pos rfl,List.filter_cons_of_pos hb];rfl
   | false=>rw [if_neg Ai,List.filter_cons_of_neg (by rw [hb];exact Ai)];rfl
  cases hb:b i with
  | true=>
   rw [if_pos rfl];rw [hb,if_pos rfl] at e2;exact ⟨_,rfl,rfl,by rw [e2,A5];rfl⟩
  | false=>
   rw [if_neg Ai];rw [hb,if_neg Ai,Bo] at e2;exact ⟨rfl,by rw [e2]⟩
 ·obtain ⟨rfl,rfl⟩:=h;exact ⟨Aw _,q⟩
def QD (x:Str):Nat:=x.cps.toList.getLastD 0
theorem ZL {x:Str} (h:Sho.WOk x):atI x.cps.toList (-1)=some (QD x):=by
 have ne:x.cps.toList≠[]:=by
  rcases h with rfl | rfl | h
  ·decide+kernel
  ·decide+kernel
  ·exact h.2
 obtain ⟨r,c,e⟩:∃ r c,x.cps.toList=r++[c]:=⟨_,_,(List.dropLast_concat_getLast ne).symm⟩;unfold QD;rw [e,WZ,List.getLastD_eq_getLast?,List.getLast?_concat];rfl
def wN (ws:List Str) (k:Nat):Bool:=match ws[k]? with
 | some x=>!(Builtin.Str.occurrences ("0123456789":Str) ⟨#[QD x]⟩ 0 ("0123456789":Str).length 1).isEmpty
 | none=>false
def vL (ws:List Str) (k:Nat):Bool:=match ws[k]? with
 | some x=>Sho.isB x
 | none=>false
theorem qhi {n:Nat} {b:Nat→Bool} {k:Nat} (h:k∈sel n b):k<n∧b k=true:=by
 unfold sel at h;rw [E2,De] at h;exact h
theorem qcq {n:Nat} {b:Nat→Bool} {j:Int} (h0:0≤j) (h1:j<((sel n b).length:Int)):∃ k,k<n∧b k=true∧atI ((sel n b).map fun k=>V.int (k:Nat)) j=some (.int (k:Nat)):=by
 obtain ⟨k,hk⟩:=Jw (l:=sel n b) (i:=j.toNat) ⋯;have z:=qhi (Br hk);refine ⟨k,z.1,z.2,?_⟩;have e:j=((j.toNat:Nat):Int):=⋯;rw [e];exact qw (by rw [Bt,hk];rfl)
theorem XF (ks:List Nat):SeqAt.shaped (.list (ks.map fun k=>PyData.int (k:Nat)))=true:=by
 have z:PyData.canLayAll0 (ks.map fun k=>PyData.int (k:Nat))=true∧PyData.depthAll (ks.map fun k=>PyData.int (k:Nat))=0:=by
  induction ks with
  | nil=>exact ⟨rfl,rfl⟩
  | cons k r ih=>
   rw [A4,PyData.canLayAll0,PyData.depthAll,ih.1,ih.2];exact ⟨rfl,rfl⟩
 unfold SeqAt.shaped;rw [PyData.canLay0,z.1,PyData.depth,z.2];rfl
theorem Xa {H:Hp}:∀ ks:List Nat,Reps K H (ks.map fun k=>V.int (k:Nat)) (ks.map fun k=>PyData.int (k:Nat))
 | []=> .nil
 | _::r=> .cons (.int _) (Xa r)
theorem cut_drop (xs:List V) (m:Nat):zG xs (some (m:Int)) none=xs.drop m:=by
 unfold zG;rw [HT.sIx_nat,HT.sIx_none]
 by_cases h:m≤xs.length
 ·rw [Nat.min_eq_left h,← B5,Cu]
 ·rw [Nat.min_eq_right ⋯,List.drop_length,List.drop_eq_nil_of_le ⋯,List.take_nil]
section
variable {t:TE} {σ:St} {H0:Hp} {ws:List Str} {tl th:TO}
theorem vZ (k:Nat) (h:Sv t σ H0 ws) (eh:∀ H R,qu H0 H→R (some (k:Int)) H→th σ H R):Sl (tSl (Xd K) t VF th) σ H0 (ws.take k):=fun H Q g q=>h H _ g fun p H1 g1 e1=>eh _ _ (g.trans g1) (.inl ⟨p,_,rfl,SqL.of e1,fun p2 hp2=>q p2 _ (g1.trans (qj hp2 _)) (g1.free hp2) (by rw [upd_same,VU _ _ k rfl,Fc])⟩)
theorem J4 (m:Nat) (h:Sv t σ H0 ws) (el:∀ H R,qu H0 H→R (some (m:Int)) H→tl σ H R):Sl (tSl (Xd K) t tl VF) σ H0 (ws.drop m):=fun H Q g q=>h H _ g fun p H1 g1 e1=>el _ _ (g.trans g1) (.inl ⟨p,_,rfl,SqL.of e1,fun p2 hp2=>q p2 _ (g1.trans (qj hp2 _)) (g1.free hp2) (by rw [upd_same,cut_drop,List.map_drop])⟩)
theorem qg9 {tk:TE} {j:Int} (ek:∀ H R,qu H0 H→R (.int j) H→tk σ H R) (h0:0≤j) (h1:j<2):∃ x:Str,(x="("∨x=")")∧Sw (tOp (rIx K) (tC (.str "()")) tk) σ H0 x:=by
 have e:j=0∨j=1:=⋯;rcases e with rfl | rfl
 ·exact ⟨"(",.inl rfl,fun H Q g q=>ek _ _ g (.inr (.inr ⟨_,_,40,rfl,rfl,O0,∅,q H (qu.refl _)⟩))⟩
 ·exact ⟨")",.inr rfl,fun H Q g q=>ek _ _ g (.inr (.inr ⟨_,_,41,rfl,rfl,O0,∅,q H (qu.refl _)⟩))⟩
def Lls (t:TA) (σ:St) (H0:Hp) (Ws:List (List Str)):Prop:=∀ H (Q:List V→Hp→Prop),qu H0 H→(∀ ps H',qu H H'→Paired (fun (p:Ae) (ws:List Str)=>H' p=some (.lst (ws.map V.str))) ps Ws→Q (ps.map V.ref) H')→t σ H Q
theorem qfw:Lls zi σ H0 []:=fun H Q _ q=>q [] H (qu.refl _) .nil
theorem Jt {ts:TA} {Ws:List (List Str)} (h:Sl t σ H0 ws) (r:Lls ts σ H0 Ws):Lls (qz t ts) σ H0 (ws::Ws):=fun H Q g q=>h H _ g fun p H1 g1 _ e1=>r H1 _ (g.trans g1) fun ps H2 g2 pr=>q (p::ps) H2 (g1.trans g2) (.cons (g2 _ _ e1) pr)
theorem Wy {α β:Type} {R:α→β→Prop}:∀ {as:List α} {bs:List β} {i:Nat},Paired R as bs→i<bs.length→∃ a b,as[i]?=some a∧b∈bs∧R a b
 | _,_,0,.cons h _,_=>⟨_,_,rfl,Ay,h⟩
 | _,_,i+1,.cons _ t,hi=>by
  obtain ⟨a,b,e,m,r⟩:=Wy (i:=i) t (by rw [Ak] at hi;omega)
  exact ⟨a,b,e,Au _ m,r⟩
theorem qib {ts:TA} {Ws:List (List Str)} {tk:TE} {j:Int} {D:Ends} (h:Lls ts σ H0 Ws) (hl:Ws.length≤100) (ek:∀ H R,qu H0 H→R (.int j) H→tk σ H R) (h0:0≤j) (h1:j<(Ws.length:Int)) (q:∀ p H' ws,ws∈Ws→qu H0 H'→H' p=some (.lst (ws.map V.str))→D.rt (.ref p) H'):J3 (tOp (rIx K) (V1 ts) tk) D σ H0:=by
 refine h H0 _ (qu.refl _) fun ps H1 g1 pr=>⟨Ar (show (ps.map V.ref).length≤100 by rw [Aj,Cw pr];exact hl) O0,fun p hp=>ek _ _ (g1.trans (qj hp _)) ?_⟩
 obtain ⟨a,ws,e,m,r⟩:=Wy (i:=j.toNat) pr ⋯;have ej:j=((j.toNat:Nat):Int):=⋯;refine .inl ⟨p,_,j,.ref a,rfl,rfl,SqL.of upd_same,?_,q a _ ws m (g1.trans (qj hp _)) (qj hp _ _ _ r)⟩;rw [ej];exact qw (by rw [Bt,e];rfl)
theorem qir (xs:List V) (h:2≤xs.length):zG xs (some 1) (some (-1))=xs.dropLast.drop 1:=by
 unfold zG;have e1:HT.sIx xs.length 0 (some 1)=1:=by
  rw [show (1:Int)=((1:Nat):Int) from rfl,HT.sIx_nat];omega
 have e2:HT.sIx xs.length xs.length (some (-1))=xs.length - 1:=by
  show (if (-1:Int)<0 then ((-1:Int)+(xs.length:Int)).toNat else min (-1:Int).toNat xs.length)=_
  rw [if_pos O0];omega
 rw [e1,e2,List.dropLast_eq_take,List.drop_take]
theorem qgb (xs:List V) (h:1≤xs.length):zG xs none (some (-1))=xs.dropLast:=by
 unfold zG;have e2:HT.sIx xs.length xs.length (some (-1))=xs.length - 1:=by
  show (if (-1:Int)<0 then ((-1:Int)+(xs.length:Int)).toNat else min (-1:Int).toNat xs.length)=_
  rw [if_pos O0];omega
 rw [HT.sIx_none,e2,List.dropLast_eq_take,List.drop_zero,Nat.sub_zero]
theorem qga (xs:List V) (h:1≤xs.length):zG xs (some (-1)) none=xs.drop (xs.length - 1):=by
 unfold zG;have e2:HT.sIx xs.length 0 (some (-1))=xs.length - 1:=by
  show (if (-1:Int)<0 then ((-1:Int)+(xs.length:Int)).toNat else min (-1:Int).toNat xs.length)=_
  rw [if_pos O0];omega
 rw [HT.sIx_none,e2];exact Dd (by rw [B5];omega)
theorem qji (h:Sv t σ H0 ws) (h2:2≤ws.length) (el:∀ H R,qu H0 H→R (some (1:Int)) H→tl σ H R) (eh:∀ H R,qu H0 H→R (some (-1:Int)) H→th σ H R):Sl (tSl (Xd K) t tl th) σ H0 (ws.dropLast.drop 1):=fun H Q g q=>h H _ g fun p H1 g1 e1=>el _ _ (g.trans g1) (eh _ _ (g.trans g1) (.inl ⟨p,_,rfl,SqL.of e1,fun p2 hp2=>q p2 _ (g1.trans (qj hp2 _)) (g1.free hp2) (by rw [upd_same,qir _ (by rw [Aj];exact h2),List.map_drop,List.map_dropLast])⟩))
theorem qhf (h:Sv t σ H0 ws) (h1:1≤ws.length) (eh:∀ H R,qu H0 H→R (some (-1:Int)) H→th σ H R):Sl (tSl (Xd K) t VF th) σ H0 ws.dropLast:=fun H Q g q=>h H _ g fun p H1 g1 e1=>eh _ _ (g.trans g1) (.inl ⟨p,_,rfl,SqL.of e1,fun p2 hp2=>q p2 _ (g1.trans (qj hp2 _)) (g1.free hp2) (by rw [upd_same,qgb _ (by rw [Aj];exact h1),List.map_dropLast])⟩)
theorem qhe (h:Sv t σ H0 ws) (h1:1≤ws.length) (el:∀ H R,qu H0 H→R (some (-1:Int)) H→tl σ H R):Sl (tSl (Xd K) t tl VF) σ H0 (ws.drop (ws.length - 1)):=fun H Q g q=>h H _ g fun p H1 g1 e1=>el _ _ (g.trans g1) (.inl ⟨p,_,rfl,SqL.of e1,fun p2 hp2=>q p2 _ (g1.trans (qj hp2 _)) (g1.free hp2) (by rw [upd_same,qga _ (by rw [Aj];exact h1),Aj,List.map_drop])⟩)
end
def texts:List Str:=["( do","( do x y )","( let x )","( let 5 x )","( hand )","( if x ( ) )","( while x )","( x )","x","7","( fault 5 x )","( fault any x )","( try ( ) a b ( ) )","( try ( ) 1 b ( ) ( ) )","( do ( + 1 ) )","( do ( fun x ) )","( do ( fun ( x x ) ) )","( do ( step x ) )","( do ( call ) )","( do ( ) )","( do ( fun ( ) ( hand x ) ) )","( fun ( ) )","( do ( let x 1 ) )","( back )","( ( do x ) )","( )","( if x y ( ) )","( while x y )","( do ( call x a b c d e ) )","( do ( fun ( a b c d e ) ) )","( set x )"]
theorem YQ:∀ y∈texts,Txt.split y " "∈Sho.pieces∧y.length≤1000∧(Builtin.Str.partsBetween y (Builtin.Str.occurrences y " " 0 y.length (y.length+1)) (" ":Str).length).length≤1000:=∅
theorem Yg (F:Fun K "_law_wrong" "_law_wrong" jy f fd) (c:Cs K mg ad) (k:Nat) (d_law_too_much:Def P w K mg base k "_law_too_much" ["_law_more"] qci) (d_law_strange:Def P w K mg base 1 "_law_strange" ["_law_more"] yb) (hk:1≤k):FnOk P w K mg base CX0 (k+1) f fd ["_law_words_here","_law_more"] Qb:=by
 refine F.ok (k:=k) qM (fun vs H Q E h=>?_) (fun cdv A outer s H vs Q E hr h=>?_)
 ·obtain ⟨p,ws,more,rfl,_⟩:=h;rfl
 obtain ⟨p,ws,more,rfl,hp,pw,q⟩:=h;have hu64:=hr.units;refine ⟨_,(qh (pst 2 qM.nd (qo qL (pv 1) qi))
   (qh (pst 1 qM.nd (qo zg (pv 1) qi))
   (qh (qJ (qv qZ (pv 2) qi (qD _)) (ql (qx (pdf d_law_too_much (qd (pv 1) qf)))) qB)
   (qh (wU (i:=3) qM.nd rfl (by first | exact Or.inl rfl | exact Or.inr rfl) (sc:=qp jy) (NX:=["_law_words_here","_law_more","_law_way","_law_figures","_law_at","_law_some","_law_plain","_law_brackets"]) (N:=["_law_k","_law_words_here"]) (js:=[none,some 0]) (zW rfl c.range_ (qd (qE (zB (K:=K) rfl) (by rfl) c.len_ zj (qd (pv 0) qf)) qf)) (fun _ _ _ _ _=>(zK (i:=0) (show (["_law_k","_law_words_here"]:List Str).Nodup from ∅) rfl (Or.inl rfl))) (fun _ _ _ _ _=>(Zt (qv yg (pix K (pix K (pv 1) (pv 0)) (Ww Vp qi)) qg rfl))) (fun _ _ _ _ _=>(pv 0)) (zU rfl) ⟨∅,rfl,∅,∅,rfl,∅⟩)
   (qh (qJ (PW.pt (vJ (qv qZ (pv 2) qi (qD _)) (JD (qv (qgw (K:=K) rfl hu64) (pv 3) (qH qf) (qD _))))) (qh (pst 4 qM.nd (pix K (pv 3) (qo qL (pv 1) (qE (zB (K:=K) rfl) (by rfl) c.len_ zj (qd (pv 3) qf)))))
   (qh (pst 5 qM.nd (qH (qd qg (qd qg (qd qg (qd qg (qd qg (qd qg (qd qg (qd qg (qd qg (qd qg (qd qg qf)))))))))))))
   (ql (qx (qo qA (qo qA (qU (jP (K:=K) rfl) (pv 0) zk (qY (pv 4))) (qH (qd (pix K (pv 5) (qo qL (qo zg (pv 1) qi) qi)) qf))) (qU (jP (K:=K) rfl) (pv 0) (qY (qo qA (pv 4) qi)) zk)))))) qB)
   (qh (pst 4 qM.nd (qo qL (pv 1) (qo qA (qE (zB (K:=K) rfl) (by rfl) c.len_ zj (qd (pv 0) qf)) qi)))
   (qh (wU (i:=6) qM.nd rfl (by first | exact Or.inl rfl | exact Or.inr rfl) (sc:=qp jy) (NX:=["_law_words_here","_law_more","_law_way","_law_figures","_law_at","_law_some","_law_plain","_law_brackets"]) (N:=["_law_k","_law_words_here"]) (js:=[none,some 0]) (zW rfl c.range_ (qd (qE (zB (K:=K) rfl) (by rfl) c.len_ zj (qd (pv 0) qf)) qf)) (fun _ _ _ _ _=>(zK (i:=0) (show (["_law_k","_law_words_here"]:List Str).Nodup from ∅) rfl (Or.inl rfl))) (fun _ _ _ _ _=>(Zt (qv Yd (pix K (pv 1) (pv 0)) qg rfl))) (fun _ _ _ _ _=>(pv 0)) (zU rfl) ⟨∅,rfl,∅,∅,rfl,∅⟩)
   (qh (wU (i:=7) qM.nd rfl (by first | exact Or.inl rfl | exact Or.inr rfl) (sc:=qp jy) (NX:=["_law_words_here","_law_more","_law_way","_law_figures","_law_at","_law_some","_law_plain","_law_brackets"]) (N:=["_law_k","_law_words_here"]) (js:=[none,some 0]) (zW rfl c.range_ (qd (qE (zB (K:=K) rfl) (by rfl) c.len_ zj (qd (pv 0) qf)) qf)) (fun _ _ _ _ _=>(zK (i:=0) (show (["_law_k","_law_words_here"]:List Str).Nodup from ∅) rfl (Or.inl rfl))) (fun _ _ _ _ _=>(Zt (qv yg (pix K (pv 1) (pv 0)) qg rfl))) (fun _ _ _ _ _=>(pv 0)) (zU rfl) ⟨∅,rfl,∅,∅,rfl,∅⟩)
   (qh (qJ (qv qZ (pv 2) qi (qD _)) (qh (pst 4 qM.nd (pix K (pv 7) (qo qL (pv 1) (qE (zB (K:=K) rfl) (by rfl) c.len_ zj (qd (pv 7) qf)))))
   (ql (qx (qo qA (qU (jP (K:=K) rfl) (pv 0) zk (qY (pv 4))) (qU (jP (K:=K) rfl) (pv 0) (qY (qo qA (pv 4) qi)) zk))))) qB)
   (qh (qJ (qv qZ (pv 2) qi (qD _)) (ql (qx (qo qA (qo qA (qU (jP (K:=K) rfl) (pv 0) zk (qY (pv 4))) (qH (qd (pix K qg (qo qL (qo zg (pv 1) qi) qi)) qf))) (qU (jP (K:=K) rfl) (pv 0) (qY (pv 4)) zk)))) qB)
   (qh (qJ (qv qZ (pv 2) qi (qD _)) (qh (pst 4 qM.nd (pix K (pv 6) (qo qL (pv 1) (qE (zB (K:=K) rfl) (by rfl) c.len_ zj (qd (pv 6) qf)))))
   (ql (qx (qo qA (qo qA (qU (jP (K:=K) rfl) (pv 0) zk (qY (pv 4))) (qH (qd (pdf d_law_strange (qd (qo zg (pv 1) qi) qf)) qf))) (qU (jP (K:=K) rfl) (pv 0) (qY (qo qA (pv 4) qi)) zk))))) qB)
   (qh (qJ (qv qZ (pv 2) qi (qD _)) (ql (qx (qo qA (qo qA (qU (jP (K:=K) rfl) (pv 0) zk (qY (pv 4))) (qH (qd (pix K (qH (qd qg (qd qg (qd qg (qd qg (qd qg qf)))))) (qo qL (qo zg (pv 1) qi) qi)) qf))) (qU (jP (K:=K) rfl) (pv 0) (qY (pv 4)) zk)))) qB)
   (qh (qJ (qv qZ (pv 2) qi (qD _)) (ql (qx (pix K (qH (qd (qo qA (pv 0) (pv 0)) (qd (qH qf) (qd (qH (qd qg (qd qg qf))) (qd (qH (qd qg qf)) (qd (qH (qd qg (qd qg (qd qg qf)))) (qd (qo qA (pv 0) (qH (qd qg qf))) (qd (qU (jP (K:=K) rfl) (pv 0) (qY qi) (qY (Ww Vp qi))) qf)))))))) (qo qL (pv 1) qi)))) qB)
   (qh (qJ (qv qZ (pv 2) qi (qD _)) (ql (qx (qo qA (qo qA (qH (qd qg qf)) (qU (jP (K:=K) rfl) (qU (jP (K:=K) rfl) (qH (qd qg (qd qg (qd qg (qd qg (qd qg (qd qg qf))))))) (qY (qo qL (pv 1) qi)) zk) zk (qY qi))) (qU (jP (K:=K) rfl) (pv 0) (qY qi) zk)))) qB)
   (qh (pst 5 qM.nd (qH (qd qg (qd qg (qd qg (qd qg (qd qg qf)))))))
   (qh (pst 5 qM.nd (qo qA (pv 5) (qH (qd qg (qd qg (qd qg (qd qg (qd qg qf))))))))
   (qh (pst 5 qM.nd (qo qA (pv 5) (qH (qd qg (qd qg (qd qg qf))))))
   (qh (pst 5 qM.nd (qo qA (pv 5) (qH (qd qg (qd qg qf)))))
   (qh (pst 5 qM.nd (qo qA (pv 5) (qH (qd qg (qd qg (qd qg qf))))))
   (qh (pst 5 qM.nd (qo qA (pv 5) (qH (qd qg (qd qg qf)))))
   (qh (pst 5 qM.nd (qo qA (pv 5) (qH (qd qg (qd qg (qd qg qf))))))
   (qh (pst 5 qM.nd (qo qA (pv 5) (qH (qd qg (qd qg (qd qg qf))))))
   (qh (pst 5 qM.nd (qo qA (pv 5) (qH (qd qg (qd qg (qd qg qf))))))
   (qh (pst 5 qM.nd (qo qA (pv 5) (qH (qd qg (qd qg qf)))))
   (ql (qx (qo qA (qo qA (qU (jP (K:=K) rfl) (pv 0) zk (qY (Ww Vp qi))) (vx (K:=K) rfl Ci PySem.F.slot_str_split PySem.F.type_str_split qap (pix K (pv 5) (qo qL (pv 1) (qE (zB (K:=K) rfl) (by rfl) c.len_ zj (qd (pv 5) qf)))) (qd qg qf))) (qU (jP (K:=K) rfl) (pv 0) (qY (Ww Vp qi)) zk)))))))))))))))))))))))))))),?_⟩
 clear hu64;refine qC fun D1 h1 q1=>⟨_,rfl,_,_,rfl,rfl,(show (0:Int)<9 from O0),h1 _ _ ?_⟩;refine qC fun D2 h2 q2=>⟨_,rfl,_,_,rfl,rfl,⟨O0,O0⟩,h2 _ _ ?_⟩;show jO _ _ _ [some (.ref p),some (.int (more / 9)),some (.int (more % 9)),none,none,none,none,none] H;generalize more / 9=mo;generalize more % 9=way;clear h1 q1 h2 q2;refine qC fun D1 h1 q1=>zb fun B t1 t2=>⟨_,rfl,rfl,_,rfl,bB (t1 _ ⟨_,rfl,mo,rfl,fun H' p' ws' g e b=>q1 _ _ (q _ _ _ g e b)⟩) (t2 _ (h1 _ _ ?_))⟩;clear h1 q1 t1 t2;have lw:ws.length≤6000:=Ar (Sho.len_wl ws) pw.lg;have wi:∀ {H':Hp} {k:Nat} {R:VK},qu H H'→k<ws.length→(∀ x,ws[k]?=some x→R (.str x) H')→rIx K (.ref p) (.int (k:Nat)) H' R:=fun g hk hR=>by
  obtain ⟨x,hx⟩:=Jw (l:=ws) hk;exact .inl ⟨p,_,_,_,rfl,rfl,SqL.of (g _ _ hp),qw (by rw [Bt,hx];rfl),hR x hx⟩
 refine qC fun D1 h1 q1=>WS rfl hp (wN ws) lw (fun k R hk hR=>⟨_,rfl,_,rfl,wi (qu.refl _) hk fun x hx=>?_⟩) fun pf hpf=>h1 _ _ ?_
 ·have hx2:=pw.ok x (Br hx);refine ⟨1,rfl,.inr (.inr ⟨x,-1,QD x,rfl,rfl,Ar (show x.length≤14 from hx2.2) O0,ZL hx2.1,_,_,rfl,rfl,_,rfl,?_⟩)⟩;unfold wN at hR;rw [hx] at hR;exact hR
 clear h1 q1;have gf:=qj hpf (.lst ((sel ws.length (wN ws)).map fun k=>V.int (k:Nat)));have ef:upd H pf (.lst ((sel ws.length (wN ws)).map fun k=>V.int (k:Nat))) pf=some (.lst ((sel ws.length (wN ws)).map fun k=>V.int (k:Nat))):=upd_same;generalize upd H pf (.lst ((sel ws.length (wN ws)).map fun k=>V.int (k:Nat)))=H1 at gf ef ⊢;refine qC fun D1 h1 q1=>zb fun B t1 t2=>?_;have low:∀ H2,qu H1 H2→B false H2:=fun H2 g2=>t2 _ (h1 _ _ ?_)
 ·refine ⟨_,rfl,rfl,_,rfl,VC (fun _=>⟨_,rfl,(show 0≤Ag from B2 _),fun pe hpe=>?_⟩) (fun _=>low _ (qu.refl _))⟩;have ge:=qj hpe (.lst []);have ef2:=ge _ _ ef;have ee:upd H1 pe (.lst []) pe=some (.lst []):=upd_same;generalize upd H1 pe (.lst [])=H2 at ge ef2 ee ⊢;refine ⟨.list ((sel ws.length (wN ws)).map fun k=>PyData.int (k:Nat)),.list [],.lst (SqL.of ef2) (Xa _),.lst (SqL.of ee) .nil,XF _,rfl,_,rfl,?_⟩
  by_cases ne:sel ws.length (wN ws)=[]
  ·exact bN (by rw [ne];rfl) (low _ ge)
  refine bP (by cases h:sel ws.length (wN ws) with | nil=>exact absurd h ne | cons _ _=>rfl) (t1 _ ?_)
  clear low t1 t2;have lp:(0:Int)<(((sel ws.length (wN ws)).map fun k=>V.int (k:Nat)).length:Nat):=by
   rw [Aj];have:=List.length_pos_iff.mpr ne;omega
  obtain ⟨k,hk,_,ek⟩:=qcq (n:=ws.length) (b:=wN ws) (j:=mo % (((sel ws.length (wN ws)).map fun k=>V.int (k:Nat)).length:Nat)) (A7 _ ⋯) (by have:=Az mo lp;rw [Aj] at this ⊢;exact this)
  refine qC fun D2 h2 q2=>⟨_,rfl,_,rfl,_,rfl,_,_,rfl,.inl ⟨_,SqL.of ef2,rfl⟩,_,_,rfl,rfl,lp,.inl ⟨pf,_,_,_,rfl,rfl,SqL.of ef2,ek,h2 _ _ ?_⟩⟩;clear h2 q2;have hp2:=(gf.trans ge) _ _ hp;refine Sl.set (ws:=["01","+1","--1","-0","1000000000001","-1000000000001","00","1.5","-01","-00","007"]) (jB (qm qO (qm qO (qm qO (qm qO (qm qO (qm qO (qm qO (qm qO (qm qO (qm qO (qm qO qX)))))))))))) fun p3 H3 g3 _ e3=>?_;have hp3:=g3 _ _ hp2;obtain ⟨x,hx,sx⟩:=Z8 (K:=K) (j:=mo / 7 % 11) (tk:=tOp (rI (fun x j=>0<j) fun i j=>V.int (i % j)) (tOp (rI YK fun i j=>V.int (i / j)) (qN 1) (tC (V.int 7))) (tC (V.int 11))) (jA (σ:=[some (.ref p),some (.int mo),some (.int way),some (.ref pf),some (.int (k:Nat)),some (.ref p3),none,none]) (i:=5) rfl e3) (fun H' R g h=>⟨_,rfl,_,_,rfl,rfl,⟨O0,O0⟩,_,_,rfl,rfl,(show (0:Int)<11 from O0),h⟩) (A7 _ O0) (Az _ O0);have hs:x∈Sho.strange:=by
   have z:∀ x∈(["01","+1","--1","-0","1000000000001","-1000000000001","00","1.5","-01","-00","007"]:List Str),x∈Sho.strange:=∅;exact z x hx
  refine Sl.ret (zA (zA (vZ (K:=K) k (jA rfl hp3) (fun H' R g h=>⟨_,rfl,_,rfl,h⟩)).v (jB (qm sx qX) (by simp)).v (by simp only [Bm,Ak,A2];omega)).v (J4 (K:=K) (k+1) (jA rfl hp3) (fun H' R g h=>⟨_,rfl,.inl ⟨_,_,rfl,rfl,_,rfl,h⟩⟩)).v (by simp only [Am,Bm,B5,Ak,A2];omega)) fun p' H' g' _ e'=>q1 _ _ (q _ _ _ (((gf.trans ge).trans g3).trans g') e' (pw.strange hs (.inr rfl)))
 have fin:∀ H' p' ws',qu H2 H'→H' p'=some (.lst (ws'.map V.str))→Sho.Bad ws'→Q (.ref p') H':=fun H' p' ws' g e b=>q _ _ _ ((gf.trans g2).trans g) e b;have hp2:=(gf.trans g2) _ _ hp;have ef2:=g2 _ _ ef;clear q t1 t2 h1 q1 ef wi;generalize H2=H3 at fin hp2 ef2 ⊢;have lp:(0:Int)<(((ws.map V.str).length:Nat):Int)+1:=⋯;refine qC fun D1 h1 q1=>⟨_,rfl,_,rfl,_,_,rfl,.inl ⟨_,SqL.of hp2,rfl⟩,.inl ⟨_,_,rfl,rfl,_,_,rfl,rfl,lp,h1 _ _ ?_⟩⟩;have i0:=A7 mo (show (((ws.map V.str).length:Nat):Int)+1≠0 from ⋯);have i1:=Az mo lp;obtain ⟨at_,ea⟩:∃ i:Nat,mo % ((((ws.map V.str).length:Nat):Int)+1)=(i:Int):=⟨_,(Int.toNat_of_nonneg i0).symm⟩;show jO _ _ _ [some (.ref p),some (.int mo),some (.int way),some (.ref pf),some (.int (mo % ((((ws.map V.str).length:Nat):Int)+1))),none,none,none] H3;rw [ea];clear h1 q1 i0 i1 lp ea;have wi:∀ {H':Hp} {k:Nat} {R:VK},qu H3 H'→k<ws.length→(∀ x,ws[k]?=some x→R (.str x) H')→rIx K (.ref p) (.int (k:Nat)) H' R:=fun g hk hR=>by
  obtain ⟨x,hx⟩:=Jw (l:=ws) hk;exact .inl ⟨p,_,_,_,rfl,rfl,SqL.of (g _ _ hp2),qw (by rw [Bt,hx];rfl),hR x hx⟩
 refine qC fun D1 h1 q1=>WS rfl hp2 (fun k=>!vL ws k) lw (fun k R hk hR=>⟨_,rfl,_,rfl,wi (qu.refl _) hk fun x hx=>⟨_,_,rfl,rfl,_,rfl,?_⟩⟩) fun pl hpl=>h1 _ _ ?_
 ·have hx2:=pw.ok x (Br hx);have z:=Sho.in_par hx2.1;unfold vL at hR;rw [hx] at hR;rw [z];exact hR
 clear h1 q1;have gl:=qj hpl (.lst ((sel ws.length fun k=>!vL ws k).map fun k=>V.int (k:Nat)));have el:upd H3 pl (.lst ((sel ws.length fun k=>!vL ws k).map fun k=>V.int (k:Nat))) pl=some (.lst ((sel ws.length fun k=>!vL ws k).map fun k=>V.int (k:Nat))):=upd_same
 replace hp2:=gl _ _ hp2
 have fin4:∀ H' p' ws',qu (upd H3 pl (.lst ((sel ws.length fun k=>!vL ws k).map fun k=>V.int (k:Nat)))) H'→H' p'=some (.lst (ws'.map V.str))→Sho.Bad ws'→Q (.ref p') H':=fun H' p' ws' g e b=>fin _ _ _ (gl.trans g) e b;clear fin wi;generalize upd H3 pl (.lst ((sel ws.length fun k=>!vL ws k).map fun k=>V.int (k:Nat)))=H4 at fin4 hp2 el ⊢;have wi:∀ {H':Hp} {k:Nat} {R:VK},qu H4 H'→k<ws.length→(∀ x,ws[k]?=some x→R (.str x) H')→rIx K (.ref p) (.int (k:Nat)) H' R:=fun g hk hR=>by
  obtain ⟨x,hx⟩:=Jw (l:=ws) hk;exact .inl ⟨p,_,_,_,rfl,rfl,SqL.of (g _ _ hp2),qw (by rw [Bt,hx];rfl),hR x hx⟩
 refine qC fun D1 h1 q1=>WS rfl hp2 (fun k=>vL ws k) lw (fun k R hk hR=>⟨_,rfl,_,rfl,wi (qu.refl _) hk fun x hx=>⟨_,_,rfl,rfl,_,rfl,?_⟩⟩) fun pb hpb=>h1 _ _ ?_
 ·have hx2:=pw.ok x (Br hx);have z:=Sho.in_par hx2.1;unfold vL at hR;rw [hx] at hR;rw [z];exact hR
 clear h1 q1 wi;have gb:=qj hpb (.lst ((sel ws.length fun k=>vL ws k).map fun k=>V.int (k:Nat)));have eb:upd H4 pb (.lst ((sel ws.length fun k=>vL ws k).map fun k=>V.int (k:Nat))) pb=some (.lst ((sel ws.length fun k=>vL ws k).map fun k=>V.int (k:Nat))):=upd_same
 replace hp2:=gb _ _ hp2
 replace el:=gb _ _ el
 have fin:∀ H' p' ws',qu (upd H4 pb (.lst ((sel ws.length fun k=>vL ws k).map fun k=>V.int (k:Nat)))) H'→H' p'=some (.lst (ws'.map V.str))→Sho.Bad ws'→Q (.ref p') H':=fun H' p' ws' g e b=>fin4 _ _ _ (gb.trans g) e b;clear fin4;generalize upd H4 pb (.lst ((sel ws.length fun k=>vL ws k).map fun k=>V.int (k:Nat)))=H5 at fin hp2 el eb ⊢;obtain ⟨r,er⟩:=pw.begins;have hlen2:2≤ws.length:=by rw [er,Ak,Ak];omega
 have nb:0∈sel ws.length fun k=>vL ws k:=by
  unfold sel;rw [E2,De];refine ⟨⋯,?_⟩;rw [er];rfl
 have nl:1∈sel ws.length fun k=>!vL ws k:=by
  unfold sel;rw [E2,De];refine ⟨⋯,?_⟩;rw [er];show (!Sho.isB "main")=true;decide+kernel
 have pos:∀ {b:Nat→Bool} {k:Nat},k∈sel ws.length b→(0:Int)<(((sel ws.length b).map fun k=>V.int (k:Nat)).length:Nat):=fun h=>by
  rw [Aj];have:=List.length_pos_of_mem h;omega
 have pick:∀ {b:Nat→Bool} {k:Nat},k∈sel ws.length b→∃ k,k<ws.length∧b k=true∧atI ((sel ws.length b).map fun k=>V.int (k:Nat)) (mo % (((sel ws.length b).map fun k=>V.int (k:Nat)).length:Nat))=some (.int (k:Nat)):=fun h=>qcq (A7 _ (by have:=pos h;omega)) (by have:=Az mo (pos h);rw [Aj] at this ⊢;exact this)
 refine qC fun D1 h1 q1=>zb fun B t1 t2=>⟨_,rfl,rfl,_,rfl,bB (t1 _ ?_) (t2 _ (h1 _ _ ?_))⟩
 ·obtain ⟨k,hk,hb,ek⟩:=pick nb;refine qC fun D2 h2 q2=>⟨_,rfl,_,rfl,_,rfl,_,_,rfl,.inl ⟨_,SqL.of eb,rfl⟩,_,_,rfl,rfl,pos nb,.inl ⟨pb,_,_,_,rfl,rfl,SqL.of eb,ek,h2 _ _ ?_⟩⟩;obtain ⟨x,hx⟩:=Jw (l:=ws) hk;have hB:Sho.isB x=true:=by
   have:=hb;unfold vL at this;rw [hx] at this;exact this
  refine Sl.ret (zA (vZ (K:=K) k (jA rfl hp2) (fun H' R g h=>⟨_,rfl,_,rfl,h⟩)).v (J4 (K:=K) (k+1) (jA rfl hp2) (fun H' R g h=>⟨_,rfl,.inl ⟨_,_,rfl,rfl,_,rfl,h⟩⟩)).v (by simp only [Bm,B5];omega)) fun p' H' g' _ e'=>q1 _ _ (fin _ _ _ g' e' (pw.less hx (Sho.isB_iff.mp hB)))
 clear h1 q1 t1 t2;refine qC fun D1 h1 q1=>zb fun B t1 t2=>⟨_,rfl,rfl,_,rfl,bB (t1 _ ?_) (t2 _ (h1 _ _ ?_))⟩
 ·obtain ⟨x,hx,sx⟩:=qg9 (K:=K) (σ:=[some (.ref p),some (.int mo),some (.int way),some (.ref pf),some (.int (at_:Nat)),none,some (.ref pl),some (.ref pb)]) (H0:=H5) (j:=mo / 7 % 2) (tk:=tOp (rI (fun x j=>0<j) fun i j=>V.int (i % j)) (tOp (rI YK fun i j=>V.int (i / j)) (qN 1) (tC (V.int 7))) (tC (V.int 2))) (fun H' R g h=>⟨_,rfl,_,_,rfl,rfl,⟨O0,O0⟩,_,_,rfl,rfl,(show (0:Int)<2 from O0),h⟩) (A7 _ O0) (Az _ O0);exact Sl.ret (zA (zA (vZ (K:=K) at_ (jA rfl hp2) (fun H' R g h=>⟨_,rfl,_,rfl,h⟩)).v (jB (qm sx qX) (by simp)).v (by simp only [Bm,Ak,A2];omega)).v (J4 (K:=K) at_ (jA rfl hp2) (fun H' R g h=>⟨_,rfl,_,rfl,h⟩)).v (by simp only [Am,Bm,B5,Ak,A2];omega)) fun p' H' g' _ e'=>q1 _ _ (fin _ _ _ g' e' (pw.more hx))
 clear h1 q1 t1 t2;refine qC fun D1 h1 q1=>zb fun B t1 t2=>⟨_,rfl,rfl,_,rfl,bB (t1 _ ?_) (t2 _ (h1 _ _ ?_))⟩
 ·obtain ⟨k,hk,hb,ek⟩:=pick nl;refine qC fun D2 h2 q2=>⟨_,rfl,_,rfl,_,rfl,_,_,rfl,.inl ⟨_,SqL.of el,rfl⟩,_,_,rfl,rfl,pos nl,.inl ⟨pl,_,_,_,rfl,rfl,SqL.of el,ek,h2 _ _ ?_⟩⟩;refine vZ (K:=K) k (jA rfl hp2) (fun H' R g h=>⟨_,rfl,_,rfl,h⟩) H5 _ (qu.refl _) fun p1 H6 g6 _ e6=>⟨_,rfl,_,_,rfl,rfl,⟨O0,O0⟩,mo / 3,rfl,fun H7 x hx g7=>⟨(O0:1≤Ag),fun p2 hp7=>?_⟩⟩;have g8:=qj hp7 (.lst ([x].map V.str));have e8:upd H7 p2 (.lst ([x].map V.str)) p2=some (.lst ([x].map V.str)):=upd_same
  change JS _ _ (upd H7 p2 (.lst ([x].map V.str))) _
  generalize upd H7 p2 (.lst ([x].map V.str))=H8 at g8 e8 ⊢;refine qa5 ((g7.trans g8) _ _ e6) e8 (Ar (show ((ws.take k).map V.str).length+([x].map V.str).length≤6001 by rw [Aj,Aj,Bm];show _+1≤_;omega) O0) fun p3 hp8=>?_
  have g9:=qj hp8 (.lst ((ws.take k).map V.str++[x].map V.str));have e9:upd H8 p3 (.lst ((ws.take k).map V.str++[x].map V.str)) p3=some (.lst ((ws.take k++[x]).map V.str)):=by rw [upd_same,A5]
  generalize upd H8 p3 (.lst ((ws.take k).map V.str++[x].map V.str))=H9 at g9 e9 ⊢;have g59:=((g6.trans g7).trans g8).trans g9;refine J4 (K:=K) (k+1) (jA rfl (g59 _ _ hp2)) (fun H' R g h=>⟨_,rfl,.inl ⟨_,_,rfl,rfl,_,rfl,h⟩⟩) H9 _ (qu.refl _) fun p4 Ha ga _ ea=>?_;refine qa5 (ga _ _ e9) ea (Ar (show ((ws.take k++[x]).map V.str).length+((ws.drop (k+1)).map V.str).length≤12001 by rw [Aj,Aj,Am,Bm,B5];show _+1+_≤_;omega) O0) fun p5 hpa=>q1 _ _ (fin _ _ (ws.take k++[x]++ws.drop (k+1)) ((g59.trans ga).trans (qj hpa _)) (by rw [upd_same,← A5]) (pw.strange hx (.inr rfl)))
 clear h1 q1 t1 t2;refine qC fun D1 h1 q1=>zb fun B t1 t2=>⟨_,rfl,rfl,_,rfl,bB (t1 _ ?_) (t2 _ (h1 _ _ ?_))⟩
 ·obtain ⟨x,hx,sx⟩:=Z8 (K:=K) (σ:=[some (.ref p),some (.int mo),some (.int way),some (.ref pf),some (.int (at_:Nat)),none,some (.ref pl),some (.ref pb)]) (H0:=H5) (ws:=["Ab","_","1a","x-y","abcdefghi"]) (j:=mo / 7 % 5) (tk:=tOp (rI (fun x j=>0<j) fun i j=>V.int (i % j)) (tOp (rI YK fun i j=>V.int (i / j)) (qN 1) (tC (V.int 7))) (tC (V.int 5))) (jB (qm qO (qm qO (qm qO (qm qO (qm qO qX)))))).v (fun H' R g h=>⟨_,rfl,_,_,rfl,rfl,⟨O0,O0⟩,_,_,rfl,rfl,(show (0:Int)<5 from O0),h⟩) (A7 _ O0) (Az _ O0);have hs:x∈Sho.strange:=by
   have z:∀ x∈(["Ab","_","1a","x-y","abcdefghi"]:List Str),x∈Sho.strange:=∅;exact z x hx
  exact Sl.ret (zA (zA (vZ (K:=K) at_ (jA rfl hp2) (fun H' R g h=>⟨_,rfl,_,rfl,h⟩)).v (jB (qm sx qX) (by simp)).v (by simp only [Bm,Ak,A2];omega)).v (J4 (K:=K) at_ (jA rfl hp2) (fun H' R g h=>⟨_,rfl,_,rfl,h⟩)).v (by simp only [Am,Bm,B5,Ak,A2];omega)) fun p' H' g' _ e'=>q1 _ _ (fin _ _ _ g' e' (pw.strange hs (.inl rfl)))
 clear h1 q1 t1 t2;refine qC fun D1 h1 q1=>zb fun B t1 t2=>⟨_,rfl,rfl,_,rfl,bB (t1 _ ?_) (t2 _ (h1 _ _ ?_))⟩
 ·refine qib (K:=K) (Ws:=[ws++ws,[],["(",")"],["main"],["(","main",")"],ws++[("x":Str)],ws.dropLast.drop 1]) (j:=mo % 7) (Jt (zA (jA rfl hp2) (jA rfl hp2) ⋯) (Jt (jB qX) (Jt (jB (qm qO (qm qO qX))) (Jt (jB (qm qO qX)) (Jt (jB (qm qO (qm qO (qm qO qX)))) (Jt (zA (jA rfl hp2) (jB (ws:=[("x":Str)]) (qm qO qX)).v (by simp only [Ak,A2];omega)) (Jt (qji (K:=K) (jA rfl hp2) hlen2 (fun H' R g h=>⟨_,rfl,h⟩) (fun H' R g h=>⟨_,rfl,_,rfl,h⟩)) qfw))))))) (by show 7≤100;decide) (fun H' R g h=>⟨_,rfl,_,_,rfl,rfl,(show (0:Int)<7 from O0),h⟩) (A7 _ O0) (Az _ O0) fun p' H' ws' m g' e'=>q1 _ _ (fin _ _ _ g' e' ?_)
  have cs:∀ ws'∈([[],["(",")"],["main"],["(","main",")"]]:List (List Str)),Sho.Bad ws':=fun ws' h=>by
   obtain ⟨z1,z2,z3⟩:=Sho.bad_consts ws' h;have z4:∀ ws∈([[],["(",")"],["main"],["(","main",")"]]:List (List Str)),(ws.all fun y=>decide (y.length≤6000))=true:=∅;exact ⟨fun x hx=>⟨Sho.ok_of (A6.mp z1 x hx),Bb (A6.mp (z4 ws' h) x hx)⟩,⋯,Option.isNone_iff_eq_none.mp z2⟩
  simp only [Av,Be,or_false] at m;rcases m with rfl | rfl | rfl | rfl | rfl | rfl | rfl
  ·exact pw.twice
  ·exact cs _ ∅
  ·exact cs _ ∅
  ·exact cs _ ∅
  ·exact cs _ ∅
  ·exact pw.then_x
  ·exact pw.inside
 clear h1 q1 t1 t2;refine qC fun D1 h1 q1=>zb fun B t1 t2=>⟨_,rfl,rfl,_,rfl,bB (t1 _ ?_) (t2 _ (h1 _ _ ?_))⟩
 ·have m0:=A7 mo (show (6:Int)≠0 from O0);have m1:=Az mo (show (0:Int)<6 from O0);obtain ⟨x,hx⟩:=Jw (l:=(["fun","loop","man","mains","12","("]:List Str)) (i:=(mo % 6).toNat) (by show _<6;omega)
  have em:mo % 6=(((mo % 6).toNat:Nat):Int):=⋯;have ex:((["fun","loop","man","mains","12","("]:List Str).drop (mo % 6).toNat).take 1=[x]:=by
   rw [XR hx];rfl
  have sm:=vZ (K:=K) (σ:=[some (.ref p),some (.int mo),some (.int way),some (.ref pf),some (.int (at_:Nat)),none,some (.ref pl),some (.ref pb)]) (H0:=H5) (th:=YS (tC (.int 1))) 1 (J4 (K:=K) (tl:=YS (tOp (rI (fun x j=>0<j) fun i j=>V.int (i % j)) (qN 1) (tC (V.int 6)))) (mo % 6).toNat (jB (ws:=["fun","loop","man","mains","12","("]) (qm qO (qm qO (qm qO (qm qO (qm qO (qm qO qX))))))).v (fun H' R g h=>⟨_,rfl,_,_,rfl,rfl,(show (0:Int)<6 from O0),_,rfl,by rw [← em] at h;exact h⟩)).v (fun H' R g h=>⟨_,rfl,h⟩)
  rw [ex] at sm;exact Sl.ret (zA (zA (jB (ws:=[("(":Str)]) (qm qO qX)).v sm.v (by simp)).v (J4 (K:=K) 2 (jA rfl hp2) (fun H' R g h=>⟨_,rfl,h⟩)).v (by simp only [Am,B5,Ak,A2];omega)) fun p' H' g' _ e'=>q1 _ _ (fin _ _ _ g' e' (pw.head (Br hx)))
 clear h1 q1 t1 t2;refine Sl.set (ws:=["( do","( do x y )","( let x )","( let 5 x )","( hand )"]) (jB (qm qO (qm qO (qm qO (qm qO (qm qO qX)))))) fun p0 G0 g0 _ e0=>?_;refine Sl.set (zA (jA rfl e0) (jB (ws:=["( if x ( ) )","( while x )","( x )","x","7"]) (qm qO (qm qO (qm qO (qm qO (qm qO qX)))))).v) fun p1 G1 g1 _ e1=>?_;refine Sl.set (zA (jA rfl e1) (jB (ws:=["( fault 5 x )","( fault any x )","( try ( ) a b ( ) )"]) (qm qO (qm qO (qm qO qX)))).v) fun p2 G2 g2 _ e2=>?_;refine Sl.set (zA (jA rfl e2) (jB (ws:=["( try ( ) 1 b ( ) ( ) )","( do ( + 1 ) )"]) (qm qO (qm qO qX))).v) fun p3 G3 g3 _ e3=>?_;refine Sl.set (zA (jA rfl e3) (jB (ws:=["( do ( fun x ) )","( do ( fun ( x x ) ) )","( do ( step x ) )"]) (qm qO (qm qO (qm qO qX)))).v) fun p4 G4 g4 _ e4=>?_;refine Sl.set (zA (jA rfl e4) (jB (ws:=["( do ( call ) )","( do ( ) )"]) (qm qO (qm qO qX))).v) fun p5 G5 g5 _ e5=>?_;refine Sl.set (zA (jA rfl e5) (jB (ws:=["( do ( fun ( ) ( hand x ) ) )","( fun ( ) )","( do ( let x 1 ) )"]) (qm qO (qm qO (qm qO qX)))).v) fun p6 G6 g6 _ e6=>?_;refine Sl.set (zA (jA rfl e6) (jB (ws:=["( back )","( ( do x ) )","( )"]) (qm qO (qm qO (qm qO qX)))).v) fun p7 G7 g7 _ e7=>?_;refine Sl.set (zA (jA rfl e7) (jB (ws:=["( if x y ( ) )","( while x y )","( do ( call x a b c d e ) )"]) (qm qO (qm qO (qm qO qX)))).v) fun p8 G8 g8 _ e8=>?_;refine Sl.set (zA (jA rfl e8) (jB (ws:=["( do ( fun ( a b c d e ) ) )","( set x )"]) (qm qO (qm qO qX))).v) fun p9 G9 g9 _ e9=>?_;have gA:=(((((((((g0.trans g1).trans g2).trans g3).trans g4).trans g5).trans g6).trans g7).trans g8).trans g9);have hpA:=gA _ _ hp2;have finA:∀ H' p' ws',qu G9 H'→H' p'=some (.lst (ws'.map V.str))→Sho.Bad ws'→Q (.ref p') H':=fun H' p' ws' g e b=>fin _ _ _ (gA.trans g) e b;show J3 _ _ [some (.ref p),some (.int mo),some (.int way),some (.ref pf),some (.int (at_:Nat)),some (.ref p9),some (.ref pl),some (.ref pb)] G9;have eT:G9 p9=some (.lst (texts.map V.str)):=e9;have t31:(texts.map V.str).length=31:=∅;have p31:(0:Int)<(((texts.map V.str).length:Nat):Int):=by rw [t31];decide
 obtain ⟨y,hy,ek⟩:=XL (ws:=texts) (j:=mo % (((texts.map V.str).length:Nat):Int)) (A7 _ ⋯) (by have:=Az mo p31;rw [Aj] at this;exact this)
 obtain ⟨z1,z2,z3⟩:=YQ y hy;have sp:Sl (tBM K "str" Qj (tOp (rIx K) (qN 5) (tOp (rI (fun x j=>0<j) fun i j=>V.int (i % j)) (qN 1) (tCB (fun xs H Q=>∃ x n,xs=[x]∧qbd K x H n∧Q (V.int ((n:Nat):Int)) H) (qz (qN 5) zi)))) (qz (tC (V.str " ")) zi)) [some (.ref p),some (.int mo),some (.int way),some (.ref pf),some (.int (at_:Nat)),some (.ref p9),some (.ref pl),some (.ref pb)] G9 (Txt.split y " "):=fun H' Q' g q'=>
  ⟨_,rfl,_,rfl,_,rfl,_,_,rfl,.inl ⟨_,SqL.of (g _ _ eT),rfl⟩,_,_,rfl,rfl,p31,.inl ⟨p9,_,_,_,rfl,rfl,SqL.of (g _ _ eT),ek,rfl,y," ",rfl,rfl,∅,Ar z2 O0,Ar z3 O0,fun l hl=>q' l _ (qj hl _) hl upd_same⟩⟩
 have lsp:(Txt.split y " ").length≤1000:=by
  have z:∀ p∈Sho.pieces,p.length≤1000:=∅;exact z _ z1
 have elast:ws.drop (ws.length - 1)=[(")":Str)]:=by
  obtain ⟨ps,as,e,_⟩:=pw.pre;rw [e,Am,Dn,Nat.add_sub_cancel,List.drop_left]
 refine Sl.ret (zA (zA (qhf (K:=K) (jA rfl hpA) ⋯ (fun H' R g h=>⟨1,rfl,_,rfl,h⟩)).v sp.v (by rw [List.length_dropLast];omega)).v (qhe (K:=K) (jA rfl hpA) ⋯ (fun H' R g h=>⟨1,rfl,_,rfl,h⟩)).v (by rw [Am,List.length_dropLast,B5];omega)) fun p' H' g' _ e'=>finA _ _ _ g' e' ?_
 rw [elast];exact pw.piece z1
def Me (K:Frag) (t:TE) (σ:St) (H0:Hp) (d:Aa):Prop:=∀ H Q,qu H0 H→(∀ x H',qu H H'→Rep K H' x d→Q x H')→t σ H Q
def Mes (K:Frag) (t:TA) (σ:St) (H0:Hp) (m:Nat) (ds:List Aa):Prop:=ds.length=m∧∀ H Q,qu H0 H→(∀ xs H',qu H H'→Reps K H' xs ds→Q xs H')→t σ H Q
section
variable {t:TE} {ts:TA} {σ:St} {H H0:Hp} {d:Aa} {ds:List Aa} {n z m y k i:Nat} {v:V} {Q:VK}
theorem Me.go (h:Me K t σ H d) (q:∀ x H',qu H H'→Rep K H' x d→Q x H'):t σ H Q:=h H Q (qu.refl _) q
theorem zM {x:Str}:Me K (tC (.str x)) σ H0 (.str x):=fun H Q _ q=>q _ H (qu.refl _) (.str x)
theorem qkb {j:Int}:Me K (tC (.int j)) σ H0 (.int j):=fun H Q _ q=>q _ H (qu.refl _) (.int j)
theorem z9 (e:σ[i]?=some (some v)) (r:Rep K H0 v d):Me K (qN i) σ H0 d:=fun H Q g q=>⟨v,e,q v H (qu.refl _) (r.same g)⟩
theorem qy:Mes K zi σ H0 0 []:=⟨rfl,fun H Q _ q=>q _ H (qu.refl _) .nil⟩
theorem qk (h:Me K t σ H0 d) (r:Mes K ts σ H0 m ds):Mes K (qz t ts) σ H0 (m+1) (d::ds):=⟨by rw [Ak,r.1],fun H Q g q=>h H _ g fun x H1 g1 rx=>r.2 H1 _ (g.trans g1) fun xs H2 g2 rs=>q _ _ (g1.trans g2) (.cons (rx.same g2) rs)⟩
theorem qW (h:Mes K ts σ H0 m ds) (hm:m≤100:=by decide):Me K (Jy ts) σ H0 (.tuple ds):=fun H Q g q=>h.2 H _ g fun xs H1 g1 rs=>⟨Ar (show xs.length≤100 by rw [rs.length,h.1];exact hm) O0,fun p hp=>q _ _ (g1.trans (qj hp _)) (.tup (SqT.of upd_same) (rs.same (qj hp _)))⟩
end
def Mp (K:Frag) (t:TE) (σ:St) (H0:Hp) (C:Aa→Prop):Prop:=∀ H Q,qu H0 H→(∀ x H' d,qu H H'→Rep K H' x d→C d→Q x H')→t σ H Q
def Mps (K:Frag) (t:TA) (σ:St) (H0:Hp) (m:Nat) (C:Aa→Prop):Prop:=∀ H Q,qu H0 H→(∀ xs H' ds,qu H H'→Reps K H' xs ds→ds.length=m→(∀ d∈ds,C d)→Q xs H')→t σ H Q
def Lq (K:Frag) (H:Hp) (p:Ae) (m:Nat) (C:Aa→Prop):Prop:=∃ vs ds,H p=some (.lst vs)∧Reps K H vs ds∧ds.length=m∧∀ d∈ds,C d
section
variable {t tk:TE} {ts:TA} {σ:St} {H H0 H':Hp} {d:Aa} {m k j i i2:Nat} {p:Ae} {Q:VK} {C:Aa→Prop} {r:TS} {D:Ends}
theorem Me.mp (h:Me K t σ H0 d) (c:C d):Mp K t σ H0 C:=fun H Q g q=>h H Q g fun x H' g' r=>q x H' d g' r c
theorem VO:Mps K zi σ H0 0 C:=fun H Q _ q=>q _ H [] (qu.refl _) .nil rfl fun d hd=>(by cases hd)
theorem zC (h:Mp K t σ H0 C) (r:Mps K ts σ H0 m C):Mps K (qz t ts) σ H0 (m+1) C:=fun H Q g q=>h H _ g fun x H1 d g1 rx s=>r H1 _ (g.trans g1) fun xs H2 ds g2 rs l ss=>q _ _ (d::ds) (g1.trans g2) (.cons (rx.same g2) rs) (by rw [Ak,l]) fun e he=>by
 rcases Av.mp he with rfl | he
 ·exact s
 ·exact ss e he
theorem Lq.same (l:Lq K H p m C) (g:qu H H'):Lq K H' p m C:=by
 obtain ⟨vs,ds,e,r,a,b⟩:=l;exact ⟨vs,ds,g _ _ e,r.same g,a,b⟩
theorem ZK (h:Mps K ts σ H m C) (q:∀ p H',qu H H'→H p=none→Lq K H' p m C→Q (.ref p) H') (hm:m≤100:=by decide):V1 ts σ H Q:=
 h H _ (qu.refl _) fun xs H1 ds g1 rs l ss=>⟨Ar (show xs.length≤100 by rw [rs.length,l];exact hm) O0,fun p hp=>q p _ (g1.trans (qj hp _)) (g1.free hp) ⟨xs,ds,upd_same,rs.same (qj hp _),l,ss⟩⟩
theorem Yr (h:Mps K ts σ H m C) (q:∀ p H',qu H H'→H p=none→Lq K H' p m C→r D (σ.set i (some (.ref p))) H') (hm:m≤100:=by decide):jO (vz (V1 ts) (zD i)) r D σ H:=ZK (Q:=fun x H1=>r D (σ.set i (some x)) H1) h q hm
theorem qia (e:σ[i2]?=some (some (.ref p))) (l:Lq K H p m C) (h:Mps K ts σ H j C) (q:∀ p H',qu H H'→H p=none→Lq K H' p (m+j) C→Q (.ref p) H') (hm:m+j≤100:=by decide):tOp JS (qN i2) (V1 ts) σ H Q:=by
 obtain ⟨vs,ds,hp,r,a,b⟩:=l;refine ⟨_,e,ZK h (fun p2 H2 g2 n2 l2=>?_) ⋯⟩;obtain ⟨ws,es,hp2,r2,a2,b2⟩:=l2;have hl:vs.length+ws.length≤100:=by rw [r.length,r2.length,a,a2];exact hm
 refine qa5 (g2 _ _ hp) hp2 (Ar hl O0) fun p3 hp3=>?_;exact q p3 _ (g2.trans (qj hp3 _)) (g2.free hp3) ⟨_,ds++es,upd_same,((r.same g2).append r2).same (qj hp3 _),by rw [Am,a,a2],fun d hd=>(Bp.mp hd).elim (b d) (b2 d)⟩
theorem qfu (e:σ[i2]?=some (some (.ref p))) (l:Lq K H p m C) (h:Mps K ts σ H j C) (q:∀ p H',qu H H'→H p=none→Lq K H' p (m+j) C→r D (σ.set i (some (.ref p))) H') (hm:m+j≤100:=by decide):jO (vz (tOp JS (qN i2) (V1 ts)) (zD i)) r D σ H:=qia e l h q hm
theorem QC (nol:∀ {d},C d→Tre.noL d=true) (e:σ[i]?=some (some (.ref p))) (l:Lq K H p m C) (h:Mp K t σ H C) (g:qu H0 H) (h0:H0 p=none) (q:∀ H',qu H0 H'→Lq K H' p (m+1) C→r D σ H') (hm:m≤100:=by decide):jO (qgo (tBM K "list" Qk (qN i) (qz t zi))) r D σ H:=by
 obtain ⟨vs,ds,hp,rs,a,b⟩:=l;have nols:∀ {es:List Aa},(∀ d∈es,C d)→Tre.jX es=true:=by
  intro es
  induction es with
  | nil=>exact fun _=>rfl
  | cons y l ih=>
   intro h;rw [Tre.jX,nol (h y Ay),ih fun z hz=>h z (Au _ hz)];rfl
 refine ⟨_,e,.inl ⟨rfl,_,SqL.of hp⟩,h H _ (qu.refl _) fun x H1 d g1 rx s=>⟨p,vs,x,rfl,rfl,g1 _ _ hp,Cq (show vs.length≤100 by rw [rs.length,a];exact hm) O0,?_⟩⟩
 have all:∀ e∈ds++[d],C e:=fun e he=>by
  rcases Bp.mp he with he | he
  ·exact b e he
  ·cases A3.mp he;exact s
 refine q _ (fun b u eb=>?_) ⟨_,ds++[d],upd_same,Reps.put (g1 _ _ hp) ((rs.same g1).append (.cons rx .nil)) (nols all),by rw [Am,a];rfl,all⟩
 rw [qG (qK eb h0)];exact g1 _ _ (g _ _ eb)
theorem qh6 {i:Int} (e:σ[j]?=some (some (.ref p))) (l:Lq K H0 p m C) (ek:∀ H R,R (.int i) H→tk σ H R) (h0:0≤i) (h1:i<(m:Int)):Mp K (tOp (rIx K) (qN j) tk) σ H0 C:=fun H Q g q=>by
 obtain ⟨vs,ds,hp,r,a,b⟩:=l.same g;have hl:=r.length;obtain ⟨v,hv⟩:=Jw (l:=vs) (i:=i.toNat) ⋯;obtain ⟨d,hd,rv⟩:=r.get hv;have ei:i=((i.toNat:Nat):Int):=⋯;refine ⟨_,e,ek _ _ (.inl ⟨p,vs,i,v,rfl,rfl,SqL.of hp,?_,q v H d (qu.refl _) rv (b d (Br hd))⟩)⟩;rw [ei];exact qw hv
theorem Mp.set (h:Mp K t σ H C) (q:∀ x H' d,qu H H'→Rep K H' x d→C d→r D (σ.set i (some x)) H'):jO (vz t (zD i)) r D σ H:=h H (fun x H1=>r D (σ.set i (some x)) H1) (qu.refl _) q
theorem Me.set (h:Me K t σ H d) (q:∀ x H',qu H H'→Rep K H' x d→r D (σ.set i (some x)) H'):jO (vz t (zD i)) r D σ H:=h H (fun x H1=>r D (σ.set i (some x)) H1) (qu.refl _) q
end
theorem qgq {H:Hp} {xs:List V} {ds:List Aa} (h:Reps K H xs ds) (l:ds.length=3):∃ x0 x1 x2 d0 d1 d2,xs=[x0,x1,x2]∧ds=[d0,d1,d2]∧Rep K H x0 d0∧Rep K H x1 d1∧Rep K H x2 d2:=by
 cases h with
 | nil=>cases l
 | cons r0 h=>
  cases h with
  | nil=>cases l
  | cons r1 h=>
   cases h with
   | nil=>cases l
   | cons r2 h=>
    cases h with
    | nil=>exact ⟨_,_,_,_,_,_,rfl,rfl,r0,r1,r2⟩
    | cons _ _=>cases l
structure Tm (k:Nat) (d:Aa):Prop where
 nol:Tre.noL d=true
 pt:∃ s t,t=k∧s≤5*k∧∀ hands,Tre.Pt d "term" hands s t
structure Stt (k:Nat) (b:Bool) (d:Aa):Prop where
 nol:Tre.noL d=true
 pt:∃ s t,t=k∧s≤5*k∧∀ hands,(b=true→hands=true)→Tre.Pt d "statement" hands s t
def sevn:Aa:= .tuple [.str "number",.int 7]
theorem tm_one:Tm 1 sevn:=⟨rfl,1,1,rfl,O0,fun hands=>Tre.jj O0⟩
theorem jc {ds:List Aa} (h:Tre.jX ds=true):Tre.noL (.tuple ds)=true:=by rw [Tre.noL];exact h
theorem qR {d:Aa} {ds:List Aa} (a:Tre.noL d=true) (b:Tre.jX ds=true):Tre.jX (d::ds)=true:=by rw [Tre.jX,a,b];rfl
theorem bd0 {hands:Bool}:Tre.Bd [] hands 0 0:=⟨O0,.nil⟩
theorem bd1 {x:Aa} {hands:Bool} {s t:Nat} (p:Tre.Pt x "statement" hands s t):Tre.Bd [x] hands s t:=⟨(by show 1≤12;decide),Tre.zZ p⟩
section
variable {k:Nat} {d e:Aa}
theorem qi4 (h:Tm k d):Stt (k+1) false (.tuple [.str "do",d]):=by
 obtain ⟨n,s,t,rfl,hs,p⟩:=h;exact ⟨jc (qR rfl (qR n rfl)),s+1,_,rfl,⋯,fun hands _=>Tre.wo (.inl rfl) (p hands)⟩
theorem qb7 (h:Stt k false e) (hk:1≤k):Stt (k+1) false (.tuple [.str "while",sevn,.tuple [e]]):=by
 obtain ⟨n,s,t,rfl,hs,p⟩:=h;refine ⟨jc (qR rfl (qR rfl (qR (jc (qR n rfl)) rfl))),1+s+1,_,?_,⋯,fun hands z=>Tre.Xj (Tre.jj O0) (bd1 (p hands z))⟩;omega
theorem qjg (h:Stt k false e) (hk:1≤k):Stt (k+1) false (.tuple [.str "if",sevn,.tuple [],.tuple [e]])∧Stt (k+1) false (.tuple [.str "if",sevn,.tuple [e],.tuple []]):=by
 obtain ⟨n,s,t,rfl,hs,p⟩:=h;refine ⟨⟨jc (qR rfl (qR rfl (qR rfl (qR (jc (qR n rfl)) rfl)))),_,_,?_,?_,fun hands z=>Tre.qcz (Tre.jj O0) bd0 (bd1 (p hands z))⟩,⟨jc (qR rfl (qR rfl (qR (jc (qR n rfl)) (qR rfl rfl)))),_,_,?_,?_,fun hands z=>Tre.qcz (Tre.jj O0) (bd1 (p hands z)) bd0⟩⟩
 all_goals omega
theorem qha (h:Stt k false e) (hk:1≤k):Stt (k+1) false (.tuple [.str "try",.tuple [e],.str "any",.str "x",.tuple [],.tuple []])∧Stt (k+1) false (.tuple [.str "try",.tuple [],.str "any",.str "x",.tuple [e],.tuple []])∧Stt (k+1) false (.tuple [.str "try",.tuple [],.str "any",.str "x",.tuple [],.tuple [e]]):=by
 obtain ⟨n,s,t,rfl,hs,p⟩:=h;have n1:Tre.qP "any"=true:=∅;have n2:Tre.qP "x"=true:=∅;refine ⟨⟨jc (qR rfl (qR (jc (qR n rfl)) rfl)),_,_,?_,?_,fun hands z=>Tre.y6 n1 n2 (bd1 (p hands z)) bd0 bd0⟩,⟨jc (qR rfl (qR rfl (qR rfl (qR rfl (qR (jc (qR n rfl)) rfl))))),_,_,?_,?_,fun hands z=>Tre.y6 n1 n2 bd0 (bd1 (p hands z)) bd0⟩,⟨jc (qR rfl (qR rfl (qR rfl (qR rfl (qR rfl (qR (jc (qR n rfl)) rfl)))))),_,_,?_,?_,fun hands z=>Tre.y6 n1 n2 bd0 bd0 (bd1 (p hands z))⟩⟩
 all_goals omega
theorem qg5 (h:Stt k false e):Tm (k+1) (.tuple [.str "fun",.tuple [],.tuple [e]]):=by
 obtain ⟨n,s,t,rfl,hs,p⟩:=h;exact ⟨jc (qR rfl (qR rfl (qR (jc (qR n rfl)) rfl))),s+1,_,rfl,⋯,fun hands=>Tre.Zq ∅ (bd1 (p false (fun z=>by cases z)))⟩
theorem Z7 {b:Bool} (h:Stt k b e):Tm (k+1) (.tuple [.str "loop",.tuple [],.tuple [e]]):=by
 obtain ⟨n,s,t,rfl,hs,p⟩:=h;exact ⟨jc (qR rfl (qR rfl (qR (jc (qR n rfl)) rfl))),s+1,_,rfl,⋯,fun hands=>Tre.Qn ∅ (bd1 (p true (fun _=>rfl)))⟩
theorem qhb {w:Str} (h:Tm k d) (hw:w="let"∨w="set"):Stt (k+1) false (.tuple [.str w,.str "x",d]):=by
 obtain ⟨n,s,t,rfl,hs,p⟩:=h;exact ⟨jc (qR rfl (qR rfl (qR n rfl))),s+1,_,rfl,⋯,fun hands _=>Tre.qcy hw ∅ (p hands)⟩
theorem qev {w:Str} (h:Tm k d) (hw:w="hand"∨w="back"):Stt (k+1) true (.tuple [.str w,d]):=by
 obtain ⟨n,s,t,rfl,hs,p⟩:=h;exact ⟨jc (qR rfl (qR n rfl)),s+1,_,rfl,⋯,fun hands z=>Tre.wo (hw.elim (fun e=> .inr (.inr ⟨e,z rfl⟩)) fun e=> .inr (.inl e)) (p hands)⟩
theorem qg4 (h:Tm k d) (hk:1≤k):Tm (k+1) (.tuple [.str "two",.str "+",d,sevn])∧Tm (k+1) (.tuple [.str "step",sevn,d])∧Tm (k+1) (.tuple [.str "call",d,.tuple []])∧Tm (k+1) (.tuple [.str "call",sevn,.tuple [sevn,d]]):=by
 obtain ⟨n,s,t,rfl,hs,p⟩:=h;have o:∀ hands,Tre.Pt sevn "term" hands 1 1:=fun hands=>Tre.jj O0;refine ⟨⟨jc (qR rfl (qR rfl (qR n rfl))),_,_,?_,?_,fun hands=>Tre.qcw ∅ (p hands) (o hands)⟩,⟨jc (qR rfl (qR rfl (qR n rfl))),_,_,?_,?_,fun hands=>Tre.Qm (o hands) (p hands)⟩,⟨jc (qR rfl (qR n (qR rfl rfl))),_,_,?_,?_,fun hands=>Tre.VI (p hands) O0 .nil⟩,⟨jc (qR rfl (qR rfl (qR (jc (qR rfl (qR n rfl))) rfl))),_,_,?_,?_,fun hands=>Tre.VI (o hands) (by show 2≤4;decide) (.cons (o hands) (.cons (p hands) .nil))⟩⟩
 all_goals omega
end
section
variable {σ:St} {H0:Hp} {k i:Nat}
theorem qdn {a b:Str} {tk:TE} {j:Int} (ek:∀ H R,R (.int j) H→tk σ H R) (h0:0≤j) (h1:j<2):∃ w,(w=a∨w=b)∧Me K (tOp (rIx K) (V1 (qz (tC (.str a)) (qz (tC (.str b)) zi))) tk) σ H0 (.str w):=by
 obtain ⟨v,hv,w,rfl,hw⟩:=Vf (xs:=[V.str a,V.str b]) (i:=j) (p:=fun v=>∃ w,v= .str w∧(w=a∨w=b)) (fun x hx=>by
  simp only [Av,Be,or_false] at hx;rcases hx with rfl | rfl
  ·exact ⟨_,rfl,.inl rfl⟩
  ·exact ⟨_,rfl,.inr rfl⟩) h0 h1
 exact ⟨w,hw,fun H Q g q=>⟨(O0:2≤Ag),fun p hp=>ek _ _ (.inl ⟨p,_,j,_,rfl,rfl,SqL.of upd_same,hv,q _ _ (qj hp _) (.str w)⟩)⟩⟩
theorem qka {x:V} {a b c1 c2 d:Aa} (e:σ[i]?=some (some x)) (r:Rep K H0 x (.tuple [a,b,.tuple [.tuple [c1,c2,d]]])):
  Me K (tOp (rIx K) (tOp (rIx K) (tOp (rIx K) (qN i) (tC (.int 2))) (tC (.int 0))) (tC (.int 2))) σ H0 d:=fun H Q g q=>by
 cases r with
 | tup h1 r1=>
  obtain ⟨_,_,x2,_,_,_,rfl,e1,_,_,r2⟩:=qgq r1 rfl;cases e1;cases r2 with
  | tup h2 r3=>
   cases r3 with
   | cons r4 r5=>
    cases r5;cases r4 with
    | tup h4 r6=>
     obtain ⟨_,_,x3,_,_,_,rfl,e2,_,_,r7⟩:=qgq r6 rfl;cases e2;exact ⟨_,e,.inr (.inl ⟨_,_,2,_,rfl,rfl,g.sqT h1,rfl,.inr (.inl ⟨_,_,0,_,rfl,rfl,g.sqT h2,rfl,.inr (.inl ⟨_,_,2,_,rfl,rfl,g.sqT h4,rfl,q x3 H (qu.refl _) (r7.same g)⟩)⟩)⟩)⟩
end
theorem qh7 {t:TE} {σ:St} {H0:Hp} {C C':Aa→Prop} {h:Str} (hm:Mp K t σ H0 C) (hc:∀ d,C d→C' (.tuple [.str h,.tuple [],.tuple [d]])):Mp K (Jy (qz (tC (.str h)) (qz (Jy zi) (qz (Jy (qz t zi)) zi)))) σ H0 C':=fun H Q g q=>⟨B2 _,fun p0 hp0=>hm _ _ (g.trans (qj hp0 _)) fun x H1 d g1 r c=>⟨(show 1≤Ag from O0),fun p1 hp1=>⟨(show 3≤Ag from O0),fun p2 hp2=>by
 have g2:=qj hp1 (.tup [x]);have g3:=qj hp2 (.tup [.str h,.ref p0,.ref p1]);refine q _ _ _ (((qj hp0 _).trans g1).trans (g2.trans g3)) (.tup (SqT.of upd_same) (.cons (.str _) (.cons (.tup (SqT.of ((g1.trans (g2.trans g3)) _ _ upd_same)) .nil) (.cons (.tup (SqT.of (g3 _ _ upd_same)) (.cons (r.same (g2.trans g3)) .nil)) .nil)))) (hc d c)⟩⟩⟩
def yR (K:Frag):Sp:=fun vs H Q _=>∃ (g:Nat) (num:Int),vs=[.int (g:Nat),.int num]∧1≤g∧∀ H' x d,qu H H'→Rep K H' x d→Tm g d→Q x H'
theorem Yk (F:Fun K "_law_chain" "_law_chain" vE f fd) (c:Cs K mg ad):FnOk P w K mg base CX0 1 f fd ["_law_goal","_law_number_here"] (yR K):=by
 refine F.ok qQ (fun vs H Q E h=>?_) (fun cdv A outer s H vs Q E hr h=>?_)
 ·obtain ⟨g,num,rfl,_⟩:=h;rfl
 obtain ⟨goal,num,rfl,hg,q⟩:=h;refine ⟨_,(qh (pst 2 qQ.nd (qr (qd qg (qd qi qf))))
   (qh (pst 3 qQ.nd (pv 2))
   (qh (pst 4 qQ.nd qi)
   (qh (Wv Dh (qv vM (pv 4) (pv 0) (qD _)) (qh (pst 1 qQ.nd (qo qL (qo Js (pv 1) qi) qi))
   (qh (pst 5 qQ.nd (qo qL (qo zg (pv 1) qi) qi))
   (ql (qJ (PW.pt (vJ (qv wv (qo qA (pv 4) qi) (pv 0) (qD _)) (JD (qv Wz (pv 5) qi (qD _))))) (qh (pst 6 qQ.nd (qr (qd qg (qd (pv 3) qf))))
   (qh (pst 7 qQ.nd (qH (qd (qr (qd qg (qd (pv 2) (qd (qr (qd (pv 6) qf)) qf)))) (qd (qr (qd qg (qd (pv 2) (qd (qr qf) (qd (qr (qd (pv 6) qf)) qf))))) (qd (qr (qd qg (qd (qr (qd (pv 6) qf)) (qd qg (qd qg (qd (qr qf) (qd (qr qf) qf))))))) qf)))))
   (qh (pst 7 qQ.nd (qo qA (pv 7) (qH (qd (qr (qd qg (qd (qr qf) (qd qg (qd qg (qd (qr (qd (pv 6) qf)) (qd (qr qf) qf))))))) (qd (qr (qd qg (qd (qr qf) (qd qg (qd qg (qd (qr qf) (qd (qr (qd (pv 6) qf)) qf))))))) qf)))))
   (qh (jk (vx (K:=K) rfl B7 Cr Ct jz (pv 7) (qd (qr (qd qg (qd (pv 2) (qd (qr (qd (pv 6) qf)) (qd (qr qf) qf))))) qf)))
   (qh (pst 3 qQ.nd (qr (qd qg (qd (qr qf) (qd (qr (qd (pix K (pv 7) (qo qL (qo zg (pv 1) qi) qi)) qf)) qf)))))
   (ql (pst 4 qQ.nd (qo qA (pv 4) qi)))))))) (ql (qJ (PW.pt (vJ (qv wv (qo qA (pv 4) qi) (pv 0) (qD _)) (JD (qv Wz (pv 5) qi (qD _))))) (qh (pst 3 qQ.nd (qr (qd qg (qd (qr qf) (qd (qr (qd (qr (qd (pix K (qH (qd qg (qd qg qf))) (qo qL (qo zg (pv 1) qi) qi)) (qd qg (qd (pv 3) qf)))) qf)) qf)))))
   (qh (qJ (qv qZ (qo qL (qo zg (pv 1) qi) qi) qi (qD _)) (ql (pst 3 qQ.nd (qr (qd qg (qd (qr qf) (qd (qr (qd (qr (qd (pix K (qH (qd qg (qd qg qf))) (qo qL (qo zg (pv 1) qi) qi)) (qd (pix K (pix K (pix K (pv 3) qi) qi) qi) qf))) qf)) qf)))))) qB)
   (ql (pst 4 qQ.nd (qo qA (pv 4) qi))))) (qh (pst 7 qQ.nd (qH (qd (qr (qd qg (qd qg (qd (pv 3) (qd (pv 2) qf))))) (qd (qr (qd qg (qd (pv 2) (qd (pv 3) qf)))) (qd (qr (qd qg (qd (pv 3) (qd (qr qf) qf)))) (qd (qr (qd qg (qd (pv 2) (qd (qr (qd (pv 2) (qd (pv 3) qf))) qf)))) qf))))))
   (qh (pst 3 qQ.nd (pix K (pv 7) (qo qL (qo zg (pv 1) qi) qi)))
   (ql (pst 4 qQ.nd (qo qA (pv 4) qi))))))))))))
   (ql (qx (pv 3))))))),?_⟩
 refine Me.set (K:=K) (d:=sevn) (qW (qk zM (qk qkb qy))) fun one H1 g1 r_o=>?_;refine qC fun D2 h2 q2=>⟨_,rfl,h2 _ _ ?_⟩;refine qC fun D3 h3 q3=>h3 _ _ ?_;refine qC fun D4 h4 q4=>?_;refine ⟨fun m σ H'=>∃ (num:Int) (k:Nat) (x:V) (d:Aa) (o5 o6 o7:Option V),σ=[some (.int (goal:Nat)),some (.int num),some one,some x,some (.int k),o5,o6,o7]∧qu H1 H'∧Rep K H' x d∧Tm k d∧1≤k∧k≤goal∧m=goal - k,⟨_,num,1,one,sevn,none,none,none,rfl,qu.refl _,r_o,tm_one,⋯,hg,rfl⟩,?_⟩;rintro m σ H2 ⟨num,k,x,d,o5,o6,o7,rfl,g2,r_d,s_d,k1,k19,rfl⟩;clear q2 q3 h2 h3
 replace r_o:=r_o.same g2
 have g12:=g1.trans g2;refine ⟨_,rfl,_,rfl,_,_,rfl,rfl,_,rfl,?_⟩;refine VC (fun c1=>wh_g fun N hN=>?_) (fun c1=>h4 _ _ ⟨_,rfl,?_⟩)
 rotate_left
 ·have ek:k=goal:=by
   have:¬ ((k:Int)<(goal:Nat)):=by simpa using c1
   omega
  subst ek;exact q _ _ _ g12 r_d s_d
 have c1':(k:Int)<(goal:Nat):=Bb c1;refine qC fun Da ha qa=>⟨_,rfl,_,_,rfl,rfl,.inr ⟨O0,O0⟩,_,_,rfl,rfl,(show (0:Int)<2147483647 from O0),ha _ _ ?_⟩;refine qC fun Db hb qb=>⟨_,rfl,_,_,rfl,rfl,⟨O0,O0⟩,_,_,rfl,rfl,(show (0:Int)<6 from O0),hb _ _ ?_⟩;clear ha qa hb qb h4 q4 q;show Vg _ _ _ _ [some (.int (goal:Nat)),some (.int (num*48271 % 2147483647)),some one,some x,some (.int k),some (.int (num*48271 % 2147483647 / 7 % 6)),o6,o7] H2;generalize num*48271 % 2147483647=nu;have fin:∀ (j:Nat) (y:V) (e:Aa) (o5 o6 o7:Option V) (H':Hp),k<j→j≤goal→qu H2 H'→Rep K H' y e→Tm j e→N [some (.int (goal:Nat)),some (.int nu),some one,some y,some (.int j),o5,o6,o7] H':=fun j y e o5 o6 o7 H' a b g r t=>hN _ _ ⟨_,⋯,nu,j,y,e,o5,o6,o7,rfl,g2.trans g,r,t,⋯,b,rfl⟩;clear hN;have m42:∀ b:Int,0<b→0≤nu / 42 % b∧nu / 42 % b<b:=fun b h=>⟨A7 _ ⋯,Az _ h⟩;refine zb fun B t1 t2=>⟨_,rfl,.inl ⟨_,_,rfl,rfl,_,rfl,_,_,rfl,rfl,_,rfl,?_⟩⟩;have low:B false H2:=t2 _ ?_
 ·refine VC (fun c2=>⟨_,rfl,_,_,rfl,rfl,_,rfl,?_⟩) (fun _=>low);have c2':(k:Int)+3≤(goal:Nat):=Bb c2;refine bB (t1 _ ?_) low;clear low t1 t2;refine Me.set (K:=K) (d:= .tuple [.str "do",d]) (qW (qk zM (qk (z9 rfl r_d) qy))) fun hold H3 g3 r_h=>?_;have sh:=qi4 s_d;have w1:=qb7 sh ⋯;have ⟨w2,w3⟩:=qjg sh ⋯;have ⟨w4,w5,w6⟩:=qha sh ⋯
  replace r_o:=r_o.same g3
  refine Yr (K:=K) (C:=Stt (k+1+1) false) (zC (Me.mp (qW (qk zM (qk (z9 rfl r_o) (qk (qW (qk (z9 rfl r_h) qy)) qy)))) w1) (zC (Me.mp (qW (qk zM (qk (z9 rfl r_o) (qk (qW qy) (qk (qW (qk (z9 rfl r_h) qy)) qy))))) w2) (zC (Me.mp (qW (qk zM (qk (qW (qk (z9 rfl r_h) qy)) (qk zM (qk zM (qk (qW qy) (qk (qW qy) qy))))))) w4) VO))) fun p4 H4 g4 n4 l4=>?_
  replace r_o:=r_o.same g4
  replace r_h:=r_h.same g4
  refine qfu (K:=K) rfl l4 (zC (Me.mp (qW (qk zM (qk (qW qy) (qk zM (qk zM (qk (qW (qk (z9 rfl r_h) qy)) (qk (qW qy) qy))))))) w5) (zC (Me.mp (qW (qk zM (qk (qW qy) (qk zM (qk zM (qk (qW qy) (qk (qW (qk (z9 rfl r_h) qy)) qy))))))) w6) VO)) fun p5 H5 g5 n5 l5=>?_
  replace r_o:=r_o.same g5
  replace r_h:=r_h.same g5
  refine QC (K:=K) (fun z=>z.nol) rfl l5 (Me.mp (qW (qk zM (qk (z9 rfl r_o) (qk (qW (qk (z9 rfl r_h) qy)) (qk (qW qy) qy))))) w3) (g4.trans g5) (g4.free n5) fun H6 g6 l6=>?_;refine Mp.set (K:=K) (C:=Tm (k+3)) (qh7 (qh6 rfl l6 (fun _ _ h=>⟨_,rfl,_,_,rfl,rfl,⟨O0,O0⟩,_,_,rfl,rfl,(show (0:Int)<6 from O0),h⟩) (m42 6 O0).1 (m42 6 O0).2) fun e he=>qg5 he) fun y H7 e g7 r7 s7=>?_;exact ⟨_,rfl,.inl ⟨_,_,rfl,rfl,fin (k+3) _ _ _ _ _ _ ⋯ ⋯ ((g3.trans g6).trans g7) r7 s7⟩⟩
 clear t1 t2;refine zb fun B t1 t2=>⟨_,rfl,.inl ⟨_,_,rfl,rfl,_,rfl,_,_,rfl,rfl,_,rfl,?_⟩⟩;have low:B false H2:=t2 _ ?_
 ·refine VC (fun c2=>⟨_,rfl,_,_,rfl,rfl,_,rfl,?_⟩) (fun _=>low);have c2':(k:Int)+2≤(goal:Nat):=Bb c2;refine bB (t1 _ ?_) low;clear low t1 t2;obtain ⟨w1,hw1,mw1⟩:=qdn (K:=K) (σ:=[some (.int (goal:Nat)),some (.int nu),some one,some x,some (.int k),some (.int (nu / 7 % 6)),o6,o7]) (H0:=H2) (a:="let") (b:="set") (tk:=tOp (rI (fun x j=>0<j) fun i j=>V.int (i % j)) (tOp (rI YK fun i j=>V.int (i / j)) (qN 1) (tC (V.int 42))) (tC (V.int 2))) (fun _ _ h=>⟨_,rfl,_,_,rfl,rfl,⟨O0,O0⟩,_,_,rfl,rfl,(show (0:Int)<2 from O0),h⟩) (m42 2 O0).1 (m42 2 O0).2;refine Me.set (K:=K) (d:= .tuple [.str "loop",.tuple [],.tuple [.tuple [.str w1,.str "x",d]]]) (qW (qk zM (qk (qW qy) (qk (qW (qk (qW (qk (mw1) (qk zM (qk (z9 rfl r_d) qy)))) qy)) qy)))) fun y H3 g3 r3=>?_;refine qC fun Db hb qb=>zb fun B t1 t2=>⟨_,rfl,_,_,rfl,rfl,⟨O0,O0⟩,_,_,rfl,rfl,(show (0:Int)<3 from O0),rfl,_,rfl,?_⟩;refine bB (t1 _ ?_) (t2 _ (hb _ _ ⟨_,rfl,.inl ⟨_,_,rfl,rfl,fin (k+2) _ _ _ _ _ _ ⋯ ⋯ g3 r3 (Z7 (qhb s_d hw1))⟩⟩));obtain ⟨w2,hw2,mw2⟩:=qdn (K:=K) (σ:=[some (.int (goal:Nat)),some (.int nu),some one,some y,some (.int k),some (.int (nu / 7 % 6)),o6,o7]) (H0:=H3) (a:="hand") (b:="back") (tk:=tOp (rI (fun x j=>0<j) fun i j=>V.int (i % j)) (tOp (rI YK fun i j=>V.int (i / j)) (qN 1) (tC (V.int 42))) (tC (V.int 2))) (fun _ _ h=>⟨_,rfl,_,_,rfl,rfl,⟨O0,O0⟩,_,_,rfl,rfl,(show (0:Int)<2 from O0),h⟩) (m42 2 O0).1 (m42 2 O0).2;refine Me.go (K:=K) (d:= .tuple [.str "loop",.tuple [],.tuple [.tuple [.str w2,d]]]) (qW (qk zM (qk (qW qy) (qk (qW (qk (qW (qk (mw2) (qk (qka rfl r3) qy))) qy)) qy)))) fun y2 H4 g4 r4=>hb _ _ ?_;exact ⟨_,rfl,.inl ⟨_,_,rfl,rfl,fin (k+2) _ _ _ _ _ _ ⋯ ⋯ (g3.trans g4) r4 (Z7 (qev s_d hw2))⟩⟩
 clear t1 t2;have ⟨z1,z2,z3,z4⟩:=qg4 s_d k1;refine Yr (K:=K) (C:=Tm (k+1)) (zC (Me.mp (qW (qk zM (qk zM (qk (z9 rfl r_d) (qk (z9 rfl r_o) qy))))) z1) (zC (Me.mp (qW (qk zM (qk (z9 rfl r_o) (qk (z9 rfl r_d) qy)))) z2) (zC (Me.mp (qW (qk zM (qk (z9 rfl r_d) (qk (qW qy) qy)))) z3) (zC (Me.mp (qW (qk zM (qk (z9 rfl r_o) (qk (qW (qk (z9 rfl r_o) (qk (z9 rfl r_d) qy))) qy)))) z4) VO)))) fun p4 H4 g4 n4 l4=>?_;refine Mp.set (K:=K) (C:=Tm (k+1)) (qh6 rfl l4 (fun _ _ h=>⟨_,rfl,_,_,rfl,rfl,⟨O0,O0⟩,_,_,rfl,rfl,(show (0:Int)<4 from O0),h⟩) (m42 4 O0).1 (m42 4 O0).2) fun y H7 e g7 r7 s7=>?_;exact ⟨_,rfl,.inl ⟨_,_,rfl,rfl,fin (k+1) _ _ _ _ _ _ ⋯ ⋯ (g4.trans g7) r7 s7⟩⟩
theorem Xh {hands:Bool}:∀ {as:List Aa} {s t:Nat},Tre.Ptl (as.map fun x=>(x,("statement":Str))) hands s t→∀ x∈as,∃ s' t',Tre.Pt x "statement" hands s' t'∧t'≤t∧s'≤s
 | [],_,_,_,x,hx=>by cases hx
 | y::r,_,_,.cons a b,x,hx=>by
  rcases Av.mp hx with z | hx
  ·subst z;exact ⟨_,_,a,E3 _ _,Nat.le_add_right _ _⟩
  ·obtain ⟨s',t',p',h1,h2⟩:=Xh b x hx;exact ⟨s',t',p',⋯,⋯⟩
theorem Zr {d:Aa} {s t:Nat} (p:Tre.Pt d "program" false s t) (hs:s≤300) (ht:t≤12):∃ ps as,d= .tuple [.str "main",.tuple ps,.tuple as]∧Sho.Nams ps∧Sho.Row 19 as∧Tre.areNames (.tuple ps)=true∧∀ x∈as,∃ s t,Tre.Pt x "statement" true s t∧t≤19:=by
 have ip:=Tre.vm p ⋯ hs;cases p with
 | @mk _ _ _ s0 t0 hf tl=>
  obtain ⟨hd,ts,fs,l,rfl,hl1,hl2,e,_,hl,hsh,_⟩:=Tre.zq hf;have el:l=(["main"]:List Str):=by
   have:Tre.heads.lookup ("program":Str)=some (["main"]:List Str):=∅;exact (Bg (this.symm.trans hl1)).symm
  subst el;obtain rfl:hd="main":=by simpa using hl2
  have hfs:fs=(["names","body"]:List Str):=by
   have:Tre.forms.lookup ("main":Str)=some (["names","body"]:List Str):=∅;exact (Bg (this.symm.trans e)).symm
  subst hfs
  match ts,hl with
  | [nm,b],_=>
   obtain ⟨ps,rfl,nms⟩:=Sho.names_shape (hsh (nm,"names") (by simp))
   obtain ⟨as,rfl,few⟩:=Sho.row_shape (hsh (b,"body") (by simp))
   obtain ⟨an,s2,t2,bd,_,ht2⟩:=Sho.main_parts ip;have ka:=Xh bd.all;refine ⟨ps,as,rfl,nms,⟨fun x hx=>?_,few⟩,an,fun x hx=>?_⟩
   ·obtain ⟨s',t',p',h1,h2⟩:=ka x hx;exact ⟨true,s',t',p',⋯,⋯⟩
   ·obtain ⟨s',t',p',h1,h2⟩:=ka x hx;exact ⟨s',t',p',⋯⟩
theorem ZJ {ps as:List Aa}:Sho.wP 20 (.tuple [.str "main",.tuple ps,.tuple as])=Sho.fws (Sho.wP 19) "main" ps as:=Sho.wP_fn ∅
theorem Xk {d:Aa} {s t:Nat} (h:Tre.Tr d s t) (ht:t≤20):SeqAt.shaped d=true∧PyData.eqv d d=true:=by
 have gd:=h.gd;have dp:=gd.dep;refine ⟨?_,PySem.SeqAt.eqv_refl _ gd.lay⟩;unfold SeqAt.shaped;rw [gd.lay,Ao ⋯];rfl
def spLaw (K:Frag):Sp:=fun vs H Q _=>∃ (a:Ae) (ns:List Int),vs=[.ref a]∧SqL K H a (ns.map V.int)∧ns.length≤63∧∀ H',Q (.bl true) H'
theorem qh2 (F:Fun K "law" "law" Wo f fd) (c:Cs K mg ad) (k:Nat) (d_law_program:Def P w K mg base 34 "_law_program" ["_law_script","_law_most"] (qch K)) (d_law_function_words:Def P w K mg base 82 "_law_function_words" ["_law_part"] (qcj K 19)) (d_read:DefX P w K mg base 6 "read" ["text"] (yQ K ad.BadText)) (d_law_refused:Def P w K mg base 7 "_law_refused" ["_law_words_here"] (qcg K))
  (d_law_wrong:Def P w K mg base k "_law_wrong" ["_law_words_here","_law_more"] Qb) (d_law_next:Def P w K mg base 2 "_law_next" ["_law_state"] (Qe K)) (hk:82≤k):FnOk P w K mg base CX0 (k+1) f fd ["_law_script"] (spLaw K):=by
 refine F.ok (k:=k) Wm (fun vs H Q E h=>?_) (fun cdv A outer s H vs Q E hr h=>?_)
 ·obtain ⟨a,ns,rfl,_⟩:=h;rfl
 obtain ⟨a,ns,rfl,hS,_,q⟩:=h;have hu64:=hr.units;refine ⟨_,(qh (pst 1 Wm.nd (pdf d_law_program (qd (pv 0) (qd qi qf))))
   (qh (pst 2 Wm.nd (pdf d_law_function_words (qd (pv 1) qf)))
   (qh (pst 3 Wm.nd (Qs (JV qg (pv 0) (JV qg qi Qo)) rfl rfl (by intro z;cases z) O0))
   (qh (qJ (qv (qgw (K:=K) rfl hu64) (vh d_read (hr.mono (by first | decide | omega)) qgv (qd (vx (K:=K) rfl Ci D9 D8 (WM (K:=K) rfl) qg (qd (pv 2) qf)) qf)) (pv 1) (qD _)) (ql (qx jI)) qB)
   (qh (Vv Dh rfl (zW rfl c.range_ (qd qi qf)) (pgn 4 Wm.nd) (ql (qJ (ju (zS (pdf d_law_refused (qd (pdf d_law_wrong (qd (pv 2) (qd (pdf d_law_next (qd (pv 3) qf)) qf))) qf)))) (ql (qx jI)) qB)))
   (ql (qx (jb (qkk (K:=K) rfl hu64) (vh d_read (hr.mono (by first | decide | omega)) qgv (qd (vx (K:=K) rfl Ci D9 D8 (WM (K:=K) rfl) qg (qd (pv 2) qf)) qf)) (pv 1) (qD _))))))))),?_⟩
 clear hu64;refine qC fun D1 h1 q1=>⟨_,rfl,a,ns,20,O0,O0,rfl,hS,fun H1 x d s t names g1 r1 _ ft pt sl hs ht=>h1 _ _ ?_⟩;have fine:=Sho.fine 20 pt ⋯;have wd:=Sho.wd_part 20 pt.tr ⋯;have mr:∀ ts,Sho.mrun [⟨"text",ts⟩] (Sho.wP 20 d)=some [⟨"text",ts++[d]⟩]:=fun ts=>Sho.main_run pt ⋯;have ip:=Tre.vm pt ⋯ hs;obtain ⟨shp,ev⟩:=Xk pt.tr ⋯;obtain ⟨ps,as,rfl,nm,row,an,ka⟩:=Zr pt hs ht;rw [ZJ] at fine wd mr;have ext7:Sho.ext "program"=7:=∅;have lg:Sho.wl (Sho.fws (Sho.wP 19) "main" ps as)≤6000:=⋯;have pw:Sho.PW (Sho.fws (Sho.wP 19) "main" ps as):=⟨⟨ps,as,Sho.pre_is ps as,an,ka⟩,⟨_,mr⟩,fun y hy=>⟨(wd y hy).ok,(wd y hy).len⟩,lg⟩;have lw:=Sho.len_wl (Sho.fws (Sho.wP 19) "main" ps as);have wds:Wds (Sho.fws (Sho.wP 19) "main" ps as):=⟨fun y hy=>⟨(wd y hy).ok,Ar (wd y hy).len O0⟩,⋯,⋯⟩;have tl:Sho.told (Sho.fws (Sho.wP 19) "main" ps as)=some (.tuple [.str "main",.tuple ps,.tuple as]):=by
  unfold Sho.told;rw [show Sho.mrun Sho.start (Sho.fws (Sho.wP 19) "main" ps as)=_ from mr []];show (if Tre.za _=true then some _ else none)=some _
  rw [if_pos ip]
 clear h1 q1 fine wd mr ext7;refine qC fun D1 h1 q1=>⟨_,rfl,x,"main",ps,as,rfl,r1,nm,Sho.row_relax row,⋯,fun H2 p2 g2 n2 e2=>h1 _ _ ?_⟩;clear h1 q1;generalize Sho.fws (Sho.wP 19) "main" ps as=W at*;have r2:=r1.same g2;have sc2:=(g1.trans g2).seq hS;clear r1 g1 g2 nm row an ka n2 lw pt ft sl hs ht;generalize PyData.tuple [.str "main",.tuple ps,.tuple as]=d at*;refine qC fun D1 h1 q1=>fun st hst=>⟨_,rfl,upd_same,[(Sum.inr "cells",.ref a),(Sum.inr "at",.int 60)],rfl,(O0:2≤15),h1 _ _ ?_⟩;rw [qex];have g3:qu H2 (upd (upd H2 st (.dK [])) st (.dK (JK a 60))):=fun b u e=>by
  rw [qG (qK e hst),qG (qK e hst)];exact e
 have e3:upd (upd H2 st (.dK [])) st (.dK (JK a 60)) st=some (.dK (JK a 60)):=upd_same;generalize upd (upd H2 st (.dK [])) st (.dK (JK a 60))=H3 at g3 e3 ⊢;have r3:=r2.same g3;have sc3:=g3.seq sc2;have w3:=g3 _ _ e2;clear h1 q1 r2 sc2 e2 g3 hst H2;obtain ⟨t1,t2,t3,t4⟩:=wds.text;have tx:=t4 (Ar (Sho.join_wl W) lg);have rd:∀ {σ:St} {H':Hp} {R:VK},σ[2]?=some (some (.ref p2))→H' p2=some (.lst (W.map V.str))→(∀ H'' v,qu H' H''→Rep K H'' v d→R v H'')→zP (yQ K ad.BadText) [] E0 (qz (tBM K "str" (qcv K) (tC (V.str " ")) (qz (qN 2) zi)) zi) σ H' R:=fun e hw hR=>by
  refine ⟨rfl,_,e,_,p2,W,rfl,rfl,SqL.of hw,?_,?_⟩
  ·have e:=Zc W;have a:=wds.wl;have b:((" ":Str)).length=1:=rfl;rw [b];omega
  rw [qgl];refine ⟨_,W,rfl,t1,t2,t3,wds.len,fun d' _ h=>?_,fun h=>?_⟩
  ·cases tl.symm.trans h;exact hR
  ·rcases h with h | h
   ·rw [tx] at h;cases h
   ·rw [tl] at h;cases h
 refine qC fun D1 h1 q1=>zb fun B b1 b2=>rd rfl w3 fun H4 v g4 rv=>⟨_,rfl,d,d,rv,r3.same g4,shp,shp,_,rfl,bN (by rw [ev];rfl) (b2 _ (h1 _ _ ?_))⟩
 clear h1 q1 b1 b2;refine qC fun D1 h1 q1=>⟨3,rfl,O0,O0,?_⟩;refine ZW 3 (fun i σ H'=>∃ o4 kk,σ=[some (.ref a),some x,some (.ref p2),some (.ref st),o4]∧H' p2=some (.lst (W.map V.str))∧H' st=some (.dK (JK a kk))∧SqL K H' a (ns.map V.int)∧Rep K H' x d∧0≤kk∧kk≤60+i) ⟨none,60,rfl,g4 _ _ w3,g4 _ _ e3,g4.seq sc3,r3.same g4,O0,O0⟩ (fun i σ H5 hi h=>?_) (fun σ H5 h=>?_)
 ·obtain ⟨o4,kk,rfl,w5,e5,sc5,r5,k0,k1⟩:=h;refine ⟨hi,fun y H6 yl=>?_⟩;obtain ⟨rfl,rfl⟩:=yl;refine zb fun B b1 b2=>⟨_,rfl,_,rfl,st,a,ns,kk,rfl,e5,sc5,k0,⋯,fun n H7 n0 e7=>?_⟩;have sy:Stay st H6 H7:=e7▸Stay.put e5;have e7':H7 st=some (.dK (JK a (kk+1))):=by rw [e7];exact upd_same
  have w7:H7 p2=some (.lst (W.map V.str)):=sy.rest _ _ (sy.ne w5 (fun kvs z=>by cases z)) w5
  refine ⟨p2,W,n,rfl,w7,pw,fun H8 p' ws' g8 e8 bad=>⟨p',ws',rfl,SqL.of e8,⟨bad.ok,Ar (Sho.len_wl ws') bad.lg,Ar bad.lg O0⟩,bad.no,fun H9 g9=>⟨_,rfl,b2 _ ?_⟩⟩⟩;have g:=g8.trans g9;exact ⟨_,kk+1,rfl,g _ _ w7,g _ _ e7',g.seq (sy.sqL sc5),(r5.stay sy).same g,⋯,⋯⟩
 ·obtain ⟨o4,kk,rfl,w5,e5,sc5,r5,k0,k1⟩:=h;refine ⟨Aw _,h1 _ _ (rd rfl w5 fun H6 v g6 rv=>⟨_,rfl,d,d,rv,r5.same g6,shp,shp,?_⟩)⟩;rw [ev];exact q _
section
variable {t u tk:TE} {ts:TA} {σ:St} {H H0:Hp} {ds es:List Aa} {m j i i2:Nat} {p:Ae} {C:Aa→Prop} {r:TS} {D:Ends}
theorem v6 {H:Hp} {y:V} {es:List Aa} (h:Rep K H y (.tuple es)):∃ a xs,y= .ref a∧SqT K H a xs∧Reps K H xs es:=by
 cases h with
 | tup a b=>exact ⟨_,_,rfl,a,b⟩
theorem Y9 {H:Hp} {xs:List V} {ds:List Aa} (r:Reps K H xs ds):∀ k:Nat,Reps K H (List.replicate k xs).flatten (List.replicate k ds).flatten
 | 0=> .nil
 | k+1=>by
  rw [By,By,Bx,Bx];exact r.append (Y9 r k)
theorem vU {d:Aa}:∀ n:Nat,(List.replicate n [d]).flatten=List.replicate n d
 | 0=>rfl
 | n+1=>by
  rw [By,Bx,vU n,By];rfl
theorem ZF (n:Nat) (h:Me K t σ H0 (.tuple [d])) (ek:∀ H R,R (.int (n:Nat)) H→tk σ H R) (hn:n≤100:=by decide):Me K (tOp (qgt K) t tk) σ H0 (.tuple (List.replicate n d)):=fun H Q g q=>h H _ g fun x H1 g1 r=>by
 obtain ⟨a,xs,rfl,sq,rs⟩:=v6 r;have l1:xs.length=1:=rs.length;refine ek _ _ ⟨a,n,xs,rfl,rfl,sq,(fun e=>by rw [e] at l1;cases l1),⋯,⋯,⋯,fun c H2 g2 sq2=>q _ _ (g1.trans g2) (.tup sq2 ?_)⟩
 have z:=(Y9 rs n).same g2;rw [vU] at z;exact z
theorem qkc (h1:Me K t σ H0 (.tuple ds)) (h2:Me K u σ H0 (.tuple es)) (hl:ds.length+es.length≤100:=by decide):Me K (tOp (fun x y H Q=>JS x y H Q∨yf K x y H Q) t u) σ H0 (.tuple (ds++es)):=fun H Q g q=>h1 H _ g fun x H1 g1 r1=>h2 H1 _ (g.trans g1) fun y H2 g2 r2=>by
 obtain ⟨a,xs,rfl,sq,rs⟩:=v6 (r1.same g2);obtain ⟨b,ys,rfl,sq2,rs2⟩:=v6 r2;exact .inr ⟨a,b,xs,ys,rfl,rfl,sq,sq2,Ar (show xs.length+ys.length≤100 by rw [rs.length,rs2.length];exact hl) O0,fun c H3 g3 sq3=>q _ _ ((g1.trans g2).trans g3) (.tup sq3 ((rs.append rs2).same g3))⟩
theorem qfv (e:σ[i2]?=some (some (.ref p))) (l:Lq K H p m C) (h:Mps K ts σ H j C) (q:∀ p H',qu H H'→H p=none→Lq K H' p (m+j) C→r D (σ.set i (some (.ref p))) H') (hm:m+j≤100:=by decide):jO (vz (tOp (fun x y H Q=>JS x y H Q∨yf K x y H Q) (qN i2) (V1 ts)) (zD i)) r D σ H:=by
 obtain ⟨vs,ds,hp,rs,a,b⟩:=l;refine ⟨_,e,ZK h (fun p2 H2 g2 n2 l2=> .inl ?_) ⋯⟩;obtain ⟨ws,es,hp2,r2,a2,b2⟩:=l2;have hl:vs.length+ws.length≤100:=by rw [rs.length,r2.length,a,a2];exact hm
 refine qa5 (g2 _ _ hp) hp2 (Ar hl O0) fun p3 hp3=>?_;exact q p3 _ (g2.trans (qj hp3 _)) (g2.free hp3) ⟨_,ds++es,upd_same,((rs.same g2).append r2).same (qj hp3 _),by rw [Am,a,a2],fun d hd=>(Bp.mp hd).elim (b d) (b2 d)⟩
theorem qj9 {C':Aa→Prop} (hm:Mp K t σ H0 C) (hc:∀ d,C d→C' (.tuple [.tuple [.str "do",d]])):Mp K (Jy (qz (Jy (qz (tC (.str "do")) (qz t zi))) zi)) σ H0 C':=fun H Q g q=>hm H _ g fun x H1 d g1 r c=>⟨(show 2≤Ag from O0),fun p1 hp1=>⟨(show 1≤Ag from O0),fun p2 hp2=>by
 have g2:=qj hp1 (.tup [.str "do",x]);have g3:=qj hp2 (.tup [.ref p1]);exact q _ _ _ (g1.trans (g2.trans g3)) (.tup (SqT.of upd_same) (.cons (.tup (SqT.of (g3 _ _ upd_same)) (.cons (.str _) (.cons (r.same (g2.trans g3)) .nil))) .nil)) (hc d c)⟩⟩
theorem Qh {ws xs:List Str} (h1:Sv t σ H0 ws) (h2:Sv u σ H0 xs) (hl:ws.length+xs.length≤100000):Sl (tOp (fun x y H Q=>JS x y H Q∨yf K x y H Q) t u) σ H0 (ws++xs):=fun H Q g q=>h1 H _ g fun p1 H1 g1 e1=>h2 H1 _ (g.trans g1) fun p2 H2 g2 e2=>
 .inl (qa5 (g2 _ _ e1) e2 (Ar (show (ws.map V.str).length+(xs.map V.str).length≤100000 by rw [Aj,Aj];exact hl) O0) fun p3 hp3=>q p3 _ ((g1.trans g2).trans (qj hp3 _)) ((g1.trans g2).free hp3) (by rw [upd_same,A5]))
theorem qcm {x:Str} (n:Nat) (h:Sv t σ H0 [x]) (ek:∀ H R,R (.int (n:Nat)) H→tk σ H R) (hn:n≤10000):Sl (tOp qjp t tk) σ H0 (List.replicate n x):=fun H Q g q=>h H _ g fun p1 H1 g1 e1=>ek _ _ ⟨p1,n,_,rfl,rfl,e1,⋯,⋯,by
 show 1*(n:Int).toNat≤Ag;exact Ar (show 1*(n:Int).toNat≤10000 from ⋯) O0,fun p2 hp2=>q p2 _ (g1.trans (qj hp2 _)) (g1.free hp2) (by
  rw [upd_same];have e:∀ m:Nat,(List.replicate m [V.str x]).flatten=(List.replicate m x).map V.str:=fun m=>by
   induction m with
   | zero=>rfl
   | succ m ih=>rw [By,Bx,ih,By];rfl
  exact congrArg (fun z=>some (HO.lst z)) (e n))⟩
theorem qfr {C C':Aa→Prop} (hm:Mp K t σ H0 C) (hc:∀ d,C d→C' (.tuple [.str "main",.tuple [],d])):Mp K (Jy (qz (tC (.str "main")) (qz (Jy zi) (qz t zi)))) σ H0 C':=fun H Q g q=>⟨B2 _,fun p0 hp0=>by
 have g0:=qj hp0 (.tup []);refine hm _ _ (g.trans g0) fun x H1 d g1 r c=>⟨(show 3≤Ag from O0),fun p1 hp1=>?_⟩;have g2:=qj hp1 (.tup [.str "main",.ref p0,x]);exact q _ _ _ (g0.trans (g1.trans g2)) (.tup (SqT.of upd_same) (.cons (.str _) (.cons (.tup (SqT.of (g2 _ _ (g1 _ _ upd_same))) .nil) (.cons (r.same g2) .nil)))) (hc d c)⟩
theorem qfq {sp:Sp} (h:Mp K t σ H C) (q:∀ x H' d,qu H H'→Rep K H' x d→C d→sp [x] H' D.rt E0):J3 (zP sp [] E0 (qz t zi)) D σ H:=h H _ (qu.refl _) q
theorem qes (h:Sw t σ H0 x) (hx:x∈(["-",""]:List Str)):Sw (tOp (fun x y H Q=>JS x y H Q∨yf K x y H Q) t (tOp qgs (tC (.str "123456789")) (tC (.int 488)))) σ H0 (x++Txt.mul "123456789" 488):=fun H Q g q=>h H _ g fun H1 g1=>by
 refine ⟨"123456789",488,rfl,rfl,⟨O0,fun _ _=>∅,fun _ _=>∅⟩,?_⟩;refine .inl (.inr (.inl ⟨_,_,rfl,rfl,?_,q H1 g1⟩));have z:=(Sho.many_figs hx).2.1;rw [Str.length_append] at z;exact Ar z O0
theorem qed {g:Nat} {num:Int} (eg:∀ H R,R (.int (g:Nat)) H→t σ H R) (en:∀ H R,R (.int num) H→u σ H R) (hg:1≤g):Mp K (zP (yR K) [] E0 (qz t (qz u zi))) σ H0 (Tm g):=fun H Q _ q=>eg _ _ (en _ _ ⟨g,num,rfl,hg,fun H' x d g' r t=>q x H' d g' r t⟩)
end
theorem wI (F:Fun K "_law_too_much" "_law_too_much" Jl f fd) (c:Cs K mg ad) (d_law_chain:Def P w K mg base 1 "_law_chain" ["_law_goal","_law_number_here"] (yR K)) (d_law_function_words:Def P w K mg base 86 "_law_function_words" ["_law_part"] (qcj K 20)):FnOk P w K mg base CX0 87 f fd ["_law_more"] qci:=by
 refine F.ok (k:=86) zx (fun vs H Q E h=>?_) (fun cdv A outer s H vs Q E hr h=>?_)
 ·obtain ⟨more,rfl,_⟩:=h;rfl
 obtain ⟨more,rfl,q⟩:=h;refine ⟨_,(qh (pst 1 zx.nd (qr (qd qg (qd qi qf))))
   (qh (pst 2 zx.nd (qr (qd qg (qd (qr (qd qg (qd (pv 1) (qd (qr (qd (pv 1) (qd (pv 1) (qd (pv 1) (qd (pv 1) qf))))) qf)))) qf))))
   (qh (pst 3 zx.nd (qo (JE (K:=K) rfl) (qo (JE (K:=K) rfl) (qo (VA (K:=K) rfl) (qr (qd (qr (qd qg (qd (qr (qd qg (qd (qr qf) (qd (qo (VA (K:=K) rfl) (qr (qd (pv 2) qf)) qi) qf)))) qf))) qf)) qi) (qo (VA (K:=K) rfl) (qr (qd (pv 2) qf)) qi)) (qr (qd (qr (qd qg (qd (qr (qd qg (qd (pv 1) (qd (qr (qd (pv 1) (qd (pv 1) qf))) qf)))) qf))) qf))))
   (qh (pst 4 zx.nd (qH (qd (pv 3) (qd (qo (VA (K:=K) rfl) (qr (qd (qr (qd qg (qd (pv 1) qf))) qf)) qi) (qd (qr (qd (qr (qd qg (qd (pv 1) (qd (qr qf) (qd (qo (VA (K:=K) rfl) (qr (qd (qr (qd qg (qd (pv 1) qf))) qf)) qi) qf))))) qf)) (qd (qr (qd (qr (qd qg (qd (qr (qd qg (qd (pv 1) (qd (qo (VA (K:=K) rfl) (qr (qd (pv 1) qf)) qi) qf)))) qf))) qf)) qf))))))
   (qh (pst 4 zx.nd (qo (JE (K:=K) rfl) (pv 4) (qH (qd (qr (qd (qr (qd qg (qd (pdf d_law_chain (qd qi (qd (qo zg (pv 0) qi) qf))) qf))) qf)) (qd (qr (qd (qr (qd qg (qd (qr (qd qg (qd (qr qf) (qd (qo (VA (K:=K) rfl) (qr (qd (qr (qd qg (qd (pv 1) qf))) qf)) qi) qf)))) qf))) qf)) qf)))))
   (qh (jk (vx (K:=K) rfl B7 Cr Ct jz (pv 4) (qd (qr (qd (qr (qd qg (qd (qr (qd qg (qd (qr qf) (qd (qr (qd (qr (qd qg (qd (qr qf) (qd qg (qd qg (qd (qr qf) (qd (qr (qd (qr (qd qg (qd (pv 1) qf))) qf)) qf))))))) qf)) qf)))) qf))) qf)) qf)))
   (qh (qJ (qv qZ (qo qL (pv 0) qi) qi (qD _)) (ql (qx (qH (qd qg (qd qg (qd qg (qd qg (qd qg (qd qg (qd (qo (JE (K:=K) rfl) (pix K (qH (qd qg (qd qg qf))) (qo qL (qo zg (pv 0) qi) qi)) (qo qfd qg qi)) (qd qg (qd qg qf)))))))))))) qB)
   (qh (qJ (qv qZ (qo qL (pv 0) qi) qi (qD _)) (qh (pst 5 zx.nd (qo (JE (K:=K) rfl) qi (qo qL (qo zg (pv 0) qi) qi)))
   (ql (qx (qo (JE (K:=K) rfl) (qo (JE (K:=K) rfl) (qH (qd qg (qd qg (qd qg (qd qg (qd qg (qd qg qf))))))) (qo qdf (qH (qd qg qf)) (pv 5))) (qo qdf (qH (qd qg qf)) (qo (JE (K:=K) rfl) (pv 5) qi)))))) qB)
   (ql (qx (pdf d_law_function_words (qd (qr (qd qg (qd (qr qf) (qd (pix K (pv 4) (qo qL (pv 0) qi)) qf)))) qf)))))))))))),?_⟩
 refine Me.set (K:=K) (d:=Sho.sv) (qW (qk zM (qk qkb qy))) fun one H1 g1 r_o=>?_;refine Me.set (K:=K) (d:=Sho.lng) (qW (qk zM (qk (qW (qk zM (qk (z9 rfl r_o) (qk (qW (qk (z9 rfl r_o) (qk (z9 rfl r_o) (qk (z9 rfl r_o) (qk (z9 rfl r_o) qy))))) qy)))) qy))) fun long H2 g2 r_l=>?_
 replace r_o:=r_o.same g2
 refine Me.set (K:=K) (d:= .tuple (List.replicate 4 Sho.big++List.replicate 5 Sho.lng++[Sho.few])) (qkc (qkc (ZF 4 (qW (qk (qW (qk zM (qk (qW (qk zM (qk (qW qy) (qk (ZF 9 (qW (qk (z9 rfl r_l) qy)) (fun _ _ h=>h)) qy)))) qy))) qy)) (fun _ _ h=>h)) (ZF 5 (qW (qk (z9 rfl r_l) qy)) (fun _ _ h=>h))) (qW (qk (qW (qk zM (qk (qW (qk zM (qk (z9 rfl r_o) (qk (qW (qk (z9 rfl r_o) (qk (z9 rfl r_o) qy))) qy)))) qy))) qy))) fun full H3 g3 r_f=>?_
 replace r_o:=r_o.same g3
 refine Yr (K:=K) (C:=Sho.Much) (zC (Me.mp (z9 rfl r_f) Sho.much_full) (zC (Me.mp (ZF 13 (qW (qk (qW (qk zM (qk (z9 rfl r_o) qy))) qy)) (fun _ _ h=>h)) Sho.much13) (zC (Me.mp (qW (qk (qW (qk zM (qk (z9 rfl r_o) (qk (qW qy) (qk (ZF 13 (qW (qk (qW (qk zM (qk (z9 rfl r_o) qy))) qy)) (fun _ _ h=>h)) qy))))) qy)) Sho.much_if) (zC (Me.mp (qW (qk (qW (qk zM (qk (qW (qk zM (qk (z9 rfl r_o) (qk (ZF 5 (qW (qk (z9 rfl r_o) qy)) (fun _ _ h=>h)) qy)))) qy))) qy)) Sho.much_call) VO)))) fun p4 H4 g4 n4 l4=>?_
 replace r_o:=r_o.same g4
 refine qfv (K:=K) rfl l4 (zC (qj9 (qed (g:=19) (fun _ _ h=>h) (fun _ _ h=>⟨_,rfl,_,_,rfl,rfl,⟨O0,O0⟩,h⟩) O0) fun d h=>by
  obtain ⟨n,s,t,rfl,hs,p⟩:=h;exact Sho.much_deep n ⋯ p) (zC (Me.mp (qW (qk (qW (qk zM (qk (qW (qk zM (qk (qW qy) (qk (ZF 13 (qW (qk (qW (qk zM (qk (z9 rfl r_o) qy))) qy)) (fun _ _ h=>h)) qy)))) qy))) qy)) Sho.much_loop) VO)) fun p5 H5 g5 n5 l5=>?_
 replace r_o:=r_o.same g5
 refine QC (K:=K) (fun z=>z.nol) rfl l5 (Me.mp (qW (qk (qW (qk zM (qk (qW (qk zM (qk (qW qy) (qk (qW (qk (qW (qk zM (qk (qW qy) (qk zM (qk zM (qk (qW qy) (qk (qW (qk (qW (qk zM (qk (z9 rfl r_o) qy))) qy)) qy))))))) qy)) qy)))) qy))) qy)) Sho.much_hand) (g4.trans g5) (g4.free n5) fun H6 g6 l6=>?_;have gA:=((g1.trans g2).trans g3).trans g6;have m0:=A7 more (show (9:Int)≠0 from O0);have m9:=Az more (show (0:Int)<9 from O0);refine qC fun D1 h1 q1=>zb fun B t1 t2=>⟨_,rfl,_,_,rfl,rfl,(show (0:Int)<9 from O0),rfl,_,rfl,?_⟩
 by_cases c7:more % 9=7
 ·refine bP (Ao (congrArg V.int c7)) (t1 _ ?_);have d0:=A7 (more / 9) (show (2:Int)≠0 from O0);have d1:=Az (more / 9) (show (0:Int)<2 from O0);obtain ⟨x,hx,sx⟩:=Z8 (K:=K) (σ:=[some (.int more),some one,some long,some full,some (.ref p5),none]) (H0:=H6) (ws:=["-",""]) (j:=more / 9 % 2) (tk:=tOp (rI (fun x j=>0<j) fun i j=>V.int (i % j)) (tOp (rI YK fun i j=>V.int (i / j)) (qN 0) (tC (V.int 9))) (tC (V.int 2))) (jB (qm qO (qm qO qX))).v (fun _ _ _ h=>⟨_,rfl,_,_,rfl,rfl,⟨O0,O0⟩,_,_,rfl,rfl,(show (0:Int)<2 from O0),h⟩) d0 d1;exact Sl.ret (jB (qm qO (qm qO (qm qO (qm qO (qm qO (qm qO (qm (qes sx hx) (qm qO (qm qO qX))))))))) (show 9≤100 from O0)) fun p' H' g' _ e'=>q1 _ _ (q _ _ _ (gA.trans g') e' (Sho.bad_figs hx))
 refine bN (Ap fun z=>c7 (V.int.inj z)) (t2 _ (h1 _ _ ?_));clear h1 q1 t1 t2;refine qC fun D1 h1 q1=>zb fun B t1 t2=>⟨_,rfl,_,_,rfl,rfl,(show (0:Int)<9 from O0),rfl,_,rfl,?_⟩
 by_cases c8:more % 9=8
 ·refine bP (Ao (congrArg V.int c8)) (t1 _ ?_);refine qC fun D2 h2 q2=>⟨_,rfl,_,_,rfl,rfl,⟨O0,O0⟩,_,_,rfl,rfl,(show (0:Int)<1300 from O0),.inl (.inl ⟨_,_,rfl,rfl,h2 _ _ ?_⟩)⟩;have d0:=A7 (more / 9) (show (1300:Int)≠0 from O0);have d1:=Az (more / 9) (show (0:Int)<1300 from O0);obtain ⟨n,en⟩:∃ n:Nat,100+more / 9 % 1300=(n:Int):=⟨_,(Int.toNat_of_nonneg ⋯).symm⟩;show J3 _ _ [some (.int more),some one,some long,some full,some (.ref p5),some (.int (100+more / 9 % 1300))] H6;rw [en];refine Sl.ret (Qh (K:=K) (Qh (K:=K) (jB (ws:=["(","main","(",")","(","do"]) (qm qO (qm qO (qm qO (qm qO (qm qO (qm qO qX))))))).v (qcm (x:="(") n (jB (qm qO qX)).v (fun _ _ h=>⟨_,rfl,h⟩) ⋯).v (by rw [Dm];show 6+_≤_;omega)).v (qcm (x:=")") (n+2) (jB (qm qO qX)).v (fun _ _ h=>⟨_,rfl,.inl (.inl ⟨_,_,rfl,rfl,h⟩)⟩) ⋯).v (by rw [Am,Dm,Dm];show 6+_+_≤_;omega)) fun p' H' g' _ e'=>q1 _ _ (q _ _ _ (gA.trans g') e' (Sho.bad_deep ⋯ ⋯))
 refine bN (Ap fun z=>c8 (V.int.inj z)) (t2 _ (h1 _ _ ?_));clear h1 q1 t1 t2;refine qfq (K:=K) (qfr (K:=K) (σ:=[some (.int more),some one,some long,some full,some (.ref p5),none]) (qh6 (j:=4) (tk:=tOp (rI (fun x j=>0<j) fun i j=>V.int (i % j)) (qN 0) (tC (V.int 9))) (i:=more % 9) rfl l6 (fun _ _ h=>⟨_,rfl,_,_,rfl,rfl,(show (0:Int)<9 from O0),h⟩) m0 (show more % 9<7 from ⋯)) (C':=fun d=>∃ d',d= .tuple [.str "main",.tuple [],d']∧Sho.Much d') (fun d h=>⟨d,rfl,h⟩)) fun x H7 d g7 r h=>?_;obtain ⟨_,rfl,_,as,rfl,row,bad⟩:=h;exact ⟨x,"main",[],as,rfl,r,⟨O0,fun x hx=>(by cases hx)⟩,row,Ar (Sho.len_wl _) (Ar bad.lg O0),fun H' p' g' _ e'=>q _ _ _ ((gA.trans g7).trans g') e' bad⟩
end
theorem qiy {l:PySem.W.OpenLaw} {w:World} {K:Frag} {h:Heap} {mg:Str→Option Ac} {fa f0 f1 f2 f3 f4 f5 f6 f7 f8 f9 f10 f11 f12 f13 f14 f15 f16 f17 f18 f19 f20 f21 f22 f23 f24 f25 f26 f27 f28 f29 f30 f31 f32 f33 f34 f35 f36 f37 f38 f39:Ae} (X:K.In h) (G:h.Ns Aq mg) (hfa:mg "law"=some (.ref fa))
  {cd_BadText:ClassData}
  {c_LoomError c_BadTree c_BadText c_BadName c_BadCount c_BadCode c_NoThing c_Opening:Ae}
  {a_SIGNS:Ae} {n_SIGNS:Nat} {k_SIGNS_0 k_SIGNS_1 k_SIGNS_2 k_SIGNS_3 k_SIGNS_4:Tok} {a_FORMS:Ae} {n_FORMS:Nat} {k_FORMS_0 k_FORMS_1 k_FORMS_2 k_FORMS_3 k_FORMS_4 k_FORMS_5 k_FORMS_6 k_FORMS_7 k_FORMS_8 k_FORMS_9 k_FORMS_10 k_FORMS_11 k_FORMS_12 k_FORMS_13 k_FORMS_14 k_FORMS_15 k_FORMS_16:Tok} {a_FORMS0:Ae} {n_FORMS0:Nat} {k_FORMS0_0 k_FORMS0_1:Tok} {a_FORMS1:Ae} {n_FORMS1:Nat} {k_FORMS1_0:Tok} {a_FORMS2:Ae} {n_FORMS2:Nat} {k_FORMS2_0:Tok} {a_FORMS3:Ae} {n_FORMS3:Nat} {k_FORMS3_0 k_FORMS3_1 k_FORMS3_2:Tok} {a_FORMS4:Ae} {n_FORMS4:Nat} {k_FORMS4_0 k_FORMS4_1:Tok} {a_FORMS5:Ae} {n_FORMS5:Nat} {k_FORMS5_0 k_FORMS5_1:Tok} {a_FORMS6:Ae} {n_FORMS6:Nat} {k_FORMS6_0 k_FORMS6_1:Tok} {a_FORMS7:Ae} {n_FORMS7:Nat} {k_FORMS7_0 k_FORMS7_1:Tok} {a_FORMS8:Ae} {n_FORMS8:Nat} {k_FORMS8_0 k_FORMS8_1:Tok} {a_FORMS9:Ae} {n_FORMS9:Nat} {k_FORMS9_0 k_FORMS9_1:Tok} {a_FORMS10:Ae} {n_FORMS10:Nat} {k_FORMS10_0:Tok} {a_FORMS11:Ae} {n_FORMS11:Nat} {k_FORMS11_0 k_FORMS11_1 k_FORMS11_2:Tok} {a_FORMS12:Ae} {n_FORMS12:Nat} {k_FORMS12_0 k_FORMS12_1:Tok} {a_FORMS13:Ae} {n_FORMS13:Nat} {k_FORMS13_0:Tok} {a_FORMS14:Ae} {n_FORMS14:Nat} {k_FORMS14_0:Tok} {a_FORMS15:Ae} {n_FORMS15:Nat} {k_FORMS15_0 k_FORMS15_1:Tok} {a_FORMS16:Ae} {n_FORMS16:Nat} {k_FORMS16_0 k_FORMS16_1 k_FORMS16_2 k_FORMS16_3 k_FORMS16_4:Tok} {a_HEADS:Ae} {n_HEADS:Nat} {k_HEADS_0 k_HEADS_1 k_HEADS_2:Tok} {a_HEADS0:Ae} {n_HEADS0:Nat} {k_HEADS0_0:Tok} {a_HEADS1:Ae} {n_HEADS1:Nat} {k_HEADS1_0 k_HEADS1_1 k_HEADS1_2 k_HEADS1_3 k_HEADS1_4 k_HEADS1_5 k_HEADS1_6:Tok} {a_HEADS2:Ae} {n_HEADS2:Nat} {k_HEADS2_0 k_HEADS2_1 k_HEADS2_2 k_HEADS2_3 k_HEADS2_4 k_HEADS2_5 k_HEADS2_6 k_HEADS2_7 k_HEADS2_8:Tok} {a_MEMBERS:Ae} {n_MEMBERS:Nat} {k_MEMBERS_0 k_MEMBERS_1 k_MEMBERS_2:Tok} {w_MEMBERS_0 w_MEMBERS_1 w_MEMBERS_2:Tok} {a_UNWRITTEN:Ae} {n_UNWRITTEN:Nat} {k_UNWRITTEN_0 k_UNWRITTEN_1 k_UNWRITTEN_2:Tok} {a_OPEN_ENDED:Ae} {n_OPEN_ENDED:Nat} {k_OPEN_ENDED_0 k_OPEN_ENDED_1 k_OPEN_ENDED_2 k_OPEN_ENDED_3:Tok} {a_BRACKETED:Ae} {n_BRACKETED:Nat} {k_BRACKETED_0 k_BRACKETED_1 k_BRACKETED_2 k_BRACKETED_3 k_BRACKETED_4:Tok}
  {t_MOST_LETTERS t_GREATEST_NUMBER t_MOST_NAMES t_MOST_TERMS t_MOST_STATEMENTS t_MOST_DEPTH t_MOST_PARTS t_PERCENT t_MOST_SIGNS t_MOST_FIGURES:Tok}
  (a0:PySem.W.nsIn K Aq "is_name"=some (some (.ref f0))) (l0:FA K f0 "is_name" "is_name" v5)
  (a1:PySem.W.nsIn K Aq "is_number"=some (some (.ref f1))) (l1:FA K f1 "is_number" "is_number" vF)
  (a2:PySem.W.nsIn K Aq "is_row"=some (some (.ref f2))) (l2:FA K f2 "is_row" "is_row" Wp)
  (a3:PySem.W.nsIn K Aq "are_names"=some (some (.ref f3))) (l3:FA K f3 "are_names" "are_names" JC)
  (a4:PySem.W.nsIn K Aq "has_shape"=some (some (.ref f4))) (l4:FA K f4 "has_shape" "has_shape" vG)
  (a5:PySem.W.nsIn K Aq "has_form"=some (some (.ref f5))) (l5:FA K f5 "has_form" "has_form" ve)
  (a6:PySem.W.nsIn K Aq "inner_with_shapes"=some (some (.ref f6))) (l6:FA K f6 "inner_with_shapes" "inner_with_shapes" zN)
  (a7:PySem.W.nsIn K Aq "hands_within"=some (some (.ref f7))) (l7:FA K f7 "hands_within" "hands_within" Jp)
  (a8:PySem.W.nsIn K Aq "is_program"=some (some (.ref f8))) (l8:FA K f8 "is_program" "is_program" j9)
  (a9:PySem.W.nsIn K Aq "is_text_sign"=some (some (.ref f9))) (l9:FA K f9 "is_text_sign" "is_text_sign" Jo)
  (a10:PySem.W.nsIn K Aq "is_text"=some (some (.ref f10))) (l10:FA K f10 "is_text" "is_text" v3)
  (a11:PySem.W.nsIn K Aq "words_of"=some (some (.ref f11))) (l11:FA K f11 "words_of" "words_of" Vr)
  (a12:PySem.W.findIn K (.ref c_Opening) "__init__"=some (some (.ref f12))) (i12:PySem.W.isFn K (.ref f12)=true) (l12:FA K f12 "__init__" "Opening.__init__" Wq)
  (a13:PySem.W.findIn K (.ref c_Opening) "wanted"=some (some (.ref f13))) (i13:PySem.W.isFn K (.ref f13)=true) (l13:FA K f13 "wanted" "Opening.wanted" Vt)
  (a14:PySem.W.findIn K (.ref c_Opening) "closed"=some (some (.ref f14))) (i14:PySem.W.isFn K (.ref f14)=true) (l14:FA K f14 "closed" "Opening.closed" Vu)
  (a15:PySem.W.nsIn K Aq "shape_behind"=some (some (.ref f15))) (l15:FA K f15 "shape_behind" "shape_behind" Jk)
  (a16:PySem.W.nsIn K Aq "is_head"=some (some (.ref f16))) (l16:FA K f16 "is_head" "is_head" V5)
  (a17:PySem.W.nsIn K Aq "is_numeral"=some (some (.ref f17))) (l17:FA K f17 "is_numeral" "is_numeral" vd)
  (a18:PySem.W.nsIn K Aq "term_of"=some (some (.ref f18))) (l18:FA K f18 "term_of" "term_of" V4)
  (a19:PySem.W.nsIn K Aq "thing_of"=some (some (.ref f19))) (l19:FA K f19 "thing_of" "thing_of" Vs)
  (a20:PySem.W.nsIn K Aq "take_word"=some (some (.ref f20))) (l20:FA K f20 "take_word" "take_word" vD)
  (a21:PySem.W.nsIn K Aq "read"=some (some (.ref f21))) (l21:FA K f21 "read" "read" Zo)
  (a22:PySem.W.nsIn K Aq "_law_cell_at"=some (some (.ref f22))) (l22:FA K f22 "_law_cell_at" "_law_cell_at" JO)
  (a23:PySem.W.nsIn K Aq "_law_next"=some (some (.ref f23))) (l23:FA K f23 "_law_next" "_law_next" vc)
  (a24:PySem.W.nsIn K Aq "_law_names"=some (some (.ref f24))) (l24:FA K f24 "_law_names" "_law_names" jW)
  (a25:PySem.W.nsIn K Aq "_law_number"=some (some (.ref f25))) (l25:FA K f25 "_law_number" "_law_number" vb)
  (a26:PySem.W.nsIn K Aq "_law_term"=some (some (.ref f26))) (l26:FA K f26 "_law_term" "_law_term" Jm)
  (a27:PySem.W.nsIn K Aq "_law_body"=some (some (.ref f27))) (l27:FA K f27 "_law_body" "_law_body" Jn)
  (a28:PySem.W.nsIn K Aq "_law_statement"=some (some (.ref f28))) (l28:FA K f28 "_law_statement" "_law_statement" zT)
  (a29:PySem.W.nsIn K Aq "_law_program"=some (some (.ref f29))) (l29:FA K f29 "_law_program" "_law_program" JN)
  (a30:PySem.W.nsIn K Aq "_law_bodies"=some (some (.ref f30))) (l30:FA K f30 "_law_bodies" "_law_bodies" j8)
  (a31:PySem.W.nsIn K Aq "_law_function_words"=some (some (.ref f31))) (l31:FA K f31 "_law_function_words" "_law_function_words" zJ)
  (a32:PySem.W.nsIn K Aq "_law_term_words"=some (some (.ref f32))) (l32:FA K f32 "_law_term_words" "_law_term_words" ji)
  (a33:PySem.W.nsIn K Aq "_law_words"=some (some (.ref f33))) (l33:FA K f33 "_law_words" "_law_words" JB)
  (a34:PySem.W.nsIn K Aq "_law_refused"=some (some (.ref f34))) (l34:FA K f34 "_law_refused" "_law_refused" JM)
  (a35:PySem.W.nsIn K Aq "_law_strange"=some (some (.ref f35))) (l35:FA K f35 "_law_strange" "_law_strange" JL)
  (a36:PySem.W.nsIn K Aq "_law_chain"=some (some (.ref f36))) (l36:FA K f36 "_law_chain" "_law_chain" vE)
  (a37:PySem.W.nsIn K Aq "_law_too_much"=some (some (.ref f37))) (l37:FA K f37 "_law_too_much" "_law_too_much" Jl)
  (a38:PySem.W.nsIn K Aq "_law_wrong"=some (some (.ref f38))) (l38:FA K f38 "_law_wrong" "_law_wrong" jy)
  (a39:PySem.W.nsIn K Aq "law"=some (some (.ref f39))) (l39:FA K f39 "law" "law" Wo)
  (z_all:PySem.W.nsIn K Aq "all"=some none)
  (z_isinstance:PySem.W.nsIn K Aq "isinstance"=some none)
  (z_str:PySem.W.nsIn K Aq "str"=some none)
  (z_len:PySem.W.nsIn K Aq "len"=some none)
  (z_bool:PySem.W.nsIn K Aq "bool"=some none)
  (z_int:PySem.W.nsIn K Aq "int"=some none)
  (z_tuple:PySem.W.nsIn K Aq "tuple"=some none)
  (z_set:PySem.W.nsIn K Aq "set"=some none)
  (z_zip:PySem.W.nsIn K Aq "zip"=some none)
  (z_ord:PySem.W.nsIn K Aq "ord"=some none)
  (z_max:PySem.W.nsIn K Aq "max"=some none)
  (z_range:PySem.W.nsIn K Aq "range"=some none)
  (z_list:PySem.W.nsIn K Aq "list"=some none)
  (z_ValueError:PySem.W.nsIn K Aq "ValueError"=some none)
  (g_MOST_LETTERS:PySem.W.nsIn K Aq "MOST_LETTERS"=some (some (.int 8 t_MOST_LETTERS)))
  (g_GREATEST_NUMBER:PySem.W.nsIn K Aq "GREATEST_NUMBER"=some (some (.int 1000000000000 t_GREATEST_NUMBER)))
  (g_MOST_NAMES:PySem.W.nsIn K Aq "MOST_NAMES"=some (some (.int 4 t_MOST_NAMES)))
  (g_MOST_TERMS:PySem.W.nsIn K Aq "MOST_TERMS"=some (some (.int 4 t_MOST_TERMS)))
  (g_MOST_STATEMENTS:PySem.W.nsIn K Aq "MOST_STATEMENTS"=some (some (.int 12 t_MOST_STATEMENTS)))
  (g_MOST_DEPTH:PySem.W.nsIn K Aq "MOST_DEPTH"=some (some (.int 20 t_MOST_DEPTH)))
  (g_MOST_PARTS:PySem.W.nsIn K Aq "MOST_PARTS"=some (some (.int 300 t_MOST_PARTS)))
  (g_PERCENT:PySem.W.nsIn K Aq "PERCENT"=some (some (.int 37 t_PERCENT)))
  (g_MOST_SIGNS:PySem.W.nsIn K Aq "MOST_SIGNS"=some (some (.int 6000 t_MOST_SIGNS)))
  (g_MOST_FIGURES:PySem.W.nsIn K Aq "MOST_FIGURES"=some (some (.int 13 t_MOST_FIGURES)))
  (n_LoomError:PySem.W.nsIn K Aq "LoomError"=some (some (.ref c_LoomError)))
  (n_BadTree:PySem.W.nsIn K Aq "BadTree"=some (some (.ref c_BadTree)))
  (n_BadText:PySem.W.nsIn K Aq "BadText"=some (some (.ref c_BadText)))
  (n_BadName:PySem.W.nsIn K Aq "BadName"=some (some (.ref c_BadName)))
  (n_BadCount:PySem.W.nsIn K Aq "BadCount"=some (some (.ref c_BadCount)))
  (n_BadCode:PySem.W.nsIn K Aq "BadCode"=some (some (.ref c_BadCode)))
  (n_NoThing:PySem.W.nsIn K Aq "NoThing"=some (some (.ref c_NoThing)))
  (n_Opening:PySem.W.nsIn K Aq "Opening"=some (some (.ref c_Opening)))
  (x_own:PySem.W.excIn K c_BadText bmVE "ValueError.__new__"=true)
  (h_sm:(a_MEMBERS==sysModules)=false)
  (h_pg:PySem.W.plainGet K c_Opening Str.empty=true)
  (h_hd:PySem.W.hasDictIn K c_Opening=true)
  (h_po:PySem.W.plainOver K c_Opening=true)
  (h_sa:PySem.W.findIn K (.ref c_Opening) "__setattr__"=some (some (.builtin "object.__setattr__")))
  (h_aS:PySem.W.findIn K (.ref c_Opening) "shape"=some none)
  (h_aT:PySem.W.findIn K (.ref c_Opening) "things"=some none)
  (h_mk:PySem.W.makesIn K c_Opening=true)
  (h_kc:PySem.W.keepIn K (.ref c_Opening)=true)
  (k_ga:PySem.W.findIn K (.ref c_BadText) "__getattribute__"=some (some (.builtin "BaseException.__getattribute__")))
  (k_gt:PySem.W.findIn K (.ref c_BadText) "__getattr__"=some none)
  (k_be:PySem.W.mroIn K c_BadText (.type "BaseException")=some true)
  (k_cl:PySem.W.clsIn K c_BadText=some cd_BadText)
  (k_fd:PySem.W.findIn K (.ref c_BadText) "__class__"=some (some (.builtin "object.__class__")))
  (k_sp:PySem.W.specialIn K (.builtin "object.__class__") "__get__"=some (some (.builtin "getset_descriptor.__get__")))
  (k_tk:PySem.W.takesIn K (.builtin "object.__class__")=some true)
  (k_ob:PySem.W.mroIn K c_BadText (.type "object")=some true)
  (x_e1:PySem.W.exmOne K (.ref c_BadText) (.ref c_LoomError)=some true)
  (x_i1:PySem.W.kitAny K (.ref c_BadText) [.ref c_BadTree,.ref c_BadName,.ref c_BadCount]=some false)
  (x_i2:PySem.W.kitAny K (.ref c_BadText) [.ref c_BadCode,.ref c_NoThing]=some false)
  (x_i3:PySem.W.kitOne K (.ref c_BadText) (.ref c_BadText)=some true)
  (x_i4:PySem.W.kitOne K (.ref c_BadText) (.type "ValueError")=some true)
  (g_SIGNS:PySem.W.nsIn K Aq "SIGNS"=some (some (.ref a_SIGNS)))
  (l_SIGNS:K.lookup a_SIGNS=some {cls:= .type "tuple",data:= .seq ([.str "+" k_SIGNS_0,.str "-" k_SIGNS_1,.str "*" k_SIGNS_2,.str "<" k_SIGNS_3,.str "=" k_SIGNS_4]:List Ac).toArray n_SIGNS})
  (g_FORMS:PySem.W.nsIn K Aq "FORMS"=some (some (.ref a_FORMS)))
  (l_FORMS:K.lookup a_FORMS=some {cls:= .type "dict",data:= .dict ([⟨PyData.keyHash w.params "main",.str "main" k_FORMS_0,.ref a_FORMS0⟩,⟨PyData.keyHash w.params "number",.str "number" k_FORMS_1,.ref a_FORMS1⟩,⟨PyData.keyHash w.params "name",.str "name" k_FORMS_2,.ref a_FORMS2⟩,⟨PyData.keyHash w.params "two",.str "two" k_FORMS_3,.ref a_FORMS3⟩,⟨PyData.keyHash w.params "fun",.str "fun" k_FORMS_4,.ref a_FORMS4⟩,⟨PyData.keyHash w.params "loop",.str "loop" k_FORMS_5,.ref a_FORMS5⟩,⟨PyData.keyHash w.params "call",.str "call" k_FORMS_6,.ref a_FORMS6⟩,⟨PyData.keyHash w.params "step",.str "step" k_FORMS_7,.ref a_FORMS7⟩,⟨PyData.keyHash w.params "let",.str "let" k_FORMS_8,.ref a_FORMS8⟩,⟨PyData.keyHash w.params "set",.str "set" k_FORMS_9,.ref a_FORMS9⟩,⟨PyData.keyHash w.params "do",.str "do" k_FORMS_10,.ref a_FORMS10⟩,⟨PyData.keyHash w.params "if",.str "if" k_FORMS_11,.ref a_FORMS11⟩,⟨PyData.keyHash w.params "while",.str "while" k_FORMS_12,.ref a_FORMS12⟩,⟨PyData.keyHash w.params "hand",.str "hand" k_FORMS_13,.ref a_FORMS13⟩,⟨PyData.keyHash w.params "back",.str "back" k_FORMS_14,.ref a_FORMS14⟩,⟨PyData.keyHash w.params "fault",.str "fault" k_FORMS_15,.ref a_FORMS15⟩,⟨PyData.keyHash w.params "try",.str "try" k_FORMS_16,.ref a_FORMS16⟩]:List DictEntry).toArray n_FORMS})
  (l_FORMS0:K.lookup a_FORMS0=some {cls:= .type "tuple",data:= .seq ([.str "names" k_FORMS0_0,.str "body" k_FORMS0_1]:List Ac).toArray n_FORMS0})
  (l_FORMS1:K.lookup a_FORMS1=some {cls:= .type "tuple",data:= .seq ([.str "number" k_FORMS1_0]:List Ac).toArray n_FORMS1})
  (l_FORMS2:K.lookup a_FORMS2=some {cls:= .type "tuple",data:= .seq ([.str "name" k_FORMS2_0]:List Ac).toArray n_FORMS2})
  (l_FORMS3:K.lookup a_FORMS3=some {cls:= .type "tuple",data:= .seq ([.str "sign" k_FORMS3_0,.str "term" k_FORMS3_1,.str "term" k_FORMS3_2]:List Ac).toArray n_FORMS3})
  (l_FORMS4:K.lookup a_FORMS4=some {cls:= .type "tuple",data:= .seq ([.str "names" k_FORMS4_0,.str "body" k_FORMS4_1]:List Ac).toArray n_FORMS4})
  (l_FORMS5:K.lookup a_FORMS5=some {cls:= .type "tuple",data:= .seq ([.str "names" k_FORMS5_0,.str "body" k_FORMS5_1]:List Ac).toArray n_FORMS5})
  (l_FORMS6:K.lookup a_FORMS6=some {cls:= .type "tuple",data:= .seq ([.str "term" k_FORMS6_0,.str "terms" k_FORMS6_1]:List Ac).toArray n_FORMS6})
  (l_FORMS7:K.lookup a_FORMS7=some {cls:= .type "tuple",data:= .seq ([.str "term" k_FORMS7_0,.str "term" k_FORMS7_1]:List Ac).toArray n_FORMS7})
  (l_FORMS8:K.lookup a_FORMS8=some {cls:= .type "tuple",data:= .seq ([.str "name" k_FORMS8_0,.str "term" k_FORMS8_1]:List Ac).toArray n_FORMS8})
  (l_FORMS9:K.lookup a_FORMS9=some {cls:= .type "tuple",data:= .seq ([.str "name" k_FORMS9_0,.str "term" k_FORMS9_1]:List Ac).toArray n_FORMS9})
  (l_FORMS10:K.lookup a_FORMS10=some {cls:= .type "tuple",data:= .seq ([.str "term" k_FORMS10_0]:List Ac).toArray n_FORMS10})
  (l_FORMS11:K.lookup a_FORMS11=some {cls:= .type "tuple",data:= .seq ([.str "term" k_FORMS11_0,.str "body" k_FORMS11_1,.str "body" k_FORMS11_2]:List Ac).toArray n_FORMS11})
  (l_FORMS12:K.lookup a_FORMS12=some {cls:= .type "tuple",data:= .seq ([.str "term" k_FORMS12_0,.str "body" k_FORMS12_1]:List Ac).toArray n_FORMS12})
  (l_FORMS13:K.lookup a_FORMS13=some {cls:= .type "tuple",data:= .seq ([.str "term" k_FORMS13_0]:List Ac).toArray n_FORMS13})
  (l_FORMS14:K.lookup a_FORMS14=some {cls:= .type "tuple",data:= .seq ([.str "term" k_FORMS14_0]:List Ac).toArray n_FORMS14})
  (l_FORMS15:K.lookup a_FORMS15=some {cls:= .type "tuple",data:= .seq ([.str "word" k_FORMS15_0,.str "term" k_FORMS15_1]:List Ac).toArray n_FORMS15})
  (l_FORMS16:K.lookup a_FORMS16=some {cls:= .type "tuple",data:= .seq ([.str "body" k_FORMS16_0,.str "name" k_FORMS16_1,.str "name" k_FORMS16_2,.str "body" k_FORMS16_3,.str "body" k_FORMS16_4]:List Ac).toArray n_FORMS16})
  (g_HEADS:PySem.W.nsIn K Aq "HEADS"=some (some (.ref a_HEADS)))
  (l_HEADS:K.lookup a_HEADS=some {cls:= .type "dict",data:= .dict ([⟨PyData.keyHash w.params "program",.str "program" k_HEADS_0,.ref a_HEADS0⟩,⟨PyData.keyHash w.params "term",.str "term" k_HEADS_1,.ref a_HEADS1⟩,⟨PyData.keyHash w.params "statement",.str "statement" k_HEADS_2,.ref a_HEADS2⟩]:List DictEntry).toArray n_HEADS})
  (l_HEADS0:K.lookup a_HEADS0=some {cls:= .type "tuple",data:= .seq ([.str "main" k_HEADS0_0]:List Ac).toArray n_HEADS0})
  (l_HEADS1:K.lookup a_HEADS1=some {cls:= .type "tuple",data:= .seq ([.str "number" k_HEADS1_0,.str "name" k_HEADS1_1,.str "two" k_HEADS1_2,.str "fun" k_HEADS1_3,.str "loop" k_HEADS1_4,.str "call" k_HEADS1_5,.str "step" k_HEADS1_6]:List Ac).toArray n_HEADS1})
  (l_HEADS2:K.lookup a_HEADS2=some {cls:= .type "tuple",data:= .seq ([.str "let" k_HEADS2_0,.str "set" k_HEADS2_1,.str "do" k_HEADS2_2,.str "if" k_HEADS2_3,.str "while" k_HEADS2_4,.str "hand" k_HEADS2_5,.str "back" k_HEADS2_6,.str "fault" k_HEADS2_7,.str "try" k_HEADS2_8]:List Ac).toArray n_HEADS2})
  (g_MEMBERS:PySem.W.nsIn K Aq "MEMBERS"=some (some (.ref a_MEMBERS)))
  (l_MEMBERS:K.lookup a_MEMBERS=some {cls:= .type "dict",data:= .dict ([⟨PyData.keyHash w.params "names",.str "names" k_MEMBERS_0,.str "name" w_MEMBERS_0⟩,⟨PyData.keyHash w.params "terms",.str "terms" k_MEMBERS_1,.str "term" w_MEMBERS_1⟩,⟨PyData.keyHash w.params "body",.str "body" k_MEMBERS_2,.str "statement" w_MEMBERS_2⟩]:List DictEntry).toArray n_MEMBERS})
  (g_UNWRITTEN:PySem.W.nsIn K Aq "UNWRITTEN"=some (some (.ref a_UNWRITTEN)))
  (l_UNWRITTEN:K.lookup a_UNWRITTEN=some {cls:= .type "tuple",data:= .seq ([.str "number" k_UNWRITTEN_0,.str "name" k_UNWRITTEN_1,.str "two" k_UNWRITTEN_2]:List Ac).toArray n_UNWRITTEN})
  (g_OPEN_ENDED:PySem.W.nsIn K Aq "OPEN_ENDED"=some (some (.ref a_OPEN_ENDED)))
  (l_OPEN_ENDED:K.lookup a_OPEN_ENDED=some {cls:= .type "tuple",data:= .seq ([.str "main" k_OPEN_ENDED_0,.str "fun" k_OPEN_ENDED_1,.str "loop" k_OPEN_ENDED_2,.str "call" k_OPEN_ENDED_3]:List Ac).toArray n_OPEN_ENDED})
  (g_BRACKETED:PySem.W.nsIn K Aq "BRACKETED"=some (some (.ref a_BRACKETED)))
  (l_BRACKETED:K.lookup a_BRACKETED=some {cls:= .type "tuple",data:= .seq ([.str "program" k_BRACKETED_0,.str "term" k_BRACKETED_1,.str "statement" k_BRACKETED_2,.str "names" k_BRACKETED_3,.str "body" k_BRACKETED_4]:List Ac).toArray n_BRACKETED}):
  ∃ fd:FuncData,(∀ (s:Af) (v:Ac),BindsTo s fd ⟨[v],[]⟩ [("_law_script",v)])∧∀ base:Heap,K.In base→base.Ns Aq mg→FnOk l.prog w K mg base CX0 89 fa fd ["_law_script"] (spLaw K):=by
 have e:=hfa.symm.trans (Ax X G a39);cases e;obtain ⟨_,kV39,dc39,pm39,an39,cd39,ct39,_,l39,c39,k39⟩:=l39;have c:Cs K mg ⟨c_LoomError,c_BadTree,c_BadText,c_BadName,c_BadCount,c_BadCode,c_NoThing,c_Opening⟩:=⟨B8 X G z_all,B8 X G z_isinstance,B8 X G z_str,B8 X G z_len,B8 X G z_bool,B8 X G z_int,B8 X G z_tuple,B8 X G z_set,B8 X G z_zip,B8 X G z_ord,B8 X G z_max,B8 X G z_range,B8 X G z_list,B8 X G z_ValueError,⟨_,Ax X G g_MOST_LETTERS,⟨_,rfl⟩⟩,⟨_,Ax X G g_GREATEST_NUMBER,⟨_,rfl⟩⟩,⟨_,Ax X G g_MOST_NAMES,⟨_,rfl⟩⟩,⟨_,Ax X G g_MOST_TERMS,⟨_,rfl⟩⟩,⟨_,Ax X G g_MOST_STATEMENTS,⟨_,rfl⟩⟩,⟨_,Ax X G g_MOST_DEPTH,⟨_,rfl⟩⟩,⟨_,Ax X G g_MOST_PARTS,⟨_,rfl⟩⟩,⟨_,Ax X G g_PERCENT,⟨_,rfl⟩⟩,⟨_,Ax X G g_MOST_SIGNS,⟨_,rfl⟩⟩,⟨_,Ax X G g_MOST_FIGURES,⟨_,rfl⟩⟩,Ax X G n_LoomError,Ax X G n_BadTree,Ax X G n_BadText,Ax X G n_BadName,Ax X G n_BadCount,Ax X G n_BadCode,Ax X G n_NoThing,Ax X G n_Opening,qen x_own,⟨_,Ax X G g_MEMBERS,h_sm⟩,⟨h_pg,h_hd,h_po,h_sa⟩,h_aS,h_aT,h_mk,h_kc,⟨k_ga,k_gt,k_be,by rw [k_cl];rfl,k_fd,k_sp,k_tk,k_ob⟩,x_e1,x_i1,x_i2,x_i3,x_i4⟩
 refine ⟨PySem.W.fnOf "law" "law" (Jb Wo) (jl Wo) (qp Wo) .none kV39 dc39 pm39 an39 cd39 ct39,fun s v=> .of_eq rfl,fun base _ _=>?_⟩;have T:Tb l.prog w K mg:=⟨⟨_,Ax X G g_SIGNS,(zz (l:=["+","-","*","<","="]) l_SIGNS (.cons ⟨_,rfl⟩ (.cons ⟨_,rfl⟩ (.cons ⟨_,rfl⟩ (.cons ⟨_,rfl⟩ (.cons ⟨_,rfl⟩ .nil))))) (O0:(5:Nat)≤1000))⟩,⟨_,_,Ax X G g_FORMS,WL l_FORMS (.cons (.cons (.cons (.cons (.cons (.cons (.cons (.cons (.cons (.cons (.cons (.cons (.cons (.cons (.cons (.cons (.cons .nil))))))))))))))))) (show (["main","number","name","two","fun","loop","call","step","let","set","do","if","while","hand","back","fault","try"]:List Str).Nodup from ∅),(.cons (zz (l:=["names","body"]) l_FORMS0 (.cons ⟨_,rfl⟩ (.cons ⟨_,rfl⟩ .nil)) (O0:(2:Nat)≤1000)) (.cons (zz (l:=["number"]) l_FORMS1 (.cons ⟨_,rfl⟩ .nil) (O0:(1:Nat)≤1000)) (.cons (zz (l:=["name"]) l_FORMS2 (.cons ⟨_,rfl⟩ .nil) (O0:(1:Nat)≤1000)) (.cons (zz (l:=["sign","term","term"]) l_FORMS3 (.cons ⟨_,rfl⟩ (.cons ⟨_,rfl⟩ (.cons ⟨_,rfl⟩ .nil))) (O0:(3:Nat)≤1000)) (.cons (zz (l:=["names","body"]) l_FORMS4 (.cons ⟨_,rfl⟩ (.cons ⟨_,rfl⟩ .nil)) (O0:(2:Nat)≤1000)) (.cons (zz (l:=["names","body"]) l_FORMS5 (.cons ⟨_,rfl⟩ (.cons ⟨_,rfl⟩ .nil)) (O0:(2:Nat)≤1000)) (.cons (zz (l:=["term","terms"]) l_FORMS6 (.cons ⟨_,rfl⟩ (.cons ⟨_,rfl⟩ .nil)) (O0:(2:Nat)≤1000)) (.cons (zz (l:=["term","term"]) l_FORMS7 (.cons ⟨_,rfl⟩ (.cons ⟨_,rfl⟩ .nil)) (O0:(2:Nat)≤1000)) (.cons (zz (l:=["name","term"]) l_FORMS8 (.cons ⟨_,rfl⟩ (.cons ⟨_,rfl⟩ .nil)) (O0:(2:Nat)≤1000)) (.cons (zz (l:=["name","term"]) l_FORMS9 (.cons ⟨_,rfl⟩ (.cons ⟨_,rfl⟩ .nil)) (O0:(2:Nat)≤1000)) (.cons (zz (l:=["term"]) l_FORMS10 (.cons ⟨_,rfl⟩ .nil) (O0:(1:Nat)≤1000)) (.cons (zz (l:=["term","body","body"]) l_FORMS11 (.cons ⟨_,rfl⟩ (.cons ⟨_,rfl⟩ (.cons ⟨_,rfl⟩ .nil))) (O0:(3:Nat)≤1000)) (.cons (zz (l:=["term","body"]) l_FORMS12 (.cons ⟨_,rfl⟩ (.cons ⟨_,rfl⟩ .nil)) (O0:(2:Nat)≤1000)) (.cons (zz (l:=["term"]) l_FORMS13 (.cons ⟨_,rfl⟩ .nil) (O0:(1:Nat)≤1000)) (.cons (zz (l:=["term"]) l_FORMS14 (.cons ⟨_,rfl⟩ .nil) (O0:(1:Nat)≤1000)) (.cons (zz (l:=["word","term"]) l_FORMS15 (.cons ⟨_,rfl⟩ (.cons ⟨_,rfl⟩ .nil)) (O0:(2:Nat)≤1000)) (.cons (zz (l:=["body","name","name","body","body"]) l_FORMS16 (.cons ⟨_,rfl⟩ (.cons ⟨_,rfl⟩ (.cons ⟨_,rfl⟩ (.cons ⟨_,rfl⟩ (.cons ⟨_,rfl⟩ .nil))))) (O0:(5:Nat)≤1000)) .nil)))))))))))))))))⟩,⟨_,_,Ax X G g_HEADS,WL l_HEADS (.cons (.cons (.cons .nil))) (show (["program","term","statement"]:List Str).Nodup from ∅),(.cons (zz (l:=["main"]) l_HEADS0 (.cons ⟨_,rfl⟩ .nil) (O0:(1:Nat)≤1000)) (.cons (zz (l:=["number","name","two","fun","loop","call","step"]) l_HEADS1 (.cons ⟨_,rfl⟩ (.cons ⟨_,rfl⟩ (.cons ⟨_,rfl⟩ (.cons ⟨_,rfl⟩ (.cons ⟨_,rfl⟩ (.cons ⟨_,rfl⟩ (.cons ⟨_,rfl⟩ .nil))))))) (O0:(7:Nat)≤1000)) (.cons (zz (l:=["let","set","do","if","while","hand","back","fault","try"]) l_HEADS2 (.cons ⟨_,rfl⟩ (.cons ⟨_,rfl⟩ (.cons ⟨_,rfl⟩ (.cons ⟨_,rfl⟩ (.cons ⟨_,rfl⟩ (.cons ⟨_,rfl⟩ (.cons ⟨_,rfl⟩ (.cons ⟨_,rfl⟩ (.cons ⟨_,rfl⟩ .nil))))))))) (O0:(9:Nat)≤1000)) .nil)))⟩,⟨_,_,Ax X G g_MEMBERS,WL l_MEMBERS (.cons (.cons (.cons .nil))) (show (["names","terms","body"]:List Str).Nodup from ∅),(.cons (.cons (.cons .nil)))⟩⟩;have T2:Tb2 K mg:=⟨⟨_,Ax X G g_UNWRITTEN,(zz (l:=["number","name","two"]) l_UNWRITTEN (.cons ⟨_,rfl⟩ (.cons ⟨_,rfl⟩ (.cons ⟨_,rfl⟩ .nil))) (O0:(3:Nat)≤1000))⟩,⟨_,Ax X G g_OPEN_ENDED,(zz (l:=["main","fun","loop","call"]) l_OPEN_ENDED (.cons ⟨_,rfl⟩ (.cons ⟨_,rfl⟩ (.cons ⟨_,rfl⟩ (.cons ⟨_,rfl⟩ .nil)))) (O0:(4:Nat)≤1000))⟩,⟨_,Ax X G g_BRACKETED,(zz (l:=["program","term","statement","names","body"]) l_BRACKETED (.cons ⟨_,rfl⟩ (.cons ⟨_,rfl⟩ (.cons ⟨_,rfl⟩ (.cons ⟨_,rfl⟩ (.cons ⟨_,rfl⟩ .nil))))) (O0:(5:Nat)≤1000))⟩⟩;obtain ⟨_,F0,k0⟩:=l0.fn;have b0:=F0.b1 "thing" fun _ _ _ _ _ _ _=>rfl;have d_is_name:Def l.prog w K mg base _ "is_name" ["thing"] _:=⟨_,_,Zz (P:=l.prog) (w:=w) (base:=base) F0 c,b0,k0,Ax X G a0⟩;obtain ⟨_,F1,k1⟩:=l1.fn;have b1:=F1.b1 "thing" fun _ _ _ _ _ _ _=>rfl;have d_is_number:Def l.prog w K mg base _ "is_number" ["thing"] _:=⟨_,_,Yl (P:=l.prog) (w:=w) (base:=base) F1 c,b1,k1,Ax X G a1⟩;obtain ⟨_,F2,k2⟩:=l2.fn;have b2:=F2.b2 "thing" "most" fun _ _ _ _ _ _ _ _=>rfl;have d_is_row:Def l.prog w K mg base _ "is_row" ["thing","most"] _:=⟨_,_,qak (P:=l.prog) (w:=w) (base:=base) F2 c,b2,k2,Ax X G a2⟩;obtain ⟨_,F3,k3⟩:=l3.fn;have b3:=F3.b1 "thing" fun _ _ _ _ _ _ _=>rfl;have d_are_names:Def l.prog w K mg base _ "are_names" ["thing"] _:=⟨_,_,Yn (P:=l.prog) (w:=w) (base:=base) F3 c d_is_name d_is_row,b3,k3,Ax X G a3⟩;obtain ⟨_,F4,k4⟩:=l4.fn;have b4:=F4.b2 "thing" "shape" fun _ _ _ _ _ _ _ _=>rfl;have d_has_shape:Def l.prog w K mg base _ "has_shape" ["thing","shape"] _:=⟨_,_,Ym (P:=l.prog) (w:=w) (base:=base) F4 c T d_is_name d_is_number d_is_row d_are_names,b4,k4,Ax X G a4⟩;obtain ⟨_,F5,k5⟩:=l5.fn;have b5:=F5.b3 "thing" "shape" "hands" fun _ _ _ _ _ _ _ _ _=>rfl;have d_has_form:Def l.prog w K mg base _ "has_form" ["thing","shape","hands"] _:=⟨_,_,Xs (P:=l.prog) (w:=w) (base:=base) F5 c T d_has_shape,b5,k5,Ax X G a5⟩;obtain ⟨_,F6,k6⟩:=l6.fn;have b6:=F6.b1 "part" fun _ _ _ _ _ _ _=>rfl;have d_inner_with_shapes:Def l.prog w K mg base _ "inner_with_shapes" ["part"] _:=⟨_,_,vN (P:=l.prog) (w:=w) (base:=base) F6 c T,b6,k6,Ax X G a6⟩;obtain ⟨_,F7,k7⟩:=l7.fn;have b7:=F7.b2 "part" "hands" fun _ _ _ _ _ _ _ _=>rfl;have d_hands_within:Def l.prog w K mg base _ "hands_within" ["part","hands"] _:=⟨_,_,wK (P:=l.prog) (w:=w) (base:=base) F7 c,b7,k7,Ax X G a7⟩;obtain ⟨_,F8,k8⟩:=l8.fn;have b8:=F8.b1 "thing" fun _ _ _ _ _ _ _=>rfl;have d_is_program:Def l.prog w K mg base _ "is_program" ["thing"] _:=⟨_,_,W3 (P:=l.prog) (w:=w) (base:=base) F8 c d_has_form d_hands_within d_inner_with_shapes,b8,k8,Ax X G a8⟩;obtain ⟨_,F9,k9⟩:=l9.fn;have b9:=F9.b1 "sign" fun _ _ _ _ _ _ _=>rfl;have d_is_text_sign:Def l.prog w K mg base _ "is_text_sign" ["sign"] _:=⟨_,_,wJ (P:=l.prog) (w:=w) (base:=base) F9 c,b9,k9,Ax X G a9⟩;obtain ⟨_,F10,k10⟩:=l10.fn;have b10:=F10.b1 "thing" fun _ _ _ _ _ _ _=>rfl;have d_is_text:Def l.prog w K mg base _ "is_text" ["thing"] _:=⟨_,_,Zy (P:=l.prog) (w:=w) (base:=base) F10 c d_is_text_sign,b10,k10,Ax X G a10⟩;obtain ⟨_,F11,k11⟩:=l11.fn;have b11:=F11.b1 "text" fun _ _ _ _ _ _ _=>rfl;have d_words_of:DefX l.prog w K mg base _ "words_of" ["text"] _:=⟨_,_,Xp (P:=l.prog) (w:=w) (base:=base) F11 c d_is_text,b11,k11,Ax X G a11⟩;obtain ⟨_,F12,k12⟩:=l12.fn;have b12:=F12.b2 "self" "shape" fun _ _ _ _ _ _ _ _=>rfl;have d_Opening:MakeA l.prog w K mg base "Opening" c_Opening _ ["self","shape"] _:=⟨⟨_,_,qal (P:=l.prog) (w:=w) (base:=base) F12 c,b12,⟨c.mkC,a12,i12,c.kc⟩⟩,c.m_Opening⟩;obtain ⟨_,F15,k15⟩:=l15.fn;have b15:=F15.b2 "head" "place" fun _ _ _ _ _ _ _ _=>rfl;have d_shape_behind:Def l.prog w K mg base _ "shape_behind" ["head","place"] _:=⟨_,_,wH (P:=l.prog) (w:=w) (base:=base) F15 c T T2,b15,k15,Ax X G a15⟩;obtain ⟨_,F13,k13⟩:=l13.fn;have b13:=F13.b1 "self" fun _ _ _ _ _ _ _=>rfl;have d_O_wanted:MethN l.prog w K mg base c_Opening _ "wanted" ["self"] _:=⟨⟨_,_,Xt (P:=l.prog) (w:=w) (base:=base) F13 c T d_shape_behind,b13,⟨a13,i13,k13⟩⟩,c.cl⟩;obtain ⟨_,F14,k14⟩:=l14.fn;have b14:=F14.b1 "self" fun _ _ _ _ _ _ _=>rfl;have d_O_closed:MethN l.prog w K mg base c_Opening _ "closed" ["self"] _:=⟨⟨_,_,Xu (P:=l.prog) (w:=w) (base:=base) F14 c T T2,b14,⟨a14,i14,k14⟩⟩,c.cl⟩;obtain ⟨_,F16,k16⟩:=l16.fn;have b16:=F16.b2 "word" "shape" fun _ _ _ _ _ _ _ _=>rfl;have d_is_head:Def l.prog w K mg base _ "is_head" ["word","shape"] _:=⟨_,_,ZA (P:=l.prog) (w:=w) (base:=base) F16 c T T2,b16,k16,Ax X G a16⟩;obtain ⟨_,F17,k17⟩:=l17.fn;have b17:=F17.b1 "word" fun _ _ _ _ _ _ _=>rfl;have d_is_numeral:Def l.prog w K mg base _ "is_numeral" ["word"] _:=⟨_,_,W4 (P:=l.prog) (w:=w) (base:=base) F17 c,b17,k17,Ax X G a17⟩;obtain ⟨_,F18,k18⟩:=l18.fn;have b18:=F18.b1 "word" fun _ _ _ _ _ _ _=>rfl;have d_term_of:DefX l.prog w K mg base _ "term_of" ["word"] _:=⟨_,_,Zx (P:=l.prog) (w:=w) (base:=base) F18 c d_is_name d_is_numeral,b18,k18,Ax X G a18⟩;obtain ⟨_,F19,k19⟩:=l19.fn;have b19:=F19.b2 "word" "opening" fun _ _ _ _ _ _ _ _=>rfl;have d_thing_of:DefX l.prog w K mg base _ "thing_of" ["word","opening"] _:=⟨_,_,Xq (P:=l.prog) (w:=w) (base:=base) F19 c d_O_wanted d_is_head d_term_of,b19,k19,Ax X G a19⟩;obtain ⟨_,F20,k20⟩:=l20.fn;have b20:=F20.b2 "openings" "word" fun _ _ _ _ _ _ _ _=>rfl;have d_take_word:DefX l.prog w K mg base _ "take_word" ["openings","word"] _:=⟨_,_,Yf (P:=l.prog) (w:=w) (base:=base) F20 c T2 d_Opening d_O_wanted d_O_closed d_thing_of,b20,k20,Ax X G a20⟩;obtain ⟨_,F21,k21⟩:=l21.fn;have b21:=F21.b1 "text" fun _ _ _ _ _ _ _=>rfl;have d_read:DefX l.prog w K mg base _ "read" ["text"] _:=⟨_,_,qfg (P:=l.prog) (w:=w) (base:=base) F21 c d_Opening d_words_of d_take_word d_is_program,b21,k21,Ax X G a21⟩;obtain ⟨_,F22,k22⟩:=l22.fn;have b22:=F22.b2 "_law_script" "_law_k" fun _ _ _ _ _ _ _ _=>rfl;have d_law_cell_at:Def l.prog w K mg base _ "_law_cell_at" ["_law_script","_law_k"] _:=⟨_,_,WD (P:=l.prog) (w:=w) (base:=base) F22 c,b22,k22,Ax X G a22⟩;obtain ⟨_,F23,k23⟩:=l23.fn;have b23:=F23.b1 "_law_state" fun _ _ _ _ _ _ _=>rfl;have kn_law_next:Known K mg "_law_next" ["_law_state"] f23 _:=⟨b23,k23,Ax X G a23⟩;have F_law_next:=F23;have d_law_next:=kn_law_next.out (Xr (P:=l.prog) (w:=w) (base:=base) F_law_next c d_law_cell_at);have d_law_next2:=kn_law_next.out (Yi (P:=l.prog) (w:=w) (base:=base) F_law_next c d_law_cell_at);obtain ⟨_,F24,k24⟩:=l24.fn;have b24:=F24.b2 "_law_cell" "_law_many" fun _ _ _ _ _ _ _ _=>rfl;have d_law_names:Def l.prog w K mg base _ "_law_names" ["_law_cell","_law_many"] _:=⟨_,_,Yj (P:=l.prog) (w:=w) (base:=base) F24 c,b24,k24,Ax X G a24⟩;obtain ⟨_,F25,k25⟩:=l25.fn;have b25:=F25.b1 "_law_more" fun _ _ _ _ _ _ _=>rfl;have d_law_number:Def l.prog w K mg base _ "_law_number" ["_law_more"] _:=⟨_,_,W2 (P:=l.prog) (w:=w) (base:=base) F25 c,b25,k25,Ax X G a25⟩;obtain ⟨_,F26,k26⟩:=l26.fn;have b26:=F26.b2 "_law_state" "_law_deep" fun _ _ _ _ _ _ _ _=>rfl;have kn_law_term:Known K mg "_law_term" ["_law_state","_law_deep"] f26 _:=⟨b26,k26,Ax X G a26⟩;have F_law_term:=F26;obtain ⟨_,F27,k27⟩:=l27.fn;have b27:=F27.b3 "_law_state" "_law_deep" "_law_may_hand" fun _ _ _ _ _ _ _ _ _=>rfl;have kn_law_body:Known K mg "_law_body" ["_law_state","_law_deep","_law_may_hand"] f27 _:=⟨b27,k27,Ax X G a27⟩;have F_law_body:=F27;obtain ⟨_,F28,k28⟩:=l28.fn;have b28:=F28.b3 "_law_state" "_law_deep" "_law_may_hand" fun _ _ _ _ _ _ _ _ _=>rfl;have kn_law_statement:Known K mg "_law_statement" ["_law_state","_law_deep","_law_may_hand"] f28 _:=⟨b28,k28,Ax X G a28⟩;have F_law_statement:=F28;have d_law_statement:=(drawn (P:=l.prog) (w:=w) (base:=base) F_law_term F_law_statement F_law_body kn_law_term kn_law_statement kn_law_body c d_law_next d_law_number 7).2.1;obtain ⟨_,F29,k29⟩:=l29.fn;have b29:=F29.b2 "_law_script" "_law_most" fun _ _ _ _ _ _ _ _=>rfl;have d_law_program:Def l.prog w K mg base _ "_law_program" ["_law_script","_law_most"] _:=⟨_,_,WC (P:=l.prog) (w:=w) (base:=base) F29 c d_law_cell_at d_law_names d_law_next d_law_statement,b29,k29,Ax X G a29⟩;obtain ⟨_,F30,k30⟩:=l30.fn;have b30:=F30.b1 "_law_body_here" fun _ _ _ _ _ _ _=>rfl;have kn_law_bodies:Known K mg "_law_bodies" ["_law_body_here"] f30 _:=⟨b30,k30,Ax X G a30⟩;have F_law_bodies:=F30;obtain ⟨_,F31,k31⟩:=l31.fn;have b31:=F31.b1 "_law_part" fun _ _ _ _ _ _ _=>rfl;have kn_law_function_words:Known K mg "_law_function_words" ["_law_part"] f31 _:=⟨b31,k31,Ax X G a31⟩;have F_law_function_words:=F31;obtain ⟨_,F32,k32⟩:=l32.fn;have b32:=F32.b1 "_law_term_here" fun _ _ _ _ _ _ _=>rfl;have kn_law_term_words:Known K mg "_law_term_words" ["_law_term_here"] f32 _:=⟨b32,k32,Ax X G a32⟩;have F_law_term_words:=F32;obtain ⟨_,F33,k33⟩:=l33.fn;have b33:=F33.b1 "_law_one" fun _ _ _ _ _ _ _=>rfl;have kn_law_words:Known K mg "_law_words" ["_law_one"] f33 _:=⟨b33,k33,Ax X G a33⟩;have F_law_words:=F33;have d_law_function_words:=(yN (P:=l.prog) (w:=w) (base:=base) F_law_bodies F_law_function_words F_law_term_words F_law_words kn_law_bodies kn_law_function_words kn_law_term_words kn_law_words c 19).2.2;have d_law_function_words20:=(yN (P:=l.prog) (w:=w) (base:=base) F_law_bodies F_law_function_words F_law_term_words F_law_words kn_law_bodies kn_law_function_words kn_law_term_words kn_law_words c 20).2.2;obtain ⟨_,F34,k34⟩:=l34.fn;have b34:=F34.b1 "_law_words_here" fun _ _ _ _ _ _ _=>rfl;have d_law_refused:Def l.prog w K mg base _ "_law_refused" ["_law_words_here"] _:=⟨_,_,WB (P:=l.prog) (w:=w) (base:=base) F34 c d_read,b34,k34,Ax X G a34⟩;obtain ⟨_,F35,k35⟩:=l35.fn;have b35:=F35.b1 "_law_more" fun _ _ _ _ _ _ _=>rfl;have d_law_strange:Def l.prog w K mg base _ "_law_strange" ["_law_more"] _:=⟨_,_,WA (P:=l.prog) (w:=w) (base:=base) F35 c,b35,k35,Ax X G a35⟩;obtain ⟨_,F36,k36⟩:=l36.fn;have b36:=F36.b2 "_law_goal" "_law_number_here" fun _ _ _ _ _ _ _ _=>rfl;have d_law_chain:Def l.prog w K mg base _ "_law_chain" ["_law_goal","_law_number_here"] _:=⟨_,_,Yk (P:=l.prog) (w:=w) (base:=base) F36 c,b36,k36,Ax X G a36⟩;obtain ⟨_,F37,k37⟩:=l37.fn;have b37:=F37.b1 "_law_more" fun _ _ _ _ _ _ _=>rfl;have d_law_too_much:Def l.prog w K mg base _ "_law_too_much" ["_law_more"] _:=⟨_,_,wI (P:=l.prog) (w:=w) (base:=base) F37 c d_law_chain d_law_function_words20,b37,k37,Ax X G a37⟩;obtain ⟨_,F38,k38⟩:=l38.fn;have b38:=F38.b2 "_law_words_here" "_law_more" fun _ _ _ _ _ _ _ _=>rfl;have d_law_wrong:Def l.prog w K mg base _ "_law_wrong" ["_law_words_here","_law_more"] _:=⟨_,_,Yg (P:=l.prog) (w:=w) (base:=base) F38 c 87 d_law_too_much d_law_strange O0,b38,k38,Ax X G a38⟩;have F39:=qd1 (st:=Wo) l39 c39 k39;exact qh2 F39 c 88 d_law_program d_law_function_words d_read d_law_refused d_law_wrong d_law_next2 O0
theorem walk {l:PySem.W.OpenLaw} {q:Program} {loose:List Str} {XP:(Str→Option Ac)→Heap→Prop} {YP:World→Heap→Prop} {d:DefRec} {K:Params→Frag} (hn:l.most=some 63) (hdf:d.params.defaults=[])
  (hY:∀ (w:World) (h:Heap),YP w h→(K w.params).In h)
  (F:∀ (w:World) (mg:Str→Option Ac) (fa:Ae) (h:Heap),(K w.params).In h→h.Ns Aq mg→mg d.name=some (.ref fa)→
   ∃ fd:FuncData,(∀ (s:Af) (u:Ac),BindsTo s fd ⟨[u],[]⟩ [("_law_script",u)])∧∀ base:Heap,(K w.params).In base→base.Ns Aq mg→FnOk l.prog w (K w.params) mg base CX0 89 fa fd ["_law_script"] (spLaw (K w.params))):
  PySem.W.WalkO q loose XP YP l.row.toRowW d [] (fun f vs=>PySem.call f vs):=
 L2.wQ (n:=63) (k:=89) (x:="_law_script") (CX:=fun _=>CX0) (sp:=fun w=>spLaw (K w.params)) hn O0 hdf ⟨rfl,O0,O0⟩ hY F (fun _ _ a ns hl _ hS=>⟨a,ns,rfl,hS,hl,fun _=>rfl⟩) fun _ _ _ _ _ z=>z
end Mine
set_option Elab.async true
theorem PySem.W.Fast.te16555476440528808052 : True := trivial
namespace PySem.Challenge.cw_waitloom_k06_texts_refused_holds
theorem te6142887788411055558:True:=trivial
theorem te117552134017771667:True:=trivial
theorem te17940850695623405341:True:=trivial
theorem te13429758613576432643:True:=trivial
theorem te1971742749937142762:True:=trivial
theorem te13365885476493347600:True:=trivial
theorem te3787675475049436149:True:=trivial
theorem te16236520163728707131:True:=trivial
theorem te15015399962699641849:True:=trivial
theorem te12705393409900040610:True:=trivial
theorem te17180313040370216491:True:=trivial
theorem te1773660771654077171:True:=trivial
theorem te695982452744486690:True:=trivial
theorem te4549095887926764035:True:=trivial
theorem te10086744769969723917:True:=trivial
theorem te8982386065461086246:True:=trivial
theorem te177785501875266237:True:=trivial
theorem te8876858961847307994:True:=trivial
theorem te1925584581555384851:True:=trivial
theorem te5202230264881818056:True:=trivial
theorem te11129491482883473406:True:=trivial
theorem te1669186587977496963:True:=trivial
theorem te13780377158247110130:True:=trivial
theorem te6739461029577963679:True:=trivial
theorem te2395600025566476674:True:=trivial
theorem te18325961506518981424:True:=trivial
theorem te6939439208677704890:True:=trivial
theorem te2776800280586618065:True:=trivial
theorem te10391798051792872304:True:=trivial
theorem te5880274419182029963:True:=trivial
theorem te1482386161417753732:True:=trivial
theorem te11747040579385118009:True:=trivial
theorem te16932403951402725902:True:=trivial
theorem te9718562849594409495:True:=trivial
theorem te4847888705256190185:True:=trivial
theorem te17021685426384365492:True:=trivial
theorem te5924928947779209219:True:=trivial
theorem te8626238551157901102:True:=trivial
theorem te11234334941390676892:True:=trivial
theorem te7323308620270039148:True:=trivial
theorem te16028002580302301748:True:=trivial
theorem te8761059986893569649:True:=trivial
theorem te8491166717939376803:True:=trivial
theorem te17552556799187926047:True:=trivial
theorem te5251112502256095851:True:=trivial
theorem te1312902059159410615:True:=trivial
theorem te18144989787852502354:True:=trivial
theorem te5992414868513874381:True:=trivial
theorem te17046346044978638924:True:=trivial
theorem te4508500661122903598:True:=trivial
theorem te18182811758852441949:True:=trivial
theorem te14430640771069279880:True:=trivial
theorem te1736839355261386640:True:=trivial
theorem te18013062264083772772:True:=trivial
theorem te11140255923376356936:True:=trivial
theorem te6206845866459521541:True:=trivial
theorem te6662074248487014310:True:=trivial
theorem te11180955847738234860:True:=trivial
theorem te4314380067975775592:True:=trivial
theorem te1570045431922364213:True:=trivial
theorem te189300168254173553:True:=trivial
theorem te4711684565434550580:True:=trivial
theorem te1506910755451978744:True:=trivial
theorem te10665947035239186591:True:=trivial
theorem te5646496075707826508:True:=trivial
theorem te5997036918600563610:True:=trivial
theorem te2213213874115136814:True:=trivial
theorem te9458109701676996543:True:=trivial
theorem te6885882362782134132:True:=trivial
theorem te12077240028525850709:True:=trivial
theorem te826304639577413932:True:=trivial
theorem te5637616425274397186:True:=trivial
theorem te8677812310340047841:True:=trivial
theorem te14437037168714554994:True:=trivial
theorem te17762836655305536584:True:=trivial
theorem te17982076951090157411:True:=trivial
theorem te13338020440366326553:True:=trivial
theorem te6894641010744410292:True:=trivial
theorem te973917033123387207:True:=trivial
theorem te16494868495549260947:True:=trivial
theorem te12117420800261743155:True:=trivial
theorem te17344565061968787645:True:=trivial
theorem te5377261543387936843:True:=trivial
theorem te17177630527200047461:True:=trivial
theorem te10169084358608645442:True:=trivial
theorem te1953250342637737115:True:=trivial
theorem te16818947816945531081:True:=trivial
theorem te11339138325762414682:True:=trivial
theorem te9371655372867320565:True:=trivial
theorem te13253438432256165721:True:=trivial
theorem te2408546356151051720:True:=trivial
theorem te4115183596237221313:True:=trivial
theorem te8750169253200818508:True:=trivial
theorem te1122417436359689215:True:=trivial
theorem te15533420259573605877:True:=trivial
theorem te8218939281520711593:True:=trivial
theorem te15910413716968138892:True:=trivial
theorem te15392207518095494886:True:=trivial
theorem te10027374395399020356:True:=trivial
theorem te5971168344848068060:True:=trivial
theorem te17214836905671682963:True:=trivial
theorem te1615830405385242185:True:=trivial
theorem te9969583334044940810:True:=trivial
theorem te5041146645326531799:True:=trivial
theorem te16426756692354336700:True:=trivial
theorem te7049286135778603304:True:=trivial
theorem te16968384077159640337:True:=trivial
theorem te1108047946239594878:True:=trivial
theorem te18277039917326538715:True:=trivial
theorem te2018159736529552016:True:=trivial
theorem te5375650526869733141:True:=trivial
theorem te7238346408588939442:True:=trivial
theorem te17489665616238293275:True:=trivial
theorem te17053301686169585348:True:=trivial
theorem te11993913802383942344:True:=trivial
theorem te10654232727949029122:True:=trivial
theorem te17967663557114604480:True:=trivial
theorem te5089071084266803112:True:=trivial
theorem te6714619742772277610:True:=trivial
theorem te8863823777860530792:True:=trivial
theorem te3285462700391182737:True:=trivial
theorem te1585821973526926338:True:=trivial
theorem te15921446854791682099:True:=trivial
theorem te5847159924902874623:True:=trivial
theorem te14514976781232611201:True:=trivial
theorem te13422675766288343922:True:=trivial
theorem te1484400222972299852:True:=trivial
theorem te14206027162973703768:True:=trivial
theorem te8239268853157499531:True:=trivial
theorem te6898935920745656025:True:=trivial
theorem te3748489718971940535:True:=trivial
theorem te9482548360395174271:True:=trivial
theorem te17802185149861303013:True:=trivial
theorem te6909121835033995258:True:=trivial
theorem te10572366954572430002:True:=trivial
theorem te3851187996431413387:True:=trivial
theorem te16643090592285583259:True:=trivial
theorem te10065405074156865409:True:=trivial
theorem te16338238537527166022:True:=trivial
theorem te11113303734610390682:True:=trivial
theorem te2763351497904177596:True:=trivial
theorem te5956497452417861820:True:=trivial
theorem te6819804230306879166:True:=trivial
theorem te9341447168225686357:True:=trivial
theorem te13254716313752417409:True:=trivial
theorem te18345006717666982785:True:=trivial
theorem te17109275203756017245:True:=trivial
theorem te16866417516136503610:True:=trivial
theorem te1095314875734177221:True:=trivial
theorem te857297403394516405:True:=trivial
theorem te11588337201122917916:True:=trivial
theorem te9907359567858794159:True:=trivial
theorem te17270042233461805356:True:=trivial
theorem te6954985561271830986:True:=trivial
theorem te11639074039785170347:True:=trivial
theorem te14447811443083222865:True:=trivial
theorem te10496405178069962852:True:=trivial
theorem te5283908581361732417:True:=trivial
theorem te3667811819122897128:True:=trivial
theorem te10551543858606747689:True:=trivial
theorem te14128483727126137449:True:=trivial
theorem te12701394527759365975:True:=trivial
theorem te4350516981711628266:True:=trivial
theorem te15368876133912584000:True:=trivial
theorem te5529896189551754066:True:=trivial
theorem te745938693600310182:True:=trivial
theorem te315740721992591408:True:=trivial
theorem te16967520512356303043:True:=trivial
theorem te13590962975139590504:True:=trivial
theorem te16167996096235384375:True:=trivial
theorem te7925529587773077238:True:=trivial
theorem te7024530592731364906:True:=trivial
theorem te7407530851011534840:True:=trivial
theorem te4942487727090299129:True:=trivial
theorem te3688965630921122812:True:=trivial
theorem te10825672747550361931:True:=trivial
theorem te754157330241601603:True:=trivial
theorem te16737548950349557134:True:=trivial
theorem te9280024985731258537:True:=trivial
theorem te5414692181016884798:True:=trivial
theorem te12661928706517179780:True:=trivial
theorem te2320691758573056976:True:=trivial
theorem te4932320633241356954:True:=trivial
theorem te6044484515362384579:True:=trivial
theorem te15517806131250154426:True:=trivial
theorem te16476555479850792877:True:=trivial
theorem te4750399762804997426:True:=trivial
theorem te13037260862088751599:True:=trivial
theorem te5838073739612016064:True:=trivial
theorem te14075273843427315962:True:=trivial
theorem te3962652515162625110:True:=trivial
theorem te3373715366180928101:True:=trivial
theorem te13852907521594654433:True:=trivial
theorem te1191390535580536663:True:=trivial
theorem te13149102654099754034:True:=trivial
theorem te11193817082068598563:True:=trivial
theorem te2225518902604459140:True:=trivial
theorem te18173832427897532488:True:=trivial
theorem te15303758224455958263:True:=trivial
theorem te15199307804930632646:True:=trivial
theorem te16672849741891775332:True:=trivial
theorem te16133243208084921669:True:=trivial
theorem te3869855824576788652:True:=trivial
theorem te13840486329160614379:True:=trivial
theorem te6499089316133855823:True:=trivial
theorem te4290091779426444767:True:=trivial
theorem te4681534409918978155:True:=trivial
theorem te18252659057231224363:True:=trivial
theorem te1502062922894816946:True:=trivial
theorem te16961212832352389918:True:=trivial
theorem te11669045357310248865:True:=trivial
theorem te18000065414167998558:True:=trivial
theorem te18433403083662220955:True:=trivial
theorem te3853292779207747732:True:=trivial
theorem te13732299613940275168:True:=trivial
theorem te7666464579075959733:True:=trivial
theorem te15336782747681469752:True:=trivial
theorem te13697914230597905309:True:=trivial
theorem te6125898399450647869:True:=trivial
theorem te5580782721973543309:True:=trivial
theorem te17133901287092301482:True:=trivial
theorem te5840364675464482854:True:=trivial
theorem te16194098986136008414:True:=trivial
theorem te11638343786163087899:True:=trivial
theorem te18008556461562699795:True:=trivial
theorem te18005131531228941427:True:=trivial
theorem te1444255561178867265:True:=trivial
theorem te12737333992349149311:True:=trivial
theorem te5644965778606939875:True:=trivial
theorem te8143166742701901822:True:=trivial
theorem te13455464103632633360:True:=trivial
theorem te4167671076431674127:True:=trivial
theorem te8306031747327795409:True:=trivial
theorem te98565897583298127:True:=trivial
theorem te12663307163579796998:True:=trivial
theorem te6777524954326374027:True:=trivial
theorem te3175720515619275272:True:=trivial
theorem te783899960107503626:True:=trivial
theorem te5290149538213147582:True:=trivial
theorem te5780206141452121343:True:=trivial
theorem te14491545496439853298:True:=trivial
theorem te14779291377875163727:True:=trivial
theorem te9744939648766208446:True:=trivial
theorem te12660800394595082700:True:=trivial
theorem te15727639295682542028:True:=trivial
theorem te9306533317880829780:True:=trivial
theorem te2340374305687062415:True:=trivial
theorem te16628625317309076449:True:=trivial
theorem te1840536674135055008:True:=trivial
theorem te64919552322118173:True:=trivial
theorem te12143860893878472713:True:=trivial
theorem te6602865879651649459:True:=trivial
theorem te13102375488978867519:True:=trivial
theorem te10795404671137368248:True:=trivial
theorem te4156615899502088583:True:=trivial
theorem te8699871399442605726:True:=trivial
theorem te5464290765979612644:True:=trivial
theorem te2316929936401805287:True:=trivial
theorem te7164525848890046658:True:=trivial
theorem te10563879697798427647:True:=trivial
theorem te13970097330934510756:True:=trivial
theorem te5857371693035893596:True:=trivial
theorem te4421337703034519753:True:=trivial
theorem te11603870667144147525:True:=trivial
theorem te7001320157721247609:True:=trivial
theorem te15577872836493944009:True:=trivial
theorem te17138447008045964812:True:=trivial
theorem te18204265416358632866:True:=trivial
theorem te6919129015311459043:True:=trivial
theorem te2856819228238955489:True:=trivial
theorem te7580254001198947337:True:=trivial
theorem te8776193523862641902:True:=trivial
theorem te6217808822854987146:True:=trivial
theorem te15439684717074438008:True:=trivial
theorem te3854046018325816392:True:=trivial
theorem te9408137731049052586:True:=trivial
theorem te1275229929090045309:True:=trivial
theorem te10123803503595248102:True:=trivial
theorem te5316358927941065822:True:=trivial
theorem te5697879853892912606:True:=trivial
theorem te8339502070486155565:True:=trivial
theorem te16988225391037678632:True:=trivial
theorem te3266748215358617502:True:=trivial
theorem te17638620352581826779:True:=trivial
theorem te511341159164238807:True:=trivial
theorem te16192460606371007786:True:=trivial
theorem te18134750987114086214:True:=trivial
theorem te18005968025651953761:True:=trivial
theorem te12984684626465472449:True:=trivial
theorem te11694717560032642727:True:=trivial
theorem te47016120415380706:True:=trivial
theorem te16777531461163432381:True:=trivial
theorem te12205479065751590220:True:=trivial
theorem te6997527145718547895:True:=trivial
theorem te15559833519781489347:True:=trivial
theorem te13547704800630073232:True:=trivial
theorem te8049794940458073278:True:=trivial
theorem te13264768796042121664:True:=trivial
theorem te1062673715581977317:True:=trivial
theorem te12305373013802887174:True:=trivial
theorem te4416577576982661773:True:=trivial
theorem te15426972513420449382:True:=trivial
theorem te2609648141802604466:True:=trivial
theorem te18278826124968610220:True:=trivial
theorem te7220001867219940607:True:=trivial
theorem te15480648913406672683:True:=trivial
theorem te618007821647205582:True:=trivial
theorem te7198693145268465702:True:=trivial
theorem te7042908920022676121:True:=trivial
theorem te4988539268657826259:True:=trivial
theorem te10652528757239601859:True:=trivial
theorem te10223879961594967808:True:=trivial
theorem te18398341144324059484:True:=trivial
theorem te4081856804609543340:True:=trivial
theorem te5902150108768357032:True:=trivial
theorem te11287755802426179515:True:=trivial
theorem te10069702058652798799:True:=trivial
theorem te5807268411218258404:True:=trivial
theorem te8662433755151048867:True:=trivial
theorem te12620080881203844278:True:=trivial
theorem te4429602812953623945:True:=trivial
theorem te1730237871694710171:True:=trivial
theorem te10933286980786629250:True:=trivial
theorem te4705966029089860916:True:=trivial
theorem te7527450298871909015:True:=trivial
theorem te394095004049981241:True:=trivial
theorem te9530258523722837409:True:=trivial
theorem te7268248406719683351:True:=trivial
theorem te3511427145084507272:True:=trivial
theorem te10586366099657287216:True:=trivial
theorem te4876340796910052274:True:=trivial
theorem te1066551794727909436:True:=trivial
theorem te13756505188143351638:True:=trivial
theorem te9673338974227121402:True:=trivial
theorem te8496140851226859835:True:=trivial
theorem te16079200536917435679:True:=trivial
theorem te6665589575606401527:True:=trivial
theorem te1292633337450544972:True:=trivial
theorem te12822785906144598343:True:=trivial
theorem te12613446158020412230:True:=trivial
theorem te11733511124848797509:True:=trivial
theorem te15890841601480856593:True:=trivial
theorem te2920932378887092490:True:=trivial
theorem te712362205195832418:True:=trivial
theorem te16125697659478210152:True:=trivial
theorem te2364625928917871160:True:=trivial
theorem te10345159993503709933:True:=trivial
theorem te9779291114262027836:True:=trivial
theorem te18031141388264682433:True:=trivial
theorem te5101133183189646178:True:=trivial
theorem te7578160985510383364:True:=trivial
theorem te6912123376570048829:True:=trivial
theorem te1985851371515013913:True:=trivial
theorem te15181367262681585476:True:=trivial
theorem te18206265518619536704:True:=trivial
theorem te5619645823655306114:True:=trivial
theorem te1883895862648515319:True:=trivial
theorem te11299337807288208054:True:=trivial
theorem te2088153328905291373:True:=trivial
theorem te16389426076571388540:True:=trivial
theorem te3139578548584347129:True:=trivial
theorem te2951132349256092947:True:=trivial
theorem te14420064632001699142:True:=trivial
theorem te2237644576959485552:True:=trivial
end PySem.Challenge.cw_waitloom_k06_texts_refused_holds
def PySem.Challenge.cw_waitloom_k06_texts_refused_holds.tw1850233472091617844:PySem.Program:=PySem.Challenge.pw_waitloom_k06_texts_refused
theorem PySem.Challenge.cw_waitloom_k06_texts_refused_holds.te1850233472091617844:PySem.Challenge.pw_waitloom_k06_texts_refused=PySem.Challenge.cw_waitloom_k06_texts_refused_holds.tw1850233472091617844:=rfl
open PySem PySem.W PyProof.Rows
set_option maxRecDepth 100000 in
set_option maxHeartbeats 0 in
theorem PySem.Challenge.cw_waitloom_k06_texts_refused_holds : PySem.Challenge.rw_waitloom_k06_texts_refused.Holds := by
 w_on;o_law;k_head;(case hw=>w_witness2)
 k_fill
 refine Mine.walk (l:=PySem.Challenge.rw_waitloom_k06_texts_refused) rfl rfl (fun w h Y=>PySem.W.kIn_of Y) ?F
 case F=>
  intro w mg fa h KX G hmg;refine' Mine.qiy KX G hmg ?a0 ?l0 ?a1 ?l1 ?a2 ?l2 ?a3 ?l3 ?a4 ?l4 ?a5 ?l5 ?a6 ?l6 ?a7 ?l7 ?a8 ?l8 ?a9 ?l9 ?a10 ?l10 ?a11 ?l11 ?a12 ?i12 ?l12 ?a13 ?i13 ?l13 ?a14 ?i14 ?l14 ?a15 ?l15 ?a16 ?l16 ?a17 ?l17 ?a18 ?l18 ?a19 ?l19 ?a20 ?l20 ?a21 ?l21 ?a22 ?l22 ?a23 ?l23 ?a24 ?l24 ?a25 ?l25 ?a26 ?l26 ?a27 ?l27 ?a28 ?l28 ?a29 ?l29 ?a30 ?l30 ?a31 ?l31 ?a32 ?l32 ?a33 ?l33 ?a34 ?l34 ?a35 ?l35 ?a36 ?l36 ?a37 ?l37 ?a38 ?l38 ?a39 ?l39 ?z_all ?z_isinstance ?z_str ?z_len ?z_bool ?z_int ?z_tuple ?z_set ?z_zip ?z_ord ?z_max ?z_range ?z_list ?z_ValueError ?g_MOST_LETTERS ?g_GREATEST_NUMBER ?g_MOST_NAMES ?g_MOST_TERMS ?g_MOST_STATEMENTS ?g_MOST_DEPTH ?g_MOST_PARTS ?g_PERCENT ?g_MOST_SIGNS ?g_MOST_FIGURES ?n_LoomError ?n_BadTree ?n_BadText ?n_BadName ?n_BadCount ?n_BadCode ?n_NoThing ?n_Opening ?x_own ?h_sm ?h_pg ?h_hd ?h_po ?h_sa ?h_aS ?h_aT ?h_mk ?h_kc ?k_ga ?k_gt ?k_be ?k_cl ?k_fd ?k_sp ?k_tk ?k_ob ?x_e1 ?x_i1 ?x_i2 ?x_i3 ?x_i4 ?g_SIGNS ?l_SIGNS ?g_FORMS ?l_FORMS ?l_FORMS0 ?l_FORMS1 ?l_FORMS2 ?l_FORMS3 ?l_FORMS4 ?l_FORMS5 ?l_FORMS6 ?l_FORMS7 ?l_FORMS8 ?l_FORMS9 ?l_FORMS10 ?l_FORMS11 ?l_FORMS12 ?l_FORMS13 ?l_FORMS14 ?l_FORMS15 ?l_FORMS16 ?g_HEADS ?l_HEADS ?l_HEADS0 ?l_HEADS1 ?l_HEADS2 ?g_MEMBERS ?l_MEMBERS ?g_UNWRITTEN ?l_UNWRITTEN ?g_OPEN_ENDED ?l_OPEN_ENDED ?g_BRACKETED ?l_BRACKETED
  (case n_LoomError=>k_is)
  (case n_BadTree=>k_is)
  (case n_BadText=>k_is)
  (case n_BadName=>k_is)
  (case n_BadCount=>k_is)
  (case n_BadCode=>k_is)
  (case n_NoThing=>k_is)
  (case n_Opening=>k_is)
  (case a0=>k_is)
  (case l0=>exact ⟨_,_,_,_,_,_,_,_,by k_is,by k_is,by k_is⟩)
  (case a1=>k_is)
  (case l1=>exact ⟨_,_,_,_,_,_,_,_,by k_is,by k_is,by k_is⟩)
  (case a2=>k_is)
  (case l2=>exact ⟨_,_,_,_,_,_,_,_,by k_is,by k_is,by k_is⟩)
  (case a3=>k_is)
  (case l3=>exact ⟨_,_,_,_,_,_,_,_,by k_is,by k_is,by k_is⟩)
  (case a4=>k_is)
  (case l4=>exact ⟨_,_,_,_,_,_,_,_,by k_is,by k_is,by k_is⟩)
  (case a5=>k_is)
  (case l5=>exact ⟨_,_,_,_,_,_,_,_,by k_is,by k_is,by k_is⟩)
  (case a6=>k_is)
  (case l6=>exact ⟨_,_,_,_,_,_,_,_,by k_is,by k_is,by k_is⟩)
  (case a7=>k_is)
  (case l7=>exact ⟨_,_,_,_,_,_,_,_,by k_is,by k_is,by k_is⟩)
  (case a8=>k_is)
  (case l8=>exact ⟨_,_,_,_,_,_,_,_,by k_is,by k_is,by k_is⟩)
  (case a9=>k_is)
  (case l9=>exact ⟨_,_,_,_,_,_,_,_,by k_is,by k_is,by k_is⟩)
  (case a10=>k_is)
  (case l10=>exact ⟨_,_,_,_,_,_,_,_,by k_is,by k_is,by k_is⟩)
  (case a11=>k_is)
  (case l11=>exact ⟨_,_,_,_,_,_,_,_,by k_is,by k_is,by k_is⟩)
  (case a12=>k_is)
  (case i12=>k_is)
  (case l12=>exact ⟨_,_,_,_,_,_,_,_,by k_is,by k_is,by k_is⟩)
  (case a13=>k_is)
  (case i13=>k_is)
  (case l13=>exact ⟨_,_,_,_,_,_,_,_,by k_is,by k_is,by k_is⟩)
  (case a14=>k_is)
  (case i14=>k_is)
  (case l14=>exact ⟨_,_,_,_,_,_,_,_,by k_is,by k_is,by k_is⟩)
  (case a15=>k_is)
  (case l15=>exact ⟨_,_,_,_,_,_,_,_,by k_is,by k_is,by k_is⟩)
  (case a16=>k_is)
  (case l16=>exact ⟨_,_,_,_,_,_,_,_,by k_is,by k_is,by k_is⟩)
  (case a17=>k_is)
  (case l17=>exact ⟨_,_,_,_,_,_,_,_,by k_is,by k_is,by k_is⟩)
  (case a18=>k_is)
  (case l18=>exact ⟨_,_,_,_,_,_,_,_,by k_is,by k_is,by k_is⟩)
  (case a19=>k_is)
  (case l19=>exact ⟨_,_,_,_,_,_,_,_,by k_is,by k_is,by k_is⟩)
  (case a20=>k_is)
  (case l20=>exact ⟨_,_,_,_,_,_,_,_,by k_is,by k_is,by k_is⟩)
  (case a21=>k_is)
  (case l21=>exact ⟨_,_,_,_,_,_,_,_,by k_is,by k_is,by k_is⟩)
  (case a22=>k_is)
  (case l22=>exact ⟨_,_,_,_,_,_,_,_,by k_is,by k_is,by k_is⟩)
  (case a23=>k_is)
  (case l23=>exact ⟨_,_,_,_,_,_,_,_,by k_is,by k_is,by k_is⟩)
  (case a24=>k_is)
  (case l24=>exact ⟨_,_,_,_,_,_,_,_,by k_is,by k_is,by k_is⟩)
  (case a25=>k_is)
  (case l25=>exact ⟨_,_,_,_,_,_,_,_,by k_is,by k_is,by k_is⟩)
  (case a26=>k_is)
  (case l26=>exact ⟨_,_,_,_,_,_,_,_,by k_is,by k_is,by k_is⟩)
  (case a27=>k_is)
  (case l27=>exact ⟨_,_,_,_,_,_,_,_,by k_is,by k_is,by k_is⟩)
  (case a28=>k_is)
  (case l28=>exact ⟨_,_,_,_,_,_,_,_,by k_is,by k_is,by k_is⟩)
  (case a29=>k_is)
  (case l29=>exact ⟨_,_,_,_,_,_,_,_,by k_is,by k_is,by k_is⟩)
  (case a30=>k_is)
  (case l30=>exact ⟨_,_,_,_,_,_,_,_,by k_is,by k_is,by k_is⟩)
  (case a31=>k_is)
  (case l31=>exact ⟨_,_,_,_,_,_,_,_,by k_is,by k_is,by k_is⟩)
  (case a32=>k_is)
  (case l32=>exact ⟨_,_,_,_,_,_,_,_,by k_is,by k_is,by k_is⟩)
  (case a33=>k_is)
  (case l33=>exact ⟨_,_,_,_,_,_,_,_,by k_is,by k_is,by k_is⟩)
  (case a34=>k_is)
  (case l34=>exact ⟨_,_,_,_,_,_,_,_,by k_is,by k_is,by k_is⟩)
  (case a35=>k_is)
  (case l35=>exact ⟨_,_,_,_,_,_,_,_,by k_is,by k_is,by k_is⟩)
  (case a36=>k_is)
  (case l36=>exact ⟨_,_,_,_,_,_,_,_,by k_is,by k_is,by k_is⟩)
  (case a37=>k_is)
  (case l37=>exact ⟨_,_,_,_,_,_,_,_,by k_is,by k_is,by k_is⟩)
  (case a38=>k_is)
  (case l38=>exact ⟨_,_,_,_,_,_,_,_,by k_is,by k_is,by k_is⟩)
  (case a39=>k_is)
  (case l39=>exact ⟨_,_,_,_,_,_,_,_,by k_is,by k_is,by k_is⟩)
  (case z_all=>k_is)
  (case z_isinstance=>k_is)
  (case z_str=>k_is)
  (case z_len=>k_is)
  (case z_bool=>k_is)
  (case z_int=>k_is)
  (case z_tuple=>k_is)
  (case z_set=>k_is)
  (case z_zip=>k_is)
  (case z_ord=>k_is)
  (case z_max=>k_is)
  (case z_range=>k_is)
  (case z_list=>k_is)
  (case z_ValueError=>k_is)
  (case g_MOST_LETTERS=>k_is)
  (case g_GREATEST_NUMBER=>k_is)
  (case g_MOST_NAMES=>k_is)
  (case g_MOST_TERMS=>k_is)
  (case g_MOST_STATEMENTS=>k_is)
  (case g_MOST_DEPTH=>k_is)
  (case g_MOST_PARTS=>k_is)
  (case g_PERCENT=>k_is)
  (case g_MOST_SIGNS=>k_is)
  (case g_MOST_FIGURES=>k_is)
  (case x_own=>k_exc)
  (case h_pg=>k_is)
  (case h_hd=>k_is)
  (case h_po=>k_is)
  (case h_sa=>k_is)
  (case h_aS=>k_is)
  (case h_aT=>k_is)
  (case h_mk=>k_is)
  (case h_kc=>k_is)
  (case k_ga=>k_is)
  (case k_gt=>k_is)
  (case k_be=>k_is)
  (case k_cl=>k_is)
  (case k_fd=>k_is)
  (case k_sp=>k_is)
  (case k_tk=>k_is)
  (case k_ob=>k_is)
  (case x_e1=>kts_exm)
  (case x_i1=>kit_is)
  (case x_i2=>kit_is)
  (case x_i3=>kit_is)
  (case x_i4=>kit_is)
  (case g_SIGNS=>k_is)
  (case l_SIGNS=>k_is)
  (case g_FORMS=>k_is)
  (case l_FORMS=>k_is)
  (case l_FORMS0=>k_is)
  (case l_FORMS1=>k_is)
  (case l_FORMS2=>k_is)
  (case l_FORMS3=>k_is)
  (case l_FORMS4=>k_is)
  (case l_FORMS5=>k_is)
  (case l_FORMS6=>k_is)
  (case l_FORMS7=>k_is)
  (case l_FORMS8=>k_is)
  (case l_FORMS9=>k_is)
  (case l_FORMS10=>k_is)
  (case l_FORMS11=>k_is)
  (case l_FORMS12=>k_is)
  (case l_FORMS13=>k_is)
  (case l_FORMS14=>k_is)
  (case l_FORMS15=>k_is)
  (case l_FORMS16=>k_is)
  (case g_HEADS=>k_is)
  (case l_HEADS=>k_is)
  (case l_HEADS0=>k_is)
  (case l_HEADS1=>k_is)
  (case l_HEADS2=>k_is)
  (case g_MEMBERS=>k_is)
  (case l_MEMBERS=>k_is)
  (case g_UNWRITTEN=>k_is)
  (case l_UNWRITTEN=>k_is)
  (case g_OPEN_ENDED=>k_is)
  (case l_OPEN_ENDED=>k_is)
  (case g_BRACKETED=>k_is)
  (case l_BRACKETED=>k_is)
  (case h_sm=>rfl)
