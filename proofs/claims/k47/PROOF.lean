import PyProof.Rows.All
import Wide.All
import OpenK.AllK
import Wide.FinOn
import Lean
import PyProof.EqAt
import PyProof.EqKinds
import PyProof.TupleCall
import PySem.Challenge.RW_thinbook_k47_whole_the_true_answer_is_wi
def Aa:=@List.length_map
def Ab:=@List.getElem?_eq_getElem
def Ac:=@PySem.wpAny_bind
def Ad:=@List.mem_cons_of_mem
def Ae:=@List.mem_cons_self
def Af:=@PySem.Heap.get?_push_of_some
def Ag:=@List.length_append
def Ah:=@List.mem_map
def Ai:=@PySem.wpAny_pure
def Aj:=@List.getElem?_eq_some_iff
def Ak:=@Nat.le_refl
def Al:=@if_neg
def Am:=@List.mem_of_getElem?
def An:=@List.getElem?_map
def Ao:=@List.map_append
def Ap:=@Int.mul_le_mul_of_nonneg_left
def Aq:=@PySem.Heap.lt_size
def Ar:=@Option.map_eq_some_iff
def As:=@List.mem_append_right
def Au:=@if_pos
def Av:=@List.mem_cons
def Aw:=@List.take_length
def Ax:=@Option.some.inj
def Ay:=@PySem.Heap.get?_push_size
def Az:=@decide_eq_false
def AA:=@Bool.false_ne_true
def AB:=@Nat.le_of_lt
def AD:=@decide_eq_true
def AE:=@List.mem_append_left
def AF:=@List.length_cons
def AG:=@Int.mul_le_mul_of_nonneg_right
def AH:=@Nat.ne_of_lt
def AI:=@List.mem_singleton
def AJ:=@List.size_toArray
def AK:=@List.mem_append
def AL:=@Nat.le_trans
def AM:=@of_decide_eq_true
def AN:=@List.getD_eq_getElem?_getD
def AO:=@PySem.F.plainAttrs_list
def AQ:=@Int.mul_add
def AR:=@List.map_cons
def AS:=@PySem.PassesOwn.never
def AU:=@List.length_take
def AV:=@decide_eq_true_eq
def AW:=@Array.getD_eq_getD_getElem?
def AX:=@List.mem_filter
def AY:=@Nat.lt_of_lt_of_le
def AZ:=@PySem.F.type_list_append
def A6:=@PySem.F.slot_list_append
def A7:=@Int.emod_lt_of_pos
def A8:=@Int.mul_sub
def A9:=@List.length_singleton
def Ba:=@Int.sub_mul
def Bb:=@List.cons_append
def Bc:=@List.map_congr_left
def Be:=@Array.length_toList
def Bf:=@Int.mul_comm
def Bg:=@List.length_eq_zero_iff
def Bh:=@Int.emod_nonneg
def Bi:=@Int.le_refl
def Bj:=@Array.getElem?_eq_getElem
def Bk:=@PySem.wpAny_newObj_type
def Bl:=@List.append_nil
def Bm:=@List.filter_append
def Bn:=@List.getElem?_append_left
def Bo:=@List.not_mem_nil
def Bp:=@List.length_pos_iff
def Bq:=@List.Nodup.length_le_of_subset
def Br:=@PySem.wpAny_mono
def Bs:=@List.nil_append
def Bt:=@PySem.wpAny_call_entry
def Bu:=@Bool.and_eq_true
def Bv:=@PySem.sizeLine_eq
def Bw:=@Nat.zero_le
def Bx:=@List.length_filter_le
def By:=@List.map_map
def Bz:=@List.filter_cons_of_pos
def BA:=@List.nodup_iff_pairwise_ne
def BB:=@List.getElem?_set_ne
def BC:=@PySem.Heap.get?_update_other
def BD:=@List.getElem_of_mem
def BE:=@Nat.le_succ
def BF:=@List.pairwise_map
def BG:=@PySem.F.slot_dict_itemiterator_next
def BH:=@PySem.W.kia_one
def BI:=@PyProof.Rows.callWith_type1
def BJ:=@Nat.lt_irrefl
def BK:=@Int.mul_assoc
def BL:=@List.take_of_length_le
def BM:=@PySem.Heap.size_push
def BN:=@List.nodup_cons
def BO:=@PySem.F.slot_dict_keyiterator_next
def BP:=@List.length_zipWith
def BQ:=@PySem.Heap.SameBut.update
def BR:=@Ne.symm
def BS:=@PySem.wpAny_holding
def BU:=@Int.mul_one
def BV:=@PySem.Heap.size_update
def BW:=@List.getElem?_eq_none
def BX:=@List.pairwise_iff_getElem
def BY:=@List.getElem?_zip_eq_some
def BZ:=@List.length_nil
def B2:=@Bool.eq_iff_iff
def B3:=@PySem.wpAny_truthy_bool
def B4:=@PySem.wpAny_field
def B5:=@List.foldl_append
def B6:=@List.append_assoc
def B7:=@List.flatMap_append
def B8:=@PySem.wpAny_typeNameOfWhole_itemiter
def B9:=@Bool.false_and
def Ca:=@PySem.wpAny_typeNameOfWhole_keyiter
def Cb:=@PySem.wpAny_Call_Name_kw
def Cc:=@Bool.false_eq_true
def Cd:=@PySem.wpAny_passesOwn
def Ce:=@or_false
def Cf:=@PySem.wpAny_dictEntries
def Cg:=@List.flatMap_cons
def Ci:=@PySem.Heap.get?_push_ne
def Cj:=@if_false
def Ck:=@List.getElem?_append_right
def Cm:=@Array.getElem?_eq_some_iff
def Cn:=@Nat.lt_succ_self
def Co:=@List.length_drop
def Cp:=@List.getElem_mem
def Cq:=@PySem.wpAny_typeNameOf_itemiter
def Cr:=@Decidable.byContradiction
def Cs:=@beq_eq_false_iff_ne
def Ct:=@PySem.mem_of_lookup
def Cu:=@PySem.wpAny_typeNameOf_keyiter
def Cv:=@Int.dvd_trans
def Cw:=@PySem.wpAny_dictEpoch
def Cy:=@List.find?_cons
def Cz:=@PySem.wpAny_setField_rec
def CA:=@PySem.Obj.data_mapFields
def CB:=@PySem.Calls.spliced_cons
def CC:=@List.filter_cons_of_neg
def CD:=@Int.neg_mul
def CF:=@Int.eq_ofNat_of_zero_le
def CG:=@PySem.wpAny_setField
def CH:=@PySem.codeAny_mono
def CI:=@Nat.ne_of_gt
def CJ:=@Nat.lt_succ_of_lt
def CK:=@List.zipWith_cons_cons
def CL:=@Int.toNat_natCast
def CM:=@PyProof.Rows.slot_tuple_getitem
def CN:=@PySem.Heap.get?_update_self
def CO:=@Array.getElem?_toList
def CP:=@Nat.le_add_right
def CQ:=@List.mem_flatMap
def CS:=@PySem.wpAny_newList
def CT:=@PyProof.Rows.listUpdate_at
def CU:=@PySem.Paired.length
def CV:=@List.of_mem_zip
def CW:=@Int.toNat_of_nonneg
def CY:=@if_true
def CZ:=@PySem.tupleKind_room_in1
def C0:=@PySem.W.callWith_K
def C1:=@Nat.lt_of_le_of_lt
def C3:=@List.zip_cons_cons
def C4:=@List.perm_ext_iff_of_nodup
def C5:=@List.mem_range
def C6:=@Int.fdiv_eq_ediv_of_nonneg
def C7:=@Array.size_map
def C8:=@List.getLast?_eq_getElem?
def C9:=@PySem.Calls.call_function_entry
def Dc:=@PyProof.Rows.seqEpoch_at
def Dd:=@PySem.W.kas_item_eq
def De:=@List.reverse_cons
def Df:=@PySem.Calls.spliced_nil
def Dg:=@Bool.eq_false_iff
def Dh:=@PySem.F.type_list_extend
def Di:=@PySem.F.slot_list_extend
def Dj:=@List.map_drop
def Dk:=@Bool.true_and
def Dl:=@Option.getD_some
def Dm:=@List.pairwise_singleton
def Dp:=@List.mem_reverse
def Dq:=@List.Perm.eq_nil
def Dr:=@PySem.wpAny_isOneOf_itemiter
def Ds:=@PyProof.Rows.size_push'
def Dt:=@beq_iff_eq
def Du:=@Nat.lt_trans
def Dv:=@Int.le_trans
def Dw:=@PySem.Calls.callWith_builtin
def Dx:=@PySem.wpAny_execs_nil
def Dy:=@Option.map_some
def Dz:=@List.length_zip
def DA:=@List.foldl_cons
def DB:=@List.filter_map
def DC:=@PySem.F.slot_dict_get
def DD:=@PySem.Obj.isFreed_of_fields
def DE:=@Int.mul_ediv_add_emod
def DF:=@PySem.wpAny_newTuple
def DG:=@PySem.wpAny_fieldsOf
def DH:=@List.map_id
def DI:=@Int.mul_nonneg
def DJ:=@Int.add_mul
def DK:=@PySem.W.plainGet_of
def DL:=@List.length_reverse
def DM:=@List.filterMap_cons
def DN:=@PySem.wpAny_attempt
def DO:=@List.map_take
def DP:=@Bool.false_or
def DQ:=@PyProof.Rows.assignInOrder_cons
def DR:=@List.mem_filterMap
def DS:=@Int.mul_right_comm
def DT:=@Int.lt_of_lt_of_le
def DU:=@PySem.wpAny_pyIter_slot
def DV:=@bne_self_eq_false
def DW:=@Nat.succ.inj
def DX:=@Nat.le_of_eq
def DY:=@Nat.gcd_comm
def DZ:=@List.nodup_append
def D0:=@List.map_nil
def D1:=@List.length_range
def D2:=@List.getElem?_nil
def D3:=@List.ext_getElem?
def D4:=@Int.zero_add
def D5:=@Int.add_zero
def D6:=@PySem.F.args_dict_itemiterator_next_1
def D7:=@PySem.wpAny_isInstance
def D8:=@PySem.wpAny_execs_cons
def D9:=@decide_eq_decide
def Ea:=@PySem.W.makes_of
def Eb:=@List.map_flatMap
def Eg:=@List.filter_cons
def Eh:=@List.all_eq_true
def Ei:=@PySem.F.entry_dict_itemiterator_next
def Ej:=@PySem.F.args_dict_keyiterator_next_1
def Ek:=@List.getElem?_replicate_of_lt
def El:=@Int.neg_neg
def Em:=@PySem.F.slot_dict_itemiterator_iter
def En:=@PySem.F.entry_dict_keyiterator_next
def Eo:=@PySem.wpAny_specialOf
def Ep:=@PyProof.Rows.list_sort_plain
def Er:=@PyProof.Rows.entry_list_sort
def Es:=@Int.mul_lt_mul_of_pos_right
def Et:=@PySem.wpAny_call
def Eu:=@PyProof.Rows.slot_list_sort
def Ew:=@PyProof.Rows.args_list_sort
def Ey:=@List.take_succ
def Ez:=@Int.natAbs_mul
def EA:=@Int.le_of_mul_le_mul_right
def EC:=@PySem.Calls.Name_function_global
def ED:=@Bool.and_false
def EE:=@PySem.wpAny_standAt
def EF:=@PySem.wpAny_comprehension_free
def EG:=@PyProof.Rows.sortedAll_old
def EH:=@PySem.nums_intItems
def EI:=@PySem.F.args_tuple_add_2
def EJ:=@PyProof.noPylong_of_log2
def EK:=@Option.isSome_iff_exists
def EL:=@List.length_filterMap_le
def EM:=@List.any_cons
def EN:=@List.all_cons
def EO:=@List.Perm.eq_of_pairwise
def ER:=@Int.mul_ediv_cancel_left
def ES:=@Int.add_assoc
def ET:=@Bool.or_false
def EU:=@PySem.F.entry_tuple_add
def EW:=@PySem.F.args_dict_get_3
def EX:=@PyProof.Rows.subscriptTail_builtinR
def EY:=@PyProof.Rows.sortedAll_at
def EZ:=@PyProof.Rows.plain_sorted
def E3:=@PyProof.Rows.pairsOf_size
def E4:=@PyProof.Rows.listItems_at
def E5:=@PyProof.Rows.floordiv_int
def E6:=@PyProof.Rows.entry_sorted
def E7:=@PyProof.Rows.args_sorted1
def E8:=@PySem.W.cellsFrom_some
def E9:=@PySem.F.slot_tuple_add
def Fb:=@PySem.F.entry_dict_get
def Fc:=@List.getElem?_set_self
def Fd:=@List.filter_eq_nil_iff
def Fe:=@List.append_eq_nil_iff
def Ff:=@PySem.F.slot_dict_items_iter
def Fg:=@Bool.true_or
def Fh:=@Array.getElem?_eq_none
def Fi:=@PySem.wpAny_notOrdered_dict
def Fj:=@PySem.wpAny_isTrue_Compare1
def Fl:=@PySem.wpAny_isOneOf_keyiter
def Fm:=@PySem.builtinLookup_eq_fast
def Fn:=@PySem.W.methodCall_KW
def Fo:=@List.take_append_drop
def Fp:=@List.subset_cons_self
def Fq:=@List.perm_append_comm
def Fs:=@List.mem_iff_getElem?
def Ft:=@List.getElem?_zipWith
def Fv:=@List.filterMap_append
def Fw:=@List.Perm.append_left
def Fx:=@Int.emod_add_mul_ediv
def Fy:=@Int.ediv_lt_of_lt_mul
def Fz:=@PySem.wpAny_loadName_local
def FA:=@PySem.numAt_eq
def FC:=@PyProof.Rows.kind_sorted
def FD:=@PySem.W.looks_findIn
def FE:=@List.replicate_succ'
def FF:=@Int.one_mul
def FH:=@PySem.Heap.get?_none_of_le
def FJ:=@PySem.F.args_list_append_2
def FK:=@PySem.Calls.evalArgs_plain
local macro_rules | `(tactic| omega) => `(tactic| lia)
local macro_rules | `(tactic| ext) => `(tactic| first | lia | omega)
local macro_rules | `(tactic| exists $es,*) => `(tactic| refine ⟨$es,*, ?_⟩)
set_option Elab.async false
set_option linter.all false
set_option maxRecDepth 100000
open PySem.W (Frag nsIn fnOf codeIn keepIn mg_of)
namespace L2
open PySem PySem.Spec PyProof.Rows
variable {xs:List V}{us vs:List Value}{H H':Hp}{o:HO}{h:Heap}{t' i k ek ep:Nat}{it C f l d:Addr}{N ps:List Str}{j:Int}{x qual:Str}{E Q:Value->Shared->Prop}{u:Value}{e e1 e2:Expr}{σ:St}{y:V}{D:Ends}{tc:TT}{te:TE}{g:TG}{p epos:Pos}{sp:Sp}{ks:List (List Int)}{t1 t2 t3 t4 t5:TS}
abbrev Key:=Sum Int Str
def qqu:Key->Value->Bool
 | .inl k,v=>Value.isInt k v
 | .inr x,v=>Value.isStrOf x v
def qFk (w:World):Key->Int
 | .inl k=>hashInt k
 | .inr x=>hashStr w x
theorem qbi:∀ {k:Key} {v:Value},qqu k v=true->(∃ i t,k=Sum.inl i/\v=Value.int i t)\/(∃ x t,k=Sum.inr x/\v=Value.str x t)
 | .inl i,v,h=>by
  obtain ⟨t,e⟩:=Value.isInt_shape (k:=i) (v:=v) h;exact .inl ⟨i,t,rfl,e⟩
 | .inr x,v,h=>by
  obtain ⟨t,e⟩:=Value.isStrOf_shape (x:=x) (v:=v) h;exact .inr ⟨x,t,rfl,e⟩
theorem qrw (i:Int) (t:Tok):qqu (.inl i) (.int i t)=true:=by simp[qqu,Value.isInt]
theorem qrx (x:Str) (t:Tok):qqu (.inr x) (.str x t)=true:=by simp[qqu,Value.isStrOf]
theorem qAk (a b:Int):decide ((Sum.inl a:Key)=Sum.inl b)=(a == b):=by
 by_cases e:a=b
 ·subst e;simp
 ·have h:¬ (Sum.inl a:Key)=Sum.inl b:=λq=>e (Sum.inl.inj q)
  rw[Az h];exact (Cs.mpr e).symm
theorem qAl (a b:Str):decide ((Sum.inr a:Key)=Sum.inr b)=decide (a=b):=by
 by_cases e:a=b
 ·subst e;simp
 ·have h:¬ (Sum.inr a:Key)=Sum.inr b:=λq=>e (Sum.inr.inj q)
  rw[Az h,Az e]
theorem qAm (a:Int) (b:Str):decide ((Sum.inl a:Key)=Sum.inr b)=false:=Az (λq=>nomatch q)
theorem qAn (a:Str) (b:Int):decide ((Sum.inr a:Key)=Sum.inl b)=false:=Az (λq=>nomatch q)
def qbr (prog:Program) (w:World):PySem.KeyKind prog w Key where
 is:=qqu
 hash:=qFk w
 inj:=λv a b ha hb=>by
  rcases qbi ha with ⟨i,t,rfl,rfl⟩|⟨x,t,rfl,rfl⟩
  ·rcases qbi hb with ⟨j,u,rfl,e⟩|⟨y,u,rfl,e⟩
   ·injection e with e1 _;rw[e1]
   ·exact nomatch e
  ·rcases qbi hb with ⟨j,u,rfl,e⟩|⟨y,u,rfl,e⟩
   ·exact nomatch e
   ·injection e with e1 _;rw[e1]
 byValue:=λk v h=>by
  rcases qbi h with ⟨i,t,rfl,rfl⟩|⟨x,t,rfl,rfl⟩<;>rfl
 pyHash:=λhv h=>by
  rcases qbi hv with ⟨i,t,rfl,rfl⟩|⟨x,t,rfl,rfl⟩
  ·exact wpAny_pyHash_int h
  ·exact wpAny_pyHash_str h
 eqBool:=λhu hv h=>by
  rcases qbi hu with ⟨i,t,rfl,rfl⟩|⟨x,t,rfl,rfl⟩
  ·rcases qbi hv with ⟨j,u,rfl,rfl⟩|⟨y,u,rfl,rfl⟩
   ·rw[qAk] at h;exact wpAny_eqBool_int h
   ·rw[qAm] at h;exact SeqAt.EqAt.int_str i t y u _ _ _ _ h
  ·rcases qbi hv with ⟨j,u,rfl,rfl⟩|⟨y,u,rfl,rfl⟩
   ·rw[qAn] at h;exact SeqAt.EqAt.str_int x t j u _ _ _ _ h
   ·rw[qAl] at h;exact wpAny_eqBool_str h
 «strs» :=λk x t v h=>by
  rcases qbi h with ⟨i,u,rfl,e⟩|⟨y,u,rfl,e⟩
  ·exact nomatch e
  ·injection e with e1 _
   subst e1
   cases v<;>rfl
theorem qn3 (prog:Program) (w:World) (i:Int) (t:Tok):(qbr prog w).is (.inl i) (.int i t)=true:=qrw i t
theorem qn4 (prog:Program) (w:World) (x:Str) (t:Tok):(qbr prog w).is (.inr x) (.str x t)=true:=qrx x t
open PySem PySem.Spec PyProof.Rows
inductive V where
 | non|bl (b:Bool)|int (i:Int)|str (x:Str)|byt (b:Array UInt8)|flt (b:UInt64)|ref (a:Addr)|ty (n:String)
 deriving DecidableEq
def RelV:V->Value->Prop
 | .non,u=>u=Value.none
 | .bl b,u=>u=Value.bool b
 | .int i,u=>∃ t,u=Value.int i t
 | .str x,u=>∃ t,u=Value.str x t
 | .byt b,u=>∃ t,u=Value.bytes b t
 | .flt b,u=>∃ t,u=Value.float b t
 | .ref a,u=>u=Value.ref a
 | .ty n,u=>u=Value.type n
abbrev Vals:List V->List Value->Prop:=Paired RelV
theorem Vals.length (r:Vals xs us):xs.length=us.length:=CU r
theorem Vals.get:∀ {xs:List V} {us:List Value} {i:Nat} {x:V},Vals xs us->xs[i]?=some x->∃ u,us[i]?=some u/\RelV x u
 | _,_,_,_,.nil,e=>by simp at e
 | _,_,0,_,.cons r _,e=>by simp at e;subst e;exact ⟨_,rfl,r⟩
 | _,_,i+1,x,.cons _ t,e=>by
  obtain ⟨u,h1,h2⟩:=Vals.get (i:=i) (x:=x) t (by simpa using e);exact ⟨u,by simpa using h1,h2⟩
theorem Vals.append:∀ {xs ys:List V} {us ws:List Value},Vals xs us->Vals ys ws->Vals (xs ++ ys) (us ++ ws)
 | _,_,_,_,.nil,s=>s
 | _,_,_,_,.cons r t,s=>.cons r (Vals.append t s)
theorem Vals.take:∀ {xs:List V} {us:List Value} (n:Nat),Vals xs us->Vals (xs.take n) (us.take n)
 | _,_,0,_=>.nil
 | _,_,_+1,.nil=>.nil
 | _,_,n+1,.cons r t=>.cons r (Vals.take n t)
theorem Vals.drop:∀ {xs:List V} {us:List Value} (n:Nat),Vals xs us->Vals (xs.drop n) (us.drop n)
 | _,_,0,r=>r
 | _,_,_+1,.nil=>.nil
 | _,_,n+1,.cons _ t=>Vals.drop n t
def RelO:Option V->Option Value->Prop
 | some v,some u=>RelV v u
 | none,none=>True
 | _,_=>False
def KV {κ:Type}:List (κ×V)->List (κ×Value)->Prop:=Paired fun (p:κ×V) (q:κ×Value)=>p.1=q.1/\RelV p.2 q.2
def kV:Key->V
 | .inl i=>.int i
 | .inr x=>.str x
inductive HO where
 | lst (xs:List V)
 | tup (xs:List V)
 | dK (kvs:List (Key×V))|dT (kvs:List (List Key×V))
 | set (S:Int->Bool) (n:Nat)
 | ins (C dx:Addr) (fs:List (Str×V))
 | own (x:Addr)
 | xd (fs:List (Str×V))
 | met (f x:Addr)
 | rng (lo hi:Int)
 | frz (o:Obj) (u:HO)
 | tbl (ps:Array Value)
 | ext (φ:Heap->Prop)
abbrev Hp:=Addr->Option HO
def upd (H:Hp) (a:Addr) (o:HO):Hp:=λb=>if b=a then some o else H b
theorem qa5 {a:Addr} :upd H a o a=some o:=by unfold upd;rw[Au rfl]
theorem qas {a b:Addr} (h:b≠a):upd H a o b=H b:=by unfold upd;rw[Al h]
theorem qa0 {a b:Addr} {u:HO} (h:H a=some o) (h':H b=some u) (d:o≠u):a≠b:=by
 intro e;subst e;rw[h] at h';exact d (Ax h')
theorem qae {a b:Addr} (h:H a=some o) (h':H b=none):a≠b:=by
 intro e;subst e;rw[h] at h';cases h'
section
variable (P:Program) (w:World)
def ObjOk (H:Hp) (h:Heap) (a:Addr):HO->Prop
 | .lst xs=>xs.length<=sizeLine/\∃ (its:List Value) (n:Nat),Vals xs its/\h.get? a=some { cls:=.type "list",data:=.seq its.toArray n }
 | .tup xs=>xs.length<=sizeLine/\∃ its:List Value,Vals xs its/\IsTup h a its.toArray
 | .dK kvs=>kvs.length<=sizeLine/\(a == sysModules)=false/\∃ vs,KV kvs vs/\h.DictOf (qbr P w) a vs
 | .dT kvs=>kvs.length<=sizeLine/\(a == sysModules)=false/\∃ xs:List (List Key×Addr×Value),
   Paired (fun (p:List Key×V) (q:List Key×Addr×Value)=>p.1=q.1/\H q.2.1=some (.tup (p.1.map kV))/\RelV p.2 q.2.2) kvs xs /\
   ∃ o es ep,h.get? a=some o/\o.ExactDict/\o.data=.dict es ep/\es.toList=xs.map (entryOfKey (tupleKind (qbr P w)))/\(xs.map (·.1)).Nodup
 | .set S n=>h.SetOf (intKind P w) a S n
 | .ins C dx fs=>H dx=some (.own a)/\fs.length<=1000/\dx≠a/\h.get? a=some (PySem.W.instObj C dx) /\
   ∃ mA,h.Ns1 dx mA/\(∀ f,RelO (fs.lookup f) (mA f))/\PySem.Within mA (fs.map (·.1))
 | .own _=>∃ o,h.get? a=some o
 | .xd fs=>∃ mA,h.Ns1 a mA/\∀ f,RelO (fs.lookup f) (mA f)
 | .rng lo hi=>∃ t u v,h.get? a=some { cls:=.type "range",data:=.fields #[.int lo t,.int hi u,.int 1 v] }
 | .frz o u=>h.get? a=some o/\ObjOk H h a u
 | .tbl ps=>h.get? a=some { cls:=.none,data:=.fields ps }
 | .met f x=>h.get? a=some (PySem.W.methodObj (.ref f) (.ref x))
 | .ext φ=>φ h/\(∃ o,h.get? a=some o)/\∀ h1 h2:Heap,φ h1->(∀ o,h1.get? a=some o->h2.get? a=some o)->φ h2
def HOk (H:Hp) (h:Heap):Prop:=∀ a o,H a=some o->ObjOk P w H h a o
end
section
variable {P:Program} {w:World} {H H':Hp} {h h':Heap} {a:Addr} {o:HO}
theorem ObjOk.lt (x:ObjOk P w H h a o):a<h.objs.size:=by
 cases o with
 | lst xs=>obtain ⟨_,_,_,_,e⟩:=x;exact Aq e
 | tup xs=>obtain ⟨_,_,_,p⟩:=x;exact p.lt
 | dK kvs=>obtain ⟨_,_,_,_,o,_,_,e,_⟩:=x;exact Aq e
 | dT kvs=>obtain ⟨_,_,_,_,o,_,_,e,_⟩:=x;exact Aq e
 | set S n=>obtain ⟨o,_,_,_,e,_⟩:=x;exact Aq e
 | ins C dx fs=>obtain ⟨_,_,_,e,_⟩:=x;exact Aq e
 | own y=>obtain ⟨_,e⟩:=x;exact Aq e
 | xd fs=>obtain ⟨_,⟨_,_,_,e,_⟩,_⟩:=x;exact Aq e
 | rng lo hi=>obtain ⟨_,_,_,e⟩:=x;exact Aq e
 | frz ob u=>obtain ⟨e,_⟩:=x;exact Aq e
 | tbl ps=>exact Aq (show h.get? a=some _ from x)
 | met f y=>exact Aq (show h.get? a=some _ from x)
 | ext φ=>obtain ⟨_,⟨_,e⟩,_⟩:=x;exact Aq e
theorem Paired.mapP {α β:Type} {F G:α->β->Prop}:∀ {l₁:List α} {l₂:List β},Paired F l₁ l₂->(∀ a b,F a b->G a b)->Paired G l₁ l₂
 | _,_,.nil,_=>.nil
 | _,_,.cons r t,f=>.cons (f _ _ r) (Paired.mapP t f)
theorem ObjOk.stay (x:ObjOk P w H h a o) (k:∀ b u,(b=a\/H b=some (.own a))->h.get? b=some u->h'.get? b=some u)
  (ho:∀ b,H b=some (.own a)->H' b=some (.own a)) (ht:∀ b xs,H b=some (.tup xs)->H' b=some (.tup xs)):ObjOk P w H' h' a o:=by
 induction o with
 | lst xs=>obtain ⟨z,its,n,r,e⟩:=x;exact ⟨z,its,n,r,k _ _ (.inl rfl) e⟩
 | tup xs=>obtain ⟨z,its,r,ob,e,c⟩:=x;exact ⟨z,its,r,ob,k _ _ (.inl rfl) e,c⟩
 | dK kvs=>obtain ⟨z,y,vs,r,ob,es,ep,e,c⟩:=x;exact ⟨z,y,vs,r,ob,es,ep,k _ _ (.inl rfl) e,c⟩
 | dT kvs =>
  obtain ⟨z,y,xs,r,ob,es,ep,e,c⟩:=x;exact ⟨z,y,xs,Paired.mapP r λp q z=>⟨z.1,ht _ _ z.2.1,z.2.2⟩,ob,es,ep,k _ _ (.inl rfl) e,c⟩
 | set S n=>obtain ⟨ob,es,ep,t,e,c⟩:=x;exact ⟨ob,es,ep,t,k _ _ (.inl rfl) e,c⟩
 | ins C dx fs =>
  obtain ⟨d,z,ne,e,mA,⟨od,es,ep,e2,c⟩,r⟩:=x;exact ⟨ho _ d,z,ne,k _ _ (.inl rfl) e,mA,⟨od,es,ep,k _ _ (.inr d) e2,c⟩,r⟩
 | own y=>obtain ⟨ob,e⟩:=x;exact ⟨ob,k _ _ (.inl rfl) e⟩
 | xd fs=>obtain ⟨mA,⟨od,es,ep,e,c⟩,r⟩:=x;exact ⟨mA,⟨od,es,ep,k _ _ (.inl rfl) e,c⟩,r⟩
 | rng lo hi=>obtain ⟨t,u,v,e⟩:=x;exact ⟨t,u,v,k _ _ (.inl rfl) e⟩
 | frz ob u ih=>obtain ⟨e,q⟩:=x;exact ⟨k _ _ (.inl rfl) e,ih q⟩
 | tbl ps =>
  have e:h.get? a=some { cls:=.none,data:=.fields ps }:=x
  show h'.get? a=some { cls:=.none,data:=.fields ps }
  exact k a _ (.inl rfl) e
 | met f y =>
  have e:h.get? a=some (PySem.W.methodObj (.ref f) (.ref y)):=x
  show h'.get? a=some (PySem.W.methodObj (.ref f) (.ref y))
  exact k a _ (.inl rfl) e
 | ext φ=>obtain ⟨p,⟨o,e⟩,st⟩:=x;exact ⟨st _ _ p λo q=>k _ _ (.inl rfl) q,⟨o,k _ _ (.inl rfl) e⟩,st⟩
theorem HOk.lt (x:HOk P w H h) (e:H a=some o):a<h.objs.size:=(x a o e).lt
theorem HOk.fresh (x:HOk P w H h) (e:h.objs.size<=a):H a=none:=by
 cases q:H a with
 | none=>rfl
 | some u=>exact absurd (AY (x.lt q) e) (BJ _)
theorem HOk.kept (x:HOk P w H h) (k:∀ b u,h.get? b=some u->h'.get? b=some u):HOk P w H h':=λa o e =>
 (x a o e).stay (λb u _ q=>k b u q) (λ_ q=>q) λ_ _ q=>q
theorem HOk.laid (x:HOk P w H h) (k:∀ b u,h.get? b=some u->h'.get? b=some u) (hp:h.objs.size<=a) (new:ObjOk P w (upd H a o) h' a o):HOk P w (upd H a o) h':=λb u e=>by
 have hn:=x.fresh hp
 by_cases hb:b=a
 ·subst hb;rw[qa5] at e;cases e;exact new
 ·rw[qas hb] at e
  exact (x b u e).stay (λc v _ q=>k c v q) (λc q=>by rw[qas (qae q hn)];exact q) λc xs q=>by rw[qas (qae q hn)];exact q
end
def Rd (H:Hp) (a:Addr) (u:HO):Prop:=H a=some u\/∃ o,H a=some (.frz o u)
theorem Rd.ok {P:Program} {w:World} {a:Addr} {u:HO} (r:Rd H a u) (x:HOk P w H h):ObjOk P w H h a u:=by
 rcases r with r|⟨o,r⟩
 ·exact x a u r
 ·obtain ⟨_,q⟩:=x a _ r
  exact q
def Mut:Option HO->Prop
 | some (.lst _)=>True
 | some (.dK _)=>True
 | some (.dT _)=>True
 | some (.set _ _)=>True
 | some (.ins _ _ _)=>True
 | some (.ext _)=>True
 | _=>False
section
variable {P:Program} {w:World} {H:Hp} {h h':Heap} {x e:Addr} {o':HO}
theorem HOk.write (ok:HOk P w H h) (mu:Mut (H x)) (he:e=x\/H e=some (.own x)) (k:∀ b u,b≠e->h.get? b=some u->h'.get? b=some u) (heo:∃ u,h'.get? e=some u)
  (new:ObjOk P w (upd H x o') h' x o'):HOk P w (upd H x o') h':=λb u q=>by
 have nown:∀ c y,H c=some (.own y)->c≠x:=λc y r z=>by subst z;rw[r] at mu;exact mu
 have ntup:∀ c xs,H c=some (.tup xs)->c≠x:=λc xs r z=>by subst z;rw[r] at mu;exact mu
 by_cases hb:b=x
 ·subst hb;rw[qa5] at q;cases q;exact new
 ·rw[qas hb] at q
  by_cases hbe:b=e
  ·have q':H b=some (.own x):=by
    rcases he with z|z
    ·exact absurd (hbe.trans z) hb
    ·rw[hbe];exact z
   rw[q] at q';cases q';obtain ⟨v,hv⟩:=heo;exact ⟨v,by rw[hbe];exact hv⟩
  ·refine (ok b u q).stay (λc v hc r=>k c v ?_ r) (λc r=>by rw[qas (nown c b r)];exact r) λc xs r=>by rw[qas (ntup c xs r)];exact r
   rcases hc with rfl|hc
   ·exact hbe
   ·rintro rfl
    rcases he with z|z
    ·exact nown c b hc z
    ·rw[hc] at z;cases z;exact hb rfl
end
structure Un (fs ex:List Addr) (H H':Hp) (h h':Heap):Prop where
 keep:∀ b o,h.get? b=some o->H b=none->b ∉ fs->b ∉ ex->h'.get? b=some o
 slot:∀ b o,h.get? b=some o->H b=none->b∈fs->b ∉ ex->∃ sl,h'.get? b=some { o with slots:=sl }
 free:∀ b o,h.get? b=some o->H b=none->b ∉ ex->H' b=none
 there:∀ b o,h.get? b=some o->b ∉ ex->∃ o',h'.get? b=some o'
 tups:∀ b xs,H b=some (.tup xs)->H' b=some (.tup xs)
 frzs:∀ b o u,H b=some (.frz o u)->H' b=some (.frz o u)
 tbls:∀ b ps,H b=some (.tbl ps)->∃ more,H' b=some (.tbl (ps ++ more))
section
variable {fs fs' ex ex':List Addr} {H H1 H2:Hp} {h h1 h2 h':Heap} {a x e:Addr} {o:HO}
theorem Un.any (u:Un fs ex H H1 h h1) {b:Addr} {ob:Obj} (q:h.get? b=some ob) (n:H b=none) (hx:b ∉ ex):∃ sl,h1.get? b=some { ob with slots:=sl }:=by
 by_cases hb:b∈fs
 ·exact u.slot b ob q n hb hx
 ·exact ⟨ob.slots,u.keep b ob q n hb hx⟩
theorem Un.kept (k:∀ b u,h.get? b=some u->h'.get? b=some u):Un fs ex H H h h':=
 ⟨λb ob q _ _ _=>k b ob q,λb ob q _ _ _=>⟨ob.slots,k b ob q⟩,λ_ _ _ n _=>n,λb ob q _=>⟨ob,k b ob q⟩,λ_ _ q=>q,λ_ _ _ q=>q,λ_ ps q=>⟨#[],by rw[q];simp⟩⟩
theorem Un.refl:Un fs ex H H h h:=Un.kept λ_ _ q=>q
theorem Un.laid (k:∀ b u,h.get? b=some u->h'.get? b=some u) (hp:h.objs.size<=a) (hn:H a=none):Un fs ex H (upd H a o) h h' where
 keep:=λb u q _ _ _=>k b u q
 slot:=λb u q _ _ _=>⟨u.slots,k b u q⟩
 free:=λb u q n _=>by rw[qas (AH (AY (Aq q) hp))];exact n
 there:=λb u q _=>⟨u,k b u q⟩
 tups:=λb xs q=>by rw[qas (qae q hn)];exact q
 frzs:=λb u xs q=>by rw[qas (qae q hn)];exact q
 tbls:=λb ps q=>⟨#[],by rw[qas (qae q hn),q];simp⟩
theorem Un.write (mu:Mut (H x)) (he:e=x\/H e=some (.own x)) (k:∀ b u,b≠e->h.get? b=some u->h'.get? b=some u) (heo:∃ u,h'.get? e=some u):Un fs ex H (upd H x o) h h':=by
 have hx:∀ b,H b=none->b≠x:=λb n z=>by subst z;rw[n] at mu;exact mu
 have hb:∀ b,H b=none->b≠e:=λb n z=>by
  subst z
  rcases he with r|r
  ·exact hx b n r
  ·rw[n] at r;cases r
 have hm:∀ b u,H b=some u->¬ Mut (some u)->b≠x:=λb u q nm z=>by subst z;rw[q] at mu;exact nm mu
 refine ⟨λb u q n _ _=>k b u (hb b n) q,λb u q n _ _=>⟨u.slots,k b u (hb b n) q⟩,λb u q n _=>by rw[qas (hx b n)];exact n,λb u q _=>?_,
  λb xs q=>by rw[qas (hm b _ q λz=>z)];exact q,λb u xs q=>by rw[qas (hm b _ q λz=>z)];exact q,λb ps q=>⟨#[],by rw[qas (hm b _ q λz=>z),q];simp⟩⟩
 by_cases hbe:b=e
 ·subst hbe;exact heo
 ·exact ⟨u,k b u hbe q⟩
end
def trk (h:Heap) (H:Hp):List Addr:=(List.range h.objs.size).filter λa=>(H a).isSome
def qu6 (h:Heap) (H:Hp):Heap:=PySem.W.hideAll h (trk h H)
theorem qry (h:Heap) (H:Hp):(qu6 h H).objs.size=h.objs.size:=PySem.W.hideAll_size _ _
theorem qu7 {b:Addr} {o:Obj} (e:h.get? b=some o) (n:H b=none):(qu6 h H).get? b=some o:=
 PySem.W.hideAll_get _ e λhm=>by
  have q:(H b).isSome=true:=(AX.mp hm).2;rw[n] at q;simp at q
theorem qx9 {b:Addr} {o:Obj} (e:(qu6 h H).get? b=some o):h.get? b=some o/\H b=none:=by
 have e':h.get? b=some o:=PySem.W.of_hideAll (trk h H) e;exists e'
 cases q:H b with
 | none=>rfl
 | some x =>
  have hm:b∈trk h H:=AX.mpr ⟨C5.mpr (Aq e'),by simp[q]⟩;have z:(qu6 h H).get? b=none:=PySem.W.hideAll_none (trk h H) hm;rw[z] at e;cases e
def qya (g h:Heap) (L:Addr):List (Addr×Obj):=(List.range h.objs.size).filterMap λa=>if a=L\/(g.get? a).isSome=true then none else (h.get? a).map λo=>(a,o)
def rest (g h:Heap) (L d:Addr):List (Addr×Obj):=(qya g h L).filter λp=>decide (p.1≠d)
open PySem PySem.Spec PyProof.Rows
structure Mod (K:Frag) (mg:Str->Option Value) (base:Heap):Prop where
 kin:K.In base
 glob:base.Ns mainGlobals mg
 blt:∃ mb,base.Ns builtinsNs mb/\∀ x:Str,x ≠ "__name__" -> mb x=bootBuiltins x
 nolimit:base.NoLimit
structure Cx where
 prog:Program
 w:World
 K:Frag
 mg:Str->Option Value
 base:Heap
 A:Around
 N:List Str
 s₀:Shared
 H₀:Hp
 env:Env
 outer:List Env
 stack:List Env
 ex:List Addr
 fn:Str->Bool
 calm:Bool
 pn:List (Addr×Obj)
 xe:Value->Shared->Prop
def frs (l:List Env):List Addr:=l.filterMap (·.frame)
abbrev Cx.fs (X:Cx):List Addr:=frs X.outer
def Vis (sc:Scope) (x:Str):Prop:=sc.names.lookup x=some .local\/sc.names.lookup x=some .cell\/sc.names.lookup x=some .free
def Loc (sc:Scope) (x:Str):Prop:=sc.names.lookup x=some .local\/sc.names.lookup x=some .cell
def Look (env:Env) (h:Heap) (m:Str->Option Value) (x:Str) (u:Value):Prop:=
 (env.kindOf x=some .local/\m x=some u)\/((env.kindOf x=some .cell\/env.kindOf x=some .free)/\∃ c,env.cells.lookup x=some c/\h.IsCell c (some u))
structure Cx.Ok (X:Cx):Prop where
 mod:Mod X.K X.mg X.base
 kind:X.env.scope.kind=.function
 glob:X.env.globals=mainGlobals
 blt:X.env.builtins=builtinsNs
 above:X.s₀.heap.objs.size<=X.env.locals
 inj:∀ x y c,X.env.cells.lookup x=some c->X.env.cells.lookup y=some c->x=y
 has:∀ x,(X.env.kindOf x=some .cell\/X.env.kindOf x=some .free)->∃ c,X.env.cells.lookup x=some c
 cab:∀ x c,X.fn x=true->X.env.cells.lookup x=some c->X.s₀.heap.objs.size<=c
 hd:X.calm=true->X.A.handled=none
 frames:X.A.frames=some X.stack
 stk:X.stack=X.outer\/(X.stack=X.env :: X.outer/\X.env.frame=some X.env.locals)
 exf:∀ b∈X.ex,b≠X.env.locals/\∀ x c,X.env.cells.lookup x=some c->c≠b
 bs:∀ b o,X.base.get? b=some o->X.s₀.heap.get? b=some o/\X.H₀ b=none
 bsz:X.base.objs.size<=X.s₀.heap.objs.size
 noex:∀ b o,X.base.get? b=some o->b ∉ X.ex
 exfs:∀ b∈X.ex,b ∉ X.fs
 funs:X.s₀.heap.FunFrames X.base X.outer
 frf:∀ b∈X.fs,X.H₀ b=none
structure Inv (X:Cx) (pins:List (Addr×Obj)) (σ:List (Option V)) (H:Hp) (s:Shared):Prop where
 ok:X.Ok
 os:s.os=X.s₀.os
 bare:AllBare s.gens
 base:Un X.fs X.ex X.H₀ H X.s₀.heap s.heap
 loc:∃ m,s.heap.Ns X.env.locals m/\∀ (i:Nat) (x:Str) (v:V),X.N[i]?=some x->σ[i]?=some (some v)->Vis X.env.scope x->∃ u,RelV v u/\Look X.env s.heap m x u
 cell:∀ x c,X.env.cells.lookup x=some c->∃ v,s.heap.IsCell c v
 free:H X.env.locals=none
 freeC:∀ x c,X.env.cells.lookup x=some c->H c=none
 pin:∀ p∈X.pn ++ pins,s.heap.get? p.1=some p.2/\H p.1=none/\p.1≠X.env.locals/\p.1 ∉ X.fs/\∀ v,p.2.data≠.cell v
 hok:HOk X.prog X.w H s.heap
 len:σ.length=X.N.length
section
variable {X:Cx} {pins:List (Addr×Obj)} {σ:List (Option V)} {H H':Hp} {s:Shared} {h':Heap}
theorem Cx.Ok.nofr (ok:X.Ok) {b:Addr} {o:Obj} (e:X.base.get? b=some o):b ∉ X.fs:=λhb=>by
 have:=(ok.funs.mem hb).1;rw[e] at this;cases this
theorem Inv.bs (I:Inv X pins σ H s):∀ b o,X.base.get? b=some o->s.heap.get? b=some o/\H b=none:=λb o e =>
 ⟨I.base.keep b o (I.ok.bs b o e).1 (I.ok.bs b o e).2 (I.ok.nofr e) (I.ok.noex b o e),I.base.free b o (I.ok.bs b o e).1 (I.ok.bs b o e).2 (I.ok.noex b o e)⟩
theorem Inv.bk (I:Inv X pins σ H s):∀ b o,X.base.get? b=some o->s.heap.get? b=some o:=λb o e=>(I.bs b o e).1
theorem Inv.mod (I:Inv X pins σ H s):Mod X.K X.mg X.base:=I.ok.mod
theorem Inv.kIn (I:Inv X pins σ H s):X.K.In s.heap:=I.ok.mod.kin.keeps I.bk
theorem Inv.lt (I:Inv X pins σ H s):X.env.locals<s.heap.objs.size:=let ⟨_,hn,_⟩:=I.loc;hn.lt
theorem Inv.sz (I:Inv X pins σ H s):X.s₀.heap.objs.size<=s.heap.objs.size:=AL I.ok.above (AB I.lt)
theorem Inv.nofs (I:Inv X pins σ H s) {a:Addr} (h:s.heap.objs.size<=a):a ∉ X.fs:=λhb=>by
 obtain ⟨_,o,ho,_⟩:=I.ok.funs.mem hb;exact absurd (AY (Aq ho) (AL I.sz h)) (BJ _)
theorem Inv.cne (I:Inv X pins σ H s):∀ x c,X.env.cells.lookup x=some c->c≠X.env.locals:=λx c e z=>by
 obtain ⟨v,o,ho,hd⟩:=I.cell x c e;obtain ⟨m,⟨o',es,ep,ho',hd',_⟩,_⟩:=I.loc;rw[z,ho'] at ho;cases ho;rw[hd'] at hd;cases hd
theorem Inv.funs (I:Inv X pins σ H s):s.heap.FunFrames X.base X.outer:=by
 have all:∀ (l:List Env),(∀ b∈frs l,b∈X.fs)->X.s₀.heap.FunFrames X.base l->s.heap.FunFrames X.base l:=by
  intro l
  induction l with
  | nil=>intro _ _;trivial
  | cons env r ih =>
   intro hs hl;obtain ⟨hk,⟨L,o,hf,hn,ho,hd⟩,hr⟩:=hl;have hL:L∈X.fs:=hs L (by unfold frs;rw[DM,hf];exact Ae);obtain ⟨sl,e⟩:=I.base.slot L o ho (I.ok.frf L hL) hL λz=>I.ok.exfs L z hL
   exact ⟨hk,⟨L,_,hf,hn,e,hd⟩,ih (λb hb=>hs b (by unfold frs;rw[DM,hf];exact Ad _ hb)) hr⟩
 exact all X.outer (λ_ hb=>hb) I.ok.funs
theorem Inv.stack (I:Inv X pins σ H s):s.heap.FunFrames X.base X.stack:=by
 rcases I.ok.stk with e|⟨e,hf⟩
 ·rw[e];exact I.funs
 ·rw[e]
  obtain ⟨m,hn,_⟩:=I.loc;refine .cons (by rw[I.ok.kind];decide) hf hn ?_ I.funs;exact FH (AL I.ok.bsz I.ok.above)
theorem Inv.stkSub (I:Inv X pins σ H s):∀ b∈frs X.stack,b∈X.env.locals :: X.fs:=λb hb=>by
 rcases I.ok.stk with e|⟨e,hf⟩
 ·rw[e] at hb;exact Ad _ hb
 ·rw[e] at hb
  unfold frs at hb;rw[DM,hf] at hb;exact hb
theorem Inv.stkFree (I:Inv X pins σ H s):∀ b∈frs X.stack,H b=none:=λb hb=>by
 rcases Av.mp (I.stkSub b hb) with e|hb
 ·rw[e];exact I.free
 ·obtain ⟨_,o,ho,_⟩:=I.ok.funs.mem hb
  exact I.base.free b o ho (I.ok.frf b hb) λz=>I.ok.exfs b z hb
theorem Inv.step {g':Array GenState} {d':Drawn} {ch:List Addr} (I:Inv X pins σ H s)
  (hch:∀ b∈ch,(b∈X.ex\/X.s₀.heap.objs.size<=b)/\b≠X.env.locals/\(∀ x c,X.env.cells.lookup x=some c->c≠b)/\∀ p∈X.pn ++ pins,p.1≠b)
  (keep:∀ b o,b≠X.env.locals->b ∉ X.fs->b ∉ ch->s.heap.get? b=some o->H b=none->h'.get? b=some o)
  (slot:∀ b o,b≠X.env.locals->b∈X.fs->b ∉ ch->s.heap.get? b=some o->H b=none->∃ sl,h'.get? b=some { o with slots:=sl }) (free:∀ b o,b ∉ ch->s.heap.get? b=some o->H b=none->H' b=none)
  (there:∀ b o,b ∉ ch->s.heap.get? b=some o->∃ o',h'.get? b=some o')
  (tups:∀ b xs,H b=some (.tup xs)->H' b=some (.tup xs)) (frzs:∀ b o u,H b=some (.frz o u)->H' b=some (.frz o u)) (tbls:∀ b ps,H b=some (.tbl ps)->∃ more,H' b=some (.tbl (ps ++ more)))
  (ns:∀ m,s.heap.Ns X.env.locals m->h'.Ns X.env.locals m) (hok:HOk X.prog X.w H' h') (hg:AllBare g') :
  Inv X pins σ H' { s with heap:=h',gens:=g',drawn:=d',toks:=t' }:=by
 have neL:∀ b o,X.s₀.heap.get? b=some o->b≠X.env.locals:=λb o e=>AH (AY (Aq e) I.ok.above)
 have neC:∀ b o,X.s₀.heap.get? b=some o->b ∉ X.ex->b ∉ ch:=λb o e hx hb=>by
  rcases (hch b hb).1 with z|z
  ·exact hx z
  ·exact absurd (AY (Aq e) z) (BJ _)
 have cellK:∀ x c,X.env.cells.lookup x=some c->∀ v,s.heap.IsCell c v->h'.IsCell c v:=λx c e v ⟨o,ho,hd⟩=>by
  have nch:c ∉ ch:=λz=>(hch c z).2.2.1 x c e rfl
  by_cases hc:c∈X.fs
  ·obtain ⟨sl,q⟩:=slot c o (I.cne x c e) hc nch ho (I.freeC x c e)
   exact ⟨_,q,hd⟩
  ·exact ⟨o,keep c o (I.cne x c e) hc nch ho (I.freeC x c e),hd⟩
 refine ⟨I.ok,I.os,hg,⟨λb o e n hb hx=>?_,λb o e n hb hx=>?_,λb o e n hx=>?_,λb o e hx=>?_,λb xs e=>tups b xs (I.base.tups b xs e),λb o xs e=>frzs b o xs (I.base.frzs b o xs e),λb ps e=>?_⟩,?_,λx c e=>?_,?_,λx c e=>?_,λp hp=>?_,hok,I.len⟩
 ·exact keep b o (neL b o e) hb (neC b o e hx) (I.base.keep b o e n hb hx) (I.base.free b o e n hx)
 ·obtain ⟨sl,e1⟩:=I.base.slot b o e n hb hx
  obtain ⟨sl',e2⟩:=slot b _ (neL b o e) hb (neC b o e hx) e1 (I.base.free b o e n hx);exact ⟨sl',e2⟩
 ·obtain ⟨o',e1⟩:=I.base.there b o e hx
  exact free b o' (neC b o e hx) e1 (I.base.free b o e n hx)
 ·obtain ⟨o',e1⟩:=I.base.there b o e hx
  exact there b o' (neC b o e hx) e1
 ·obtain ⟨m1,e1⟩:=I.base.tbls b ps e
  obtain ⟨m2,e2⟩:=tbls b _ e1;exact ⟨m1 ++ m2,by rw[e2,Array.append_assoc]⟩
 ·obtain ⟨m,hn,hl⟩:=I.loc
  refine ⟨m,ns m hn,λi x v e1 e2 e3=>?_⟩;obtain ⟨u,r,l⟩:=hl i x v e1 e2 e3;exists u,r
  rcases l with l|⟨k,c,e,z⟩
  ·exact .inl l
  ·exact .inr ⟨k,c,e,cellK x c e _ z⟩
 ·obtain ⟨v,z⟩:=I.cell x c e
  exact ⟨v,cellK x c e v z⟩
 ·obtain ⟨m,⟨o,_,_,ho,_⟩,_⟩:=I.loc
  exact free _ o (λz=>(hch _ z).2.1 rfl) ho I.free
 ·obtain ⟨v,o,ho,hd⟩:=I.cell x c e
  exact free c o (λz=>(hch c z).2.2.1 x c e rfl) ho (I.freeC x c e)
 ·obtain ⟨e,n,ne,nf,d⟩:=I.pin p hp
  have nch:p.1 ∉ ch:=λz=>(hch p.1 z).2.2.2 p hp rfl
  exact ⟨keep p.1 p.2 ne nf nch e n,free p.1 p.2 nch e n,ne,nf,d⟩
theorem Inv.un (I:Inv X pins σ H s) (u:Un X.fs [] H H' s.heap h') (hok:HOk X.prog X.w H' h'):Inv X pins σ H' { s with heap:=h',toks:=t' }:=by
 obtain ⟨m,⟨o,es,ep,ho,r⟩,_⟩:=id I.loc;obtain ⟨sl,hL⟩:=u.any ho I.free (by simp);exact I.step (g':=s.gens) (d':=s.drawn) (ch:=[]) (λ_ z=>nomatch z) (λb o _ hb _ e n=>u.keep b o e n hb (by simp)) (λb o _ hb _ e n=>u.slot b o e n hb (by simp)) (λb o _ e n=>u.free b o e n (by simp)) (λb o _ e=>u.there b o e (by simp)) u.tups u.frzs u.tbls (λm' hm=>by
  obtain ⟨o',es',ep',ho',r'⟩:=hm;rw[ho] at ho';cases ho';exact ⟨_,es',ep',hL,r'⟩) hok I.bare
theorem Inv.call {g':Array GenState} {d':Drawn} {ch:List Addr} (I:Inv X pins σ H s) (u:Un (frs X.stack) ch H H' s.heap h') (hok:HOk X.prog X.w H' h') (hg:AllBare g')
  (hch:∀ b∈ch,(b∈X.ex\/X.s₀.heap.objs.size<=b)/\b≠X.env.locals/\(∀ x c,X.env.cells.lookup x=some c->c≠b)/\∀ p∈X.pn ++ pins,p.1≠b) :
  Inv X pins σ H' { s with heap:=h',gens:=g',drawn:=d',toks:=t' }:=by
 obtain ⟨m,⟨o,es,ep,ho,r⟩,_⟩:=id I.loc;obtain ⟨sl,hL⟩:=u.any ho I.free λz=>(hch _ z).2.1 rfl
 exact I.step (ch:=ch) hch (λb o hL hb hc e n=>u.keep b o e n (λz=>(Av.mp (I.stkSub b z)).elim hL hb) hc) (λb o _ _ hc e n=>u.any e n hc) (λb o hc e n=>u.free b o e n hc) (λb o hc e=>u.there b o e hc) u.tups u.frzs u.tbls (λm' hm=>by
  obtain ⟨o',es',ep',ho',r'⟩:=hm;rw[ho] at ho';cases ho';exact ⟨_,es',ep',hL,r'⟩) hok hg
theorem Inv.turned (I:Inv X pins σ H s) (k:∀ b o,b≠it->s.heap.get? b=some o->h'.get? b=some o) (hn:H it=none) (hL:it≠X.env.locals)
  (h1:it∈X.ex\/X.s₀.heap.objs.size<=it) (h2:∀ x c,X.env.cells.lookup x=some c->c≠it) (h3:∀ p∈X.pn ++ pins,p.1≠it):Inv X pins σ H { s with heap:=h',toks:=t' }:=by
 have nit:∀ b u,H b=some u->b≠it:=λb u e z=>by rw[z,hn] at e;cases e
 refine I.step (g':=s.gens) (d':=s.drawn) (ch:=[it]) (λb hb=>?_) (λb o _ _ hc e _=>k b o (λz=>hc (by simp[z])) e) (λb o _ _ hc e _=>⟨o.slots,k b o (λz=>hc (by simp[z])) e⟩) (λ_ _ _ _ n=>n)
  (λb o hc e=>⟨o,k b o (λz=>hc (by simp[z])) e⟩) (λ_ _ e=>e) (λ_ _ _ e=>e) (λb ps e=>⟨#[],by rw[e];simp⟩) (λm hm=>?_) (λb u e=>?_) I.bare
 ·have e:b=it:=by simpa using hb
  subst e;exact ⟨h1,hL,h2,h3⟩
 ·obtain ⟨o,es,ep,ho,r⟩:=hm
  exact ⟨o,es,ep,k _ o (BR hL) ho,r⟩
 ·refine (I.hok b u e).stay (λc v hc q=>k c v ?_ q) (λ_ q=>q) λ_ _ q=>q
  rcases hc with z|z
  ·rw[z];exact nit b u e
  ·exact nit c _ z
theorem Inv.tok (I:Inv X pins σ H s) (t:Nat):Inv X pins σ H { s with toks:=t }:=I.un (h':=s.heap) (t':=t) Un.refl I.hok
theorem Inv.kept (I:Inv X pins σ H s) (k:∀ b u,s.heap.get? b=some u->h'.get? b=some u):Inv X pins σ H { s with heap:=h',toks:=t' }:=I.un (Un.kept k) (I.hok.kept k)
theorem Inv.laid {a:Addr} (I:Inv X pins σ H s) (k:∀ b u,s.heap.get? b=some u->h'.get? b=some u) (hp:s.heap.objs.size<=a) (new:ObjOk X.prog X.w (upd H a o) h' a o) :
  Inv X pins σ (upd H a o) { s with heap:=h',toks:=t' }:=I.un (Un.laid k hp (I.hok.fresh hp)) (I.hok.laid k hp new)
theorem Inv.write {x e:Addr} (I:Inv X pins σ H s) (mu:Mut (H x)) (he:e=x\/H e=some (.own x)) (k:∀ b u,b≠e->s.heap.get? b=some u->h'.get? b=some u) (heo:∃ u,h'.get? e=some u)
  (new:ObjOk X.prog X.w (upd H x o) h' x o):Inv X pins σ (upd H x o) { s with heap:=h',toks:=t' }:=I.un (Un.write mu he k heo) (I.hok.write mu he k heo new)
theorem Inv.weak {σ':List (Option V)} (I:Inv X pins σ H s) (hl:σ'.length=σ.length) (w:∀ (i:Nat) v,σ'[i]?=some (some v)->σ[i]?=some (some v)):Inv X pins σ' H s:=
 ⟨I.ok,I.os,I.bare,I.base,let ⟨m,hn,hl'⟩:=I.loc;⟨m,hn,λi x v e1 e2 e3=>hl' i x v e1 (w i v e2) e3⟩,I.cell,I.free,I.freeC,I.pin,I.hok,hl.trans I.len⟩
theorem Inv.pins_of {pins':List (Addr×Obj)} (I:Inv X pins σ H s) (h:∀ p∈pins',s.heap.get? p.1=some p.2/\H p.1=none/\p.1≠X.env.locals/\p.1 ∉ X.fs/\∀ v,p.2.data≠.cell v):Inv X pins' σ H s:=
 ⟨I.ok,I.os,I.bare,I.base,I.loc,I.cell,I.free,I.freeC,λp hp=>(AK.mp hp).elim (λz=>I.pin p (AE _ z)) (h p),I.hok,I.len⟩
theorem qo4 (hN:N.Nodup) {j:Nat} (a:N[i]?=some x) (b:N[j]?=some x):i=j:=by
 obtain ⟨h1,e1⟩:=Aj.mp a;obtain ⟨h2,e2⟩:=Aj.mp b;exact (List.getElem_inj hN).mp (e1.trans e2.symm)
theorem qrz {M:Model} {A:Around} {v:V} {Q:Unit->Shared->Prop} (I:Inv X pins σ H s) (hN:X.N.Nodup) (hi:X.N[i]?=some x) (hx:Loc X.env.scope x) (r:RelV v u)
  (h:∀ s',Inv X pins (σ.set i (some v)) H s'->(∃ a,Heap.SameBut a s.heap s'.heap/\(a=X.env.locals\/X.env.cells.lookup x=some a))->Q () s') (hf:X.fn x=true\/X.env.scope.names.lookup x=some .local:=by first|exact .inl rfl|exact .inr rfl|assumption):wpAny M A (storeName X.env x u) Q E s:=by
 obtain ⟨m,hn,hl⟩:=id I.loc;have hcls:(X.env.scope.kind == .class || (X.env.scope.kind == .module && X.env.locals != X.env.globals))=false:=by rw[I.ok.kind];rfl
 have hiσ:i<σ.length:=by rw[I.len];exact (Aj.mp hi).1
 have cne:=I.cne;have tracked:∀ {a:Addr} {h':Heap},(∃ o,s.heap.get? a=some o/\H a=none)->Heap.SameBut a s.heap h'->HOk X.prog X.w H h':=fun {a h'} ha hs b ob e=>by
  obtain ⟨_,_,hfree⟩:=ha;refine (I.hok b ob e).stay (λc w' hc q=>(hs.2 c ?_).trans q) (λ_ q=>q) λ_ _ q=>q
  rintro rfl
  rcases hc with rfl|hc
  ·rw[hfree] at e;cases e
  ·rw[hfree] at hc;cases hc
 rcases hx with hk|hk
 ·refine wpAny_storeName_local hk hn (λh' hn' hs=>?_) hcls
  obtain ⟨oL,_,_,hoL,_⟩:=id hn;refine h _ ⟨I.ok,I.os,I.bare,⟨λb o e n hb hx=>?_,λb o e n hb hx=>?_,I.base.free,λb o e hx=>?_,I.base.tups,I.base.frzs,I.base.tbls⟩,⟨_,hn',λj y v' e1 e2 e3=>?_⟩,λy c e=>?_,I.free,I.freeC,λp hp=>?_,tracked ⟨oL,hoL,I.free⟩ hs,by simpa using I.len⟩ ⟨_,hs,.inl rfl⟩
  ·exact (hs.2 b (AH (AY (Aq e) I.ok.above))).trans (I.base.keep b o e n hb hx)
  ·obtain ⟨sl,e1⟩:=I.base.slot b o e n hb hx
   exact ⟨sl,(hs.2 b (AH (AY (Aq e) I.ok.above))).trans e1⟩
  ·obtain ⟨o',e1⟩:=I.base.there b o e hx
   exact ⟨o',(hs.2 b (AH (AY (Aq e) I.ok.above))).trans e1⟩
  ·by_cases hj:j=i
   ·subst hj
    rw[hi] at e1;cases e1;rw[Fc hiσ] at e2;cases e2;exact ⟨u,r,.inl ⟨hk,by simp⟩⟩
   ·rw[BB (BR hj)] at e2
    obtain ⟨u',r',q⟩:=hl j y v' e1 e2 e3;exists u',r'
    rcases q with ⟨k,e⟩|⟨k,c,e,z⟩
    ·refine .inl ⟨k,?_⟩
     have:y≠x:=λe=>hj (qo4 hN e1 (e ▸ hi))
     simp[this,e]
    ·exact .inr ⟨k,c,e,z.sameBut hs (cne y c e)⟩
  ·obtain ⟨w',z⟩:=I.cell y c e
   exact ⟨w',z.sameBut hs (cne y c e)⟩
  ·obtain ⟨e,n,ne,nf,d⟩:=I.pin p hp
   exact ⟨(hs.2 p.1 ne).trans e,n,ne,nf,d⟩
 ·have hfn:X.fn x=true:=by
   rcases hf with z|z
   ·exact z
   ·rw[z] at hk;cases hk
  obtain ⟨c,hc⟩:=I.ok.has x (.inl hk);obtain ⟨w',z⟩:=I.cell x c hc;refine wpAny_storeName_cell I.ok.kind hk hc z (λh' hc' hs=>?_);obtain ⟨oc,hoc,hocd⟩:=id z;refine h { s with heap:=h' } ⟨I.ok,I.os,I.bare,⟨λb o e n hb hx=>?_,λb o e n hb hx=>?_,I.base.free,λb o e hx=>?_,I.base.tups,I.base.frzs,I.base.tbls⟩,⟨m,hn.sameBut hs (BR (cne x c hc)),λj y v' e1 e2 e3=>?_⟩,λy c' e=>?_,I.free,I.freeC,λp hp=>?_,tracked ⟨oc,hoc,I.freeC x c hc⟩ hs,by simpa using I.len⟩ ⟨c,hs,.inr hc⟩
  ·exact (hs.2 b (AH (AY (Aq e) (I.ok.cab x c hfn hc)))).trans (I.base.keep b o e n hb hx)
  ·obtain ⟨sl,e1⟩:=I.base.slot b o e n hb hx
   exact ⟨sl,(hs.2 b (AH (AY (Aq e) (I.ok.cab x c hfn hc)))).trans e1⟩
  ·obtain ⟨o',e1⟩:=I.base.there b o e hx
   exact ⟨o',(hs.2 b (AH (AY (Aq e) (I.ok.cab x c hfn hc)))).trans e1⟩
  ·by_cases hj:j=i
   ·subst hj
    rw[hi] at e1;cases e1;rw[Fc hiσ] at e2;cases e2;exact ⟨u,r,.inr ⟨.inl hk,c,hc,hc'⟩⟩
   ·rw[BB (BR hj)] at e2
    obtain ⟨u',r',q⟩:=hl j y v' e1 e2 e3;exists u',r'
    rcases q with q|⟨k,c',e,z'⟩
    ·exact .inl q
    ·refine .inr ⟨k,c',e,z'.sameBut hs ?_⟩
     rintro rfl;exact hj (qo4 hN e1 (I.ok.inj _ _ _ e hc ▸ hi))
  ·by_cases hcc:c'=c
   ·subst hcc;exact ⟨_,hc'⟩
   ·obtain ⟨w2,z2⟩:=I.cell y c' e
    exact ⟨w2,z2.sameBut hs hcc⟩
  ·obtain ⟨e,n,ne,nf,d⟩:=I.pin p hp
   refine ⟨(hs.2 p.1 ?_).trans e,n,ne,nf,d⟩;intro q;rw[q,hoc] at e;have q':oc=p.2:=Ax e;exact d w' (by rw[<- q'];exact hocd)
theorem qfu {M:Model} {A:Around} {v:V} {Q:Unit->Shared->Prop} (I:Inv X pins σ H s) (hN:X.N.Nodup) (hi:X.N[i]?=some x) (hx:Loc X.env.scope x) (r:RelV v u)
  (h:∀ s',Inv X pins (σ.set i (some v)) H s'->Q () s') (hf:X.fn x=true\/X.env.scope.names.lookup x=some .local:=by first|exact .inl rfl|exact .inr rfl|assumption):wpAny M A (storeName X.env x u) Q E s:=
 qrz I hN hi hx r (λs' I' _=>h s' I') hf
theorem Inv.call' {s':Shared} {ch:List Addr} (I:Inv X pins σ H s) (ho:s'.os=s.os) (u:Un (frs X.stack) ch H H' s.heap s'.heap) (hok:HOk X.prog X.w H' s'.heap) (hg:AllBare s'.gens)
  (hch:∀ b∈ch,(b∈X.ex\/X.s₀.heap.objs.size<=b)/\b≠X.env.locals/\(∀ x c,X.env.cells.lookup x=some c->c≠b)/\∀ p∈X.pn ++ pins,p.1≠b):Inv X pins σ H' s':=by
 obtain ⟨h',g',d',t',o'⟩:=s';have e:o'=s.os:=ho;subst e;exact I.call (g':=g') (t':=t') (d':=d') u hok hg hch
end
abbrev XK:=Value->Option Addr->Hp->Prop
abbrev St:=List (Option V)
abbrev VK:=V->Hp->Prop
abbrev TE:=St->Hp->VK->Prop
abbrev TT:=St->Hp->(Bool->Hp->Prop)->Prop
abbrev TA:=St->Hp->(List V->Hp->Prop)->Prop
structure Ends where
 nx:St->Hp->Prop
 rt:VK
 bk:St->Hp->Prop:=λ_ _=>False
 ct:St->Hp->Prop:=λ_ _=>False
abbrev TS:=Ends->St->Hp->Prop
def EP (X:Cx) (pins:List (Addr×Obj)) (σ:St) (Q:VK) (u:Value) (s':Shared):Prop:=∃ v H',Inv X pins σ H' s'/\RelV v u/\Q v H'
def TP (X:Cx) (pins:List (Addr×Obj)) (σ:St) (Q:Bool->Hp->Prop) (b:Bool) (s':Shared):Prop:=∃ H',Inv X pins σ H' s'/\Q b H'
def AP (X:Cx) (pins:List (Addr×Obj)) (σ:St) (Q:List V->Hp->Prop) (us:List Value) (s':Shared):Prop:=∃ vs H',Inv X pins σ H' s'/\Vals vs us/\Q vs H'
def SP (X:Cx) (pins:List (Addr×Obj)) (D:Ends) (f:Flow) (s':Shared):Prop:=
 match f with
 | .next=>∃ σ' H',Inv X pins σ' H' s'/\D.nx σ' H'
 | .brk=>∃ σ' H',Inv X pins σ' H' s'/\D.bk σ' H'
 | .cont=>∃ σ' H',Inv X pins σ' H' s'/\D.ct σ' H'
 | .ret u=>∃ v σ' H',Inv X pins σ' H' s'/\RelV v u/\D.rt v H'
def PE (X:Cx) (e:Expr) (t:TE):Prop:=
 ∀ (pins:List (Addr×Obj)) (s:Shared) (σ:St) (H:Hp) (Q:VK),Inv X pins σ H s->t σ H Q->wpAny (model X.prog X.w) X.A (eval e X.env) (EP X pins σ Q) X.xe s
def PT (X:Cx) (e:Expr) (t:TT):Prop:=
 ∀ (pins:List (Addr×Obj)) (s:Shared) (σ:St) (H:Hp) (Q:Bool->Hp->Prop),Inv X pins σ H s->t σ H Q->wpAny (model X.prog X.w) X.A (isTrue e X.env (eval e X.env)) (TP X pins σ Q) X.xe s
def PW (X:Cx) (e:Expr) (t:TT):Prop:=
 ∀ (whole:Sem Value) (pins:List (Addr×Obj)) (s:Shared) (σ:St) (H:Hp) (Q:Bool->Hp->Prop),Inv X pins σ H s->t σ H Q->wpAny (model X.prog X.w) X.A (isTrue e X.env whole) (TP X pins σ Q) X.xe s
theorem PW.pt {X:Cx} {t:TT} (h:PW X e t):PT X e t:=h _
def PA (X:Cx) (es:List Expr) (t:TA):Prop:=
 ∀ (pos:Pos) (pins:List (Addr×Obj)) (s:Shared) (σ:St) (H:Hp) (Q:List V->Hp->Prop),Inv X pins σ H s->t σ H Q->wpAny (model X.prog X.w) X.A (spliced (backTo pos (starEach es X.env))) (AP X pins σ Q) X.xe s
def PS (X:Cx) (st:Stmt) (t:TS):Prop:=
 ∀ (pins:List (Addr×Obj)) (s:Shared) (σ:St) (H:Hp) (D:Ends),Inv X pins σ H s->t D σ H->wpAny (model X.prog X.w) X.A (exec st X.env) (SP X pins D) X.xe s
def PSs (X:Cx) (st:List Stmt) (t:TS):Prop:=
 ∀ (pins:List (Addr×Obj)) (s:Shared) (σ:St) (H:Hp) (D:Ends),Inv X pins σ H s->t D σ H->wpAny (model X.prog X.w) X.A (execs st X.env) (SP X pins D) X.xe s
theorem thn {α:Type} {t:Sem α} {Q Q':α->Shared->Prop} {M:Model} {A:Around} {s:Shared} (h:wpAny M A t Q E s) (hQ:∀ a s,Q a s->Q' a s):wpAny M A t Q' E s:=Br h hQ λ_ _ x=>x
open PySem PySem.Spec PyProof.Rows
section
variable {X:Cx}
inductive tVarS (i:Nat) (σ:St) (H:Hp) (Q:VK):Prop
 | mk (v:V) (h:σ[i]?=some (some v)) (k:Q v H)
def qE1 (i:Nat):TE:=λσ H Q=>tVarS i σ H Q
def tC (v:V):TE:=λ_ H Q=>Q v H
theorem qAo {pos:Pos} (hN:X.N[i]?=some x) (hv:Vis X.env.scope x) (hd:(x == ("__debug__" : Str))=false:=by decide) (hcd:(x == ("__classdict__" : Str))=false:=by decide):PE X (.Name x pos) (qE1 i):=by
 intro pins s σ H Q I h;obtain ⟨v,e,h⟩:=h;obtain ⟨m,hn,hl⟩:=I.loc;obtain ⟨u,r,l⟩:=hl i x v hN e hv;have fin:EP X pins σ Q u s:=⟨v,H,I,r,h⟩
 rcases l with ⟨hk,hm⟩|⟨hk,c,hc,hcell⟩
 ·exact wpAny_Name (Fz I.ok.kind hk hn hm fin) hd
 ·rcases hk with hk|hk
  ·exact wpAny_Name (wpAny_loadName_cell I.ok.kind hk hc hcell fin) hd
  ·exact wpAny_Name (wpAny_loadName_free I.ok.kind hk hc hcell fin hcd) hd
theorem qaa {i j pos}:PE X (.Constant (.int i) j pos) (tC (.int i)):=λ_ _ _ H _ I h=>wpAny_Constant_int ⟨.int i,H,I.tok _,⟨_,rfl⟩,h⟩
theorem qh1 {b j pos}:PE X (.Constant (.bool b) j pos) (tC (.bl b)):=λ_ _ _ H _ I h=>Constant_bool ⟨.bl b,H,I,rfl,h⟩
theorem qay {j pos}:PE X (.Constant .none j pos) (tC .non):=λ_ _ _ H _ I h=>Constant_none ⟨.non,H,I,rfl,h⟩
theorem qc0 {x j pos}:PE X (.Constant (.str x) j pos) (tC (.str x)):=λ_ _ _ H _ I h=>Calls.Constant_str ⟨.str x,H,I.tok _,⟨_,rfl⟩,h⟩
def Gl (X:Cx) (x:Str):Prop:=X.env.kindOf x=some .globalImplicit
theorem qh2 {pins:List (Addr×Obj)} {s:Shared} {pos:Pos} (I:Inv X pins σ H s) (hg:Gl X x) (hm:X.mg x=some u) (h:Q u s)
  (hd:(x == ("__debug__" : Str))=false:=by decide):wpAny (model X.prog X.w) X.A (eval (.Name x pos) X.env) Q E s:=
 EC I.ok.kind hg (Calls.loadGlobal_global (by rw[I.ok.glob];exact I.mod.glob.keeps I.bk) hm h) hd
theorem qgu {pins:List (Addr×Obj)} {s:Shared} {pos:Pos} (I:Inv X pins σ H s) (hg:Gl X x) (hm:X.mg x=none) (hv:bootBuiltins x=some u) (h:Q u s)
  (hn:x ≠ "__name__" :=by decide) (hd:(x == ("__debug__" : Str))=false:=by decide):wpAny (model X.prog X.w) X.A (eval (.Name x pos) X.env) Q E s:=by
 obtain ⟨mb,h1,h2⟩:=I.mod.blt;exact EC I.ok.kind hg (Calls.loadGlobal_builtin (by rw[I.ok.glob];exact I.mod.glob.keeps I.bk) hm (by rw[I.ok.blt];exact h1.keeps I.bk) ((h2 x hn).trans hv) h) hd
theorem qyb {v:V} {pos:Pos} (hg:Gl X x) (hm:X.mg x=some u) (r:RelV v u) (hd:(x == ("__debug__" : Str))=false:=by decide):PE X (.Name x pos) (tC v):=
 λ_ _ _ H _ I h=>qh2 I hg hm ⟨v,H,I,r,h⟩ hd
theorem qfk {v:V} {pos:Pos} (hg:Gl X x) (hm:X.mg x=none) (hv:bootBuiltins x=some u) (r:RelV v u) (hn:x ≠ "__name__" :=by decide) (hd:(x == ("__debug__" : Str))=false:=by decide):PE X (.Name x pos) (tC v):=
 λ_ _ _ H _ I h=>qgu I hg hm hv ⟨v,H,I,r,h⟩ hn hd
variable {a b:Expr} {ta tb:TE} {pos:Pos}
def PC (X:Cx) (op:CmpOp) (a b:Expr) (t:TE):Prop:=
 ∀ (pins:List (Addr×Obj)) (s:Shared) (σ:St) (H:Hp) (Q:VK),Inv X pins σ H s->t σ H Q ->
  wpAny (model X.prog X.w) X.A (eval a X.env) (λv s₁=>wpAny (model X.prog X.w) X.A (eval b X.env) (λu s₂=>wpAny (model X.prog X.w) X.A (compareOp op v u) (EP X pins σ Q) X.xe s₂) X.xe s₁) X.xe s
theorem qu8 (b:Expr) {op:CmpOp} (h:op≠.In) (h2:op≠.NotIn):behindInMarks op b=false:=by
 have e1:(op == CmpOp.In)=false:=by cases op<;>first|rfl|exact absurd rfl h
 have e2:(op == CmpOp.NotIn)=false:=by cases op<;>first|rfl|exact absurd rfl h2
 cases b<;>simp[behindInMarks,e1,e2]
inductive tBS (x:V) (H:Hp) (Q:Bool->Hp->Prop):Prop
 | mk (c:Bool) (h:x=.bl c) (k:Q c H)
def tB (t:TE):TT:=λσ H Q=>t σ H λx H1=>tBS x H1 Q
theorem qAp {op:CmpOp} {t:TE} (h:PC X op a b t) (h1:behindInMarks op b=false:=by first|exact qu8 _ (by decide) (by decide)|rfl):PT X (.Compare a [op] [b] pos) (tB t):=by
 intro pins s σ H Q I hw;refine Fj (thn (h pins s σ H _ I hw) λv s1 h1=>thn h1 λu s2 h2=>thn h2 λc s3 hq__=>?_) h1;obtain ⟨x,H1,I1,r1,q1⟩:=hq__;obtain ⟨d,rfl,q⟩:=q1;cases r1;exact B3 ⟨H1,I1,q⟩
theorem qdl {t:TE} (h:PE X e t) (he:∀ whole,isTrue e X.env whole=(do let v <- whole;standAt e.pos;holding [v] (truthy v)):=by intro _;rfl):PT X e (tB t):=by
 intro pins s σ H Q I hw;refine isTrue_plain (thn (h pins s σ H _ I hw) λv s1 hq__=>?_) (he _);obtain ⟨x,H1,I1,r1,q1⟩:=hq__;obtain ⟨d,rfl,q⟩:=q1;cases r1;exact B3 ⟨H1,I1,q⟩
variable {tA tB':TT} {rest:List Expr}
def qFl (t u:TT):TT:=λσ H Q=>t σ H λc H1=>if c=true then u σ H1 Q else Q false H1
def tOr (t u:TT):TT:=λσ H Q=>t σ H λc H1=>if c=true then Q true H1 else u σ H1 Q
def qFm (t:TT):TT:=λσ H Q=>t σ H λc H1=>Q (!c) H1
theorem qd0 (ha:PT X a tA):PW X (.BoolOp .And [a] pos) tA:=by
 intro wh pins s σ H Q I h;refine isTrue_and (thn (ha pins s σ H Q I h) λc s1 e=>?_)
 cases c with
 | true=>exact isTrue_and_nil e
 | false=>exact e
theorem qgv (ha:PT X a tA):PW X (.BoolOp .Or [a] pos) tA:=by
 intro wh pins s σ H Q I h;refine isTrue_or (thn (ha pins s σ H Q I h) λc s1 e=>?_)
 cases c with
 | false=>exact isTrue_or_nil e
 | true=>exact e
theorem qfv (ha:PT X a tA) (hb:PW X (.BoolOp .And (b :: rest) pos) tB'):PW X (.BoolOp .And (a :: b :: rest) pos) (qFl tA tB'):=by
 intro wh pins s σ H Q I h;refine isTrue_and (thn (ha pins s σ H _ I h) λc s1 hq__=>?_);obtain ⟨H1,I1,q1⟩:=hq__
 cases c with
 | true=>exact hb wh pins s1 σ H1 Q I1 q1
 | false=>exact ⟨H1,I1,q1⟩
theorem qls (ha:PT X a tA) (hb:PW X (.BoolOp .Or (b :: rest) pos) tB'):PW X (.BoolOp .Or (a :: b :: rest) pos) (tOr tA tB'):=by
 intro wh pins s σ H Q I h;refine isTrue_or (thn (ha pins s σ H _ I h) λc s1 hq__=>?_);obtain ⟨H1,I1,q1⟩:=hq__
 cases c with
 | true=>exact ⟨H1,I1,q1⟩
 | false=>exact hb wh pins s1 σ H1 Q I1 q1
theorem qlt (ha:PT X a tA):PT X (.UnaryOp .Not a pos) (qFm tA):=by
 intro pins s σ H Q I h;exact isTrue_not (ha pins s σ H (λc H1=>Q (!c) H1) I h)
inductive tAndVS (tb:TE) (σ:St) (x:V) (H:Hp) (Q:VK):Prop
 | mk (c:Bool) (h:x=.bl c) (k:if c=true then tb σ H Q else Q (.bl false) H)
def qAq (ta tb:TE):TE:=λσ H Q=>ta σ H λx H1=>tAndVS tb σ x H1 Q
inductive tOrVS (tb:TE) (σ:St) (x:V) (H:Hp) (Q:VK):Prop
 | mk (c:Bool) (h:x=.bl c) (k:if c=true then Q (.bl true) H else tb σ H Q)
def qE2 (ta tb:TE):TE:=λσ H Q=>ta σ H λx H1=>tOrVS tb σ x H1 Q
inductive tNotVS (x:V) (H:Hp) (Q:VK):Prop
 | mk (c:Bool) (h:x=.bl c) (k:Q (.bl (!c)) H)
def qyc (ta:TE):TE:=λσ H Q=>ta σ H λx H1=>tNotVS x H1 Q
theorem qfw {op} {t:TE} (h:PE X a t):PE X (.BoolOp op [a] pos) t:=λpins s σ H Q I hw=>BoolOp_one (h pins s σ H Q I hw)
theorem qe2 (ha:PE X a ta) (hb:PE X (.BoolOp .And (b :: rest) pos) tb):PE X (.BoolOp .And (a :: b :: rest) pos) (qAq ta tb):=by
 intro pins s σ H Q I h;refine BoolOp_and (thn (ha pins s σ H _ I h) λv s1 hq__=>?_);obtain ⟨x,H1,I1,r1,q1⟩:=hq__;obtain ⟨c,rfl,q1⟩:=q1;cases r1;refine B3 ?_
 cases c with
 | true=>exact hb pins s1 σ H1 Q I1 q1
 | false=>exact ⟨.bl false,H1,I1,rfl,q1⟩
theorem qAr (ha:PE X a ta) (hb:PE X (.BoolOp .Or (b :: rest) pos) tb):PE X (.BoolOp .Or (a :: b :: rest) pos) (qE2 ta tb):=by
 intro pins s σ H Q I h;refine BoolOp_or (thn (ha pins s σ H _ I h) λv s1 hq__=>?_);obtain ⟨x,H1,I1,r1,q1⟩:=hq__;obtain ⟨c,rfl,q1⟩:=q1;cases r1;refine B3 ?_
 cases c with
 | false=>exact hb pins s1 σ H1 Q I1 q1
 | true=>exact ⟨.bl true,H1,I1,rfl,q1⟩
theorem qlu (ha:PE X a ta):PE X (.UnaryOp .Not a pos) (qyc ta):=by
 intro pins s σ H Q I h;refine UnaryOp_ (thn (ha pins s σ H _ I h) λv s1 hq__=>?_);obtain ⟨x,H1,I1,r1,q1⟩:=hq__;obtain ⟨c,rfl,q1⟩:=q1;cases r1;exact not_of (B3 ⟨.bl (!c),H1,I1,rfl,q1⟩)
def tIf (t:TT) (ta tb:TE):TE:=λσ H Q=>t σ H λc H1=>if c=true then ta σ H1 Q else tb σ H1 Q
theorem qhr {c:Expr} (hc:PT X c tA) (ha:PE X a ta) (hb:PE X b tb):PE X (.IfExp c a b pos) (tIf tA ta tb):=by
 intro pins s σ H Q I h;refine wpAny_IfExp (thn (hc pins s σ H _ I h) λd s1 hq__=>?_);obtain ⟨H1,I1,q1⟩:=hq__
 cases d with
 | true=>exact ha pins s1 σ H1 Q I1 q1
 | false=>exact hb pins s1 σ H1 Q I1 q1
end
open PySem PySem.Spec PyProof.Rows
def SqL (K:Frag) (H:Hp) (a:Addr) (xs:List V):Prop:=
 Rd H a (.lst xs) \/
  ∃ (o:Obj) (its:Array Value) (n:Nat),K.lookup a=some o/\o.cls=.type "list" /\ o.dict=none/\o.data=.seq its n/\its.size<=sizeLine/\Vals xs its.toList
def SqT (K:Frag) (H:Hp) (a:Addr) (xs:List V):Prop:=
 Rd H a (.tup xs) \/
  ∃ (o:Obj) (its:Array Value) (n:Nat),K.lookup a=some o/\o.cls=.type "tuple" /\ o.data=.seq its n/\its.size<=sizeLine/\Vals xs its.toList
def qFn:Value->Option V
 | .none=>some .non
 | .bool b=>some (.bl b)
 | .int i _=>some (.int i)
 | .str x _=>some (.str x)
 | .bytes b _=>some (.byt b)
 | .float b _=>some (.flt b)
 | .ref a=>some (.ref a)
 | .type n=>some (.ty n)
 | _=>none
theorem RelV.abs {x:V} (r:RelV x u):qFn u=some x:=by
 cases x with
 | non=>cases r;rfl
 | bl _=>cases r;rfl
 | int _=>obtain ⟨t,rfl⟩:=r;rfl
 | str _=>obtain ⟨t,rfl⟩:=r;rfl
 | byt _=>obtain ⟨t,rfl⟩:=r;rfl
 | flt _=>obtain ⟨t,rfl⟩:=r;rfl
 | ref _=>cases r;rfl
 | ty _=>cases r;rfl
theorem RelV.inj {x:V} (r:RelV x u) (q:RelV y u):x=y:=Ax (r.abs.symm.trans q.abs)
theorem Vals.inj:∀ {xs ys:List V} {us:List Value},Vals xs us->Vals ys us->xs=ys
 | _,_,_,.nil,.nil=>rfl
 | _,_,_,.cons r t,.cons r' t'=>by rw[r.inj r',Vals.inj t t']
section
variable {X:Cx} {pins:List (Addr×Obj)} {σ:St} {H:Hp} {s:Shared} {a:Addr} {xs ys:List V}
theorem SqL.of {K:Frag} (h:H a=some (.lst xs)):SqL K H a xs:=.inl (.inl h)
theorem SqT.of {K:Frag} (h:H a=some (.tup xs)):SqT K H a xs:=.inl (.inl h)
theorem Inv.list (I:Inv X pins σ H s) (h:SqL X.K H a xs):∃ its:List Value,Vals xs its/\PlainL s.heap a its.toArray/\xs.length<=sizeLine:=by
 rcases h with h|⟨o,its,n,hk,hc,hd,hs,hz,r⟩
 ·obtain ⟨z,its,n,r,e⟩:=h.ok I.hok
  exact ⟨its,r,⟨_,n,e,rfl,rfl,rfl⟩,z⟩
 ·exists its.toList,r,⟨o,n,I.kIn a o hk,hc,hd,by simpa using hs⟩
  have e:=r.length;simp only[Be] at e;ext
theorem Inv.tuple (I:Inv X pins σ H s) (h:SqT X.K H a xs):∃ its:List Value,Vals xs its/\IsTup s.heap a its.toArray/\xs.length<=sizeLine:=by
 rcases h with h|⟨o,its,n,hk,hc,hs,hz,r⟩
 ·obtain ⟨z,its,r,p⟩:=h.ok I.hok
  exact ⟨its,r,p,z⟩
 ·exists its.toList,r,⟨o,I.kIn a o hk,hc,n,by simpa using hs⟩
  have e:=r.length;simp only[Be] at e;ext
theorem Inv.list_inj (I:Inv X pins σ H s) (h:SqL X.K H a xs) (h':SqL X.K H a ys):xs=ys:=by
 obtain ⟨its,r,⟨o,n,e,_,_,d⟩,_⟩:=I.list h;obtain ⟨its',r',⟨o',n',e',_,_,d'⟩,_⟩:=I.list h';rw[e] at e';cases e';rw[d] at d';injection d' with d1 _
 have:its=its':=by simpa using congrArg Array.toList d1
 subst this;exact r.inj r'
theorem Inv.tuple_inj (I:Inv X pins σ H s) (h:SqT X.K H a xs) (h':SqT X.K H a ys):xs=ys:=by
 obtain ⟨its,r,⟨o,e,_,n,d⟩,_⟩:=I.tuple h;obtain ⟨its',r',⟨o',e',_,n',d'⟩,_⟩:=I.tuple h';rw[e] at e';cases e';rw[d] at d';injection d' with d1 _
 have:its=its':=by simpa using congrArg Array.toList d1
 subst this;exact r.inj r'
end
abbrev Cx.wish (X:Cx) (E:Value->Shared->Prop):Cx:={ X with xe:=E }
abbrev Cx.nox (X:Cx):Cx:=X.wish λ_ _=>False
theorem Cx.Ok.wish {X:Cx} (ok:X.Ok) (E:Value->Shared->Prop):(X.wish E).Ok:=
 ⟨ok.mod,ok.kind,ok.glob,ok.blt,ok.above,ok.inj,ok.has,ok.cab,ok.hd,ok.frames,ok.stk,ok.exf,ok.bs,ok.bsz,ok.noex,ok.exfs,ok.funs,ok.frf⟩
theorem Cx.Ok.unwish {X:Cx} (ok:(X.wish E).Ok):X.Ok:=
 ⟨ok.mod,ok.kind,ok.glob,ok.blt,ok.above,ok.inj,ok.has,ok.cab,ok.hd,ok.frames,ok.stk,ok.exf,ok.bs,ok.bsz,ok.noex,ok.exfs,ok.funs,ok.frf⟩
section
variable {X:Cx} {pins:List (Addr×Obj)} {σ:St} {H:Hp} {s:Shared} {E:Value->Shared->Prop}
theorem Inv.wish (I:Inv X pins σ H s) (E:Value->Shared->Prop):Inv (X.wish E) pins σ H s:=⟨I.ok.wish E,I.os,I.bare,I.base,I.loc,I.cell,I.free,I.freeC,I.pin,I.hok,I.len⟩
theorem Inv.unwish (I:Inv (X.wish E) pins σ H s):Inv X pins σ H s:=⟨I.ok.unwish,I.os,I.bare,I.base,I.loc,I.cell,I.free,I.freeC,I.pin,I.hok,I.len⟩
theorem SP.unwish {f:Flow} {s':Shared} (h:SP (X.wish E) pins D f s'):SP X pins D f s':=by
 cases f with
 | next=>obtain ⟨σ',H',I,q⟩:=h;exact ⟨σ',H',I.unwish,q⟩
 | brk=>obtain ⟨σ',H',I,q⟩:=h;exact ⟨σ',H',I.unwish,q⟩
 | cont=>obtain ⟨σ',H',I,q⟩:=h;exact ⟨σ',H',I.unwish,q⟩
 | ret u=>obtain ⟨v,σ',H',I,r,q⟩:=h;exact ⟨v,σ',H',I.unwish,r,q⟩
theorem PSs.nox {st:List Stmt} {t:TS} (h:PSs X.nox st t):PSs X st t:=λpins s σ H D I hw =>
 Br (h pins s σ H D (I.wish _) hw) (λ_ _ q=>q.unwish) λ_ _ z=>False.elim z
end
section
variable {X:Cx} {st:Stmt} {rest:List Stmt} {t u:TS} {e:Expr} {te:TE} {pos:Pos}
def qlv:TS:=λD σ H=>D.nx σ H
def qcj (t u:TS):TS:=λD σ H=>t { D with nx:=u D } σ H
theorem qak:PSs X [] qlv:=λ_ _ σ H _ I h=>Dx ⟨σ,H,I,h⟩
theorem qaj (h1:PS X st t) (h2:PSs X rest u):PSs X (st :: rest) (qcj t u):=by
 intro pins s σ H D I h;refine D8 (thn (h1 pins s σ H { D with nx:=u D } I h) λf s1 q=>?_)
 cases f with
 | next =>
  obtain ⟨σ',H',I',q⟩:=q;exact h2 pins s1 σ' H' D I' q
 | ret v=>exact q
 | brk=>exact q
 | cont=>exact q
theorem qac (h1:PS X st t):PSs X [st] t:=by
 intro pins s σ H D I h;refine D8 (thn (h1 pins s σ H D I h) λf s1 q=>?_)
 cases f with
 | next=>exact Dx q
 | ret v=>exact q
 | brk=>exact q
 | cont=>exact q
theorem Inv.quiet {pins:List (Addr×Obj)} {s:Shared} (I:Inv X pins σ H s):interactive X.env=false:=by simp[interactive,I.ok.kind]
def qDh (te:TE):TS:=λD σ H=>te σ H λ_ H1=>D.nx σ H1
theorem qaz (he:PE X e te) (hs:swapsWith e none pos.line X.env=pure false:=by rfl):PS X (.Expr e pos) (qDh te):=by
 intro pins s σ H D I h;exact wpAny_Expr_any (thn (he pins s σ H _ I h) λv s1 ⟨x,H1,I1,r1,q1⟩=>⟨σ,H1,I1,q1⟩) I.quiet hs
def qFo (te:TE):TS:=λD σ H=>te σ H D.rt
theorem qah (he:PE X e te):PS X (.Return (some e) pos) (qFo te):=by
 intro pins s σ H D I h;exact wpAny_Return_some (thn (he pins s σ H _ I h) λv s1 ⟨x,H1,I1,r1,q1⟩=>⟨x,σ,H1,I1,r1,q1⟩)
def qDi:TS:=λD _ H=>D.rt .non H
theorem qyd:PS X (.Return none pos) qDi:=λ_ _ σ H _ I h=>wpAny_Return_none ⟨.non,σ,H,I,rfl,h⟩
def qwv (c:TT) (t u:TS):TS:=λD σ H=>c σ H λb H1=>if b=true then t D σ H1 else u D σ H1
theorem qau {c:Expr} {a b:List Stmt} (hc:PT X c tc) (ha:PSs X a t) (hb:PSs X b u):PS X (.If c a b pos) (qwv tc t u):=by
 intro pins s σ H D I h;refine wpAny_If (thn (hc pins s σ H _ I h) λd s1 hq__=>?_);obtain ⟨H1,I1,q1⟩:=hq__
 cases d with
 | true=>exact ha pins s1 σ H1 D I1 q1
 | false=>exact hb pins s1 σ H1 D I1 q1
def qAs:TS:=λ_ _ _=>False
theorem qbt:PS X st qAs:=λ_ _ _ _ _ _ h=>h.elim
end
abbrev TG:=V->St->Hp->(St->Hp->Prop)->Prop
abbrev TGs:=List V->St->Hp->(St->Hp->Prop)->Prop
def PG (X:Cx) (target:Expr) (t:TG):Prop:=
 ∀ (pins:List (Addr×Obj)) (s:Shared) (σ:St) (H:Hp) (v:V) (u:Value) (Q:St->Hp->Prop),Inv X pins σ H s->RelV v u->t v σ H Q ->
  wpAny (model X.prog X.w) X.A (assign target X.env u) (λ_ s'=>∃ σ' H',Inv X pins σ' H' s'/\Q σ' H') X.xe s
def PGs (X:Cx) (ts:List Expr) (t:TGs):Prop:=
 ∀ (pins:List (Addr×Obj)) (s:Shared) (σ:St) (H:Hp) (vs:List V) (us:List Value) (Q:St->Hp->Prop),Inv X pins σ H s->Vals vs us->t vs σ H Q ->
  wpAny (model X.prog X.w) X.A (assignInOrder ((assignEach ts X.env).map (·.2)) us) (λ_ s'=>∃ σ' H',Inv X pins σ' H' s'/\Q σ' H') X.xe s
abbrev TIp:=V->V->Hp->VK->Prop
def PIp (X:Cx) (op:Operator) (t:TIp):Prop:=
 ∀ (pins:List (Addr×Obj)) (s:Shared) (σ:St) (H:Hp) (x y:V) (v u:Value) (Q:VK),Inv X pins σ H s->RelV x v->RelV y u->t x y H Q ->
  wpAny (model X.prog X.w) X.A (inplaceOp op v u) (EP X pins σ Q) X.xe s
section
variable {X:Cx} {pos:Pos}
def qdm (i:Nat):TG:=λv σ H Q=>Q (σ.set i (some v)) H
theorem qn5 (hN:X.N.Nodup) (hi:X.N[i]?=some x) (hx:Loc X.env.scope x) (hf:X.fn x=true\/X.env.scope.names.lookup x=some .local:=by first|exact .inl rfl|exact .inr rfl|assumption):PG X (.Name x pos) (qdm i):=by
 intro pins s σ H v u Q I r h;exact wpAny_assign_Name (qfu I hN hi hx r (λs' I'=>⟨_,H,I',h⟩) hf)
def qww:TGs:=λvs σ H Q=>vs=[]/\Q σ H
inductive gConsS (t:TG) (u:TGs) (vs:List V) (σ:St) (H:Hp) (Q:St->Hp->Prop):Prop
 | mk (v:V) (r:List V) (e:vs=v :: r) (k:t v σ H λσ' H'=>u r σ' H' Q)
def qdn (t:TG) (u:TGs):TGs:=λvs σ H Q=>gConsS t u vs σ H Q
theorem qk1:PGs X [] qww:=by
 intro pins s σ H vs us Q I r h;obtain ⟨e,h⟩:=h;subst e;cases r;exact assignInOrder_nil ⟨σ,H,I,h⟩
theorem qbj {es:List Expr} {t:TG} {u:TGs} (h1:PG X e t) (h2:PGs X es u)
  (hs:(assignEach (e :: es) X.env).map (·.2)=assign e X.env :: (assignEach es X.env).map (·.2):=by rfl):PGs X (e :: es) (qdn t u):=by
 intro pins s σ H vs us Q I r h;obtain ⟨v,vr,e1,h⟩:=h;subst e1
 cases r with
 | cons r rr =>
  rw[hs];refine DQ (thn (h1 pins s σ H _ _ _ I r h) λ_ s1 hq__=>?_);obtain ⟨σ1,H1,I1,q1⟩:=hq__;exact h2 pins s1 σ1 H1 _ _ Q I1 rr q1
inductive gTupS (K:Frag) (n:Nat) (t:TGs) (v:V) (σ:St) (H:Hp) (Q:St->Hp->Prop):Prop
 | mk (a:Addr) (xs:List V) (e:v=.ref a) (hs:SqT K H a xs) (hl:xs.length=n) (k:t xs σ H Q)
def qwx (K:Frag) (n:Nat) (t:TGs):TG:=λv σ H Q=>gTupS K n t v σ H Q
theorem qo5 {es:List Expr} {t:TGs} {n:Nat} (hc:X.calm=true) (h:PGs X es t)
  (hn:(assignEach es X.env).length=n:=by rfl) (hst:(assignEach es X.env).findIdx? (·.1)=none:=by rfl):PG X (.Tuple es k pos) (qwx X.K n t):=by
 intro pins s σ H v u Q I r hw;obtain ⟨a,xs,e1,hq,hl,hw⟩:=hw;subst e1;cases r;obtain ⟨its,rv,ht,hz⟩:=I.tuple hq;refine assign_Tuple_tuple (I.ok.hd hc) ht (by simp[hn,<- hl,rv.length]) hst λh' hx=>?_
 have I1:Inv X pins σ H { s with heap:=h' }:=I.kept (t':=s.toks) λb o e=>hx b o (AH (Aq e)) e
 exact h pins _ σ H xs _ Q I1 (by simpa using rv) hw
def qC9 (te:TE) (g:TG):TS:=λD σ H=>te σ H λx H1=>g x σ H1 D.nx
theorem qr0 {tg:Expr} (he:PE X e te) (hg:PG X tg g) (hs:swapsWithSole [tg] e pos.line X.env=pure false:=by rfl) (hw:swappedStores [tg] e X.env=pure none:=by rfl)
  (h1:(assignEach [tg] X.env).map (·.2)=[assign tg X.env]:=by rfl):PS X (.Assign [tg] e pos) (qC9 te g):=by
 intro pins s σ H D I h;refine wpAny_Assign_stores (thn (he pins s σ H _ I h) λv s1 hq__=>?_) hs hw;obtain ⟨x,H1,I1,r1,q1⟩:=hq__;rw[h1];exact thn (hg pins s1 σ H1 x v _ I1 r1 q1) λ_ s2 q=>q
theorem qr1 {pos':Pos} (hN:X.N.Nodup) (hi:X.N[i]?=some x) (hx:Loc X.env.scope x) (he:PE X e te) (hs:swapsWith e (some (.Name x pos')) pos.line X.env=pure false:=by rfl) (hf:X.fn x=true\/X.env.scope.names.lookup x=some .local:=by first|exact .inl rfl|exact .inr rfl|assumption) :
  PS X (.Assign [.Name x pos'] e pos) (qC9 te (qdm i)):=by
 intro pins s σ H D I h;refine wpAny_Assign_Name (thn (he pins s σ H _ I h) λv s1 hq__=>?_) hs;obtain ⟨y,H1,I1,r1,q1⟩:=hq__;exact qfu I1 hN hi hx r1 (λs2 I2=>⟨_,H1,I2,q1⟩) hf
def qFp (i j:Nat) (ta:TA):TS:=λD σ H=>ta σ H λvs H1=>∃ v w,vs=[v,w]/\D.nx ((σ.set i (some v)).set j (some w)) H1
theorem qwy {j:Nat} {y:Str} {a b:Expr} {ta:TA} {px py pt:Pos} {kt k2 pt2} (hc:X.calm=true) (hN:X.N.Nodup) (hi:X.N[i]?=some x) (hj:X.N[j]?=some y) (hij:i≠j)
  (hx:X.env.scope.names.lookup x=some .local) (hy:X.env.scope.names.lookup y=some .local) (ha:PA X [a,b] ta)
  (hw:swappedStores [.Tuple [.Name x px,.Name y py] kt pt] (.Tuple [a,b] k2 pt2) X.env=pure (some [x,y]))
  (hs:swapsWithSole [.Tuple [.Name x px,.Name y py] kt pt] (.Tuple [a,b] k2 pt2) pos.line X.env=pure false:=by rfl) :
  PS X (.Assign [.Tuple [.Name x px,.Name y py] kt pt] (.Tuple [a,b] k2 pt2) pos) (qFp i j ta):=by
 intro pins s σ H D I h;rw[exec_Assign_arm];refine Ac (EE ?_);rw[hs];refine Ac (Ai ?_);rw[Al (by decide)];refine Ac (Tuple_ (thn (ha _ pins s σ H _ I h) λus s1 hq__=>?_));obtain ⟨vs,H1,I1,r1,q1⟩:=hq__;obtain ⟨v,w,e1,q1⟩:=q1;subst e1;obtain ⟨u1,u2,rfl,rv,rw'⟩:∃ u1 u2,us=[u1,u2]/\RelV v u1/\RelV w u2:=by
  cases r1 with
  | cons p q =>
   cases q with
   | cons p' q' =>
    cases q'
    exact ⟨_,_,rfl,p,p'⟩
 refine Bk ?_ (by show 2<=sizeLine;decide);have I2:Inv X pins σ H1 { s1 with heap:=s1.heap.push { cls:=.type "tuple",data:=.seq [u1,u2].toArray } }:=I1.kept (t':=s1.toks) λb o e=>Af _ e
 rw[hw];refine Ac (Ai ?_)
 show wpAny (model X.prog X.w) X.A (do rule "assign.swapped-stores";let items <- unpackItems (.ref s1.heap.objs.size) 2 none;assignInOrder [λv=>bindName X.env y v,λv=>bindName X.env x v] items.reverse;pure Flow.next) _ _ _
 refine Ac (wpAny_rule (Ac (unpackItems_tuple (items:=#[u1,u2]) (I.ok.hd hc) (IsTup.new s1.heap _) λh' hx'=>?_)));have I3:=I2.kept (h':=h') (t':=s1.toks) λb o e=>hx' b o (AH (Aq e)) e
 show wpAny _ _ (assignInOrder [λv=>bindName X.env y v,λv=>bindName X.env x v] [u2,u1] >>= λ_=>pure Flow.next) _ _ _
 refine Ac (DQ (wpAny_bindName (qfu I3 hN hj (.inl hy) rw' (λs2 I4=>?_) (.inr hy))));refine DQ (wpAny_bindName (qfu I4 hN hi (.inl hx) rv (λs3 I5=>assignInOrder_nil (Ai ?_)) (.inr hx)));rw[List.set_comm _ _ (BR hij)] at I5;exact ⟨_,H1,I5,q1⟩
def qFq (i:Nat) (te:TE) (ti:TIp):TS:=λD σ H=>∃ x,σ[i]?=some (some x)/\te σ H λy H1=>ti x y H1 λz H2=>D.nx (σ.set i (some z)) H2
theorem qwz {op:Operator} {ti:TIp} {pos':Pos} (hN:X.N.Nodup) (hi:X.N[i]?=some x) (hx:Loc X.env.scope x) (he:PE X e te) (ho:PIp X op ti) (hf:X.fn x=true\/X.env.scope.names.lookup x=some .local:=by first|exact .inl rfl|exact .inr rfl|assumption) :
  PS X (.AugAssign (.Name x pos') op e pos) (qFq i te ti):=by
 intro pins s σ H D I h;obtain ⟨v,e1,h⟩:=h;obtain ⟨m,hn,hl⟩:=I.loc;have vis:Vis X.env.scope x:=by rcases hx with k|k;exact .inl k;exact .inr (.inl k)
 obtain ⟨u,r,l⟩:=hl i x v hi e1 vis;refine wpAny_AugAssign_Name ?_;have go:wpAny (model X.prog X.w) X.A (eval e X.env) (λw s₂=>wpAny (model X.prog X.w) X.A (inplaceOp op u w) (λr s₃=>wpAny (model X.prog X.w) X.A (storeName X.env x r) (λ_=>SP X pins D .next) X.xe s₃) X.xe s₂) X.xe s:=by
  refine thn (he pins s σ H _ I h) λw s1 hq__=>?_
  obtain ⟨y,H1,I1,r1,q1⟩:=hq__;refine thn (ho pins s1 σ H1 v y u w _ I1 r r1 q1) λz s2 hq__=>?_
  obtain ⟨zv,H2,I2,r2,q2⟩:=hq__;exact qfu I2 hN hi hx r2 (λs3 I3=>⟨_,H2,I3,q2⟩) hf
 rcases l with ⟨hk,hm⟩|⟨hk,c,hc,hcell⟩
 ·exact Fz I.ok.kind hk hn hm go
 ·rcases hk with hk|hk
  ·exact wpAny_loadName_cell I.ok.kind hk hc hcell go
  ·rcases hx with k|k
   ·have:X.env.scope.names.lookup x=some .free:=hk
    rw[k] at this;cases this
   ·have:X.env.scope.names.lookup x=some .free:=hk
    rw[k] at this;cases this
end
section
variable {X:Cx} {pos:Pos}
def qw0 (c:TT) (tb:TS):TS:=λD σ H=>∃ W:Nat->St->Hp->Prop,(∃ m,W m σ H)/\∀ m σ H,W m σ H ->
 c σ H λb H1=>if b=true then ∃ N:St->Hp->Prop,(∀ σ' H',N σ' H'->∃ m',m'<m/\W m' σ' H')/\tb { D with nx:=N,ct:=N,bk:=D.nx } σ H1 else D.nx σ H1
theorem qo6 {c:Expr} {body:List Stmt} {tb:TS} (hp:PassesOwn (model X.prog X.w) X.A X.env X.xe) (hc:PT X c tc) (hb:PSs X body tb):PS X (.While c body [] pos) (qw0 tc tb):=by
 intro pins s σ H D I h;obtain ⟨W,⟨m0,w0⟩,turn⟩:=h;refine wpAny_While (codeAny_whileLoop (λn s'=>∃ σ' H',Inv X pins σ' H' s'/\W n σ' H') ?_ m0 ⟨σ,H,I,w0⟩);rintro n s1 ⟨σ1,H1,I1,w1⟩;refine Cd hp (thn (hc pins s1 σ1 H1 _ I1 (turn n σ1 H1 w1)) λb s2 hq__=>?_);obtain ⟨H2,I2,q2⟩:=hq__
 cases b with
 | true =>
  obtain ⟨N,hN,q2⟩:=q2;rw[Au rfl];refine Cd hp (thn (hb pins s2 σ1 H2 _ I2 q2) λf s3 q3=>?_)
  cases f with
  | next =>
   obtain ⟨σ3,H3,I3,n3⟩:=q3;obtain ⟨m',hm,w3⟩:=hN σ3 H3 n3;exact ⟨m',hm,σ3,H3,I3,w3⟩
  | cont =>
   obtain ⟨σ3,H3,I3,n3⟩:=q3;obtain ⟨m',hm,w3⟩:=hN σ3 H3 n3;exact ⟨m',hm,σ3,H3,I3,w3⟩
  | brk=>exact q3
  | ret v=>exact q3
 | false =>
  rw[Al AA];exact Dx ⟨σ1,H2,I2,q2⟩
end
structure It where
 go:Nat->Hp->Prop
 yld:Nat->Hp->V->Hp->Prop
 stop:Nat->Hp->Prop
def qqv (X:Cx) (pins:List (Addr×Obj)) (H:Hp) (b:Addr):Prop:=
 H b=none/\b≠X.env.locals/\b ∉ X.fs/\(b∈X.ex\/X.s₀.heap.objs.size<=b)/\(∀ x c,X.env.cells.lookup x=some c->c≠b)/\∀ p∈X.pn ++ pins,p.1≠b
theorem Inv.fpOk {X:Cx} {pins:List (Addr×Obj)} {s:Shared} {b:Addr} (I:Inv X pins σ H s) (hb:s.heap.objs.size<=b) (hn:H' b=none):qqv X pins H' b:=by
 refine ⟨hn,CI (AY I.lt hb),I.nofs hb,.inr (AL I.sz hb),λx c e z=>?_,λp hp z=>?_⟩
 ·obtain ⟨v,q⟩:=I.cell x c e
  exact absurd (AY q.lt (by rw[z];exact hb)) (BJ _)
 ·exact absurd (AY (Aq (I.pin p hp).1) (by rw[z];exact hb)) (BJ _)
structure Turn (P:Program) (w:World) (K:Frag) (tg:Expr) (J:It) (fp:List Addr) (it:Addr) (tn:Nat->Heap->Prop):Prop where
 mem:it∈fp
 obj:∀ i h,tn i h->∀ b∈fp,∃ o,h.get? b=some o/\∀ v,o.data≠.cell v
 keep:∀ i h h',tn i h->(∀ b∈fp,∀ o,h.get? b=some o->h'.get? b=some o)->tn i h'
 item:∀ (X:Cx),X.prog=P->X.w=w->X.K=K->X.calm=true->∀ (i:Nat) (pins:List (Addr×Obj)) (s:Shared) (σ:St) (H:Hp) (E:Value->Shared->Prop),Inv X pins σ H s->(∀ b∈fp,qqv X pins H b)->tn i s.heap->J.go i H ->
  wpAny (model P w) X.A (pyNext (.ref it)) (λr s1=>∃ u,r=some u /\
   wpAny (model P w) X.A (letOwnedTupleGo tg (.ref it) u) (λ_ s2=>∃ x H',Inv X pins σ H' s2/\RelV x u/\J.yld i H x H'/\tn (i+1) s2.heap/\∀ b∈fp,H' b=none) E s1) E s
 done:∀ (X:Cx),X.prog=P->X.w=w->X.K=K->X.calm=true->∀ (i:Nat) (pins:List (Addr×Obj)) (s:Shared) (σ:St) (H:Hp) (E:Value->Shared->Prop),Inv X pins σ H s->(∀ b∈fp,qqv X pins H b)->tn i s.heap->J.stop i H ->
  wpAny (model P w) X.A (pyNext (.ref it)) (λr s1=>r=none/\Inv X pins σ H s1) E s
 self:∀ (A:Around) (i:Nat) (s:Shared) (Q:Value->Shared->Prop) (E:Value->Shared->Prop),tn i s.heap->Q (.ref it) s->wpAny (model P w) A (pyIter (.ref it)) Q E s
abbrev TI:=St->Hp->(It->Hp->Prop)->Prop
def PIE (X:Cx) (pins:List (Addr×Obj)) (σ:St) (tg:Expr) (R:It->Hp->Prop) (itv:Value) (s2:Shared):Prop:=
 ∃ (it:Addr) (fp:List Addr) (tn:Nat->Heap->Prop) (J:It) (H':Hp),itv=.ref it/\Inv X pins σ H' s2/\Turn X.prog X.w X.K tg J fp it tn/\tn 0 s2.heap/\(∀ b∈fp,qqv X pins H' b)/\R J H'
def PI (X:Cx) (tg iter:Expr) (wi:TI):Prop:=
 ∀ (pins:List (Addr×Obj)) (s:Shared) (σ:St) (H:Hp) (R:It->Hp->Prop),Inv X pins σ H s->wi σ H R ->
  wpAny (model X.prog X.w) X.A (eval iter X.env) (λv s1=>wpAny (model X.prog X.w) X.A (pyIter v) (PIE X pins σ tg R) X.xe s1) X.xe s
theorem qye {M:Model} {A:Around} {s:Shared} {tg:Expr} {o:Obj} {n:String} {vs:Array Value} {Q:Unit->Shared->Prop} (ho:s.heap.get? it=some o) (hc:o.cls=.type n) (hd:o.data=.fields vs)
  (hn:["enumerate", "zip", "dict_itemiterator", "dict_reverseitemiterator", "odict_iterator", "itertools.zip_longest", "itertools.pairwise"].contains n=false) (hQ:Q () s):wpAny M A (letOwnedTupleGo tg (.ref it) u) Q E s:=by
 unfold letOwnedTupleGo
 cases tg<;>first
  | exact Ai hQ
  | (cases u<;>first
    | exact Ai hQ
    | (refine Ac (wpAny_load ho ?_)
       rw[hc,hd]
       show wpAny M A (if (["enumerate", "zip", "dict_itemiterator", "dict_reverseitemiterator", "odict_iterator", "itertools.zip_longest", "itertools.pairwise"].contains n && vs[0]? == some (rawInt _))=true then _ else _) Q E s
       rw[Al (by intro h;rw[hn,B9] at h;cases h)];exact Ai hQ))
def Itl (K:Frag) (a:Addr):It:=
 ⟨λi H=>∃ xs x,SqL K H a xs/\xs[i]?=some x,λi H x H'=>H'=H/\∀ xs,SqL K H a xs->xs[i]?=some x,λi H=>∃ xs,SqL K H a xs/\xs.length<=i⟩
def Itt (K:Frag) (a:Addr):It:=
 ⟨λi H=>∃ xs x,SqT K H a xs/\xs[i]?=some x,λi H x H'=>H'=H/\∀ xs,SqT K H a xs->xs[i]?=some x,λi H=>∃ xs,SqT K H a xs/\xs.length<=i⟩
def Itr (lo:Int) (n:Nat):It:=⟨λi _=>i<n,λi H x H'=>H'=H/\x=.int (lo+i),λi _=>n<=i⟩
theorem qr2 {P:Program} {w:World} {K:Frag} {tg:Expr} (a it:Addr):Turn P w K tg (Itl K a) [it] it (λi h=>h.IsListIter it a i) where
 mem:=by simp
 obj:=λi h st b hb=>by
  have e:b=it:=by simpa using hb
  subst e;obtain ⟨o,e,c,d⟩:=st;exact ⟨o,e,λv z=>by rw[d] at z;cases z⟩
 keep:=λi h h' st k=>st.at λo e=>k it (by simp) o e
 item:=by
  intro X hP hw hK hc i pins s σ H E I hf st hg;subst hP hw hK;obtain ⟨xs,x,hq,hx⟩:=hg;obtain ⟨its,rv,p,hz⟩:=I.list hq;obtain ⟨u,hu,ru⟩:=rv.get hx;obtain ⟨f0,f1,f2,f3,f4,f5⟩:=hf it (by simp);refine wpAny_pyNext_list_item st p.isList (x:=u) (by simpa using hu) λh' st' sb=>?_
  have I1:Inv X pins σ H { s with heap:=h' }:=I.turned (t':=s.toks) (λb o hb e=>(sb.2 b hb).trans e) f0 f1 f3 f4 f5;obtain ⟨o,e,c,d⟩:=id st';exact ⟨u,rfl,qye (s:={ s with heap:=h' }) e c d (by decide) ⟨x,H,I1,ru,⟨rfl,λys hy=>by rw[I.list_inj hy hq];exact hx⟩,st',λb hb=>(hf b hb).1⟩⟩
 done:=by
  intro X hP hw hK hc i pins s σ H E I hf st hg;subst hP hw hK;obtain ⟨xs,hq,hx⟩:=hg;obtain ⟨its,rv,p,hz⟩:=I.list hq;obtain ⟨f0,f1,f2,f3,f4,f5⟩:=hf it (by simp);have hl:=rv.length;exact wpAny_pyNext_list_end (I.ok.hd hc) st p.isList (by simp;ext) λh' eb=>⟨rfl,I.turned (t':=s.toks) (λb o hb e=>eb b o hb e) f0 f1 f3 f4 f5⟩
 self:=λ_ _ _ _ _ st h=>wpAny_pyIter_listiter st h
theorem qqw {P:Program} {w:World} {K:Frag} {tg:Expr} (a it:Addr):Turn P w K tg (Itt K a) [it] it (λi h=>h.IsTupleIter it a i) where
 mem:=by simp
 obj:=λi h st b hb=>by
  have e:b=it:=by simpa using hb
  subst e;obtain ⟨o,e,c,d⟩:=st;exact ⟨o,e,λv z=>by rw[d] at z;cases z⟩
 keep:=λi h h' st k=>st.at λo e=>k it (by simp) o e
 item:=by
  intro X hP hw hK hc i pins s σ H E I hf st hg;subst hP hw hK;obtain ⟨xs,x,hq,hx⟩:=hg;obtain ⟨its,rv,p,hz⟩:=I.tuple hq;obtain ⟨u,hu,ru⟩:=rv.get hx;obtain ⟨f0,f1,f2,f3,f4,f5⟩:=hf it (by simp);refine wpAny_pyNext_tuple_item st (show s.heap.IsTuple a its.toArray from p) (x:=u) (by simpa using hu) λh' st' sb=>?_
  have I1:Inv X pins σ H { s with heap:=h' }:=I.turned (t':=s.toks) (λb o hb e=>(sb.2 b hb).trans e) f0 f1 f3 f4 f5;obtain ⟨o,e,c,d⟩:=id st';exact ⟨u,rfl,qye (s:={ s with heap:=h' }) e c d (by decide) ⟨x,H,I1,ru,⟨rfl,λys hy=>by rw[I.tuple_inj hy hq];exact hx⟩,st',λb hb=>(hf b hb).1⟩⟩
 done:=by
  intro X hP hw hK hc i pins s σ H E I hf st hg;subst hP hw hK;obtain ⟨xs,hq,hx⟩:=hg;obtain ⟨its,rv,p,hz⟩:=I.tuple hq;obtain ⟨f0,f1,f2,f3,f4,f5⟩:=hf it (by simp);have hl:=rv.length;exact wpAny_pyNext_tuple_end (I.ok.hd hc) st (show s.heap.IsTuple a its.toArray from p) (by simp;ext) λh' eb=>⟨rfl,I.turned (t':=s.toks) (λb o hb e=>eb b o hb e) f0 f1 f3 f4 f5⟩
 self:=λ_ _ _ _ _ st h=>wpAny_pyIter_tupleiter st h
theorem qqx {P:Program} {w:World} {K:Frag} {tg:Expr} (it:Addr) (lo:Int) (n:Nat):Turn P w K tg (Itr lo n) [it] it (λi h=>IsRangeIter h it (lo+(i:Nat)*1) ((n:Int)-(i:Nat)) 1) where
 mem:=by simp
 obj:=λi h st b hb=>by
  have e:b=it:=by simpa using hb
  subst e;exact ⟨_,st,λv z=>by
   have z':Data.fields _=Data.cell v:=z
   cases z'⟩
 keep:=λi h h' st k=>k it (by simp) _ st
 item:=by
  intro X hP hw hK hc i pins s σ H E I hf st hg;subst hP hw hK;obtain ⟨f0,f1,f2,f3,f4,f5⟩:=hf it (by simp);have W:=Walks.range (prog:=X.prog) (w:=X.w) (I.ok.hd hc) it lo 1 n;refine W.item i s _ _ hg st λv h' tk hv st' kk=>?_
  obtain ⟨t,rfl⟩:=hv;have I1:Inv X pins σ H { s with heap:=h',toks:=tk }:=I.turned (λb o hb e=>kk b o (by simpa using hb) e) f0 f1 f3 f4 f5;refine ⟨_,rfl,qye (s:={ s with heap:=h',toks:=tk }) (n:= "range_iterator") st' rfl rfl (by decide) ⟨.int (lo+i),H,I1,⟨t,?_⟩,⟨rfl,rfl⟩,st',λb hb=>(hf b hb).1⟩⟩;rw[BU]
 done:=by
  intro X hP hw hK hc i pins s σ H E I hf st hg;subst hP hw hK;obtain ⟨f0,f1,f2,f3,f4,f5⟩:=hf it (by simp);exact wpAny_pyNext_range_end (I.ok.hd hc) st (by have:n<=i:=hg;ext) λh' eb=>⟨rfl,I.turned (t':=s.toks) (λb o hb e=>eb b o hb e) f0 f1 f3 f4 f5⟩
 self:=λ_ _ _ _ _ st h=>wpAny_pyIter_rangeiter st h
open PySem PySem.Spec PyProof.Rows
section
variable {X:Cx} {tg:Expr}
def qDj (K:Frag) (tl:TE):TI:=λσ H R=>tl σ H λx H1=>∃ a,x=.ref a/\(∃ xs,SqL K H1 a xs)/\R (Itl K a) H1
def qFr (K:Frag) (tl:TE):TI:=λσ H R=>tl σ H λx H1=>∃ a,x=.ref a/\(∃ xs,SqT K H1 a xs)/\R (Itt K a) H1
theorem qap {l:Expr} {tl:TE} (hl:PE X l tl):PI X tg l (qDj X.K tl):=by
 intro pins s σ H R I h;refine thn (hl pins s σ H _ I h) λv s1 hq__=>?_
 obtain ⟨x,H1,I1,r1,q1⟩:=hq__;obtain ⟨a,e,⟨xs,hq⟩,q⟩:=q1;subst e;cases r1;obtain ⟨its,rv,p,hz⟩:=I1.list hq;refine wpAny_pyIter_list p.isList ?_;refine ⟨s1.heap.objs.size,[s1.heap.objs.size],_,_,H1,rfl,I1.kept (t':=s1.toks) λb o e=>Af _ e,qr2 a _,⟨_,Ay _ rfl,rfl,rfl⟩,λb hb=>?_,q⟩;have e:b=s1.heap.objs.size:=by simpa using hb
 subst e;exact I1.fpOk (Ak _) (I1.hok.fresh (Ak _))
theorem qw1 {l:Expr} {tl:TE} (hl:PE X l tl):PI X tg l (qFr X.K tl):=by
 intro pins s σ H R I h;refine thn (hl pins s σ H _ I h) λv s1 hq__=>?_
 obtain ⟨x,H1,I1,r1,q1⟩:=hq__;obtain ⟨a,e,⟨xs,hq⟩,q⟩:=q1;subst e;cases r1;obtain ⟨its,rv,p,hz⟩:=I1.tuple hq;refine wpAny_pyIter_tuple (show s1.heap.IsTuple a its.toArray from p) ?_;refine ⟨s1.heap.objs.size,[s1.heap.objs.size],_,_,H1,rfl,I1.kept (t':=s1.toks) λb o e=>Af _ e,qqw a _,⟨_,Ay _ rfl,rfl,rfl⟩,λb hb=>?_,q⟩;have e:b=s1.heap.objs.size:=by simpa using hb
 subst e;exact I1.fpOk (Ak _) (I1.hok.fresh (Ak _))
theorem qu9 {pins:List (Addr×Obj)} {s:Shared} {R:It->Hp->Prop} {lo hi:Int} {t u v:Tok} {tk:Nat} (I:Inv X pins σ H s) (h1:-(2 ^ 62)<=lo) (h2:lo<2 ^ 62) (h3:-(2 ^ 62)<=hi) (h4:hi<2 ^ 62)
  (q:R (Itr lo (hi-lo).toNat) H):wpAny (model X.prog X.w) X.A (pyIter (.ref s.heap.objs.size)) (PIE X pins σ tg R) E { s with heap:=s.heap.push { cls:=.type "range",data:=.fields #[.int lo t,.int hi u,.int 1 v] },toks:=tk }:=by
 refine wpAny_pyIter_range (IsRange.new ..) (small_one h1 h2 h3 h4) ?_;have I1:Inv X pins σ H { s with heap:=s.heap.push { cls:=.type "range",data:=.fields #[.int lo t,.int hi u,.int 1 v] },toks:=tk }:=I.kept λb o e=>Af _ e
 refine ⟨(s.heap.push { cls:=.type "range",data:=.fields #[.int lo t,.int hi u,.int 1 v] }).objs.size,[(s.heap.push { cls:=.type "range",data:=.fields #[.int lo t,.int hi u,.int 1 v] }).objs.size],_,_,H,rfl,
  I1.kept (t':=tk) λb o e=>Af _ e,qqx _ lo (hi-lo).toNat,?_,λb hb=>?_,q⟩
 ·have e1:lo+((0:Nat):Int)*1=lo:=by simp
  have e2:(((hi-lo).toNat:Nat):Int)-((0:Nat):Int)=Builtin.Range.rangeSize lo hi 1:=by rw[rangeSize_one];split<;>ext
  show IsRangeIter _ _ (lo+((0:Nat):Int)*1) ((((hi-lo).toNat:Nat):Int)-((0:Nat):Int)) 1
  rw[e1,e2];exact Ay _ rfl
 ·have e:b=(s.heap.push { cls:=.type "range",data:=.fields #[.int lo t,.int hi u,.int 1 v] }).objs.size:=by simpa using hb
  subst e;exact I1.fpOk (Ak _) (I1.hok.fresh (Ak _))
def qDk (ta:TA):TI:=λσ H R=>ta σ H λvs H1=>∃ j:Int,vs=[.int j] /\ -(2 ^ 62)<=j/\j<2 ^ 62/\R (Itr 0 j.toNat) H1
theorem qh3 {a:Expr} {ta:TA} {pos:Pos} (hg:Gl X "range") (hm:X.mg "range" = none) (ha:PA X [a] ta) (hs:starEach [a] X.env=[(false,eval a X.env)]:=by rfl):PI X tg (.Call (.Name "range" p) [a] [] pos) (qDk ta):=by
 intro pins s σ H R I h;refine Call_ (qgu I hg hm boot_range (BI (thn (ha pos pins s σ H _ I h) λus s1 hq__=>?_) hs rfl));obtain ⟨vs,H1,I1,r1,q1⟩:=hq__;obtain ⟨j,e,q1,q2,q⟩:=q1;subst e
 cases r1 with
 | cons r rr =>
  cases rr;obtain ⟨t,rfl⟩:=r;exact call_range_1 (qu9 I1 (by ext) (by ext) q1 q2 (by simpa using q))
def qFs (wi:TI) (g:TG) (tb:TS):TS:=λD σ H=>wi σ H λJ H1=>∃ W:Nat->Nat->St->Hp->Prop,(∃ m,W 0 m σ H1)/\∀ i m σ H,W i m σ H ->
 (J.stop i H/\D.nx σ H)\/(J.go i H/\∃ N:St->Hp->Prop,(∀ σ' H',N σ' H'->∃ m',m'<m/\W (i+1) m' σ' H')/\∀ x H',J.yld i H x H'->g x σ H' λσ2 H2=>tb { D with nx:=N,ct:=N,bk:=D.nx } σ2 H2)
def qlw (fp:List Addr) (h:Heap):List (Addr×Obj):=fp.filterMap λb=>(h.get? b).map λo=>(b,o)
theorem qex {fp:List Addr} {b:Addr} {o:Obj} (hb:b∈fp) (e:h.get? b=some o):(b,o)∈qlw fp h:=DR.mpr ⟨b,hb,by rw[e];rfl⟩
theorem qr3 {fp:List Addr} {p:Addr×Obj} (hp:p∈qlw fp h):p.1∈fp/\h.get? p.1=some p.2:=by
 obtain ⟨b,hb,e⟩:=DR.mp hp
 cases q:h.get? b with
 | none=>rw[q] at e;cases e
 | some o =>
  rw[q] at e;have e':(b,o)=p:=Ax e;subst e';exact ⟨hb,q⟩
theorem Inv.pinned {pins:List (Addr×Obj)} {s:Shared} {fp:List Addr} (I:Inv X pins σ H s) (hf:∀ b∈fp,qqv X pins H b) (ho:∀ b∈fp,∃ o,s.heap.get? b=some o/\∀ v,o.data≠.cell v):Inv X (pins ++ qlw fp s.heap) σ H s:=
 I.pins_of λp hp=>(AK.mp hp).elim (λz=>I.pin p (As _ z)) λz=>by
  obtain ⟨hb,e⟩:=qr3 z;obtain ⟨f0,f1,f2,_⟩:=hf p.1 hb;obtain ⟨o,e',d⟩:=ho p.1 hb;rw[e] at e';cases e';exact ⟨e,f0,f1,f2,d⟩
theorem Inv.unpinned {pins pl:List (Addr×Obj)} {s:Shared} (I:Inv X (pins ++ pl) σ H s):Inv X pins σ H s:=I.pins_of λp hp=>I.pin p (As _ (AE _ hp))
theorem qbv {iter:Expr} {body:List Stmt} {wi:TI} {tb:TS} {pos:Pos} (hp:PassesOwn (model X.prog X.w) X.A X.env X.xe) (hc:X.calm=true) (hi:PI X tg iter wi) (hg:PG X tg g) (hb:PSs X body tb)
  (hs:∀ x,foldedSetIterable iter X.env x=pure x:=by intro _;rfl):PS X (.For tg iter body [] pos) (qFs wi g tb):=by
 intro pins s σ H D I h;refine wpAny_For (thn (hi pins s σ H _ I h) λv s1 h1=>thn h1 λitv s2 h2=>?_) hs;obtain ⟨it,fp,tn,J,H2,e,I2,T,st2,f2,W,⟨m0,w0⟩,turn⟩:=h2;subst e;have stat:∀ {H':Hp},(∀ b∈fp,H' b=none)->∀ b∈fp,qqv X pins H' b:=λhn b hb=>⟨hn b hb,(f2 b hb).2⟩
 refine codeAny_forLoop_any (λn s'=>∃ i σ' H',Inv X pins σ' H' s'/\tn i s'.heap/\(∀ b∈fp,H' b=none)/\W i n σ' H') ?_ m0 ⟨0,σ,H2,I2,st2,λb hb=>(f2 b hb).1,w0⟩;rintro n s3 ⟨i,σ3,H3,I3,st3,fr3,w3⟩
 rcases turn i n σ3 H3 w3 with ⟨stop,qn⟩|⟨go,N,hN,step⟩
 ·refine Cd hp (thn (T.done X rfl rfl rfl hc i pins s3 σ3 H3 X.xe I3 (stat fr3) st3 stop) λr s4 hq__=>?_)
  obtain ⟨hr,I4⟩:=hq__;subst hr;exact Dx ⟨σ3,H3,I4,qn⟩
 ·refine Cd hp (thn (T.item X rfl rfl rfl hc i pins s3 σ3 H3 X.xe I3 (stat fr3) st3 go) λr s4 hq__=>?_)
  obtain ⟨u,hr,h4⟩:=hq__;subst hr;refine Cd hp (thn h4 λ_ s5 hq__=>?_);obtain ⟨x,H5,I5,r5,y5,st5,fr5⟩:=hq__;have I5':=I5.pinned (stat fr5) (T.obj _ _ st5);refine Cd hp (thn (hg _ s5 σ3 H5 x u _ I5' r5 (step x H5 y5)) λ_ s6 hq__=>?_);obtain ⟨σ6,H6,I6,q6⟩:=hq__;refine Cd hp (thn (hb _ s6 σ6 H6 _ I6 q6) λf s7 q7=>?_);have again:∀ {σ7:St} {H7:Hp},Inv X (pins ++ qlw fp s5.heap) σ7 H7 s7->N σ7 H7->∃ m,m<n/\∃ i σ' H',Inv X pins σ' H' s7/\tn i s7.heap/\(∀ b∈fp,H' b=none)/\W i m σ' H':=fun {σ7 H7} I7 n7=>by
   obtain ⟨m',hm,w7⟩:=hN σ7 H7 n7;refine ⟨m',hm,i+1,σ7,H7,I7.unpinned,T.keep _ _ _ st5 λb hb o e=>(I7.pin (b,o) (As _ (As _ (qex hb e)))).1,λb hb=>?_,w7⟩;obtain ⟨o,e,d⟩:=T.obj _ _ st5 b hb;exact (I7.pin (b,o) (As _ (As _ (qex hb e)))).2.1
  cases f with
  | next=>obtain ⟨σ7,H7,I7,n7⟩:=q7;exact again I7 n7
  | cont=>obtain ⟨σ7,H7,I7,n7⟩:=q7;exact again I7 n7
  | brk=>obtain ⟨σ7,H7,I7,q7⟩:=q7;exact ⟨σ7,H7,I7.unpinned,q7⟩
  | ret v=>obtain ⟨x7,σ7,H7,I7,r7,q7⟩:=q7;exact ⟨x7,σ7,H7,I7.unpinned,r7,q7⟩
end
theorem qbk {K:Frag} {a:Addr} {tb:TS} (Pv:Nat->St->Hp->Prop) (h0:Pv 0 σ H) (hl:∀ i σ H,i<=xs.length->Pv i σ H->SqL K H a xs)
  (hs:∀ i x σ H,xs[i]?=some x->Pv i σ H->g x σ H λσ2 H2=>tb { D with nx:=Pv (i+1),ct:=Pv (i+1),bk:=D.nx } σ2 H2) (hd:∀ σ H,Pv xs.length σ H->D.nx σ H) :
  ∃ W:Nat->Nat->St->Hp->Prop,(∃ m,W 0 m σ H)/\∀ i m σ H,W i m σ H ->
   ((Itl K a).stop i H/\D.nx σ H)\/((Itl K a).go i H/\∃ N:St->Hp->Prop,(∀ σ' H',N σ' H'->∃ m',m'<m/\W (i+1) m' σ' H')/\∀ x H',(Itl K a).yld i H x H'->g x σ H' λσ2 H2=>tb { D with nx:=N,ct:=N,bk:=D.nx } σ2 H2):=by
 exists λi m σ H=>m=xs.length-i/\i<=xs.length/\Pv i σ H,⟨xs.length,by simp,Bw _,h0⟩;rintro i m σ H ⟨rfl,hi,p⟩;have q:=hl i σ H hi p
 by_cases hlt:i<xs.length
 ·refine .inr ⟨⟨xs,xs[i],q,by simp[hlt]⟩,Pv (i+1),λσ' H' p'=>⟨xs.length-(i+1),by ext,rfl,hlt,p'⟩,λx H' y=>?_⟩
  obtain ⟨e,y⟩:=y;subst e;exact hs i x σ _ (y xs q) p
 ·have e:i=xs.length:=by ext
  subst e;exact .inl ⟨⟨xs,q,Ak _⟩,hd σ H p⟩
theorem qh4 {lo:Int} {n:Nat} {tb:TS} (Pv:Nat->St->Hp->Prop) (h0:Pv 0 σ H)
  (hs:∀ i σ H,i<n->Pv i σ H->g (.int (lo+i)) σ H λσ2 H2=>tb { D with nx:=Pv (i+1),ct:=Pv (i+1),bk:=D.nx } σ2 H2) (hd:∀ σ H,Pv n σ H->D.nx σ H) :
  ∃ W:Nat->Nat->St->Hp->Prop,(∃ m,W 0 m σ H)/\∀ i m σ H,W i m σ H ->
   ((Itr lo n).stop i H/\D.nx σ H)\/((Itr lo n).go i H/\∃ N:St->Hp->Prop,(∀ σ' H',N σ' H'->∃ m',m'<m/\W (i+1) m' σ' H')/\∀ x H',(Itr lo n).yld i H x H'->g x σ H' λσ2 H2=>tb { D with nx:=N,ct:=N,bk:=D.nx } σ2 H2):=by
 exists λi m σ H=>m=n-i/\i<=n/\Pv i σ H,⟨n,by simp,Bw _,h0⟩;rintro i m σ H ⟨rfl,hi,p⟩
 by_cases hlt:i<n
 ·refine .inr ⟨hlt,Pv (i+1),λσ' H' p'=>⟨n-(i+1),by ext,rfl,hlt,p'⟩,λx H' y=>?_⟩
  obtain ⟨e,y⟩:=y;subst e y;exact hs i σ _ hlt p
 ·have e:i=n:=by ext
  subst e;exact .inl ⟨Ak _,hd σ H p⟩
theorem qo7 {c:TT} {tb:TS} (Pv:St->Hp->Prop) (μ:St->Hp->Nat) (h0:Pv σ H)
  (hs:∀ σ H,Pv σ H->c σ H λb H1=>if b=true then tb { D with nx:=λσ' H'=>Pv σ' H'/\μ σ' H'<μ σ H,ct:=λσ' H'=>Pv σ' H'/\μ σ' H'<μ σ H,bk:=D.nx } σ H1 else D.nx σ H1)
  (mono:∀ σ H Q Q',(∀ b H1,Q b H1->Q' b H1)->c σ H Q->c σ H Q'):qw0 c tb D σ H:=by
 exists λm σ H=>m=μ σ H/\Pv σ H,⟨_,rfl,h0⟩;rintro m σ H ⟨rfl,p⟩;refine mono σ H _ _ (λb H1 q=>?_) (hs σ H p)
 cases b with
 | true=>exact ⟨_,λσ' H' ⟨p',l⟩=>⟨_,l,rfl,p'⟩,q⟩
 | false=>exact q
open PySem PySem.Spec PyProof.Rows
abbrev R2:=V->V->Hp->VK->Prop
def OpR (X:Cx) (f:Value->Value->Sem Value) (r:R2):Prop:=
 ∀ (pins:List (Addr×Obj)) (s:Shared) (σ:St) (H:Hp) (x y:V) (v u:Value) (Q:VK),Inv X pins σ H s->RelV x v->RelV y u->r x y H Q ->
  wpAny (model X.prog X.w) X.A (f v u) (EP X pins σ Q) X.xe s
def UnR (X:Cx) (f:Value->Sem Value) (r:V->Hp->VK->Prop):Prop:=
 ∀ (pins:List (Addr×Obj)) (s:Shared) (σ:St) (H:Hp) (x:V) (v:Value) (Q:VK),Inv X pins σ H s->RelV x v->r x H Q ->
  wpAny (model X.prog X.w) X.A (f v) (EP X pins σ Q) X.xe s
def CallR (X:Cx) (f:Value) (r:List V->Hp->VK->Prop):Prop:=
 ∀ (pins:List (Addr×Obj)) (s:Shared) (σ:St) (H:Hp) (xs:List V) (us:List Value) (Q:VK),Inv X pins σ H s->Vals xs us->r xs H Q ->
  wpAny (model X.prog X.w) X.A (call f us) (EP X pins σ Q) X.xe s
def tOp (r:R2) (ta tb:TE):TE:=λσ H Q=>ta σ H λx H1=>tb σ H1 λy H2=>r x y H2 Q
def tUn (r:V->Hp->VK->Prop) (ta:TE):TE:=λσ H Q=>ta σ H λx H1=>r x H1 Q
inductive rIS (C:Int->Int->Prop) (g:Int->Int->V) (x y:V) (H:Hp) (Q:VK):Prop
 | mk (i j:Int) (hx:x=.int i) (hy:y=.int j) (hc:C i j) (k:Q (g i j) H)
def rI (C:Int->Int->Prop) (g:Int->Int->V):R2:=λx y H Q=>rIS C g x y H Q
inductive rI0S (g:Int->Int->V) (x y:V) (H:Hp) (Q:VK):Prop
 | mk (i j:Int) (hx:x=.int i) (hy:y=.int j) (k:Q (g i j) H)
def rI0 (g:Int->Int->V):R2:=λx y H Q=>rI0S g x y H Q
inductive rUS (g:Int->V) (x:V) (H:Hp) (Q:VK):Prop
 | mk (i:Int) (h:x=.int i) (k:Q (g i) H)
def rU (g:Int->V):V->Hp->VK->Prop:=λx H Q=>rUS g x H Q
section
variable {X:Cx} {a b c:Expr} {ta tb tc:TE} {pos:Pos}
theorem qDl (ha:PE X a ta) (hb:PE X b tb) {pins:List (Addr×Obj)} {s:Shared} {R:V->V->Hp->Prop} (I:Inv X pins σ H s)
  (h:ta σ H λx H1=>tb σ H1 λy H2=>R x y H2) {Q:Value->Shared->Prop} {f:Value->Value->Sem Value}
  (hf:∀ v u s2 x y H2,Inv X pins σ H2 s2->RelV x v->RelV y u->R x y H2->wpAny (model X.prog X.w) X.A (f v u) Q X.xe s2) :
  wpAny (model X.prog X.w) X.A (eval a X.env) (λv s₁=>wpAny (model X.prog X.w) X.A (eval b X.env) (λu s₂=>wpAny (model X.prog X.w) X.A (f v u) Q X.xe s₂) X.xe s₁) X.xe s:=by
 refine thn (ha pins s σ H _ I h) λv s1 hq__=>?_
 obtain ⟨x,H1,I1,r1,q1⟩:=hq__;refine thn (hb pins s1 σ H1 _ I1 q1) λu s2 hq__=>?_
 obtain ⟨y,H2,I2,r2,q2⟩:=hq__;exact hf v u s2 x y H2 I2 r1 r2 q2
theorem qad {op:Operator} {r:R2} (ho:OpR X (binaryOp op) r) (ha:PE X a ta) (hb:PE X b tb):PE X (.BinOp a op b pos) (tOp r ta tb):=by
 intro pins s σ H Q I h;exact wpAny_BinOp (qDl ha hb I h λv u s2 x y H2 I2 rx ry q=>ho pins s2 σ H2 x y v u Q I2 rx ry q)
theorem qeb {op:UnaryOp} {r:V->Hp->VK->Prop} (ho:UnR X (unaryOp op) r) (ha:PE X a ta):PE X (.UnaryOp op a pos) (tUn r ta):=by
 intro pins s σ H Q I h;exact UnaryOp_ (thn (ha pins s σ H _ I h) λv s1 ⟨x,H1,I1,r1,q1⟩=>ho pins s1 σ H1 x v Q I1 r1 q1)
theorem opI {f:Value->Value->Sem Value} {C:Int->Int->Prop} {g:Int->Int->Int}
  (rule:∀ (i j:Int) (t u:Tok) (s:Shared) (Q:Value->Shared->Prop) (E:Value->Shared->Prop),C i j->Q (.int (g i j) s.toks) { s with toks:=s.toks+1 }->wpAny (model X.prog X.w) X.A (f (.int i t) (.int j u)) Q E s) :
  OpR X f (rI C λi j=>.int (g i j)):=by
 intro pins s σ H x y v u Q I rx ry h;obtain ⟨i,j,rfl,rfl,hc,q⟩:=h;obtain ⟨t,rfl⟩:=rx;obtain ⟨t',rfl⟩:=ry;exact rule i j t t' s _ _ hc ⟨.int (g i j),H,I.tok _,⟨_,rfl⟩,q⟩
theorem qDm {f:Value->Value->Sem Value} {g:Int->Int->Int}
  (rule:∀ (i j:Int) (t u:Tok) (s:Shared) (Q:Value->Shared->Prop) (E:Value->Shared->Prop),Q (.int (g i j) s.toks) { s with toks:=s.toks+1 }->wpAny (model X.prog X.w) X.A (f (.int i t) (.int j u)) Q E s) :
  OpR X f (rI0 λi j=>.int (g i j)):=by
 intro pins s σ H x y v u Q I rx ry h;obtain ⟨i,j,rfl,rfl,q⟩:=h;obtain ⟨t,rfl⟩:=rx;obtain ⟨t',rfl⟩:=ry;exact rule i j t t' s _ _ ⟨.int (g i j),H,I.tok _,⟨_,rfl⟩,q⟩
theorem qDn {f:Value->Value->Sem Value} {g:Int->Int->Bool}
  (rule:∀ (i j:Int) (t u:Tok) (s:Shared) (Q:Value->Shared->Prop) (E:Value->Shared->Prop),Q (.bool (g i j)) s->wpAny (model X.prog X.w) X.A (f (.int i t) (.int j u)) Q E s) :
  OpR X f (rI0 λi j=>.bl (g i j)):=by
 intro pins s σ H x y v u Q I rx ry h;obtain ⟨i,j,rfl,rfl,q⟩:=h;obtain ⟨t,rfl⟩:=rx;obtain ⟨t',rfl⟩:=ry;exact rule i j t t' s _ _ ⟨.bl (g i j),H,I,rfl,q⟩
def qFt (i j:Int):Prop:=0<j/\j<1073741824
def qFu (i j:Int):Prop:=0<=j/\j<=1000000/\i.natAbs<2 ^ 64
def CMul (i j:Int):Prop:=(-(2 ^ 64)<i/\i<2 ^ 64)\/(-(2 ^ 64)<j/\j<2 ^ 64)
theorem CMul.ok {i:Int} (h:CMul i j):IntMulOk i j:=by
 rcases h with ⟨h1,h2⟩|⟨h1,h2⟩
 ·exact .of_left (intBits_le_64 h1 h2)
 ·exact .of_right (intBits_le_64 h1 h2)
theorem qa3:OpR X (binaryOp .Add) (rI0 λi j=>.int (i+j)):=qDm λ_ _ _ _ _ _ _ q=>add_int q
theorem qb6:OpR X (binaryOp .Sub) (rI0 λi j=>.int (i-j)):=qDm λ_ _ _ _ _ _ _ q=>sub_int q
theorem qed:OpR X (binaryOp .Mult) (rI CMul λi j=>.int (i*j)):=opI λ_ _ _ _ _ _ _ hc q=>mul_int q hc.ok
theorem qa6:OpR X (binaryOp .FloorDiv) (rI qFt λi j=>.int (i / j)):=opI λi j _ _ _ _ _ hc q=>by
 have h1:(0:Int)<j:=hc.1;have h2:j<1073741824:=hc.2;exact E5 (by ext) (by rw[C6 i (by ext)];exact q) (.inl (PyProof.noPylong_small (by ext)))
theorem qar:OpR X (binaryOp .Mod) (rI (λ_ j=>0<j) λi j=>.int (i % j)):=opI λi j _ _ _ _ _ hc q=>by
 have h1:(0:Int)<j:=hc;exact mod_int' (by ext) (by rw[Int.fmod_eq_emod_of_nonneg i (by ext)];exact q)
theorem qcs:OpR X (binaryOp .Pow) (rI qFu λi j=>.int (i ^ j.toNat)):=opI λ_ _ _ _ _ _ _ hc q=>pow_int_small hc.1 hc.2.1 hc.2.2 q
theorem qr4:OpR X (inplaceOp .Add) (rI0 λi j=>.int (i+j)):=qDm λ_ _ _ _ _ _ _ q=>iadd_int q
theorem unI {f:Value->Sem Value} {g:Int->Int}
  (rule:∀ (i:Int) (t:Tok) (s:Shared) (Q:Value->Shared->Prop) (E:Value->Shared->Prop),Q (.int (g i) s.toks) { s with toks:=s.toks+1 }->wpAny (model X.prog X.w) X.A (f (.int i t)) Q E s) :
  UnR X f (rU λi=>.int (g i)):=by
 intro pins s σ H x v Q I rx h;obtain ⟨i,rfl,q⟩:=h;obtain ⟨t,rfl⟩:=rx;exact rule i t s _ _ ⟨.int (g i),H,I.tok _,⟨_,rfl⟩,q⟩
theorem qck:UnR X (unaryOp .USub) (rU λi=>.int (-i)):=unI λ_ _ _ _ _ q=>neg_int q
end
def qE3:V->V->Bool
 | .non,.non=>true|.non,.int _=>true|.int _,.non=>true|.non,.bl _=>true|.bl _,.non=>true|.non,.str _=>true|.str _,.non=>true
 | .int _,.int _=>true|.bl _,.bl _=>true|.str _,.str _=>true|.byt _,.byt _=>true
 | .int _,.str _=>true|.str _,.int _=>true|.bl _,.str _=>true|.str _,.bl _=>true
 | _,_=>false
def rEq:R2:=λx y H Q=>qE3 x y=true/\Q (.bl (decide (x=y))) H
def rNe:R2:=λx y H Q=>qE3 x y=true/\Q (.bl (!decide (x=y))) H
theorem qr5 {i:Int}:decide (V.int i=V.int j)=(i == j):=by
 rw[B2]
 simp
theorem qw2 {i j:Bool}:decide (V.bl i=V.bl j)=(i == j):=by
 rw[B2]
 simp
theorem qr6 {i j:Str}:decide (V.str i=V.str j)=(i == j):=by
 rw[B2]
 simp
theorem qr7 {i j:Array UInt8}:decide (V.byt i=V.byt j)=(i.toList == j.toList):=by
 rw[B2];cases i;cases j
 simp
section
variable {X:Cx} {a b c:Expr} {ta tb tc:TE} {pos:Pos}
theorem qba {pins:List (Addr×Obj)} {s:Shared} {Q:VK} {k k':Bool} (I:Inv X pins σ H s) (q:Q (.bl k) H) (e:k=k'):EP X pins σ Q (.bool k') s:=by
 subst e;exact ⟨.bl k,H,I,rfl,q⟩
theorem qbh:OpR X (compareOp .Eq) rEq:=by
 intro pins s σ H x y v u Q I rx ry h;obtain ⟨hs,q⟩:=h
 cases x with
 | non =>
  cases rx
  cases y with
  | non=>cases ry;exact PySem.EqNone.eq_none_none (qba I q (by simp))
  | bl j=>cases ry;exact PySem.EqNone.eq_none_bool (qba I q (by simp))
  | int j=>obtain ⟨t',rfl⟩:=ry;exact PySem.EqNone.eq_none_int (qba I q (by simp))
  | str j=>obtain ⟨t',rfl⟩:=ry;exact PySem.EqNone.eq_none_str (qba I q (by simp))
  | _=>exact absurd (show false=true from hs) AA
 | bl i =>
  cases rx
  cases y with
  | non=>cases ry;exact PySem.EqNone.eq_bool_none (qba I q (by simp))
  | bl j=>cases ry;exact eq_bool (qba I q qw2)
  | str j=>obtain ⟨t',rfl⟩:=ry;exact PySem.EqMixed.eq_bool_str (qba I q (by simp))
  | _=>exact absurd (show false=true from hs) AA
 | int i =>
  obtain ⟨t,rfl⟩:=rx
  cases y with
  | non=>cases ry;exact PySem.EqNone.eq_int_none (qba I q (by simp))
  | int j=>obtain ⟨t',rfl⟩:=ry;exact eq_int (qba I q qr5)
  | str j=>obtain ⟨t',rfl⟩:=ry;exact PySem.EqMixed.eq_int_str (qba I q (by simp))
  | _=>exact absurd (show false=true from hs) AA
 | str i =>
  obtain ⟨t,rfl⟩:=rx
  cases y with
  | non=>cases ry;exact PySem.EqNone.eq_str_none (qba I q (by simp))
  | bl j=>cases ry;exact PySem.EqMixed.eq_str_bool (qba I q (by simp))
  | int j=>obtain ⟨t',rfl⟩:=ry;exact PySem.EqMixed.eq_str_int (qba I q (by simp))
  | str j=>obtain ⟨t',rfl⟩:=ry;exact eq_str (qba I q qr6)
  | _=>exact absurd (show false=true from hs) AA
 | byt i =>
  obtain ⟨t,rfl⟩:=rx
  cases y with
  | byt j=>obtain ⟨t',rfl⟩:=ry;exact PySem.W.eq_bytes (qba I q qr7)
  | _=>exact absurd (show false=true from hs) AA
 | _=>cases y<;>exact absurd (show false=true from hs) AA
theorem qva:OpR X (compareOp .NotEq) rNe:=by
 intro pins s σ H x y v u Q I rx ry h;obtain ⟨hs,q⟩:=h
 cases x with
 | non =>
  cases rx
  cases y with
  | non=>cases ry;exact PySem.EqNone.ne_none_none (qba I q (by simp))
  | bl j=>cases ry;exact PySem.EqNone.ne_none_bool (qba I q (by simp))
  | int j=>obtain ⟨t',rfl⟩:=ry;exact PySem.EqNone.ne_none_int (qba I q (by simp))
  | str j=>obtain ⟨t',rfl⟩:=ry;exact PySem.EqNone.ne_none_str (qba I q (by simp))
  | _=>exact absurd (show false=true from hs) AA
 | bl i =>
  cases rx
  cases y with
  | non=>cases ry;exact PySem.EqNone.ne_bool_none (qba I q (by simp))
  | bl j=>cases ry;exact ne_bool (qba I q (congrArg not qw2))
  | str j=>obtain ⟨t',rfl⟩:=ry;exact PySem.EqMixed.ne_bool_str (qba I q (by simp))
  | _=>exact absurd (show false=true from hs) AA
 | int i =>
  obtain ⟨t,rfl⟩:=rx
  cases y with
  | non=>cases ry;exact PySem.EqNone.ne_int_none (qba I q (by simp))
  | int j=>obtain ⟨t',rfl⟩:=ry;exact ne_int (qba I q (congrArg not qr5))
  | str j=>obtain ⟨t',rfl⟩:=ry;exact PySem.EqMixed.ne_int_str (qba I q (by simp))
  | _=>exact absurd (show false=true from hs) AA
 | str i =>
  obtain ⟨t,rfl⟩:=rx
  cases y with
  | non=>cases ry;exact PySem.EqNone.ne_str_none (qba I q (by simp))
  | bl j=>cases ry;exact PySem.EqMixed.ne_str_bool (qba I q (by simp))
  | int j=>obtain ⟨t',rfl⟩:=ry;exact PySem.EqMixed.ne_str_int (qba I q (by simp))
  | str j=>obtain ⟨t',rfl⟩:=ry;exact ne_str (qba I q (congrArg not qr6))
  | _=>exact absurd (show false=true from hs) AA
 | byt i =>
  obtain ⟨t,rfl⟩:=rx
  cases y with
  | byt j=>obtain ⟨t',rfl⟩:=ry;exact PySem.W.ne_bytes (qba I q (congrArg not qr7))
  | _=>exact absurd (show false=true from hs) AA
 | _=>cases y<;>exact absurd (show false=true from hs) AA
theorem qc8:OpR X (compareOp .Lt) (rI0 λi j=>.bl (decide (i<j))):=qDn λ_ _ _ _ _ _ _ q=>lt_int q
theorem qlx:OpR X (compareOp .Gt) (rI0 λi j=>.bl (decide (j<i))):=qDn λ_ _ _ _ _ _ _ q=>gt_int q
theorem qAt:OpR X (compareOp .GtE) (rI0 λi j=>.bl (decide (j<=i))):=qDn λ_ _ _ _ _ _ _ q=>ge_int q
theorem qdo:OpR X (compareOp .Is) (λx y H Q=>y=.non/\Q (.bl (decide (x=.non))) H):=by
 intro pins s σ H x y v u Q I rx ry h;obtain ⟨rfl,q⟩:=h;cases ry;refine is_none_gen (qba I q ?_)
 cases x<;>first
  | (cases rx;rfl)
  | (obtain ⟨t,rfl⟩:=rx;rfl)
theorem qd1:OpR X (compareOp .IsNot) (λx y H Q=>y=.non/\Q (.bl (!decide (x=.non))) H):=by
 intro pins s σ H x y v u Q I rx ry h;obtain ⟨rfl,q⟩:=h;cases ry;refine isnot_none_gen (qba I q ?_)
 cases x<;>first
  | (cases rx;rfl)
  | (obtain ⟨t,rfl⟩:=rx;rfl)
theorem qw3 (b:Expr) {op:CmpOp} (h:op≠.In:=by decide) (h2:op≠.NotIn:=by decide):behindInMarks op b=false:=by
 have e1:(op == CmpOp.In)=false:=by cases op<;>first|rfl|exact absurd rfl h
 have e2:(op == CmpOp.NotIn)=false:=by cases op<;>first|rfl|exact absurd rfl h2
 cases b<;>simp[behindInMarks,e1,e2]
theorem qyf {op:CmpOp} {r:R2} (ho:OpR X (compareOp op) r) (ha:PE X a ta) (hb:PE X b tb) (hm:behindInMarks op b=false):PE X (.Compare a [op] [b] pos) (tOp r ta tb):=by
 intro pins s σ H Q I h;exact wpAny_Compare1 (qDl ha hb I h λv u s2 x y H2 I2 rx ry q=>ho pins s2 σ H2 x y v u Q I2 rx ry q) hm
def qAu (t:TE):TT:=λσ H Q=>t σ H λx H'=>∃ k,x=.bl k/\Q k H'
theorem qyg {op:CmpOp} {r:R2} (ho:OpR X (compareOp op) r) (ha:PE X a ta) (hb:PE X b tb) (hm:behindInMarks op b=false):PT X (.Compare a [op] [b] pos) (qAu (tOp r ta tb)):=by
 intro pins s σ H Q I h;refine Fj (thn (ha pins s σ H _ I h) λv s1 ⟨x,H1,I1,r1,q1⟩=>thn (hb pins s1 σ H1 _ I1 q1) λu s2 ⟨y,H2,I2,r2,q2⟩ =>
  thn (ho pins s2 σ H2 x y v u _ I2 r1 r2 q2) λc s3 ⟨z,H3,I3,r3,k,e,q3⟩=>?_) hm
 subst e;cases r3;exact B3 ⟨H3,I3,q3⟩
theorem qr8:(sizeLine:Nat)<2 ^ 63:=by rw[Bv];decide
theorem vals1 {x:V} (r:Vals [x] us):∃ u,us=[u]/\RelV x u:=by
 cases r with
 | cons r1 r2=>cases r2;exact ⟨_,rfl,r1⟩
theorem vals2 {x:V} (r:Vals [x,y] us):∃ u w',us=[u,w']/\RelV x u/\RelV y w':=by
 cases r with
 | cons r1 r2 =>
  cases r2 with
  | cons r3 r4=>cases r4;exact ⟨_,_,rfl,r1,r3⟩
theorem qo8:CallR X (.builtin "abs") (λxs H Q=>∃ i,xs=[.int i]/\Q (.int (if i<0 then -i else i)) H):=by
 intro pins s σ H xs us Q I r h;obtain ⟨i,rfl,q⟩:=h;obtain ⟨u,rfl,t,rfl⟩:=vals1 r;exact call_abs_int λu tk=>⟨.int (if i<0 then -i else i),H,I.tok _,⟨_,rfl⟩,q⟩
theorem qdp (hc:X.calm=true):CallR X (.builtin "max") (λxs H Q=>∃ i j,xs=[.int i,.int j]/\Q (.int (if j>i then j else i)) H):=by
 intro pins s σ H xs us Q I r h;obtain ⟨i,j,rfl,q⟩:=h;obtain ⟨u,w',rfl,⟨t,rfl⟩,⟨t',rfl⟩⟩:=vals2 r;refine max_two_ints (I.ok.hd hc) λh' tk k=>⟨_,H,I.kept k,?_,q⟩
 by_cases hj:j>i
 ·rw[Au hj,Au hj];exact ⟨_,rfl⟩
 ·rw[Al hj,Al hj];exact ⟨_,rfl⟩
theorem qh5 (hc:X.calm=true):CallR X (.builtin "min") (λxs H Q=>∃ i j,xs=[.int i,.int j]/\Q (.int (if j<i then j else i)) H):=by
 intro pins s σ H xs us Q I r h;obtain ⟨i,j,rfl,q⟩:=h;obtain ⟨u,w',rfl,⟨t,rfl⟩,⟨t',rfl⟩⟩:=vals2 r;refine min_two_ints (I.ok.hd hc) λh' tk k=>⟨_,H,I.kept k,?_,q⟩
 by_cases hj:j<i
 ·rw[Au hj,Au hj];exact ⟨_,rfl⟩
 ·rw[Al hj,Al hj];exact ⟨_,rfl⟩
end
open PySem PySem.Spec PyProof.Rows
structure ObjM (h:Heap) (x dx C:Addr) (mA:Str->Option Value):Prop where
 obj:h.get? x=some (PySem.W.instObj C dx)
 ns:h.Ns1 dx mA
 ne:dx≠x
theorem qr9 {dx:Addr} {mA:Str->Option Value} (n:h.Ns1 dx mA):∃ od,h.get? dx=some od/\∀ name,PySem.W.lookIn name od=some (mA name):=by
 obtain ⟨o,es,ep,ho,hd,hk,_,hm⟩:=n;refine ⟨o,ho,λname=>?_⟩;have e:=hm name;unfold nsFind findBy at e;rw[<- Array.find?_toList] at e;unfold PySem.W.lookIn;rw[hd];dsimp only
 split
 ·rename_i y q
  rw[q] at e;exact congrArg some e
 ·rename_i q
  rw[q] at e;have a:es.toList.any (·.refKey)=false:=by
   rw[List.any_eq_false];intro y hy;obtain ⟨z,t,hkey⟩:=hk y (Array.mem_toList_iff.mp hy)
   simp[DictEntry.refKey,hkey]
  have a':¬ es.toList.any (·.refKey)=true:=by rw[a];exact AA
  rw[Al a'];exact congrArg some e
theorem ObjM.look {x dx:Addr} {mA:Str->Option Value} (I:ObjM h x dx C mA):∃ od,PySem.W.InstAt h x (PySem.W.instObj C dx) C (some od)/\∀ name,PySem.W.lookIn name od=some (mA name):=
 let ⟨od,ho,hl⟩:=qr9 I.ns
 ⟨od,⟨I.obj,rfl,rfl,ho⟩,hl⟩
section
variable {prog:Program} {w:World} {A:Around} {E:Value->Shared->Prop} {s:Shared} {K:Frag} {x dx C f:Addr} {mA:Str->Option Value} {name:Str} {v:Value}
theorem qyh {expr:Bool} (X:K.In s.heap) (I:ObjM s.heap x dx C mA) (hg:PySem.W.plainGet K C name=true) (hh:PySem.W.hasDictIn K C=true)
  (ha:PySem.W.findIn K (.ref C) name=some none) (hv:mA name=some v) (hv':PySem.W.handedIn v=true) (h:Q v { s with toks:=s.toks+1 }) :
  wpAny (model prog w) A (getAttr (.ref x) name expr) Q E s:=by
 obtain ⟨od,J,hl⟩:=I.look;exact PySem.W.get_value X J (DK hg).1 (PySem.W.findObj_own hh ha rfl (by rw[hl,hv])) hv' h
theorem qvb {pl:Sem Bool} {Q:Value×List Value->Shared->Prop} (X:K.In s.heap) (I:ObjM s.heap x dx C mA) (hg:PySem.W.plainGet K C name=true)
  (hf:PySem.W.findIn K (.ref C) name=some (some (.ref f))) (ht:PySem.W.isFn K (.ref f)=true) (hv:mA name=none) (h:Q (.ref f,[.ref x]) s) :
  wpAny (model prog w) A (getMethod (.ref x) name pl) Q E s:=by
 obtain ⟨od,J,hl⟩:=I.look;exact PySem.W.method_fn X J (DK hg).1 (DK hg).2 hf (Dt.mp ht) (by show (PySem.W.lookIn name od).map (·.isSome)=some false;rw[hl,hv];rfl) h
theorem qyi {ns:List Str} {Q:Unit->Shared->Prop} (X:K.In s.heap) (I:ObjM s.heap x dx C mA)
  (hs:PySem.W.findIn K (.ref C) "__setattr__" = some (some (.builtin "object.__setattr__"))) (hp:PySem.W.plainOver K C=true) (ht:PySem.W.takerIn K C name=some none) (hh:PySem.W.hasDictIn K C=true)
  (hw:PySem.Within mA ns) (hsz:ns.length<=sizeLine)
  (h:∀ h',ObjM h' x dx C (λy=>if y=name then some v else mA y)->Heap.SameBut dx s.heap h'->Q () { s with heap:=h',toks:=s.toks+2 }) :
  wpAny (model prog w) A (setAttr (.ref x) name v) Q E s:=by
 obtain ⟨od,J,hl⟩:=I.look;refine PySem.W.set_plain X J hs (PySem.W.osa_open (s:={ s with toks:=s.toks+1 }) (r:=none) X J hp ht λb=>?_);obtain ⟨cd,hc,hd'⟩:=PySem.W.any_some hh;have hx:s.heap.get? x=some ⟨.ref C,some dx,.plain,#[]⟩:=I.obj;refine Ac (Ai (Ac (Ac (wpAny_loadPart hx (Ac (PySem.W.Looks.here (s:={ s with toks:=s.toks+1 }) (PySem.W.looks_clsIn X hc) ?_))))));rw[hd'];refine Ai (a:=some dx) (Ac (Ai (Ac ?_)));refine wpAny_nsSet1 (s:={ s with toks:=s.toks+1 }) I.ns λh' hn2 hs2=>?_
 obtain ⟨oD,esD,epD,hoD,hdD,hcD⟩:=hn2.count (PySem.Within.cons name v hw);refine Ac (wpAny_lookBehind hoD (by rw[hdD];exact pastItsLine_dict (AL hcD (by rw[AF];ext))) ?_);exact Ai (h _ ⟨(hs2.2 _ (BR I.ne)).trans I.obj,hn2,I.ne⟩ hs2)
theorem qvc {R:Result->Shared->Prop} {kw:List (Str×Value)} (X:K.In s.heap) (hm:PySem.W.makesIn K C=true)
  (hi:PySem.W.findIn K (.ref C) "__init__" = some (some (.ref f))) (hf:PySem.W.typeIn K (.ref f)=some (.type "function"))
  (h:codeAny (model prog w) (A.under (.builtin "type.__call__" ⟨.ref C :: vs,kw⟩)) (.call (.ref f) ⟨.ref (s.heap.objs.size+1) :: vs,kw⟩) (PySem.W.InitBack (s.heap.objs.size+1) R)
   {s with heap:=(s.heap.push PySem.W.emptyDict).push (PySem.W.instObj C s.heap.objs.size) }) :
  codeAny (model prog w) A (.call (.ref C) ⟨vs,kw⟩) R s:=by
 obtain ⟨hh,g,d,t,os⟩:=s;exact PySem.W.make_core (Ea X hm) (FD X hi) (λself=>PySem.W.bind_fn X self hf) (.inl rfl) h
theorem qsa {R:Result->Shared->Prop} (X:K.In s.heap) (hm:PySem.W.makesIn K C=true)
  (hi:PySem.W.findIn K (.ref C) "__init__" = some (some (.builtin "object.__init__")))
  (hb:∀ self,PySem.W.Looks (model prog w) s.heap (bindSpecial (.builtin "object.__init__") self) (.builtin "object.__init__",[self]))
  (h:codeAny (model prog w) (A.under (.builtin "type.__call__" ⟨[.ref C],[]⟩)) (.call (.builtin "object.__init__") ⟨[.ref (s.heap.objs.size+1)],[]⟩) (PySem.W.InitBack (s.heap.objs.size+1) R)
   {s with heap:=(s.heap.push PySem.W.emptyDict).push (PySem.W.instObj C s.heap.objs.size) }) :
  codeAny (model prog w) A (.call (.ref C) ⟨[],[]⟩) R s:=by
 obtain ⟨hh,g,d,t,os⟩:=s;exact PySem.W.make_core (Ea X hm) (FD X hi) hb (.inr ⟨rfl,rfl⟩) h
end
def qhs (f:Str) (v:V):List (Str×V)->List (Str×V)
 | []=>[(f,v)]
 | (g,x) :: r=>if g=f then (g,v) :: r else (g,x) :: qhs f v r
theorem qal (f g:Str) (v:V):∀ fs:List (Str×V),(qhs f v fs).lookup g=if g=f then some v else fs.lookup g
 | []=>by
  show List.lookup g [(f,v)]=_
  by_cases h:g=f
  ·have hb:(g == f)=true:=Dt.mpr h
   simp only[List.lookup,hb,Au h]
  ·have hb:(g == f)=false:=Cs.mpr h
   simp only[List.lookup,hb,Al h]
 | (k,x) :: r=>by
  have ih:=qal f g v r;rw[show qhs f v ((k,x) :: r)=(if k=f then (k,v) :: r else (k,x) :: qhs f v r) from rfl]
  by_cases hk:k=f
  ·rw[Au hk]
   by_cases h:g=k
   ·have hb:(g == k)=true:=Dt.mpr h
    simp only[List.lookup,hb,Au (h.trans hk)]
   ·have hb:(g == k)=false:=Cs.mpr h
    simp only[List.lookup,hb,Al (λe:g=f=>h (e.trans hk.symm))]
  ·rw[Al hk]
   by_cases h:g=k
   ·have hb:(g == k)=true:=Dt.mpr h
    simp only[List.lookup,hb,Al (λe:g=f=>hk (h.symm.trans e))]
   ·have hb:(g == k)=false:=Cs.mpr h
    simp only[List.lookup,hb];exact ih
theorem qh6 (f:Str) (v:V):∀ fs:List (Str×V),f∈(qhs f v fs).map (·.1)/\∀ g,g∈fs.map (·.1)->g∈(qhs f v fs).map (·.1)
 | []=>⟨by simp[qhs],λg h=>by simp at h⟩
 | (k,x) :: r=>by
  obtain ⟨i1,i2⟩:=qh6 f v r;rw[show qhs f v ((k,x) :: r)=(if k=f then (k,v) :: r else (k,x) :: qhs f v r) from rfl]
  by_cases hk:k=f
  ·rw[Au hk]
   subst hk;exact ⟨by simp,λg h=>by simpa using h⟩
  ·rw[Al hk]
   refine ⟨?_,λg h=>?_⟩
   ·rw[AR]
    exact Ad _ i1
   ·rw[AR] at h ⊢
    rcases Av.mp h with e|e
    ·exact Av.mpr (.inl e)
    ·exact Ad _ (i2 g e)
theorem qh7 (f:Str) (v:V):∀ fs:List (Str×V),(qhs f v fs).length<=fs.length+1
 | []=>by simp[qhs]
 | (k,x) :: r=>by
  have ih:=qh7 f v r;rw[show qhs f v ((k,x) :: r)=(if k=f then (k,v) :: r else (k,x) :: qhs f v r) from rfl]
  by_cases hk:k=f
  ·rw[Au hk,AF,AF];ext
  ·rw[Al hk,AF,AF];ext
theorem RelO.some_of {v:V} {o:Option Value} (r:RelO (some v) o):∃ u,o=some u/\RelV v u:=by
 cases o with
 | none=>exact (show False from r).elim
 | some u=>exact ⟨u,rfl,r⟩
theorem RelO.none_of {o:Option Value} (r:RelO none o):o=none:=by
 cases o with
 | none=>rfl
 | some u=>exact (show False from r).elim
theorem qsb {v:V} (r:RelV v u):PySem.W.handedIn u=true:=by
 cases v with
 | non=>cases (show u=Value.none from r);rfl
 | bl b=>cases (show u=Value.bool b from r);rfl
 | int i=>obtain ⟨t,e⟩:=(show ∃ t,u=Value.int i t from r);cases e;rfl
 | str x=>obtain ⟨t,e⟩:=(show ∃ t,u=Value.str x t from r);cases e;rfl
 | byt b=>obtain ⟨t,e⟩:=(show ∃ t,u=Value.bytes b t from r);cases e;rfl
 | flt b=>obtain ⟨t,e⟩:=(show ∃ t,u=Value.float b t from r);cases e;rfl
 | ref a=>cases (show u=Value.ref a from r);rfl
 | ty n=>cases (show u=Value.type n from r);rfl
section
variable {P:Program} {w:World} {H H':Hp} {h h':Heap} {a C dx:Addr} {fs fs':List (Str×V)}
theorem qk2 (hok:HOk P w H h) (e:H a=some (.ins C dx fs)):∃ mA,ObjM h a dx C mA/\(∀ f,RelO (fs.lookup f) (mA f))/\PySem.Within mA (fs.map (·.1))/\fs.length<=1000/\H dx=some (.own a):=by
 obtain ⟨d,z,ne,ob,mA,n,r,q⟩:=(show ObjOk P w H h a (.ins C dx fs) from hok a _ e);exact ⟨mA,⟨ob,n,ne⟩,r,q,z,d⟩
end
structure Cls (K:Frag) (C:Addr):Prop where
 pg:PySem.W.plainGet K C Str.empty=true
 hd:PySem.W.hasDictIn K C=true
 po:PySem.W.plainOver K C=true
 sa:PySem.W.findIn K (.ref C) "__setattr__" = some (some (.builtin "object.__setattr__"))
theorem Cls.get {K:Frag} (c:Cls K C) (f:Str):PySem.W.plainGet K C f=true:=c.pg
def NoAttr (K:Frag) (C:Addr) (f:Str):Prop:=PySem.W.findIn K (.ref C) f=some none
theorem NoAttr.taker {K:Frag} {f:Str} (n:NoAttr K C f):PySem.W.takerIn K C f=some none:=by
 unfold PySem.W.takerIn;rw[show PySem.W.findIn K (.ref C) f=some none from n]
 rfl
structure qw4 (K:Frag) (C:Addr) (m:Str) (f:Addr):Prop where
 at_:PySem.W.findIn K (.ref C) m=some (some (.ref f))
 fn:PySem.W.isFn K (.ref f)=true
 kp:keepIn K (.ref f)=true
section
variable {X:Cx} {pins:List (Addr×Obj)} {σ:St} {H:Hp} {s:Shared} {a C dx:Addr} {fs:List (Str×V)} {f:Str} {v:V} {A:Around} {E:Value->Shared->Prop}
theorem qqy {b:Bool} (I:Inv X pins σ H s) (e:H a=some (.ins C dx fs)) (c:Cls X.K C) (n:NoAttr X.K C f) (l:fs.lookup f=some v)
  (h:∀ u s',Inv X pins σ H s'->RelV v u->Q u s'):wpAny (model X.prog X.w) A (getAttr (.ref a) f b) Q E s:=by
 obtain ⟨mA,O,r,_,_,_⟩:=qk2 I.hok e;obtain ⟨u,hu,ru⟩:=RelO.some_of (v:=v) (o:=mA f) (by rw[<- l];exact r f);exact qyh I.kIn O (c.get f) c.hd n hu (qsb ru) (h u _ (I.tok _) ru)
theorem qjz {m:Str} {g:Addr} {pl:Sem Bool} {Q:Value×List Value->Shared->Prop} (I:Inv X pins σ H s) (e:H a=some (.ins C dx fs)) (c:Cls X.K C) (k:qw4 X.K C m g) (l:fs.lookup m=none)
  (h:Q (.ref g,[.ref a]) s):wpAny (model X.prog X.w) A (getMethod (.ref a) m pl) Q E s:=by
 obtain ⟨mA,O,r,_,_,_⟩:=qk2 I.hok e;have hn:mA m=none:=RelO.none_of (by rw[<- l];exact r m);exact qvb I.kIn O (c.get m) k.at_ k.fn hn h
theorem qqz {Q:Unit->Shared->Prop} (I:Inv X pins σ H s) (e:H a=some (.ins C dx fs)) (c:Cls X.K C) (n:NoAttr X.K C f) (hl:fs.length<1000) (ry:RelV y u)
  (h:∀ s',Inv X pins σ (upd H a (.ins C dx (qhs f y fs))) s'->Q () s'):wpAny (model X.prog X.w) A (setAttr (.ref a) f u) Q E s:=by
 obtain ⟨mA,O,r,wi,_,ho⟩:=qk2 I.hok e;have hz:(fs.map (·.1)).length<=sizeLine:=by rw[Aa,Bv];ext
 refine qyi I.kIn O c.sa c.po n.taker c.hd wi hz λh' O' sb=>h _ ?_
 have hd:∃ o,h'.get? dx=some o:=let ⟨o,_,_,e',_⟩:=O'.ns;⟨o,e'⟩
 refine I.write (x:=a) (e:=dx) (by rw[e];exact True.intro) (.inr ho) (λb q hb z=>(sb.2 b hb).trans z) hd ?_;refine ⟨by rw[qas O.ne];exact ho,?_,O.ne,O'.obj,_,O'.ns,λg=>?_,λg hg=>?_⟩
 ·have:=qh7 f y fs;ext
 ·show RelO ((qhs f y fs).lookup g) (if g=f then some u else mA g)
  rw[qal]
  by_cases q:g=f
  ·rw[Au q,Au q];exact ry
  ·rw[Al q,Al q];exact r g
 ·by_cases q:g=f
  ·rw[q];exact (qh6 f y fs).1
  ·refine (qh6 f y fs).2 g (wi g λz=>hg ?_)
   show (if g=f then some u else mA g)=none
   rw[Al q];exact z
theorem Inv.made (I:Inv X pins σ H s):Inv X pins σ (upd (upd H s.heap.objs.size (.own (s.heap.objs.size+1))) (s.heap.objs.size+1) (.ins C s.heap.objs.size []))
  {s with heap:=(s.heap.push PySem.W.emptyDict).push (PySem.W.instObj C s.heap.objs.size) }:=by
 have e1:(s.heap.push PySem.W.emptyDict).get? s.heap.objs.size=some PySem.W.emptyDict:=Ay s.heap rfl;have e2:((s.heap.push PySem.W.emptyDict).push (PySem.W.instObj C s.heap.objs.size)).get? (s.heap.objs.size+1)=some (PySem.W.instObj C s.heap.objs.size):=by
  have:=Ay (s.heap.push PySem.W.emptyDict) (o:=PySem.W.instObj C s.heap.objs.size) rfl
  rwa [BM] at this
 have e3:(s.heap.push PySem.W.emptyDict).Ns s.heap.objs.size (λ_=>none):=⟨PySem.W.emptyDict,#[],_,e1,rfl,(λe he=>absurd he (by simp)),λ_=>rfl⟩;have I1:=I.laid (a:=s.heap.objs.size) (o:=.own (s.heap.objs.size+1)) (h':=s.heap.push PySem.W.emptyDict) (t':=s.toks) (λb u q=>Af _ q) (Ak _) ⟨_,e1⟩;refine I1.laid (a:=s.heap.objs.size+1) (o:=.ins C s.heap.objs.size []) (t':=s.toks) (λb u q=>Af _ q) (DX (BM _ _)) ?_;have ne:s.heap.objs.size≠s.heap.objs.size+1:=AH (Cn _);refine ⟨by rw[qas ne,qa5],Bw _,ne,e2,λ_=>none,(Heap.Ns1.of_empty e3).at λo q=>Af _ q,λ_=>True.intro,λy hy=>absurd rfl hy⟩
theorem qyj {prog:Program} {w:World} {env:Env} {f:Str} {pos:Pos} {s:Shared} (hb:attributeBase e f env (eval e env)=eval e env)
  (h:wpAny (model prog w) A (eval e env) (λo s₁=>wpAny (model prog w) A (getAttr o f true) Q E s₁) E s):wpAny (model prog w) A (eval (.Attribute e f pos) env) Q E s:=
 Attribute_any_ h (by rw[arm_eval_Attribute,hb])
end
inductive qDo (K:Frag) (f:Str) (x:V) (H1:Hp) (Q:VK):Prop
 | mk (a C dx:Addr) (fs:List (Str×V)) (v:V) (hx:x=.ref a) (ho:H1 a=some (.ins C dx fs)) (hc:Cls K C) (hn:NoAttr K C f) (hl:fs.lookup f=some v) (k:Q v H1)
def qDp (K:Frag) (ta:TE) (f:Str):TE:=λσ H Q=>ta σ H λx H1=>qDo K f x H1 Q
section
variable {X:Cx} {o e value:Expr} {f:Str} {pos pos' tpos:Pos} {ta tv:TE}
theorem qb7 (he:PE X e ta) (hb:attributeBase e f X.env (eval e X.env)=eval e X.env):PE X (.Attribute e f pos) (qDp X.K ta f):=by
 intro pins s σ H Q I h;refine qyj hb (thn (he pins s σ H _ I h) λu s1 hq__=>?_);obtain ⟨x,H1,I1,rx,a,C,dx,fs,v,ex,ea,c,n,l,q⟩:=hq__;subst ex;obtain rfl:u=Value.ref a:=rx;exact qqy I1 ea c n l λu' s2 I2 ru=>⟨v,H1,I2,ru,q⟩
end
section
variable {X:Cx} {pins:List (Addr×Obj)} {σ:St} {H:Hp} {s:Shared} {A:Around} {E:Value->Shared->Prop} {Q:Value->Shared->Prop} {c:Value} {b:Bool}
inductive TyOf (K:Frag) (H:Hp):V->Value->Prop where
 | non:TyOf K H .non (.type "NoneType")
 | bl (x:Bool):TyOf K H (.bl x) (.type "bool")
 | int (i:Int):TyOf K H (.int i) (.type "int")
 | str (x:Str):TyOf K H (.str x) (.type "str")
 | flt (x:UInt64):TyOf K H (.flt x) (.type "float")
 | lst {a:Addr} {xs:List V} (e:H a=some (.lst xs)):TyOf K H (.ref a) (.type "list")
 | frz {a:Addr} {o:Obj} {xs:List V} (e:H a=some (.frz o (.lst xs))):TyOf K H (.ref a) (.type "list")
 | tup {a:Addr} {xs:List V} (e:H a=some (.tup xs)):TyOf K H (.ref a) (.type "tuple")
 | dK {a:Addr} {kvs:List (Key×V)} (e:H a=some (.dK kvs)):TyOf K H (.ref a) (.type "dict")
 | dT {a:Addr} {kvs:List (List Key×V)} (e:H a=some (.dT kvs)):TyOf K H (.ref a) (.type "dict")
 | ins {a C dx:Addr} {fs:List (Str×V)} (e:H a=some (.ins C dx fs)) (cl:Cls K C) (ha:PySem.W.findIn K (.ref C) "__class__" = some (some (.builtin "object.__class__")))
   (hn:PySem.W.specialIn K (.builtin "object.__class__") "__get__" = some (some (.builtin "getset_descriptor.__get__"))) (htk:PySem.W.takesIn K (.builtin "object.__class__")=some true)
   (hm:PySem.W.mroIn K C (.type "object")=some true):TyOf K H (.ref a) (.ref C)
theorem qsc {x:V} {t:Value} (I:Inv X pins σ H s) (rx:RelV x u) (ty:TyOf X.K H x t) (e:PySem.W.kitOne X.K t c=some b) (h:∀ tk,Q (.bool b) { s with toks:=tk }) :
  wpAny (model X.prog X.w) A (call (.builtin "isinstance") [u,c]) Q E s:=by
 cases ty with
 | non=>cases (show u=Value.none from rx);exact BH PySem.W.kitx_none I.kIn True.intro e (λz=>nomatch z) h
 | bl y=>cases (show u=Value.bool y from rx);exact BH PySem.W.kitx_bool I.kIn True.intro e (λz=>nomatch z) h
 | int i=>obtain ⟨t,q⟩:=(show ∃ t,u=Value.int i t from rx);cases q;exact BH PySem.W.kitx_int I.kIn True.intro e (λz=>nomatch z) h
 | str y=>obtain ⟨t,q⟩:=(show ∃ t,u=Value.str y t from rx);cases q;exact BH PySem.W.kitx_str I.kIn True.intro e (λz=>nomatch z) h
 | flt y=>obtain ⟨t,q⟩:=(show ∃ t,u=Value.float y t from rx);cases q;exact BH PySem.W.kitx_float I.kIn True.intro e (λz=>nomatch z) h
 | @lst a xs ea =>
  cases (show u=Value.ref a from rx)
  obtain ⟨_,_,n,_,h1⟩:=(show ObjOk X.prog X.w H s.heap a (.lst xs) from I.hok a _ ea);exact BH PySem.W.kitx_list I.kIn ⟨_,h1,rfl⟩ e (λz=>nomatch z) h
 | @frz a ob xs ea =>
  cases (show u=Value.ref a from rx)
  obtain ⟨_,_,_,n,_,h1⟩:=(show ObjOk X.prog X.w H s.heap a (.frz ob (.lst xs)) from I.hok a _ ea);exact BH PySem.W.kitx_list I.kIn ⟨_,h1,rfl⟩ e (λz=>nomatch z) h
 | @tup a xs ea =>
  cases (show u=Value.ref a from rx)
  obtain ⟨_,_,_,p⟩:=(show ObjOk X.prog X.w H s.heap a (.tup xs) from I.hok a _ ea);obtain ⟨o,h1,h2,_⟩:=p;exact BH PySem.W.kitx_tuple I.kIn ⟨o,h1,h2⟩ e (λz=>nomatch z) h
 | @dK a kvs ea =>
  cases (show u=Value.ref a from rx)
  obtain ⟨_,_,vs,_,p⟩:=(show ObjOk X.prog X.w H s.heap a (.dK kvs) from I.hok a _ ea);obtain ⟨o,es,ep,h1,h2,_⟩:=p;exact BH PySem.W.kitx_dict I.kIn ⟨o,h1,h2.1⟩ e (λz=>nomatch z) h
 | @dT a kvs ea =>
  cases (show u=Value.ref a from rx)
  obtain ⟨_,_,xs,_,o,es,ep,h1,h2,_⟩:=(show ObjOk X.prog X.w H s.heap a (.dT kvs) from I.hok a _ ea);exact BH PySem.W.kitx_dict I.kIn ⟨o,h1,h2.1⟩ e (λz=>nomatch z) h
 | @ins a C dx fs ea cl ha hn htk hm =>
  cases (show u=Value.ref a from rx)
  obtain ⟨mA,O,_⟩:=qk2 I.hok ea;obtain ⟨od,J,_⟩:=O.look;exact BH (PySem.W.kitx_own (cl.get _) cl.hd ha hn htk hm) I.kIn J e (λz=>nomatch z) h
end
open PySem PySem.Spec PyProof.Rows
structure Room (k:Nat) (A:Around):Prop where
 hd:A.handled=none
 dp:A.depth+3*k+5<recursionLimit
 un:A.units+16*k+200<cLine
theorem Room.mono {j:Nat} {A:Around} (r:Room k A) (h:j<=k):Room j A:=⟨r.hd,by have:=r.dp;ext,by have:=r.un;ext⟩
theorem Room.deeper {A:Around} (r:Room (k+1) A) (env:Env):Room k (A.deeper env):=
 ⟨r.hd,by have:=r.dp;show A.depth+1+3*k+5<_;ext,by have:=r.un;show A.units+3+16*k+200<_;ext⟩
theorem qq0 {A:Around} {kw:List (Str×Value)}:(A.under (.builtin "type.__call__" ⟨.ref C :: us,kw⟩)).depth=A.depth+1:=by
 first|rfl|simp[Around.under,Code.weight,Code.isCreation,Code.isGuard,Code.isCaller,Code.frames,Code.isFrame,guardIds]
theorem qq1 {A:Around} {kw:List (Str×Value)}:(A.under (.builtin "type.__call__" ⟨.ref C :: us,kw⟩)).units=A.units+1:=by
 first|rfl|simp[Around.under,Code.cUnits,Code.frames,Code.isFrame]
theorem Room.make {A:Around} (r:Room (k+1) A) (C:Addr) (us:List Value) (kw:List (Str×Value)):Room k (A.under (.builtin "type.__call__" ⟨.ref C :: us,kw⟩)):=
 ⟨r.hd,by have:=r.dp;rw[qq0];ext,by have:=r.un;rw[qq1];ext⟩
theorem Room.depth {A:Around} (r:Room k A):A.depth<recursionLimit:=by have:=r.dp;ext
theorem Room.units {A:Around} (r:Room k A):A.units+64<cLine:=by have:=r.un;ext
def qj0:TA:=λ_ H Q=>Q [] H
def qe0 (ta:TE) (tr:TA):TA:=λσ H Q=>ta σ H λx H1=>tr σ H1 λxs H2=>Q (x :: xs) H2
section
variable {X:Cx} {e:Expr} {es:List Expr} {te:TE} {t:TA} {pos:Pos}
theorem qct:PA X [] qj0:=λ_ _ _ _ H Q I h=>Df ⟨[],H,I,.nil,h⟩
theorem qb2 (ha:PE X e te) (hr:PA X es t) (hs:starEach (e :: es) X.env=(false,eval e X.env) :: starEach es X.env:=by rfl):PA X (e :: es) (qe0 te t):=by
 intro pos pins s σ H Q I h;rw[hs]
 show wpAny _ _ (spliced ((false,eval e X.env) :: backTo pos (starEach es X.env))) _ _ s
 refine CB (thn (ha pins s σ H _ I h) λu s1 hq__=>?_);obtain ⟨x,H1,I1,r1,q1⟩:=hq__;exact thn (hr pos pins s1 σ H1 _ I1 q1) λus s2 ⟨xs,H2,I2,r2,q2⟩=>⟨x :: xs,H2,I2,.cons r1 r2,q2⟩
end
abbrev Sp:=List V->Hp->VK->XK->Prop
abbrev CXT:=List Env->Hp->Shared->XK->Value->Shared->Prop
structure Env0 (P:Program) (w:World) (K:Frag) (mg:Str->Option Value) (base:Heap) (A:Around) (outer:List Env) (s:Shared) (H:Hp):Prop where
 frames:A.frames=some outer
 mod:Mod K mg base
 bs:∀ b o,base.get? b=some o->s.heap.get? b=some o/\H b=none
 bsz:base.objs.size<=s.heap.objs.size
 funs:s.heap.FunFrames base outer
 frf:∀ b∈frs outer,H b=none
 hok:HOk P w H s.heap
 bare:AllBare s.gens
def CE (outer:List Env) (P:Program) (w:World) (H:Hp) (s:Shared) (Q:VK) (u:Value) (s':Shared):Prop:=
 ∃ v H',s'.os=s.os/\AllBare s'.gens/\Un (frs outer) [] H H' s.heap s'.heap/\HOk P w H' s'.heap/\RelV v u/\Q v H'
def CR (CX:CXT) (outer:List Env) (P:Program) (w:World) (H:Hp) (s:Shared) (Q:VK) (E:XK) (r:Result) (s':Shared):Prop:=
 match r with
 | .ok (.ret u)=>CE outer P w H s Q u s'
 | .ok _=>False
 | .error e=>CX outer H s E e s'
structure qjr (P:Program) (w:World) (K:Frag) (mg:Str->Option Value) (base:Heap) (CX:CXT) (k:Nat) (f:Addr) (fd:FuncData) (ps:List Str) (sp:Sp):Prop where
 len:∀ vs H Q E,sp vs H Q E->vs.length=ps.length
 run:∀ (A:Around) (outer:List Env) (s:Shared) (H:Hp) (args:Args) (us:List Value) (vs:List V) (Q:VK) (E:XK),Room k A->Env0 P w K mg base A outer s H->BindsTo s fd args (ps.zip us)->Vals vs us->sp vs H Q E ->
  codeAny (model P w) A (.call (.ref f) args) (CR CX outer P w H s Q E) s
theorem Env0.make {P:Program} {w:World} {K:Frag} {mg:Str->Option Value} {base:Heap} {A:Around} {outer:List Env} {s:Shared} (e:Env0 P w K mg base A outer s H) (C:Addr) (us:List Value) (kw:List (Str×Value)) :
  Env0 P w K mg base (A.under (.builtin "type.__call__" ⟨.ref C :: us,kw⟩)) outer s H:=⟨by first|exact e.frames|(simpa [Around.under,Code.envs,Code.isFrame,pushEnvs] using e.frames),e.mod,e.bs,e.bsz,e.funs,e.frf,e.hok,e.bare⟩
section
variable {X:Cx} {pins:List (Addr×Obj)} {σ:St} {H:Hp} {s s':Shared}
theorem Inv.env0 (I:Inv X pins σ H s):Env0 X.prog X.w X.K X.mg X.base X.A X.stack s H:=
 ⟨I.ok.frames,I.ok.mod,I.bs,AL I.ok.bsz I.sz,I.stack,I.stkFree,I.hok,I.bare⟩
theorem Inv.after {Q:VK} (I:Inv X pins σ H s) (h:CE X.stack X.prog X.w H s Q u s'):EP X pins σ Q u s':=by
 obtain ⟨v,H',os,bare,un,hok,r,q⟩:=h;obtain ⟨hh,g,d,t,os'⟩:=s';obtain rfl:os'=s.os:=os;exact ⟨v,H',I.call (h':=hh) (g':=g) (d':=d) (t':=t) (ch:=[]) un hok bare (λb z=>absurd z (by simp)),r,q⟩
end
def qyk (sp:Sp) (dvs:List V) (E:XK) (t:TA):TE:=λσ H Q=>t σ H λvs H1=>sp (vs ++ dvs) H1 Q E
inductive qAv (C:Addr) (m:Str) (x:V) (H:Hp) (k:Prop):Prop
 | mk (a dx:Addr) (fs:List (Str×V)) (hx:x=.ref a) (ho:H a=some (.ins C dx fs)) (hl:fs.lookup m=none) (hk:k)
def qh8 (C:Addr) (m:Str) (sp:Sp) (dvs:List V) (E:XK) (ta:TE) (t:TA):TE:=λσ H Q=>ta σ H λx H1=>qAv C m x H1 (t σ H1 λvs H2=>sp (x :: (vs ++ dvs)) H2 Q E)
def Binds (K:Frag) (fd:FuncData) (ps:List Str) (ds:List Value):Prop:=
 ∀ (s:Shared) (us:List Value),K.In s.heap->(us ++ ds).length=ps.length->BindsTo s fd ⟨us,[]⟩ (ps.zip (us ++ ds))
theorem Binds.all {K:Frag} {fd:FuncData} (h:∀ us:List Value,us.length=ps.length->bindArgs fd ⟨us,[]⟩=pure (ps.zip us)):Binds K fd ps []:=λs us _ hl=>by
 rw[Bl] at hl ⊢;exact .of_eq (h us hl)
def qj1 (CX:CXT) (X:Cx) (E:XK):Prop:=∀ (pins:List (Addr×Obj)) (σ:St) (H:Hp) (s:Shared) (e:Value) (s':Shared),Inv X pins σ H s->CX X.stack H s E e s'->X.xe e s'
section
variable {X:Cx} {CX:CXT} {k:Nat} {f C:Addr} {fd:FuncData} {ps:List Str} {sp:Sp} {dvs:List V} {ds:List Value} {E:XK} {x m:Str} {p pos apos:Pos} {e o:Expr} {es:List Expr} {ta:TE} {t:TA}
theorem qsd {pins:List (Addr×Obj)} {s:Shared} {Q:VK} {vs:List V} (F:qjr X.prog X.w X.K X.mg X.base CX k f fd ps sp) (hr:Room k X.A) (hb:Binds X.K fd ps ds) (hd:Vals dvs ds) (hx:qj1 CX X E)
  (I:Inv X pins σ H s) (r:Vals vs us) (h:sp (vs ++ dvs) H Q E):wpAny (model X.prog X.w) X.A (call (.ref f) us) (EP X pins σ Q) X.xe s:=by
 have r2:Vals (vs ++ dvs) (us ++ ds):=r.append hd;have hl:(us ++ ds).length=ps.length:=by rw[<- r2.length];exact F.len _ _ _ _ h
 refine Et (CH (F.run X.A X.stack s H ⟨us,[]⟩ (us ++ ds) (vs ++ dvs) Q E hr I.env0 (hb s us I.kIn hl) r2 h) λr s' hq=>?_)
 cases r with
 | error e=>exact hx pins σ H s e s' I hq
 | ok fl =>
  cases fl with
  | ret u=>exact I.after hq
  | next=>exact False.elim hq
  | brk=>exact False.elim hq
  | cont=>exact False.elim hq
theorem qyl (F:qjr X.prog X.w X.K X.mg X.base CX k f fd ps sp) (hr:Room k X.A) (hg:Gl X x) (hm:X.mg x=some (.ref f)) (hk:keepIn X.K (.ref f)=true) (hb:Binds X.K fd ps ds) (hd:Vals dvs ds) (hx:qj1 CX X E)
  (ha:PA X (e :: es) t) (hdb:(x == ("__debug__" : Str))=false:=by decide) (he:starEach (e :: es) X.env=(false,eval e X.env) :: starEach es X.env:=by rfl) (hpl:(backTo pos (starEach es X.env)).any (·.1)=false:=by rfl) :
  PE X (.Call (.Name x p) (e :: es) [] pos) (qyk sp dvs E t):=by
 intro pins s σ H Q I h;refine Cb (qh2 I hg hm ?_ hdb);refine C0 (h₀:=X.base) I.ok.mod.kin hk (thn (ha pos pins s σ H _ I h) λus s1 ⟨vs,H1,I1,r,q⟩=>⟨I1.kIn,?_⟩) he hpl;exact qsd F hr hb hd hx I1 r q
theorem qse {pl:Sem Bool} (he:PE X o ta) (c:Cls X.K C) (hm:qw4 X.K C m f) (F:qjr X.prog X.w X.K X.mg X.base CX k f fd ps sp) (hr:Room k X.A) (hb:Binds X.K fd ps ds) (hd:Vals dvs ds) (hx:qj1 CX X E) (ha:PA X (e :: es) t)
  (hst:starEach (e :: es) X.env=(false,eval e X.env) :: starEach es X.env:=by rfl) (hpl:(backTo pos (starEach es X.env)).any (·.1)=false:=by rfl)
  (ht:eval (.Call (.Attribute o m apos) (e :: es) [] pos) X.env=(do
   let ov <- eval o X.env
   standAt apos.atName
   let (f,first) <- holding [ov] (getMethod ov m pl)
   callWith pos f first (backTo pos (starEach (e :: es) X.env)) (backToKw pos (keywordEach [] X.env))):=by rfl) :
  PE X (.Call (.Attribute o m apos) (e :: es) [] pos) (qh8 C m sp dvs E ta t):=by
 intro pins s σ H Q I h;refine Fn (pl:=pl) (thn (he pins s σ H _ I h) λu s1 hq__=>?_) ht;obtain ⟨x,H1,I1,rx,a,dx,fs,ex,ea,l,q⟩:=hq__;subst ex;obtain rfl:u=Value.ref a:=rx;refine qjz I1 ea c hm l ?_;refine C0 (first:=[.ref a]) (h₀:=X.base) I.ok.mod.kin hm.kp (thn (ha pos pins s1 σ H1 _ I1 q) λus s2 ⟨vs,H2,I2,r,q2⟩=>⟨I2.kIn,?_⟩) hst hpl;exact qsd (us:=.ref a :: us) (vs:=.ref a :: vs) F hr hb hd hx I2 (.cons rfl r) q2
theorem qvd {pl:Sem Bool} (he:PE X o ta) (c:Cls X.K C) (hm:qw4 X.K C m f) (F:qjr X.prog X.w X.K X.mg X.base CX k f fd ps sp) (hr:Room k X.A) (hb:Binds X.K fd ps ds) (hd:Vals dvs ds) (hx:qj1 CX X E)
  (ht:eval (.Call (.Attribute o m apos) [] [] pos) X.env=(do
   let ov <- eval o X.env
   standAt apos.atName
   let (f,first) <- holding [ov] (getMethod ov m pl)
   callWith pos f first (backTo pos (starEach [] X.env)) (backToKw pos (keywordEach [] X.env))):=by rfl) :
  PE X (.Call (.Attribute o m apos) [] [] pos) (qh8 C m sp dvs E ta qj0):=by
 intro pins s σ H Q I h;refine Fn (pl:=pl) (thn (he pins s σ H _ I h) λu s1 hq__=>?_) ht;obtain ⟨x,H1,I1,rx,a,dx,fs,ex,ea,l,q⟩:=hq__;subst ex;obtain rfl:u=Value.ref a:=rx;refine qjz I1 ea c hm l ?_;exact PySem.W.callWith_K0 (first:=[.ref a]) I1.kIn hm.kp (qsd (us:=[.ref a]) (vs:=[.ref a]) F hr hb hd hx I1 (.cons rfl .nil) q)
structure Mk (K:Frag) (C f:Addr):Prop where
 makes:PySem.W.makesIn K C=true
 init:PySem.W.findIn K (.ref C) "__init__" = some (some (.ref f))
 fn:PySem.W.isFn K (.ref f)=true
 kp:keepIn K (.ref C)=true
theorem qve {pins:List (Addr×Obj)} {s:Shared} {Q:VK} {vs:List V} (M:Mk X.K C f) (F:qjr X.prog X.w X.K X.mg X.base CX k f fd ps sp) (hr:Room (k+1) X.A) (hb:Binds X.K fd ps ds) (hd:Vals dvs ds)
  (hx:qj1 CX X E) (I:Inv X pins σ H s) (r:Vals vs us)
  (h:∀ x dx,H x=none->H dx=none->dx≠x->sp (.ref x :: (vs ++ dvs)) (upd (upd H dx (.own x)) x (.ins C dx [])) (λv H2=>v=.non/\Q (.ref x) H2) E) :
  wpAny (model X.prog X.w) X.A (call (.ref C) us) (EP X pins σ Q) X.xe s:=by
 have hq:=h (s.heap.objs.size+1) s.heap.objs.size (I.hok.fresh (BE _)) (I.hok.fresh (Ak _)) (AH (Cn _));have I2:=Inv.made (C:=C) I;have r2:Vals (V.ref (s.heap.objs.size+1) :: (vs ++ dvs)) (Value.ref (s.heap.objs.size+1) :: (us ++ ds)):=.cons rfl (r.append hd);have hl:(Value.ref (s.heap.objs.size+1) :: us ++ ds).length=ps.length:=by
  have e:=r2.length;rw[F.len _ _ _ _ hq] at e;exact e.symm
 refine Et (qvc (f:=f) I.kIn M.makes M.init (Dt.mp M.fn) (CH (F.run _ X.stack _ _ ⟨Value.ref (s.heap.objs.size+1) :: us,[]⟩ (Value.ref (s.heap.objs.size+1) :: (us ++ ds)) _ _ E (hr.make C us [])
  (I2.env0.make C us []) (hb _ (Value.ref (s.heap.objs.size+1) :: us) I2.kIn hl) r2 hq) λr s' hq'=>?_))
 cases r with
 | error e=>exact hx pins σ _ _ e s' I2 hq'
 | ok fl =>
  cases fl with
  | ret u =>
   obtain ⟨v,H',I3,rv,ev,q3⟩:=I2.after hq';subst ev;exact ⟨rv,⟨V.ref (s.heap.objs.size+1),H',I3,rfl,q3⟩⟩
  | next=>exact False.elim hq'
  | brk=>exact False.elim hq'
  | cont=>exact False.elim hq'
end
section
variable {X:Cx} {CX:CXT} {k:Nat} {f C:Addr} {fd:FuncData} {ps ks:List Str} {sp:Sp} {E:XK} {x m:Str} {p pos apos kpos:Pos} {e o:Expr} {es:List Expr} {kws:List Keyword} {te ta:TE} {t tk:TA} {nm:Option Str}
variable {g:List Value->List Value->List Value} {gV:List V->List V->List V}
end
structure qaf (N P:List Str) (sc:Scope):Prop where
 kind:sc.kind=.function
 co:sc.isCoroutine=false
 gen:sc.isGenerator=false
 nd:N.Nodup
 pre:N.take P.length=P
 par:∀ x∈P,sc.names.lookup x=some .local\/sc.names.lookup x=some .cell
 nofree:∀ y∈sc.names,y.2≠.free
theorem qly {kindOf:Str->Option NameKind} {x:Str}:∀ {binds:List (Str×Value)} {m:Str->Option Value},(∀ v,(x,v) ∉ binds)->bindL kindOf binds m x=m x
 | [],_,_=>rfl
 | (n,v) :: r,m,h=>by
  unfold bindL;rw[qly λw hw=>h w (Ad _ hw)]
  split
  ·have:x≠n:=by rintro rfl;exact h v Ae
   simp[this]
  ·rfl
theorem qlz {kindOf:Str->Option NameKind} {x:Str}:∀ {binds:List (Str×Value)} {m:Str->Option Value},(∀ v,(x,v) ∉ binds)->bindC kindOf binds m x=m x
 | [],_,_=>rfl
 | (n,v) :: r,m,h=>by
  unfold bindC;rw[qlz λw hw=>h w (Ad _ hw)]
  split
  ·rfl
  ·have:x≠n:=by rintro rfl;exact h v Ae
   simp[this]
theorem ql0 {kindOf:Str->Option NameKind} {v:Value}:∀ {P:List Str} {vs:List Value} {i:Nat} {m:Str->Option Value},P.Nodup->P[i]?=some x->vs[i]?=some v->kindOf x=some .local ->
  bindL kindOf (P.zip vs) m x=some v
 | [],_,_,_,_,h,_,_=>by simp at h
 | _ :: _,[],_,_,_,_,h,_=>by simp at h
 | p :: P,w :: vs,0,m,nd,h1,h2,hk=>by
  simp at h1 h2;subst h1;subst h2
  show bindL kindOf ((p,w) :: P.zip vs) m p=_
  unfold bindL;rw[qly λv hv=>(BN.mp nd).1 (CV hv).1,Au hk]
  simp
 | p :: P,w :: vs,i+1,m,nd,h1,h2,hk=>by
  show bindL kindOf ((p,w) :: P.zip vs) m x=_
  unfold bindL;exact ql0 (i:=i) (BN.mp nd).2 (by simpa using h1) (by simpa using h2) hk
theorem ql1 {kindOf:Str->Option NameKind} {v:Value}:∀ {P:List Str} {vs:List Value} {i:Nat} {m:Str->Option Value},P.Nodup->P[i]?=some x->vs[i]?=some v->kindOf x≠some .local ->
  bindC kindOf (P.zip vs) m x=some v
 | [],_,_,_,_,h,_,_=>by simp at h
 | _ :: _,[],_,_,_,_,h,_=>by simp at h
 | p :: P,w :: vs,0,m,nd,h1,h2,hk=>by
  simp at h1 h2;subst h1;subst h2
  show bindC kindOf ((p,w) :: P.zip vs) m p=_
  unfold bindC;rw[qlz λv hv=>(BN.mp nd).1 (CV hv).1,Al hk]
  simp
 | p :: P,w :: vs,i+1,m,nd,h1,h2,hk=>by
  show bindC kindOf ((p,w) :: P.zip vs) m x=_
  unfold bindC;exact ql1 (i:=i) (BN.mp nd).2 (by simpa using h1) (by simpa using h2) hk
def start (N:List Str) (vs:List V):St:=vs.map some ++ List.replicate (N.length-vs.length) none
def qrr (CX:CXT) (P:Program) (w:World) (K:Frag) (mg:Str->Option Value) (base:Heap) (N:List Str) (qual:Str) (scope:Scope) (f:Addr) (cd:Value) (A:Around) (outer:List Env) (s:Shared) (H:Hp) (E:XK):Cx where
 prog:=P
 w:=w
 K:=K
 mg:=mg
 base:=base
 A:=A.deeper (envOfC qual scope s.heap.objs.size f cd)
 N:=N
 s₀:=s
 H₀:=H
 env:=envOfC qual scope s.heap.objs.size f cd
 outer:=outer
 stack:=envOfC qual scope s.heap.objs.size f cd :: outer
 ex:=[]
 calm:=true
 fn:=λ_=>true
 pn:=[]
 xe:=λe s'=>wpAny (model P w) (A.deeper (envOfC qual scope s.heap.objs.size f cd)) (leaving (envOfC qual scope s.heap.objs.size f cd) e) (λ_ s''=>CX outer H s E e s'') (λe' s''=>CX outer H s E e' s'') s'
theorem qo9 {sc:Scope} {n:Nat} (h:sc.names.lookup x=some .cell):∃ c,(cellsFrom n sc.names []).lookup x=some c:=by
 have q:=E8 sc.names n [] (.inl h);exact EK.mp q
theorem qsf {CX:CXT} {P:Program} {w:World} {K:Frag} {mg:Str->Option Value} {base:Heap} {scope:Scope} {cd:Value} {A:Around} {outer:List Env} {s s1:Shared} {E:XK} {vs:List V}
  (S:qaf N ps scope) (hd:A.handled=none) (e0:Env0 P w K mg base A outer s H) (hl:vs.length=ps.length) (r:Vals vs us)
  (x:InCallC s s.heap.objs.size (bindL (envOfC qual scope s.heap.objs.size f cd).kindOf (ps.zip us) λ_=>none) (cellsFrom (s.heap.objs.size+1) scope.names []) (bindC (envOfC qual scope s.heap.objs.size f cd).kindOf (ps.zip us) λ_=>none) s1) :
  Inv (qrr CX P w K mg base N qual scope f cd A outer s H E) [] (start N vs) H s1:=by
 have hpl:ps.length<=N.length:=by have:=congrArg List.length S.pre;rw[AU] at this;ext
 obtain ⟨h1,tk,rfl,hk⟩:=x.done;have noA:∀ b:Addr,b ∉ (qrr CX P w K mg base N qual scope f cd A outer s H E).ex:=λb z=>absurd (show b∈([]:List Addr) from z) (by simp)
 refine ⟨⟨e0.mod,S.kind,rfl,rfl,Ak _,λy z c h1 h2=>?_,λy hy=>?_,λy c _ h=>?_,λ_=>hd,Around.frames_deeper e0.frames,.inr ⟨rfl,rfl⟩,λb z=>absurd z (noA b),e0.bs,e0.bsz,λb _ _=>noA b,λb z=>absurd z (noA b),e0.funs,e0.frf⟩,
  rfl,e0.bare,Un.kept hk,⟨_,x.toInCall.ns,λi y v h1 h2 h3=>?_⟩,λy c h=>⟨_,x.cell y c h⟩,e0.hok.fresh (Ak _),λy c h=>?_,λp hp=>absurd (show p∈([]:List (Addr×Obj)) from hp) (by simp),e0.hok.kept hk,?_⟩
 ·exact name_of_addr x.apart (Ct h1) (Ct h2)
 ·have hy:scope.names.lookup y=some .cell\/scope.names.lookup y=some .free:=hy
  rcases hy with hy|hy
  ·exact qo9 hy
  ·exact absurd rfl (S.nofree _ (Ct hy))
 ·exact AB (x.above y c (Ct h))
 ·have hi:i<vs.length:=by
   unfold start at h2
   by_cases hi:i<vs.length
   ·exact hi
   ·rw[Ck (by simpa using hi)] at h2
    rw[List.getElem?_replicate] at h2
    split at h2<;>cases h2
  have ha:vs[i]?=some v:=by
   unfold start at h2;rw[Bn (by simpa using hi),An] at h2
   cases e:vs[i]? with
   | none=>rw[e] at h2;cases h2
   | some a=>rw[e] at h2;cases h2;rfl
  obtain ⟨u,hu,rv⟩:=r.get ha;have hp:ps[i]?=some y:=by
   rw[<- S.pre,List.getElem?_take_of_lt (by ext)];exact h1
  have ndP:ps.Nodup:=by rw[<- S.pre];exact S.nd.sublist (List.take_sublist _ _)
  exists u,rv
  rcases S.par y (Am hp) with k|k
  ·exact .inl ⟨k,ql0 ndP hp hu k⟩
  ·obtain ⟨c,e⟩:=qo9 (n:=s.heap.objs.size+1) k
   refine .inr ⟨.inl k,c,e,?_⟩;have q:=x.cell y c e;rw[ql1 ndP hp hu (by show scope.names.lookup y≠_;rw[k];decide)] at q;exact q
 ·exact e0.hok.fresh (AB (x.above y c (Ct h)))
 ·unfold start
  show _=N.length
  rw[Ag,Aa,List.length_replicate];ext
theorem qym {CX:CXT} {P:Program} {w:World} {K:Frag} {mg:Str->Option Value} {base:Heap} {name:Str} {params:Arguments} {body:List Stmt} {scope:Scope} {dV kV doc pm cdv ct oc:Value} {an od:Option Addr}
  {osl:Array (Option Value)} {N ps:List Str} {sp:Sp} (lk:K.lookup f=some ⟨oc,od,.func (fnOf name qual params body scope dV kV doc pm an cdv ct),osl⟩) (hcd:codeIn K cdv qual=true) (S:qaf N ps scope)
  (len:∀ vs H Q E,sp vs H Q E->vs.length=ps.length)
  (hbody:∀ (A:Around) (outer:List Env) (s:Shared) (H:Hp) (vs:List V) (Q:VK) (E:XK),Room k (A.deeper (envOfC qual scope s.heap.objs.size f cdv))->sp vs H Q E ->
   ∃ t,PSs (qrr CX P w K mg base N qual scope f cdv A outer s H E) body t/\t { nx:=λ_ H'=>Q .non H',rt:=Q } (start N vs) H) :
  qjr P w K mg base CX (k+1) f (fnOf name qual params body scope dV kV doc pm an cdv ct) ps sp:=by
 refine ⟨len,λA outer s H args us vs Q E hr e0 hb r hsp=>?_⟩;have hl:=len _ _ _ _ hsp;have KX:K.In s.heap:=e0.mod.kin.keeps λb o e=>(e0.bs b o e).1
 have lim:s.heap.NoLimit:=e0.mod.nolimit.keeps λb o e=>(e0.bs b o e).1
 have hkind:∀ y∈ps.zip us,scope.names.lookup y.1=some .local\/(scope.names.lookup y.1=some .cell/\((cellsFrom (s.heap.objs.size+1) scope.names []).lookup y.1).isSome=true):=fun ⟨n,v⟩ hy=>by
  rcases S.par n (CV hy).1 with q|q
  ·exact .inl q
  ·exact .inr ⟨q,E8 _ _ _ (.inl q)⟩
 refine codeAny_call_function hr.depth (KX _ _ lk) rfl S.co S.gen rfl (PySem.W.codeRec_of KX hcd) (hb _ _ _ _ ?_);refine wpAny_newFunctionEnv_cells S.kind hkind λenv he s1 x=>?_
 subst he;refine ⟨lim.keeps x.toInCall.keep,codeAny_func ?_⟩;obtain ⟨t,ht,hq⟩:=hbody A outer s H vs Q E (hr.deeper _) hsp;have I:Inv (qrr CX P w K mg base N qual scope f cdv A outer s H E) [] (start N vs) H s1:=qsf S hr.hd e0 hl r x;refine Br (ht [] s1 (start N vs) H _ I hq) (λfl s' hs=>?_) λe s' hs=>hs
 have fin:∀ {σ':St} {H':Hp} {v:V} {u:Value},Inv (qrr CX P w K mg base N qual scope f cdv A outer s H E) [] σ' H' s'->RelV v u->Q v H'->CE outer P w H s Q u s':=
  fun {σ' H' v u} J rv q=>⟨v,H',J.os,J.bare,J.base,J.hok,rv,q⟩
 cases fl with
 | ret u =>
  obtain ⟨v,σ',H',J,rv,q⟩:=hs;exact fin J rv q
 | next =>
  obtain ⟨σ',H',J,q⟩:=hs;exact fin (v:=V.non) (u:=Value.none) J rfl q
 | brk =>
  obtain ⟨_,_,_,q⟩:=hs;exact False.elim q
 | cont =>
  obtain ⟨_,_,_,q⟩:=hs;exact False.elim q
open PySem PySem.Spec PyProof.Rows
section
variable {X:Cx} {x:Str} {p pos:Pos} {e:Expr} {es:List Expr} {t:TA} {id T:String} {r:List V->Hp->VK->Prop}
def tCB (r:List V->Hp->VK->Prop) (t:TA):TE:=λσ H Q=>t σ H λvs H1=>r vs H1 Q
theorem qag (hc:CallR X (.builtin id) r) (hg:Gl X x) (hm:X.mg x=none) (hv:bootBuiltins x=some (.builtin id)) (ha:PA X (e :: es) t) (hn:x ≠ "__name__" :=by decide) (hdb:(x == ("__debug__" : Str))=false:=by decide)
  (he:starEach (e :: es) X.env=(false,eval e X.env) :: starEach es X.env:=by rfl) (hpl:(backTo pos (starEach es X.env)).any (·.1)=false:=by rfl):PE X (.Call (.Name x p) (e :: es) [] pos) (tCB r t):=by
 intro pins s σ H Q I h;refine Cb (qgu I hg hm hv ?_ hn hdb);exact PyProof.Rows.callWith_builtin1 (thn (ha pos pins s σ H _ I h) λus s1 ⟨vs,H1,I1,r1,q1⟩=>hc pins s1 σ H1 vs us Q I1 r1 q1) he hpl
theorem qdq (hc:CallR X (.type T) r) (hg:Gl X x) (hm:X.mg x=none) (hv:bootBuiltins x=some (.type T)) (ha:PA X (e :: es) t) (hn:x ≠ "__name__" :=by decide) (hdb:(x == ("__debug__" : Str))=false:=by decide)
  (he:starEach (e :: es) X.env=(false,eval e X.env) :: starEach es X.env:=by rfl) (hpl:(backTo pos (starEach es X.env)).any (·.1)=false:=by rfl):PE X (.Call (.Name x p) (e :: es) [] pos) (tCB r t):=by
 intro pins s σ H Q I h;refine Cb (qgu I hg hm hv ?_ hn hdb);exact BI (thn (ha pos pins s σ H _ I h) λus s1 ⟨vs,H1,I1,r1,q1⟩=>hc pins s1 σ H1 vs us Q I1 r1 q1) he hpl
end
end L2
namespace HT
open PySem PyProof.Rows
section
open PySem.SeqAt
open PySem.AutoSeq1 (wpAny_loadPart')
open PySem.MeetsSeq PySem.MeetsSeq2 PySem.MeetsSeq3
end
section
variable {prog:Program} {w:World} {A:Around} {E:Value->Shared->Prop} {s:Shared}
theorem cat_tup {t b:Addr} {vs ws:List Value} {Q:Value->Shared->Prop} (ht:IsTup s.heap t vs.toArray) (hb:IsTup s.heap b ws.toArray) (hv:vs≠[])
  (h1:ws=[]->Q (.ref t) s) (h2:ws≠[]->Q (.ref s.heap.objs.size) { s with heap:=s.heap.push { cls:=.type "tuple",data:=.seq (vs ++ ws).toArray } })
  (hsz:vs.length+ws.length<=sizeLine):wpAny (model prog w) A (binaryOp .Add (.ref t) (.ref b)) Q E s:=by
 obtain ⟨⟨cls,dd,data,sl⟩,ho,hc,n,hd⟩:=id ht;obtain ⟨⟨cls2,dd2,data2,sl2⟩,ho2,hc2,n2,hd2⟩:=id hb;simp only at hc hd hc2 hd2;subst hc hd hc2 hd2;have e:vs.toArray ++ ws.toArray=(vs ++ ws).toArray:=by simp
 by_cases hw:ws=[]
 ·exact concat_meets ⟨_,ho,rfl⟩ ⟨_,ho2,rfl⟩ noFill_tuple_add seq_tuple_add E9 EU (EI _ _)
   (tuple_addW1 t b vs.toArray ws.toArray n n2 dd dd2 sl sl2 (by simpa using hv) (by simp[hw])) ⟨ho,ho2,h1 hw⟩
 ·refine concat_meets ⟨_,ho,rfl⟩ ⟨_,ho2,rfl⟩ noFill_tuple_add seq_tuple_add E9 EU (EI _ _)
   (tuple_addW2 t b vs.toArray ws.toArray n n2 dd dd2 sl sl2 (by simpa using hv) (by simpa using hw) (by rw[AJ,AJ];exact hsz)) ⟨ho,ho2,?_⟩
  rw[e];exact h2 hw
def sIx (n d:Nat):Option Int->Nat
 | none=>d
 | some v=>if v<0 then (v+(n:Int)).toNat else min v.toNat n
theorem sIx_none (n d:Nat):sIx n d none=d:=rfl
theorem sIx_nat (n d k:Nat):sIx n d (some (k:Int))=min k n:=by
 show (if (k:Int)<0 then ((k:Int)+(n:Int)).toNat else min (k:Int).toNat n)=min k n
 rw[Al (by ext),CL]
theorem qAw (n d:Nat) (hd:d<=n) (o:Option Int):sIx n d o<=n:=by
 cases o with
 | none=>exact hd
 | some v =>
  show (if v<0 then (v+(n:Int)).toNat else min v.toNat n)<=n
  by_cases hv:v<0
  ·rw[Au hv];ext
  ·rw[Al hv];exact Nat.min_le_right _ _
theorem qsg (v:Int) (n d:Nat):(if v<0 then max (v+(n:Int)) 0 else min v (n:Int))=((sIx n d (some v):Nat):Int):=by
 show (if v<0 then max (v+(n:Int)) 0 else min v (n:Int))=(((if v<0 then (v+(n:Int)).toNat else min v.toNat n):Nat):Int)
 by_cases hv:v<0
 ·simp only[Au hv];ext
 ·simp only[Al hv];ext
theorem qq2 (lo hi:Option Int) (n:Nat):Builtin.Slice.sliceAdjust lo hi 1 (n:Int)=(((sIx n 0 lo:Nat):Int),((sIx n n hi:Nat):Int)):=by
 have h1:¬ ((1:Int)<0):=by ext
 unfold Builtin.Slice.sliceAdjust;simp only[h1,Cj];refine Prod.ext ?_ ?_
 ·cases lo with
  | none=>rfl
  | some v=>exact qsg v n 0
 ·cases hi with
  | none=>rfl
  | some v=>exact qsg v n n
theorem qq3 (i j:Nat):Builtin.Slice.slicePlaces (i:Int) (j:Int) 1=j-i:=by
 unfold Builtin.Slice.slicePlaces;have h1:(1:Int)>0:=by ext
 simp only[h1,CY,Int.ediv_one]
 split<;>ext
theorem qj2 {v:Value} {o:Option Int} {Q:Option Int->Shared->Prop} (p:IsPart v o) (h:Q o s):wpAny (model prog w) A (Builtin.Slice.slicePartIndex v) Q E s:=by
 cases p with
 | none=>exact slicePart_none h
 | int i t=>exact slicePart_int h
theorem qhm {sl:Addr} {vl vu:Value} {lo hi:Option Int} {n:Nat} {Q:Int×Int×Nat->Shared->Prop} (hs:s.heap.IsSliceOf sl vl vu .none) (pl:IsPart vl lo) (pu:IsPart vu hi)
  (h:Q (((sIx n 0 lo:Nat):Int),1,sIx n n hi-sIx n 0 lo) s):wpAny (model prog w) A (Builtin.Slice.sliceApplied (.ref sl) (pure (n:Int))) Q E s:=by
 obtain ⟨os,hos,hcs,hds⟩:=id hs;unfold Builtin.Slice.sliceApplied Builtin.Slice.sliceFields;refine Ac (Ac (B4 hos hds (x:=vl) rfl (Ac (B4 hos hds (x:=vu) rfl (Ac (B4 hos hds (x:=.none) rfl (Ai ?_)))))));refine Ac (slicePart_none ?_)
 show wpAny _ _ (if ((1:Int) == 0)=true then _ else _) _ _ s
 rw[Al (by decide)];refine Ac (qj2 pl (Ac (qj2 pu (Ac (Ai ?_)))))
 show wpAny _ _ (match Builtin.Slice.sliceAdjust lo hi 1 (n:Int) with|(lo,hi)=>pure (lo,(1:Int),Builtin.Slice.slicePlaces lo hi 1)) _ _ s
 rw[qq2 lo hi n]
 show wpAny _ _ (pure (((sIx n 0 lo:Nat):Int),(1:Int),Builtin.Slice.slicePlaces ((sIx n 0 lo:Nat):Int) ((sIx n n hi:Nat):Int) 1)) _ _ s
 rw[qq3];exact Ai h
theorem qvf (xs:Array Value) (i k:Nat):((List.range k).filterMap fun (m:Nat)=>xs[((i:Int)+(m:Int)*1).toNat]?).toArray=((xs.toList.drop i).take k).toArray:=by
 have e:(fun (m:Nat)=>xs[((i:Int)+(m:Int)*1).toNat]?)=λm=>xs[i+m]?:=by
  funext m
  have:((i:Int)+(m:Int)*1).toNat=i+m:=by ext
  rw[this]
 rw[e];have:=pick_run xs i k;rw[List.filterMap_map] at this;have e2:((λx=>xs[x]?) ∘ λx=>i+x)=λm=>xs[i+m]?:=rfl
 rw[e2] at this;rw[this]
theorem getItem_tuple_cut {t sl:Addr} {items:Array Value} {vl vu:Value} {lo hi:Option Int} {Q:Value->Shared->Prop} (ht:IsTup s.heap t items) (hs:s.heap.IsSliceOf sl vl vu .none) (pl:IsPart vl lo) (pu:IsPart vu hi)
  (hw:¬ (sIx items.size 0 lo=0/\sIx items.size items.size hi=items.size))
  (h:Q (.ref s.heap.objs.size) { s with heap:=s.heap.push { cls:=.type "tuple",data:=.seq ((items.toList.drop (sIx items.size 0 lo)).take (sIx items.size items.size hi-sIx items.size 0 lo)).toArray } })
  (hsz:items.size<=sizeLine):wpAny (model prog w) A (getItem (.ref t) (.ref sl)) Q E s:=by
 have htake:sizeOk (.seq ((items.toList.drop (sIx items.size 0 lo)).take (sIx items.size items.size hi-sIx items.size 0 lo)).toArray):=by
  show ((items.toList.drop (sIx items.size 0 lo)).take (sIx items.size items.size hi-sIx items.size 0 lo)).toArray.size<=sizeLine
  rw[AJ,AU,Co,Be];ext
 have hj:sIx items.size items.size hi<=items.size:=qAw _ _ (Ak _) hi;obtain ⟨os,hos,hcs,hds⟩:=id hs;have hTs:s.TypeIs (.ref sl) "slice" :=⟨os,hos,hcs⟩;unfold getItem
 try with_reducible refine BS ?_
 first|refine Ac (Ai ?_)|skip
 refine Ac (wpAny_sequenceKey ht.typeIs (by decide) ?_);refine Ac (wpAny_callSpecial?_slot (name:=Str.ofString "__getitem__") ht.typeIs CM
  (Bt CM ht.typeIs entry_tuple_getitem ?_ (args_tuple_getitem _ _)))
 show wpAny _ _ (Builtin.Tuple.tupleItemsOf (.ref t) >>= _) _ _ s
 refine Ac (tupleItemsOf_ ht ?_);refine Ac (wpAny_typeOf hTs ?_);rw[Au (by decide)];refine Ac (qhm hs pl pu ?_);have hno:¬ ((((sIx items.size 0 lo:Nat):Int) == 0 && (1:Int) == 1 && (sIx items.size items.size hi-sIx items.size 0 lo) == items.size)=true):=by
  intro q;rw[Bu,Bu] at q;have q1:((sIx items.size 0 lo:Nat):Int)=0:=eq_of_beq q.1.1;have q2:sIx items.size items.size hi-sIx items.size 0 lo=items.size:=eq_of_beq q.2;exact hw ⟨by ext,by ext⟩
 show wpAny _ _ (if (((sIx items.size 0 lo:Nat):Int) == 0 && (1:Int) == 1 && (sIx items.size items.size hi-sIx items.size 0 lo) == items.size)=true then _ else _) _ _ s
 rw[Al hno,qvf]
 first
  | exact Ac (m:=Builtin.Tuple.tupleExact _) (Bk (Ai ⟨_,rfl,Ai h⟩) htake)
  | exact Ac (m:=Builtin.Tuple.tupleExact _) (Bk (Ac (Ai (Ai ⟨_,rfl,Ai h⟩))) htake)
  | exact Ac (Ac (m:=Builtin.Tuple.tupleExact _) (Bk (Ai (Ai ⟨_,rfl,Ai h⟩)) htake))
  | exact Ac (Ac (m:=Builtin.Tuple.tupleExact _) (Bk (Ai ⟨_,rfl,Ai h⟩) htake))
end
end HT
namespace L2
open PySem PySem.Spec PyProof.Rows
variable {xs:List V}{us vs:List Value}{H H':Hp}{o:HO}{h:Heap}{t' i k ek ep:Nat}{it C f l d:Addr}{N ps:List Str}{j:Int}{x qual:Str}{E Q:Value->Shared->Prop}{u:Value}{e e1 e2:Expr}{σ:St}{y:V}{D:Ends}{tc:TT}{te:TE}{g:TG}{p epos:Pos}{sp:Sp}{ks:List (List Int)}{t1 t2 t3 t4 t5:TS}
abbrev TO:=St->Hp->(Option Int->Hp->Prop)->Prop
def PO (X:Cx) (e:Option Expr) (t:TO):Prop:=
 ∀ (pins:List (Addr×Obj)) (s:Shared) (σ:St) (H:Hp) (Q:Option Int->Hp->Prop),Inv X pins σ H s->t σ H Q ->
  wpAny (model X.prog X.w) X.A (evalPart e X.env) (λu s'=>∃ o H',Inv X pins σ H' s'/\IsPart u o/\Q o H') X.xe s
def qyn:TO:=λ_ H Q=>Q none H
inductive tPartS (x:V) (H:Hp) (Q:Option Int->Hp->Prop):Prop
 | mk (i:Int) (h:x=.int i) (k:Q (some i) H)
def qDq (t:TE):TO:=λσ H Q=>t σ H λx H1=>tPartS x H1 Q
theorem intsAre_of {ns:List Int}:∀ {us:List Value},Vals (ns.map V.int) us->IntsAre us ns:=by
 induction ns with
 | nil=>intro us r;rw[D0] at r;cases r;exact .nil
 | cons n ns ih =>
  intro us r;rw[AR] at r
  cases r with
  | cons r1 r2 =>
   obtain ⟨t,e⟩:=r1;subst e;exact .cons n t (ih r2)
section
variable {X:Cx} {e:Expr} {te:TE} {lo hi:Option Expr} {tl th:TO} {pos p2:Pos}
theorem qgk:PO X none qyn:=by
 intro pins s σ H Q I h;rw[evalPart_none];exact Ai ⟨none,H,I,.none,h⟩
theorem qbw (h:PE X e te):PO X (some e) (qDq te):=by
 intro pins s σ H Q I hw;rw[evalPart_some];refine thn (h pins s σ H _ I hw) λu s1 hq__=>?_
 obtain ⟨x,H1,I1,r1,q1⟩:=hq__;obtain ⟨i,rfl,q⟩:=q1;obtain ⟨t,rfl⟩:=r1;exact ⟨some i,H1,I1,.int i t,q⟩
def SlR (X:Cx) (r:V->Option Int->Option Int->Hp->VK->Prop):Prop:=
 ∀ (pins:List (Addr×Obj)) (s:Shared) (σ:St) (H:Hp) (x:V) (v vl vu:Value) (lo hi:Option Int) (sl:Addr) (Q:VK),Inv X pins σ H s->RelV x v->s.heap.IsSliceOf sl vl vu .none->IsPart vl lo->IsPart vu hi->r x lo hi H Q ->
  ∃ T id,typeLookup (.type T) "__getitem__" = pure (some (.builtin id))/\s.TypeIs v T/\wpAny (model X.prog X.w) X.A (getItem v (.ref sl)) (EP X pins σ Q) X.xe s
def tSl (r:V->Option Int->Option Int->Hp->VK->Prop) (te:TE) (tl th:TO):TE:=λσ H Q=>te σ H λx H1=>tl σ H1 λl H2=>th σ H2 λu H3=>r x l u H3 Q
theorem qca {r:V->Option Int->Option Int->Hp->VK->Prop} (hr:SlR X r) (he:PE X e te) (hl:PO X lo tl) (hu:PO X hi th):PE X (.Subscript e (.Slice lo hi none p2) pos) (tSl r te tl th):=by
 intro pins s σ H Q I h;refine Subscript_ (thn (he pins s σ H _ I h) λv s1 hq__=>?_);obtain ⟨x,H1,I1,r1,q1⟩:=hq__;refine wpAny_Slice (thn (hl pins s1 σ H1 _ I1 q1) λvl s2 ⟨l,H2,I2,pl,q2⟩=>thn (hu pins s2 σ H2 _ I2 q2) λvu s3 hq__=>?_);obtain ⟨u,H3,I3,pu,q3⟩:=hq__;rw[evalPart_none];refine Ai ?_;have I4:Inv X pins σ H3 { s3 with heap:=s3.heap.push { cls:=.type "slice",data:=.fields #[vl,vu,.none] } }:=I3.kept (t':=s3.toks) λb ob q=>Af _ q
 obtain ⟨T,id,hT,ht,hg⟩:=hr pins { s3 with heap:=s3.heap.push { cls:=.type "slice",data:=.fields #[vl,vu,.none] } } σ H3 x v vl vu l u s3.heap.objs.size Q I4 r1 (Heap.IsSliceOf.new ..) pl pu q3
 show wpAny (model X.prog X.w) X.A (subscriptTail e (.Slice lo hi none p2) v (.ref s3.heap.objs.size)) (EP X pins σ Q) X.xe { s3 with heap:=s3.heap.push { cls:=.type "slice",data:=.fields #[vl,vu,.none] } }
 exact tail_any (ops:=[.ref s3.heap.objs.size,v]) ht hT hg (by with_unfolding_all rfl)
def qgw (xs:List V) (lo hi:Option Int):List V:=(xs.drop (HT.sIx xs.length 0 lo)).take (HT.sIx xs.length xs.length hi-HT.sIx xs.length 0 lo)
theorem qh9 (xs:List V) (lo hi:Option Int):(qgw xs lo hi).length<=xs.length:=by
 unfold qgw;rw[AU,Co];ext
def qDr (K:Frag):V->Option Int->Option Int->Hp->VK->Prop:=λx lo hi H Q=>∃ a xs,x=.ref a/\SqT K H a xs /\
 ¬ (HT.sIx xs.length 0 lo=0/\HT.sIx xs.length xs.length hi=xs.length)/\∀ p,H p=none->Q (.ref p) (upd H p (.tup (qgw xs lo hi)))
theorem qsh:SlR X (qDr X.K):=by
 intro pins s σ H x v vl vu lo hi sl Q I rx hs pl pu h;obtain ⟨a,xs,rfl,hx,hw,q⟩:=h;cases rx;obtain ⟨its,r,ht,hz⟩:=I.tuple hx;have hlen:its.toArray.size=xs.length:=by rw[AJ];exact r.length.symm
 exists "tuple",_,CM.lookup,ht.typeIs;refine HT.getItem_tuple_cut ht hs pl pu (by rw[hlen];exact hw) ?_ (by rw[hlen];exact hz);rw[hlen];refine ⟨.ref s.heap.objs.size,_,I.laid (t':=s.toks) (o:=.tup (qgw xs lo hi)) (λb ob q=>Af _ q) (Ak _) ?_,rfl,q _ (I.hok.fresh (Ak _))⟩;exact ⟨AL (qh9 xs lo hi) hz,_,(r.drop (HT.sIx xs.length 0 lo)).take (HT.sIx xs.length xs.length hi-HT.sIx xs.length 0 lo),IsTup.new _ _⟩
def qDs (K:Frag):R2:=λx y H Q=>∃ a b xs ys,x=.ref a/\y=.ref b/\SqT K H a xs/\SqT K H b ys/\xs≠[]/\xs.length+ys.length<=sizeLine /\
 (ys=[]->Q (.ref a) H)/\(ys≠[]->∀ p,H p=none->Q (.ref p) (upd H p (.tup (xs ++ ys))))
theorem Vals.nil_iff (r:Vals xs us):us=[]↔xs=[]:=by
 cases r with
 | nil=>simp
 | cons _ _=>simp
theorem op_catT:OpR X (binaryOp .Add) (qDs X.K):=by
 intro pins s σ H x y v u Q I rx ry h;obtain ⟨a,b,xs,ys,rfl,rfl,ha,hb,hx,hz,q1,q2⟩:=h;cases rx;cases ry;obtain ⟨its,r1,p1,_⟩:=I.tuple ha;obtain ⟨its2,r2,p2,_⟩:=I.tuple hb;refine HT.cat_tup p1 p2 (λz=>hx (r1.nil_iff.mp z)) (λz=>⟨.ref a,H,I,rfl,q1 (r2.nil_iff.mp z)⟩) (λz=>?_) (by rw[<- r1.length,<- r2.length];exact hz);refine ⟨.ref s.heap.objs.size,_,I.laid (t':=s.toks) (o:=.tup (xs ++ ys)) (λb ob q=>Af _ q) (Ak _) ?_,rfl,q2 (λw=>z (r2.nil_iff.mpr w)) _ (I.hok.fresh (Ak _))⟩;exact ⟨by rw[Ag];exact hz,_,r1.append r2,IsTup.new _ _⟩
end
open PySem PySem.Spec PyProof.Rows
def ixN (n:Nat) (i:Int):Option Nat:=if 0<=i then (if i<n then some i.toNat else none) else if -(n:Int)<=i then some (i+n).toNat else none
def atI {α:Type} (xs:List α) (i:Int):Option α:=(ixN xs.length i).bind λj=>xs[j]?
theorem qyo {n:Nat} {i:Int} {j:Nat} (h:ixN n i=some j):seqIndex? i n=some j/\j<n /\ -(n:Int)<=i/\i<n:=by
 unfold ixN at h
 by_cases h0:0<=i
 ·rw[Au h0] at h
  by_cases h1:i<n
  ·rw[Au h1] at h
   have e:i.toNat=j:=Ax h;exact ⟨by rw[seqIndex_of h0 h1,e],by ext,by ext,h1⟩
  ·rw[Al h1] at h;cases h
 ·rw[Al h0] at h
  by_cases h1:-(n:Int)<=i
  ·rw[Au h1] at h
   have e:(i+n).toNat=j:=Ax h;exact ⟨by rw[seqIndex_neg (by ext) h1,e],by ext,h1,by ext⟩
  ·rw[Al h1] at h;cases h
theorem qsi {α:Type} {xs:List α} {i:Int} {v:α} (h:atI xs i=some v):∃ j,seqIndex? i xs.length=some j/\xs[j]?=some v/\j<xs.length /\ -(xs.length:Int)<=i/\i<xs.length:=by
 unfold atI at h
 cases e:ixN xs.length i with
 | none=>rw[e] at h;cases h
 | some j =>
  rw[e] at h;obtain ⟨h1,h2,h3,h4⟩:=qyo e;exact ⟨j,h1,h,h2,h3,h4⟩
theorem qc4 {α:Type} {xs:List α} {j:Nat} {v:α} (h:xs[j]?=some v):atI xs (j:Int)=some v:=by
 have hj:j<xs.length:=(Aj.mp h).1;have e:ixN xs.length (j:Int)=some j:=by
  unfold ixN;rw[Au (by ext),Au (by ext)];simp
 unfold atI;rw[e];exact h
def qn6 (b:Expr):Prop:=∀ o i,subscripted b false o i=operate [o,i] (getItem o i)
def IxR (X:Cx) (r:R2):Prop:=
 ∀ (value slice:Expr) (pins:List (Addr×Obj)) (s:Shared) (σ:St) (H:Hp) (x y:V) (v u:Value) (Q:VK),Inv X pins σ H s->RelV x v->RelV y u->r x y H Q ->
  subscripted slice false v u=operate [v,u] (getItem v u)->wpAny (model X.prog X.w) X.A (subscriptTail value slice v u) (EP X pins σ Q) X.xe s
def MtR (X:Cx) (id:String) (r:V->List V->Hp->VK->Prop):Prop:=
 ∀ (pins:List (Addr×Obj)) (s:Shared) (σ:St) (H:Hp) (x:V) (xs:List V) (v:Value) (us:List Value) (Q:VK),Inv X pins σ H s->RelV x v->Vals xs us->r x xs H Q ->
  wpAny (model X.prog X.w) X.A (call (.builtin id) (v :: us)) (EP X pins σ Q) X.xe s
section
variable {X:Cx} {a b:Expr} {ta tb:TE} {pos:Pos}
theorem qc9 {r:R2} (hr:IxR X r) (ha:PE X a ta) (hb:PE X b tb) (hs:qn6 b):PE X (.Subscript a b pos) (tOp r ta tb):=by
 intro pins s σ H Q I h;exact Subscript_ (qDl ha hb I h λv u s2 x y H2 I2 rx ry q=>hr a b pins s2 σ H2 x y v u Q I2 rx ry q (hs _ _))
inductive rIxLS (K:Frag) (x y:V) (H:Hp) (Q:VK):Prop
 | mk (p:Addr) (xs:List V) (i:Int) (v:V) (hx:x=.ref p) (hy:y=.int i) (hs:SqL K H p xs) (ha:atI xs i=some v) (k:Q v H)
def qAx (K:Frag):R2:=λx y H Q=>rIxLS K x y H Q
inductive rIxTS (K:Frag) (x y:V) (H:Hp) (Q:VK):Prop
 | mk (p:Addr) (xs:List V) (i:Int) (v:V) (hx:x=.ref p) (hy:y=.int i) (hs:SqT K H p xs) (ha:atI xs i=some v) (k:Q v H)
def qk3 (K:Frag):R2:=λx y H Q=>rIxTS K x y H Q
theorem qk4:IxR X (qAx X.K):=by
 intro value slice pins s σ H x y v u Q I rx ry h hs;obtain ⟨p,xs,i,z,rfl,rfl,hq,he,q⟩:=h;cases rx;obtain ⟨t,rfl⟩:=ry;obtain ⟨its,r,pl,hz⟩:=I.list hq;obtain ⟨j,h1,h2,h3,h4,h5⟩:=qsi he;obtain ⟨w,ew,rw'⟩:=r.get h2;have hl:=r.length;have hn:=qr8;have fin:EP X pins σ Q w s:=⟨z,H,I,rw',q⟩
 by_cases h0:0<=i
 ·have hj:i.toNat=j:=by
   rw[seqIndex_of h0 h5] at h1;exact Ax h1
  exact item_listR pl.isList h0 (by ext) (by rw[hj];simpa using ew) fin hs
 ·have hj:(i+(its.toArray.size:Int)).toNat=j:=by
   rw[seqIndex_neg (by ext) h4] at h1;rw[AJ,<- hl];exact Ax h1
  exact EX (x:=w) pl.isList.typeIs slot_list_getitem.lookup
   (wpAny_getItem_list_neg (Q:=λr s'=>r=w/\EP X pins σ Q r s') pl.isList (by ext) (by rw[AJ]<;>ext) (by ext) (by rw[hj];simpa using ew) ⟨rfl,fin⟩) hs
theorem qcl:IxR X (qk3 X.K):=by
 intro value slice pins s σ H x y v u Q I rx ry h hs;obtain ⟨p,xs,i,z,rfl,rfl,hq,he,q⟩:=h;cases rx;obtain ⟨t,rfl⟩:=ry;obtain ⟨its,r,pl,hz⟩:=I.tuple hq;obtain ⟨j,h1,h2,h3,h4,h5⟩:=qsi he;obtain ⟨w,ew,rw'⟩:=r.get h2;have hl:=r.length;have hn:=qr8;have fin:EP X pins σ Q w s:=⟨z,H,I,rw',q⟩;exact EX (x:=w) pl.typeIs slot_tuple_getitem.lookup
  (getItem_tuple (j:=j) (Q:=λr s'=>r=w/\EP X pins σ Q r s') pl (by ext) (by ext) (by rw[AJ,<- hl];exact h1) (by simpa using ew) ⟨rfl,fin⟩) hs
theorem ql2 (lo hi:Option Int) (n:Nat):(sliceBounds lo hi none n).1=((HT.sIx n 0 lo:Nat):Int)/\(sliceBounds lo hi none n).2.1=((HT.sIx n n hi:Nat):Int)/\(sliceBounds lo hi none n).2.2=1:=by
 refine ⟨?_,?_,rfl⟩
 ·cases lo with
  | none=>simp[sliceBounds,HT.sIx]
  | some i =>
   simp only[sliceBounds,HT.sIx,Option.getD_none,show (1:Int)>0 by decide,CY]
   by_cases h:i<0
   ·simp only[h,CY]<;>ext
   ·simp only[h,Cj]<;>ext
 ·cases hi with
  | none=>simp[sliceBounds,HT.sIx]
  | some i =>
   simp only[sliceBounds,HT.sIx,Option.getD_none,show (1:Int)>0 by decide,CY]
   by_cases h:i<0
   ·simp only[h,CY]<;>ext
   ·simp only[h,Cj]<;>ext
theorem qk5 (its:List Value) (lo hi:Option Int):slicePick its.toArray lo hi none=((its.drop (HT.sIx its.length 0 lo)).take (HT.sIx its.length its.length hi-HT.sIx its.length 0 lo)).toArray:=by
 obtain ⟨h1,h2,h3⟩:=ql2 lo hi its.toArray.size;unfold slicePick;rw[h1,h2,h3];simp only[sliceRange_one,pick_run,AJ]<;>rfl
def qFv (K:Frag):V->Option Int->Option Int->Hp->VK->Prop:=λx lo hi H Q=>∃ a xs,x=.ref a/\SqL K H a xs/\∀ p,H p=none->Q (.ref p) (upd H p (.lst (qgw xs lo hi)))
theorem qyp:SlR X (qFv X.K):=by
 intro pins s σ H x v vl vu lo hi sl Q I rx hs pl pu h;obtain ⟨a,xs,rfl,hx,q⟩:=h;cases rx;obtain ⟨its,r,ht,hz⟩:=I.list hx;have hlen:=r.length;exists "list",_,slot_list_getitem.lookup,ht.isList.typeIs;refine wpAny_getItem_list_slice ht.isList hs pl pu .none (by simp) ?_ (by rw[AJ]<;>ext);rw[qk5,<- hlen];refine ⟨.ref s.heap.objs.size,_,I.laid (t':=s.toks) (o:=.lst (qgw xs lo hi)) (λb ob q=>Af _ q) (Ak _) ?_,rfl,q _ (I.hok.fresh (Ak _))⟩;exact ⟨AL (qh9 xs lo hi) hz,_,0,(r.drop (HT.sIx xs.length 0 lo)).take (HT.sIx xs.length xs.length hi-HT.sIx xs.length 0 lo),Ay _ rfl⟩
theorem qan:CallR X (.builtin "len") (λxs H Q=>∃ p ys,xs=[.ref p]/\(SqL X.K H p ys\/SqT X.K H p ys)/\Q (.int ys.length) H):=by
 intro pins s σ H xs us Q I r h;obtain ⟨p,ys,rfl,hq,q⟩:=h;obtain ⟨u,rfl,rx⟩:=vals1 r;cases rx;have hn:=qr8
 rcases hq with hq|hq
 ·obtain ⟨its,r',pl,hz⟩:=I.list hq
  have hlen:=r'.length;exact Calls.call_len_list pl.isList (by simp only[AJ]<;>ext) ⟨.int ys.length,H,I.tok _,⟨s.toks+1,by rw[AJ,hlen]⟩,q⟩
 ·obtain ⟨its,r',pl,hz⟩:=I.tuple hq
  have hlen:=r'.length;exact len_tuple pl (by simp only[AJ]<;>ext) ⟨.int ys.length,H,I.tok _,⟨s.toks+1,by rw[AJ,hlen]⟩,q⟩
theorem call_list_of:CallR X (.type "list") (λxs H Q=>∃ p ys,xs=[.ref p]/\(SqL X.K H p ys\/SqT X.K H p ys)/\∀ l,H l=none->Q (.ref l) (upd H l (.lst ys))):=by
 intro pins s σ H xs us Q I r h;obtain ⟨p,ys,rfl,hq,q⟩:=h;obtain ⟨u,rfl,rx⟩:=vals1 r;cases rx;have fin:∀ (its:List Value),Vals ys its->ys.length<=sizeLine->∀ (h':Heap) (c':Nat),(∀ b o',s.heap.get? b=some o'->h'.get? b=some o') ->
   h'.get? s.heap.objs.size=some { cls:=.type "list",dict:=none,data:=.seq its.toArray c',slots:=#[] }->EP X pins σ Q (.ref s.heap.objs.size) { s with heap:=h' }:=λits r' hz h' c' kp e =>
  ⟨.ref s.heap.objs.size,_,I.laid (t':=s.toks) kp (Ak _) (show ObjOk X.prog X.w _ h' _ (.lst ys) from ⟨hz,its,c',r',e⟩),rfl,q _ (I.hok.fresh (Ak _))⟩
 rcases hq with hq|hq
 ·obtain ⟨its,r',pl,hz⟩:=I.list hq
  have hlen:=r'.length;obtain ⟨o,ho,hc,n,hd⟩:=pl.isList;exact call_list_seq p (.inl rfl) ho hc hd (λh' c' kp e=>fin its r' hz h' c' kp e) (by simp only[AJ]<;>ext)
 ·obtain ⟨its,r',pl,hz⟩:=I.tuple hq
  have hlen:=r'.length;obtain ⟨o,ho,hc,n,hd⟩:=pl;exact call_list_seq p (.inr rfl) ho hc hd (λh' c' kp e=>fin its r' hz h' c' kp e) (by simp only[AJ]<;>ext)
def tyV (K:Frag) (T:String) (x:V) (H:Hp):Prop:=match x with
 | .str _=>T = "str"
 | .int _=>T = "int"
 | .ref p=>(T = "list" /\ ∃ xs,SqL K H p xs)\/(T = "tuple" /\ ∃ o,K.lookup p=some o/\o.cls=.type "tuple" /\ o.dict=none) \/
   (T = "dict" /\ ((∃ kvs,H p=some (.dK kvs))\/∃ kvs,H p=some (.dT kvs)))\/(T = "set" /\ ∃ S n,H p=some (.set S n))
 | _=>False
theorem qAy {pins:List (Addr×Obj)} {s:Shared} {T:String} {x:V} {v:Value} (I:Inv X pins σ H s) (r:RelV x v) (ty:tyV X.K T x H) :
  s.TypeIs v T/\∀ a,v=.ref a->∃ ob,s.heap.get? a=some ob/\ob.dict=none:=by
 cases x with
 | str z =>
  obtain ⟨t,rfl⟩:=r
  cases (show T = "str" from ty)
  exact ⟨typeIs_str s z t,λ_ e=>nomatch e⟩
 | int i =>
  obtain ⟨t,rfl⟩:=r
  cases (show T = "int" from ty)
  exact ⟨typeIs_int s i t,λ_ e=>nomatch e⟩
 | ref p =>
  cases r
  rcases ty with ⟨rfl,xs,hq⟩|⟨rfl,o,hk,hc,hd⟩|⟨rfl,hk⟩|⟨rfl,S,n,hk⟩
  ·obtain ⟨its,_,pl,_⟩:=I.list hq
   refine ⟨pl.isList.typeIs,λa e=>?_⟩;cases e;obtain ⟨o,n,e,c,hd,_⟩:=pl;exact ⟨o,e,hd⟩
  ·refine ⟨⟨o,I.kIn p o hk,hc⟩,λa e=>?_⟩
   cases e;exact ⟨o,I.kIn _ o hk,hd⟩
  ·have z:∃ o,s.heap.get? p=some o/\o.ExactDict:=by
    rcases hk with ⟨kvs,hk⟩|⟨kvs,hk⟩
    ·obtain ⟨_,_,_,_,o,_,_,e,ex,_⟩:=I.hok p _ hk
     exact ⟨o,e,ex⟩
    ·obtain ⟨_,_,_,_,o,_,_,e,ex,_⟩:=I.hok p _ hk
     exact ⟨o,e,ex⟩
   obtain ⟨o,e,ex⟩:=z;refine ⟨⟨o,e,ex.1⟩,λa e2=>?_⟩;cases e2;exact ⟨o,e,ex.2.1⟩
  ·obtain ⟨o,_,_,_,e,ex,_⟩:=I.hok p _ hk
   refine ⟨⟨o,e,ex.1⟩,λa e2=>?_⟩;cases e2;exact ⟨o,e,ex.2.1⟩
 | _=>exact False.elim ty
def tBM (K:Frag) (T:String) (r:V->List V->Hp->VK->Prop) (to:TE) (t:TA):TE:=λσ H Q=>to σ H λx H1=>tyV K T x H1/\t σ H1 λxs H2=>r x xs H2 Q
variable {o e:Expr} {es:List Expr} {to:TE} {t:TA} {name:Str} {apos cpos:Pos} {T id:String} {r:V->List V->Hp->VK->Prop}
theorem qe1 (pa:PlainAttrs T) (slot:Slot T name id) (hty:typeOf (.builtin id)=pure (.type "method_descriptor")) (hm:MtR X id r) (ho:PE X o to) (ha:PA X (e :: es) t)
  (hbase:attributeBase o name X.env (eval o X.env)=eval o X.env:=by rfl)
  (hfew:((backTo cpos (starEach (e :: es) X.env)).all (λx=>!x.1) && (backToKw cpos (keywordEach [] X.env)).all (λx=>x.1.isSome)
   && decide ((e :: es).length+([]:List Keyword).length+(if ([]:List Keyword).isEmpty then 0 else 1)<30))=true:=by rfl)
  (hline:(apos.endLine == cpos.line)=true:=by rfl) (hs:starEach (e :: es) X.env=(false,eval e X.env) :: starEach es X.env:=by rfl) (hplain:(backTo cpos (starEach es X.env)).any (·.1)=false:=by rfl) :
  PE X (.Call (.Attribute o name apos) (e :: es) [] cpos) (tBM X.K T r to t):=by
 intro pins s σ H Q I h;refine wpAny_Call_method_late hbase hfew hline rfl (thn (ho pins s σ H _ I h) λv s1 hq__=>?_);obtain ⟨x,H1,I1,r1,ty,q1⟩:=hq__;obtain ⟨h1,h2⟩:=qAy I1 r1 ty;exists T,id,pa,slot,hty,h1,h2;have hA:=ha cpos pins s1 σ H1 _ I1 q1;rw[hs] at hA ⊢;refine Dw (by show (false || (backTo cpos (starEach es X.env)).any (·.1))=false;rw[hplain]<;>rfl) (FK ?_);exact thn hA λus s2 ⟨vs,H2,I2,r2,q2⟩=>hm pins s2 σ H2 x vs v us Q I2 r1 r2 q2
end
open PySem PySem.Spec PyProof.Rows
def MtM (X:Cx) (id:String) (r:V->List V->Hp->VK->Prop):Prop:=
 ∀ (pins:List (Addr×Obj)) (s:Shared) (σ:St) (H:Hp) (x:V) (xs:List V) (v:Value) (us:List Value) (Q:VK),Inv X pins σ H s->RelV x v->Vals xs us->r x xs H Q ->
  wpAny (model X.prog X.w) X.A (call (.builtin id) (v :: us)) (EP X pins σ Q) X.xe s
theorem Vals.one:∀ {x:V} {us:List Value},Vals [x] us->∃ u,us=[u]/\RelV x u
 | _,_,.cons r .nil=>⟨_,rfl,r⟩
theorem Vals.reverse (h:Vals xs us):Vals xs.reverse us.reverse:=by
 induction h with
 | nil=>exact .nil
 | cons r t ih=>rw[De,De];exact Vals.append ih (.cons r .nil)
section
variable {X:Cx} {pins:List (Addr×Obj)} {σ:St} {H:Hp} {s:Shared} {l b:Addr} {xs ys zs:List V}
theorem Inv.lset {its its':List Value} {n:Nat} {f:Array Value->Array Value} (I:Inv X pins σ H s) (hH:H l=some (.lst xs))
  (e:s.heap.get? l=some { cls:=.type "list",data:=.seq its.toArray n }) (hf:f its.toArray=its'.toArray) (hv:Vals ys its') (hz:ys.length<=sizeLine) :
  Inv X pins σ (upd H l (.lst ys)) { s with heap:=s.heap.update l (Obj.mapSeq f),toks:=t' }:=by
 have q:=PySem.IsL.update e f;rw[hf] at q;refine I.write (x:=l) (e:=l) (by rw[hH];exact trivial) (.inl rfl) (λb' u hb hu=>(BC s.heap (Obj.mapSeq f) (BR hb)).trans hu) ⟨_,q⟩ ?_;exact ⟨hz,its',_,hv,q⟩
theorem Inv.lnew {its:List Value} (I:Inv X pins σ H s) (hv:Vals ys its) (hz:ys.length<=sizeLine) :
  Inv X pins σ (upd H s.heap.objs.size (.lst ys)) { s with heap:=s.heap.push { cls:=.type "list",data:=.seq its.toArray },toks:=t' }:=
 I.laid (λ_ _ q=>Af _ q) (Ak _) ⟨hz,its,0,hv,Ay _ rfl⟩
theorem Inv.fresh (I:Inv X pins σ H s):H s.heap.objs.size=none:=I.hok.fresh (Ak _)
theorem Inv.lstM (I:Inv X pins σ H s) (hH:H l=some (.lst xs)):xs.length<=sizeLine/\∃ (its:List Value) (n:Nat),Vals xs its/\xs.length=its.length/\s.heap.get? l=some { cls:=.type "list",data:=.seq its.toArray n }:=by
 obtain ⟨z,its,n,r,e⟩:=I.hok l _ hH;exact ⟨z,its,n,r,r.length,e⟩
theorem qvg {n:Nat} (h:n<=sizeLine):Builtin.List.listTooLong n=false:=by
 unfold Builtin.List.listTooLong;exact Az (by ext)
end
section
variable {X:Cx}
def qyq:V->List V->Hp->VK->Prop:=λx vs H Q=>∃ l xs y,x=.ref l/\vs=[y]/\H l=some (.lst xs)/\xs.length<sizeLine/\Q .non (upd H l (.lst (xs ++ [y])))
theorem mt_append:MtM X "list.append" qyq:=by
 intro pins s σ H x vs v us Q I rx rv h;obtain ⟨l,xs,y,rfl,rfl,hH,hz,q⟩:=h;cases rx;obtain ⟨u,rfl,ru⟩:=rv.one;obtain ⟨z,its,n,r,hl,e⟩:=I.lstM hH;refine call_meets F.slot_list_append ⟨_,e,rfl⟩ F.entry_list_append (FJ _ _) (PySem.list_append l its.toArray n u (by rw[AJ];ext)) ⟨e,?_⟩;refine ⟨.non,_,I.lset (its':=its ++ [u]) hH e (by simp) (r.append (.cons ru .nil)) ?_,rfl,q⟩;rw[Ag,A9];ext
def qyr:V->List V->Hp->VK->Prop:=λx vs H Q=>∃ l b xs zs,x=.ref l/\vs=[.ref b]/\H l=some (.lst xs)/\H b=some (.lst zs)/\xs.length+zs.length<=sizeLine/\Q .non (upd H l (.lst (xs ++ zs)))
theorem mt_extend:MtM X "list.extend" qyr:=by
 intro pins s σ H x vs v us Q I rx rv h;obtain ⟨l,b,xs,zs,rfl,rfl,hH,hB,hz,q⟩:=h;cases rx;obtain ⟨u,rfl,ru⟩:=rv.one;cases ru;obtain ⟨z,its,n,r,hl,e⟩:=I.lstM hH;obtain ⟨z2,its2,n2,r2,hl2,e2⟩:=I.lstM hB;have hsz:its.toArray.size+its2.toArray.size<=sizeLine:=by rw[AJ,AJ];ext
 have hlong:¬ (!its.toArray.isEmpty && Builtin.List.listTooLong (its.toArray.size+its2.toArray.size))=true:=by
  rw[qvg hsz,ED];exact AA
 refine call_meets F.slot_list_extend ⟨_,e,rfl⟩ F.entry_list_extend (F.args_list_extend_2 _ _)
  (AutoSeq1.list_extend_list_list_0 l its.toArray n b its2.toArray n2 hlong (by rw[AJ];ext) (by ext)) ⟨e,e2,?_⟩
 refine ⟨.non,_,I.lset (its':=its ++ its2) hH e (by simp) (r.append r2) ?_,rfl,q⟩;rw[Ag];ext
def qFw:R2:=λx y H Q=>∃ l b xs zs,x=.ref l/\y=.ref b/\H l=some (.lst xs)/\H b=some (.lst zs)/\xs.length+zs.length<=sizeLine/\∀ p,H p=none->Q (.ref p) (upd H p (.lst (xs ++ zs)))
theorem op_cat:OpR X (binaryOp .Add) qFw:=by
 intro pins s σ H x y v u Q I rx ry h;obtain ⟨l,b,xs,zs,rfl,rfl,hH,hB,hz,q⟩:=h;cases rx;cases ry;obtain ⟨z,its,n,r,hl,e⟩:=I.lstM hH;obtain ⟨z2,its2,n2,r2,hl2,e2⟩:=I.lstM hB;refine PySem.P.add_list e e2 ?_ (by rw[AJ,AJ];ext);have ea:its.toArray ++ its2.toArray=(its ++ its2).toArray:=by simp
 rw[ea];exact ⟨.ref _,_,I.lnew (t':=s.toks) (r.append r2) (by rw[Ag];ext),rfl,q _ I.fresh⟩
end
section
variable {prog:Program} {w:World} {A:Around} {E:Value->Shared->Prop} {s:Shared}
end
section
variable {X:Cx}
end
open PySem PySem.Spec PyProof.Rows
section
variable {κ:Type} [DecidableEq κ]
def qb8 (kvs:List (κ×V)) (k:κ):Option V:=(kvs.find? λkv=>decide (kv.1=k)).map (·.2)
def putK (kvs:List (κ×V)) (k:κ) (v:V):List (κ×V):=
 if (kvs.any λkv=>decide (kv.1=k))=true then kvs.map (λkv=>if kv.1=k then (kv.1,v) else kv) else kvs ++ [(k,v)]
theorem qcb {p:κ×V} {r:List (κ×V)} {k:κ} (e:p.1=k):qb8 (p :: r) k=some p.2:=by simp[qb8,Cy,e]
theorem qcc {p:κ×V} {r:List (κ×V)} {k:κ} (e:¬ p.1=k):qb8 (p :: r) k=qb8 r k:=by simp[qb8,Cy,e]
theorem qht (k:κ):∀ kvs:List (κ×V),(kvs.any λkv=>decide (kv.1=k))=(qb8 kvs k).isSome
 | []=>rfl
 | p :: r=>by
  rw[EM]
  by_cases e:p.1=k
  ·simp only[qcb e,AD e,Fg,Option.isSome_some]
  ·rw[qcc e,Az e,DP];exact qht k r
theorem qpa (k j:κ) (y:V):∀ kvs:List (κ×V),qb8 (kvs.map λkv=>if kv.1=k then (kv.1,y) else kv) j=(qb8 kvs j).map λx=>if j=k then y else x
 | []=>rfl
 | p :: r=>by
  have ih:=qpa k j y r;rw[AR]
  by_cases h:p.1=k
  ·rw[Au h]
   by_cases e:p.1=j
   ·rw[qcb (p:=(p.1,y)) e,qcb e,Dy,Au (e.symm.trans h)]
   ·rw[qcc (p:=(p.1,y)) e,qcc e,ih]
  ·rw[Al h]
   by_cases e:p.1=j
   ·rw[qcb (p:=p) e,qcb e,Dy,Al (λz=>h (e.trans z))]
   ·rw[qcc (p:=p) e,qcc e,ih]
theorem ql3 (k j:κ) (y:V):∀ kvs:List (κ×V),qb8 kvs k=none->qb8 (kvs ++ [(k,y)]) j=if j=k then some y else qb8 kvs j
 | [],_=>by
  by_cases e:k=j
  ·rw[Au e.symm];exact qcb (p:=(k,y)) e
  ·rw[Al (λz=>e z.symm)];exact qcc (p:=(k,y)) e
 | p :: r,hn=>by
  rw[Bb];have hk:¬ p.1=k:=λz=>by rw[qcb z] at hn;cases hn
  rw[qcc hk] at hn;have ih:=ql3 k j y r hn
  by_cases e:p.1=j
  ·rw[qcb e,qcb e,Al (λz=>hk (e.trans z))]
  ·rw[qcc e,qcc e,ih]
theorem qda (kvs:List (κ×V)) (k j:κ) (y:V):qb8 (putK kvs k y) j=if j=k then some y else qb8 kvs j:=by
 unfold putK
 by_cases a:(kvs.any λkv=>decide (kv.1=k))=true
 ·rw[Au a,qpa]
  rw[qht] at a
  by_cases e:j=k
  ·obtain ⟨x,hx⟩:=EK.mp a
   rw[Au e,e,hx,Dy,Au rfl]
  ·rw[Al e]
   cases qb8 kvs j with
   | none=>rfl
   | some x=>rw[Dy,Al e]
 ·rw[Al a]
  refine ql3 k j y kvs ?_;rw[qht] at a
  cases q:qb8 kvs k with
  | none=>rfl
  | some x=>rw[q] at a;exact (a rfl).elim
theorem qia (kvs:List (κ×V)) (k:κ) (v:V):(putK kvs k v).length<=kvs.length+1:=by
 unfold putK
 split
 ·rw[Aa];ext
 ·rw[Ag,AF,BZ];ext
theorem RelO.isSome_eq {o:Option V} {u:Option Value} (r:RelO o u):o.isSome=u.isSome:=by
 cases o with
 | none=>cases u with
  | none=>rfl
  | some _=>exact (show False from r).elim
 | some _=>cases u with
  | none=>exact (show False from r).elim
  | some _=>rfl
theorem RelO.getD {o:Option V} {u:Option Value} {d:V} {d':Value} (r:RelO o u) (rd:RelV d d'):RelV (o.getD d) (u.getD d'):=by
 cases o with
 | none=>cases u with
  | none=>exact rd
  | some _=>exact (show False from r).elim
 | some _=>cases u with
  | none=>exact (show False from r).elim
  | some _=>exact r
theorem KV.val {kvs:List (κ×V)} {vs:List (κ×Value)} (r:KV kvs vs) (k:κ):RelO (qb8 kvs k) (valueAt vs k):=by
 unfold KV at r
 induction r with
 | nil=>exact True.intro
 | @cons p q ps qs h t ih =>
  obtain ⟨h1,h2⟩:=h
  by_cases e:p.1=k
  ·have e':q.1=k:=h1.symm.trans e
   have b:valueAt (q :: qs) k=some q.2:=by simp[valueAt,Cy,e']
   rw[qcb e,b];exact h2
  ·have e':¬ q.1=k:=λz=>e (h1.trans z)
   have b:valueAt (q :: qs) k=valueAt qs k:=by simp[valueAt,Cy,e']
   rw[qcc e,b];exact ih
theorem KV.any {kvs:List (κ×V)} {vs:List (κ×Value)} (r:KV kvs vs) (k:κ):(kvs.any λkv=>decide (kv.1=k))=vs.any λkv=>decide (kv.1=k):=by
 unfold KV at r
 induction r with
 | nil=>rfl
 | cons h t ih=>rw[EM,EM,ih,h.1]
theorem KV.repl {kvs:List (κ×V)} {vs:List (κ×Value)} (r:KV kvs vs) (k:κ) (ry:RelV y u) :
  KV (kvs.map λkv=>if kv.1=k then (kv.1,y) else kv) (vs.map λkv=>if kv.1=k then (kv.1,u) else kv):=by
 unfold KV at r ⊢
 induction r with
 | nil=>exact .nil
 | @cons p q ps qs h t ih =>
  rw[AR,AR];refine .cons ?_ ih;obtain ⟨h1,h2⟩:=h
  by_cases e:p.1=k
  ·rw[Au e,Au (h1.symm.trans e)];exact ⟨h1,ry⟩
  ·rw[Al e,Al (λz=>e (h1.trans z))];exact ⟨h1,h2⟩
theorem KV.put {kvs:List (κ×V)} {vs:List (κ×Value)} (r:KV kvs vs) (k:κ) (ry:RelV y u):KV (putK kvs k y) (stored vs k u):=by
 unfold putK stored;rw[r.any k]
 by_cases e:(vs.any λkv=>decide (kv.1=k))=true
 ·rw[Au e,Au e];exact r.repl k ry
 ·rw[Al e,Al e];exact Paired.snoc r ⟨rfl,ry⟩
theorem KV.length {kvs:List (κ×V)} {vs:List (κ×Value)} (r:KV kvs vs):kvs.length=vs.length:=CU r
end
theorem qsj {P:Program} {w:World} {k:Key} (r:RelV (kV k) u):(qbr P w).is k u=true:=by
 cases k with
 | inl i=>obtain ⟨t,e⟩:=(show ∃ t,u=Value.int i t from r);subst e;exact qn3 P w i t
 | inr x=>obtain ⟨t,e⟩:=(show ∃ t,u=Value.str x t from r);subst e;exact qn4 P w x t
theorem ql4 {P:Program} {w:World}:∀ {ks:List Key} {us:List Value},Vals (ks.map kV) us->ItemsAre (qbr P w) ks us
 | [],_,r=>by rw[D0] at r;cases r;exact .nil
 | k :: ks,_,r=>by
  rw[AR] at r
  cases r with
  | cons h t=>exact .cons (qsj h) (ql4 t)
abbrev KT (H:Hp):List (List Key×V)->List (List Key×Addr×Value)->Prop:=Paired λp q=>p.1=q.1/\H q.2.1=some (.tup (p.1.map kV))/\RelV p.2 q.2.2
theorem KT.val {kvs:List (List Key×V)} {xs:List (List Key×Addr×Value)} (r:KT H kvs xs) (k:List Key):RelO (qb8 kvs k) ((atKey xs k).map (·.2)):=by
 induction r with
 | nil=>exact True.intro
 | @cons p q ps qs h t ih =>
  obtain ⟨h1,_,h2⟩:=h
  by_cases e:p.1=k
  ·have e':q.1=k:=h1.symm.trans e
   have b:atKey (q :: qs) k=some q.2:=by simp[atKey,Cy,e']
   rw[qcb e,b];exact h2
  ·have e':¬ q.1=k:=λz=>e (h1.trans z)
   have b:atKey (q :: qs) k=atKey qs k:=by simp[atKey,Cy,e']
   rw[qcc e,b];exact ih
theorem KT.repl {kvs:List (List Key×V)} {xs:List (List Key×Addr×Value)} (r:KT H kvs xs) (k:List Key) (ry:RelV y u) :
  KT H (kvs.map λkv=>if kv.1=k then (kv.1,y) else kv) (xs.map (putAt k u)):=by
 induction r with
 | nil=>exact .nil
 | @cons p q ps qs h t ih =>
  rw[AR,AR];refine .cons ?_ ih;obtain ⟨h1,h2,h3⟩:=h;unfold putAt
  by_cases e:p.1=k
  ·rw[Au e,Au (h1.symm.trans e)];exact ⟨h1,h2,ry⟩
  ·rw[Al e,Al (λz=>e (h1.trans z))];exact ⟨h1,h2,h3⟩
theorem KT.put {kvs:List (List Key×V)} {xs:List (List Key×Addr×Value)} (r:KT H kvs xs) (k:List Key) {b:Addr} (hb:H b=some (.tup (k.map kV))) (ry:RelV y u) :
  KT H (putK kvs k y) (storedH xs k b u):=by
 have e:(kvs.any λkv=>decide (kv.1=k))=(atKey xs k).isSome:=by
  rw[qht,(r.val k).isSome_eq,Option.isSome_map]
 unfold putK storedH;rw[e]
 by_cases q:(atKey xs k).isSome=true
 ·rw[Au q,Au q];exact r.repl k ry
 ·rw[Al q,Al q];exact Paired.snoc r ⟨rfl,hb,ry⟩
theorem KT.keeps {kvs:List (List Key×V)} {xs:List (List Key×Addr×Value)} (r:KT H kvs xs) (ht:∀ b ys,H b=some (.tup ys)->H' b=some (.tup ys)):KT H' kvs xs:=
 Paired.mapP r λ_ _ z=>⟨z.1,ht _ _ z.2.1,z.2.2⟩
section
variable {P:Program} {w:World} {H:Hp} {h:Heap} {a:Addr}
theorem qAz {u:HO} (ok:HOk P w H h) (e:Rd H a u):ObjOk P w H h a u:=e.ok ok
theorem qq4 {kvs:List (Key×V)} (ok:HOk P w H h) (e:Rd H a (.dK kvs)):kvs.length<=sizeLine/\(a == sysModules)=false/\∃ vs,KV kvs vs/\h.DictOf (qbr P w) a vs:=
 show ObjOk P w H h a (.dK kvs) from qAz ok e
theorem qDt {kvs:List (Key×V)} (ok:HOk P w H h) (e:H a=some (.dK kvs)):kvs.length<=sizeLine/\(a == sysModules)=false/\∃ vs,KV kvs vs/\h.DictOf (qbr P w) a vs:=qq4 ok (.inl e)
theorem ql5 {ks:List Key} (ok:HOk P w H h) (e:H a=some (.tup (ks.map kV))):(tupleKind (qbr P w)).is h ks a:=by
 obtain ⟨_,its,r,o,h1,h2,n,h3⟩:=(show ObjOk P w H h a (.tup (ks.map kV)) from ok a _ e);exact ⟨o,its.toArray,n,h1,h2,h3,by simpa using ql4 r⟩
theorem qq5 {kvs:List (List Key×V)} (ok:HOk P w H h) (e:Rd H a (.dT kvs)):kvs.length<=sizeLine/\(a == sysModules)=false /\
  ∃ xs,KT H kvs xs/\h.DictOfH (tupleKind (qbr P w)) a xs:=by
 obtain ⟨z,y,xs,r,o,es,ep,h1,h2,h3,h4,h5⟩:=(show ObjOk P w H h a (.dT kvs) from qAz ok e);refine ⟨z,y,xs,r,o,es,ep,h1,h2,h3,h4,λx hx=>?_,h5⟩;have all:∀ {l:List (List Key×V)} {m:List (List Key×Addr×Value)},KT H l m->∀ x∈m,(tupleKind (qbr P w)).is h x.1 x.2.1:=by
  intro l m q
  induction q with
  | nil=>intro x hx;exact nomatch hx
  | @cons p q ps qs hq t ih =>
   intro x hx
   rcases Av.mp hx with e|hx
   ·subst e
    exact ql5 ok (by rw[<- hq.1];exact hq.2.1)
   ·exact ih x hx
 exact all r x hx
theorem qA0 {kvs:List (List Key×V)} (ok:HOk P w H h) (e:H a=some (.dT kvs)):kvs.length<=sizeLine/\(a == sysModules)=false /\
  ∃ xs,KT H kvs xs/\h.DictOfH (tupleKind (qbr P w)) a xs:=qq5 ok (.inl e)
end
def DGet (H:Hp) (a:Addr) (y:V) (r:Option V):Prop:=
 (∃ kvs k,Rd H a (.dK kvs)/\y=kV k/\r=qb8 kvs k)\/∃ kvs k b,Rd H a (.dT kvs)/\y=.ref b/\H b=some (.tup (k.map kV))/\r=qb8 kvs k
def DPut (H:Hp) (a:Addr) (y v:V) (H':Hp):Prop:=
 (∃ kvs k,H a=some (.dK kvs)/\y=kV k/\kvs.length<sizeLine/\H'=upd H a (.dK (putK kvs k v))) \/
 ∃ kvs k b,H a=some (.dT kvs)/\y=.ref b/\H b=some (.tup (k.map kV))/\kvs.length<sizeLine/\H'=upd H a (.dT (putK kvs k v))
theorem DGet.t {a b:Addr} {kvs:List (List Key×V)} {k:List Key} (e:H a=some (.dT kvs)) (eb:H b=some (.tup (k.map kV))):DGet H a (.ref b) (qb8 kvs k):=.inr ⟨kvs,k,b,.inl e,rfl,eb,rfl⟩
theorem DPut.t {a b:Addr} {kvs:List (List Key×V)} {k:List Key} {v:V} (e:H a=some (.dT kvs)) (eb:H b=some (.tup (k.map kV))) (hl:kvs.length<sizeLine) :
  DPut H a (.ref b) v (upd H a (.dT (putK kvs k v))):=.inr ⟨kvs,k,b,e,rfl,eb,hl,rfl⟩
section
variable {X:Cx} {pins:List (Addr×Obj)} {σ:St} {H:Hp} {s:Shared} {a:Addr} {y v:V} {u r:Value} {o:Option V} {A:Around} {E:Value->Shared->Prop}
theorem Inv.big (I:Inv X pins σ H s):sysModules<s.heap.objs.size:=by
 have h:mainGlobals<s.heap.objs.size:=(I.mod.glob.keeps I.bk).lt;exact Du (by decide) h
theorem qsk (hu:A.units+1<cLine) (I:Inv X pins σ H s) (g:DGet H a y (some v)) (ry:RelV y u) (h:∀ w' s',Inv X pins σ H s'->RelV v w'->Q w' s') :
  wpAny (model X.prog X.w) A (getItem (.ref a) u) Q E s:=by
 rcases g with ⟨kvs,k,e,ey,l⟩|⟨kvs,k,b,e,ey,eb,l⟩
 ·subst ey
  obtain ⟨z,hd,vs,rel,dd⟩:=qq4 I.hok e;obtain ⟨w',hw,rw'⟩:=RelO.some_of (v:=v) (o:=valueAt vs k) (by rw[l];exact rel.val k);exact wpAny_getItem_of (qsj ry) dd.mapOf hw (h w' _ (I.tok _) rw')
 ·subst ey
  cases (show u=Value.ref b from ry)
  obtain ⟨z,hd,xs,rel,dd⟩:=qq5 I.hok e;obtain ⟨w',hw,rw'⟩:=RelO.some_of (v:=v) (o:=(atKey xs k).map (·.2)) (by rw[l];exact rel.val k);obtain ⟨p,hp,hp2⟩:=Ar.mp hw;refine wpAny_getItem_heap (CZ hu) (ql5 I.hok eb) dd hp ?_;rw[hp2];exact h w' _ (I.tok _) rw'
theorem qFx (hu:A.units+1<cLine) (I:Inv X pins σ H s) (g:DGet H a y o) (ry:RelV y u) (h:∀ s',Inv X pins σ H s'->Q (.bool o.isSome) s') :
  wpAny (model X.prog X.w) A (compareOp .In u (.ref a)) Q E s:=by
 rcases g with ⟨kvs,k,e,ey,l⟩|⟨kvs,k,b,e,ey,eb,l⟩
 ·subst ey
  obtain ⟨z,hd,vs,rel,dd⟩:=qq4 I.hok e;refine wpAny_in_of (qsj ry) hd dd.mapOf ?_;rw[<- (rel.val k).isSome_eq,<- l];exact h _ (I.tok _)
 ·subst ey
  cases (show u=Value.ref b from ry)
  obtain ⟨z,hd,xs,rel,dd⟩:=qq5 I.hok e;refine wpAny_in_heap (CZ hu) (ql5 I.hok eb) hd dd ?_;have q:=(rel.val k).isSome_eq;rw[Option.isSome_map] at q;rw[<- q,<- l];exact h _ (I.tok _)
theorem qsl {h':Heap} {ob:HO} (I:Inv X pins σ H s) (mu:Mut (H a)) (hs:Heap.SameBut a s.heap h') (he:∃ q,h'.get? a=some q) (new:ObjOk X.prog X.w (upd H a ob) h' a ob) :
  Inv X pins σ (upd H a ob) { s with heap:=h',toks:=t' }:=
 I.write (x:=a) (e:=a) mu (.inl rfl) (λb q hb z=>(hs.2 b hb).trans z) he new
theorem qA1 {P:Program} {w:World} {h':Heap} {kvs:List (Key×V)} {vs:List (Key×Value)} (z:kvs.length<=sizeLine) (hd:(a == sysModules)=false) (rel:KV kvs vs) (dd:h'.DictOf (qbr P w) a vs) :
  ObjOk P w H' h' a (.dK kvs):=⟨z,hd,vs,rel,dd⟩
theorem qsm {Q:Unit->Shared->Prop} (hu:A.units+1<cLine) (I:Inv X pins σ H s) (g:DPut H a y v H') (ry:RelV y u) (rv:RelV v r) (h:∀ s',Inv X pins σ H' s'->Q () s') :
  wpAny (model X.prog X.w) A (setItem (.ref a) u r) Q E s:=by
 rcases g with ⟨kvs,k,e,ey,l,eH⟩|⟨kvs,k,b,e,ey,eb,l,eH⟩
 ·subst ey eH
  obtain ⟨z,hd,vs,rel,dd⟩:=qDt I.hok e;have hz:vs.length<=sizeLine:=by rw[<- rel.length];exact z
  have hl:(putK kvs k v).length<=sizeLine:=by have:=qia kvs k v;ext
  refine wpAny_setItem_pairs (hsz:=hz) (qsj ry) dd λh' dd' hs=>h _ ?_
  have he:∃ q,h'.get? a=some q:=let ⟨q,_,_,hq,_⟩:=dd';⟨q,hq⟩
  exact qsl I (by rw[e];exact True.intro) hs he (qA1 hl hd (rel.put k rv) dd')
 ·subst ey eH
  cases (show u=Value.ref b from ry)
  obtain ⟨z,hd,xs,rel,dd⟩:=qA0 I.hok e;have hz:xs.length<=sizeLine:=by rw[<- CU rel];exact z
  have hl:(putK kvs k v).length<=sizeLine:=by have:=qia kvs k v;ext
  refine wpAny_setItem_heap (hsz:=hz) (CZ hu) (ql5 I.hok eb) dd λh' dd' hs=>h _ ?_
  obtain ⟨q,es,ep,hq,h2,h3,h4,_,h5⟩:=dd';refine qsl I (by rw[e];exact True.intro) hs ⟨q,hq⟩ ⟨hl,hd,_,(rel.put k eb rv).keeps λc ys ec=>?_,q,es,ep,hq,h2,h3,h4,h5⟩;rw[qas (qa0 ec e (λz=>nomatch z))];exact ec
end
section
variable {X:Cx} {pins:List (Addr×Obj)} {σ:St} {H:Hp} {s:Shared} {a:Addr} {kvs:List (Key×V)} {k:Key} {u:Value} {A:Around} {E:Value->Shared->Prop}
end
def qE4 (i:Expr):Prop:=∀ ov iv,subscripted i false ov iv=operate [ov,iv] (getItem ov iv)
theorem qys {prog:Program} {w:World} {A:Around} {s:Shared} {env:Env} {value slice:Expr} {pos:Pos} {T id:String} 
  (hl:typeLookup (.type T) "__getitem__" = pure (some (.builtin id))) (hs:qE4 slice)
  (h:wpAny (model prog w) A (eval value env) (λo s₁=>wpAny (model prog w) A (eval slice env) (λi s₂=>s₂.TypeIs o T/\wpAny (model prog w) A (getItem o i) Q E s₂) E s₁) E s) :
  wpAny (model prog w) A (eval (.Subscript value slice pos) env) Q E s:=by
 refine Subscript_ (Br h (λo s₁ h₁=>Br h₁ (λi s₂ h₂=>?_) λ_ _ x=>x) λ_ _ x=>x);obtain ⟨hT,h₂⟩:=h₂;unfold subscriptTail;refine Ac ?_;rw[getitemInPython_of_ne hT.not_modules];refine Ac (Eo hT hl ?_);have fin:wpAny (model prog w) A (subscripted slice false o i) (λr s₃=>wpAny (model prog w) A (letTemporaryGo value o r >>= λ_=>pure r) Q E s₃) E s₂:=by
  rw[hs o i];exact wpAny_operating (Br h₂ (λr s₃ h₃=>Ac (wpAny_letTemporaryGo (Ai h₃))) λ_ _ x=>x)
 first
  | exact Ai (Ac fin)
  | exact Ac (Ai (Ac fin))
  | exact Ac fin
theorem qn7 {X:Cx} {pins:List (Addr×Obj)} {s:Shared} {a:Addr} {o:Option V} (I:Inv X pins σ H s) (g:DGet H a y o):s.TypeIs (.ref a) "dict" :=by
 rcases g with ⟨kvs,k,e,_,_⟩|⟨kvs,k,b,e,_,_,_⟩
 ·obtain ⟨_,_,vs,_,dd⟩:=qq4 I.hok e
  exact dd.typeIs
 ·obtain ⟨_,_,xs,_,dd⟩:=qq5 I.hok e
  exact dd.typeIs
def qDu (td ty:TE):TE:=λσ H Q=>td σ H λx H1=>ty σ H1 λy H2=>∃ a v,x=.ref a/\DGet H2 a y (some v)/\Q v H2
def qFy (ty td:TE):TE:=λσ H Q=>ty σ H λy H1=>td σ H1 λx H2=>∃ a o,x=.ref a/\DGet H2 a y o/\Q (.bl o.isSome) H2
def qDv (td ty tv:TE):TS:=λD σ H=>tv σ H λv H1=>td σ H1 λx H2=>ty σ H2 λy H3=>∃ a H4,x=.ref a/\DPut H3 a y v H4/\D.nx σ H4
section
variable {X:Cx} {o i e value:Expr} {pos pos' tpos:Pos} {td ty tv:TE}
theorem qn8 (hu:X.A.units+1<cLine) (ho:PE X o td) (hi:PE X i ty) (hs:qE4 i):PE X (.Subscript o i pos) (qDu td ty):=by
 intro pins s σ H Q I h;refine qys PySem.F.slot_dict_getitem.lookup hs (thn (ho pins s σ H _ I h) λu s1 ⟨x,H1,I1,rx,q1⟩=>thn (hi pins s1 σ H1 _ I1 q1) λiv s2 hq__=>?_);obtain ⟨y,H2,I2,ry,a,v,ex,g,q2⟩:=hq__;subst ex;obtain rfl:u=Value.ref a:=rx;exact ⟨qn7 I2 g,qsk hu I2 g ry λw' s3 I3 rw'=>⟨v,H2,I3,rw',q2⟩⟩
theorem qA2 (hu:X.A.units+1<cLine) (hi:PE X i ty) (ho:PE X o td):PC X .In i o (qFy ty td):=by
 intro pins s σ H Q I h;refine thn (hi pins s σ H _ I h) λiv s1 ⟨y,H1,I1,ry,q1⟩=>thn (ho pins s1 σ H1 _ I1 q1) λu s2 hq__=>?_
 obtain ⟨x,H2,I2,rx,a,ov,ex,g,q2⟩:=hq__;subst ex;obtain rfl:u=Value.ref a:=rx;exact qFx hu I2 g ry λs3 I3=>⟨.bl ov.isSome,H2,I3,rfl,q2⟩
theorem qib (hu:X.A.units+1<cLine) (ho:PE X o td) (hi:PE X i ty) (hv:PE X value tv) (hs:swapsWith value (some (.Subscript o i pos')) pos.line X.env=pure false) :
  PS X (.Assign [.Subscript o i pos'] value pos) (qDv td ty tv):=by
 intro pins s σ H D I h;refine wpAny_Assign_Subscript (thn (hv pins s σ H _ I h) λr s1 ⟨v,H1,I1,rv,q1⟩=>thn (ho pins s1 σ H1 _ I1 q1) λu s2 ⟨x,H2,I2,rx,q2⟩=>thn (hi pins s2 σ H2 _ I2 q2) λiv s3 hq__=>?_) hs;obtain ⟨y,H3,I3,ry,a,H4,ex,g,q3⟩:=hq__;subst ex;obtain rfl:u=Value.ref a:=rx;exact qsm hu I3 g ry rv λs4 I4=>⟨σ,H4,I4,q3⟩
end
theorem qvh {P:Program} {w:World} (h:Heap) (hb:sysModules<h.objs.size):ObjOk P w H (h.push { cls:=.type "dict",data:=.dict #[] }) h.objs.size (.dT []):=
 ⟨Bw _,Cs.mpr (BR (AH hb)),[],.nil,_,#[],0,Ay _ rfl,⟨rfl,rfl,rfl⟩,rfl,rfl,List.nodup_nil⟩
def qA3:TE:=λ_ H Q=>∀ p,H p=none->Q (.ref p) (upd H p (.dT []))
section
variable {X:Cx} {pos:Pos}
theorem qvi:PE X (.Dict [] [] pos) qA3:=λpins s σ H Q I h =>
 wpAny_Dict_empty ⟨.ref s.heap.objs.size,_,I.laid (a:=s.heap.objs.size) (o:=.dT []) (t':=s.toks) (λ_ _ q=>Af _ q) (Ak _) (qvh s.heap I.big),rfl,h _ (I.hok.fresh (Ak _))⟩
end
structure M2 (X:Cx) (o:Expr) (m:Str) (apos:Pos) (e f:Expr) (cpos:Pos):Prop where
 base:attributeBase o m X.env (eval o X.env)=eval o X.env
 few:((backTo cpos (starEach [e,f] X.env)).all (λx=>!x.1) && (backToKw cpos (keywordEach [] X.env)).all (λx=>x.1.isSome)
  && decide (([e,f]:List Expr).length+([]:List Keyword).length+(if ([]:List Keyword).isEmpty then 0 else 1)<30))=true
 line:(apos.endLine == cpos.line)=true
 trees:backTo cpos (starEach [e,f] X.env)=[(false,eval e X.env),(false,eval f X.env)]
def IsD (H:Hp) (a:Addr):Prop:=(∃ kvs,Rd H a (.dK kvs))\/∃ kvs,Rd H a (.dT kvs)
theorem qA4 {X:Cx} {pins:List (Addr×Obj)} {s:Shared} {a:Addr} (I:Inv X pins σ H s) (d:IsD H a) :
  s.TypeIs (.ref a) "dict" /\ (∀ b,Value.ref a=.ref b->∃ ob,s.heap.get? b=some ob/\ob.dict=none)/\(a == sysModules)=false:=by
 rcases d with ⟨kvs,e⟩|⟨kvs,e⟩
 ·obtain ⟨_,hd,vs,_,dd⟩:=qq4 I.hok e
  refine ⟨dd.typeIs,λb q=>?_,hd⟩;cases q;obtain ⟨ob,_,_,h1,h2,_⟩:=dd;exact ⟨ob,h1,h2.2.1⟩
 ·obtain ⟨_,hd,xs,_,dd⟩:=qq5 I.hok e
  refine ⟨dd.typeIs,λb q=>?_,hd⟩;cases q;obtain ⟨ob,_,_,h1,h2,_⟩:=dd;exact ⟨ob,h1,h2.2.1⟩
section
variable {X:Cx} {pins:List (Addr×Obj)} {σ:St} {H:Hp} {s:Shared} {a:Addr} {y d:V} {u r:Value} {o:Option V} {A:Around} {E:Value->Shared->Prop}
theorem qA5 (hu:A.units+1<cLine) (I:Inv X pins σ H s) (g:DGet H a y o) (ry:RelV y u) (rd:RelV d r) (h:∀ w' s',Inv X pins σ H s'->RelV (o.getD d) w'->Q w' s') :
  wpAny (model X.prog X.w) A (call (.builtin "dict.get") [.ref a,u,r]) Q E s:=by
 rcases g with ⟨kvs,k,e,ey,l⟩|⟨kvs,k,b,e,ey,eb,l⟩
 ·subst ey
  obtain ⟨z,hd,vs,rel,dd⟩:=qq4 I.hok e;refine call_meetsIn DC dd.typeIs Fb (EW _ _ _) (meets_dict_get_default (qbr X.prog X.w) a (qsj ry) hd r) ⟨_,dd.mapOf,h _ _ (I.tok _) ?_⟩;rw[l];exact (rel.val k).getD rd
 ·subst ey
  cases (show u=Value.ref b from ry)
  obtain ⟨z,hd,xs,rel,dd⟩:=qq5 I.hok e;refine call_meetsIn DC dd.typeIs Fb (EW _ _ _) (meetsH_dict_get_default (tupleKind (qbr X.prog X.w)) a b hd r) ⟨CZ hu,k,xs,ql5 I.hok eb,dd,h _ _ (I.tok _) ?_⟩;rw[l];exact (rel.val k).getD rd
end
def qA6 (td ty tx:TE):TE:=λσ H Q=>td σ H λx H1=>∃ a,x=.ref a/\IsD H1 a/\ty σ H1 λy H2=>tx σ H2 λz H3=>∃ o,DGet H3 a y o/\Q (o.getD z) H3
section
variable {X:Cx} {o e f:Expr} {apos cpos:Pos} {td ty tx:TE}
theorem qk6 (hu:X.A.units+1<cLine) (ho:PE X o td) (he:PE X e ty) (hf:PE X f tx) (m:M2 X o "get" apos e f cpos):PE X (.Call (.Attribute o "get" apos) [e,f] [] cpos) (qA6 td ty tx):=by
 intro pins s σ H Q I h;refine wpAny_Call_method m.base m.few m.line PySem.F.plainAttrs_dict DC PySem.F.type_dict_get (thn (ho pins s σ H _ I h) λu s1 hq__=>?_);obtain ⟨x,H1,I1,rx,a,ex,d,q1⟩:=hq__;subst ex;obtain rfl:u=Value.ref a:=rx;obtain ⟨t1,t2,_⟩:=qA4 I1 d;exists t1,t2;rw[m.trees];refine Dw rfl (FK (CB (thn (he pins s1 σ H1 _ I1 q1) λiv s2 ⟨y,H2,I2,ry,q2⟩ =>
  CB (thn (hf pins s2 σ H2 _ I2 q2) λfv s3 ⟨z,H3,I3,rz,ov,g,q3⟩=>Df ?_))))
 exact qA5 hu I3 g ry rz λw' s4 I4 rw'=>⟨_,H3,I4,rw',q3⟩
end
section
variable {X:Cx} {pins:List (Addr×Obj)} {σ:St} {H:Hp} {s:Shared} {a:Addr} {kvs:List (Key×V)} {A:Around} {E:Value->Shared->Prop}
end
section
variable {X:Cx} {pins:List (Addr×Obj)} {σ:St} {H:Hp} {s:Shared} {a:Addr} {y:V} {u:Value} {A:Around} {E:Value->Shared->Prop}
end
end L2
namespace Att
open PySem PySem.W PySem.Calls PyProof.Rows
theorem qic {P:Params} {h:Heap}:∀ (ns:List Int) (vs:List Value),WellAll P h vs (ns.map WData.int)->IntsAre vs ns:=by
 intro ns
 induction ns with
 | nil =>
  intro vs w;rw[D0] at w;cases w;exact .nil
 | cons n ns ih =>
  intro vs w;rw[AR] at w
  cases w with
  | cons a b =>
   cases a;exact .cons _ _ (ih _ b)
theorem qsn {l:OpenLaw} {n:Nat} (hn:l.most=some n) {P:Params} {h:Heap} {args:List WData} {qci:List Value}
  (hpre:l.row.toRowW.claim.pre args=true) (hwl:WellAll P h qci args) :
  ∃ a vs ns,qci=[Value.ref a]/\args=[WData.list (ns.map WData.int)]/\h.get? a=some { cls:=.type "list",data:=.seq vs.toArray }/\IntsAre vs ns/\ns.length<=n:=by
 have hsh:WShape.hasAll [] args [.list .int]=true:=(pre_splitW hpre).1;have hc:l.pre.holds [] { args:=args }=true:=(pre_splitW hpre).2;obtain ⟨d,r,rfl,h1,h2⟩:=hasAllW_cons hsh;obtain rfl:=hasAllW_nil h2;obtain ⟨xs,rfl,h3⟩:=hasW_list h1;obtain ⟨ns,rfl⟩:=items_int h3;have hlen:ns.length<=n:=by
  unfold OpenLaw.pre at hc;have h4:(WTm.not (.lt (.lit (.int (n:Int))) (.len (.arg 0)))).holds [] { args:=[.list (ns.map .int)] }=true:=by
   have h4:=(holds_andW hc).1;rw[hn] at h4;exact h4
  have h5:=condW_of h4 (w_not (w_lt w_lit (w_len_list (w_arg rfl))));rw[Aa] at h5;refine Nat.le_of_not_lt λq=>?_
  have q':(n:Int)<((ns.length:Nat):Int):=by ext
  first
   | (rw[AD q'] at h5;exact absurd h5 (by decide))
   | (simp at h5;ext)
 cases hwl with
 | cons w1 w2 =>
  cases w2
  cases w1 with
  | list ho hall=>exact ⟨_,_,ns,rfl,rfl,ho,qic ns _ hall,hlen⟩
theorem qso (l:OpenLaw) (args:List WData):l.row.toRowW.claim.post args (.bool true) args=true:=
 postW_of (r:=l.row.toRowW) (X:=(true == true))
  (show WShape.has [] (.bool true) .bool=true by first|rfl|decide|simp[WShape.has,WShape.arms,WShape.armsAll])
  (show (WTm.eq .res (.lit (.bool true))).value [] { args:=args,res:=some (.bool true),after:=args }=some (.bool (true == true)) from w_eq_bool (w_res rfl) w_lit) rfl
theorem attach_call {l:OpenLaw} {n:Nat} {q:Program} {loose:List Str} {XP:(Str->Option Value)->Heap->Prop} {YP:World->Heap->Prop} {d:DefRec}
  (hn:l.most=some n) (hdf:d.params.defaults=[])
  (call:∀ (w:World) (s₀ s₁:Shared) (mg mb:Str->Option Value) (fa:Addr) (o:Obj) (pm cd doc:Value) (a:Addr) (vs:List Value) (ns:List Int),
   Ground q loose [] XP w s₀ mg mb s₁.heap->YP w s₁.heap ->
   s₁.heap.get? fa=some o->o.data=.func (docDef d.name d.params d.body d.scope pm cd doc)->s₁.heap.CodeRec cd d.name->mg d.name=some (.ref fa) ->
   s₁.heap.get? a=some { cls:=.type "list",data:=.seq vs.toArray }->IntsAre vs ns->ns.length<=n->s₁.gens = #[] ->
   codeAny (model l.prog w) callerA (.call (.ref fa) ⟨[.ref a],[]⟩) (λr s'=>r=.ok (.ret (.bool true))/\OldK s₁.heap s'.heap/\s'.os=s₁.os/\AllBare s'.gens) s₁) :
  WalkO q loose XP YP l.row.toRowW d [] (λf vs=>PySem.call f vs):=by
 intro w s₀ s₁ mg mb G Y fa o pm cd doc dV kV ho hd hcd hD hmg hg args qci as hpre hlay hrd hwl hlo;obtain rfl:dV=.none:=Dflts.none hD hdf;obtain rfl:kV=.none:=Dflts.noKw hD;obtain ⟨a,vs,ns,rfl,rfl,hobj,hints,hlen⟩:=qsn hn hpre hwl;refine enter_call (CH (call w s₀ s₁ mg mb fa o pm cd doc a vs ns G Y ho (fd_plain hd) hcd hmg hobj hints hlen hg) λr s' hq=>?_);obtain ⟨rfl,h2,h3,h4⟩:=hq;exact ⟨.inl ⟨.bool true,.bool true,[],rfl,λ_=>rfl,.bool true,qso l _,λ_=>⟨List.Pairwise.nil,λ_ hm=>(nomatch hm)⟩⟩,h2,h3,h4⟩
section
variable {prog:Program} {w:World} {A:Around} {E:Value->Shared->Prop} {s:Shared} {K:Frag}
def ledger (h:Heap) (L d:Addr):List (Addr×Obj):=(List.range h.objs.size).filterMap λa=>if a=L\/a=d then none else (h.get? a).map λo=>(a,o)
end
end Att
namespace L2
open PySem PySem.Spec PyProof.Rows
variable {xs:List V}{us vs:List Value}{H H':Hp}{o:HO}{h:Heap}{t' i k ek ep:Nat}{it C f l d:Addr}{N ps:List Str}{j:Int}{x qual:Str}{E Q:Value->Shared->Prop}{u:Value}{e e1 e2:Expr}{σ:St}{y:V}{D:Ends}{tc:TT}{te:TE}{g:TG}{p epos:Pos}{sp:Sp}{ks:List (List Int)}{t1 t2 t3 t4 t5:TS}
theorem qid:∀ {vs:List Value} {ns:List Int},IntsAre vs ns->Vals (ns.map V.int) vs
 | _,_,.nil=>.nil
 | _,_,.cons n t h=>.cons ⟨t,rfl⟩ (qid h)
def qDw (H:Hp):Prop:=∀ b,H b=none\/∃ o xs,H b=some (.frz o (.lst xs))
theorem qvj {P:Program} {w:World} {K:Frag} {mg mb:Str->Option Value} {CX:CXT} {fa a:Addr} {fd:FuncData} {s₁:Shared} {ns:List Int}
  (KX:K.In s₁.heap) (hns:s₁.heap.Ns mainGlobals mg) (hb:s₁.heap.Ns builtinsNs mb) (hbb:∀ x:Str,x ≠ "__name__" -> mb x=bootBuiltins x) (hlim:s₁.heap.NoLimit) (hg:s₁.gens = #[])
  (ha:s₁.heap.get? a=some { cls:=.type "list",data:=.seq vs.toArray }) (hi:IntsAre vs ns) (hl:ns.length<=sizeLine) (hr:Room k callerA)
  (F:∀ base:Heap,K.In base->base.Ns mainGlobals mg->qjr P w K mg base CX k fa fd [x] sp) (hbind:∀ (s:Shared) (u:Value),BindsTo s fd ⟨[u],[]⟩ [(x,u)])
  (hsp:∀ H:Hp,qDw H->SqL K H a (ns.map V.int)->sp [.ref a] H (λv _=>v=.bl true) λ_ _ _=>False)
  (hCX:∀ H e s',CX [] H s₁ (λ_ _ _=>False) e s'->False) :
  codeAny (model P w) callerA (.call (.ref fa) ⟨[.ref a],[]⟩) (λr s'=>r=.ok (.ret (.bool true))/\OldK s₁.heap s'.heap/\s'.os=s₁.os/\AllBare s'.gens) s₁:=by
 have rv:=qid hi;have lenV:=hi.length;have core:∀ H:Hp,qDw H->SqL K H a (ns.map V.int)->HOk P w H s₁.heap->(∀ b,H b≠none->b=a)->(H a≠none->K.lookup a=none) ->
   codeAny (model P w) callerA (.call (.ref fa) ⟨[.ref a],[]⟩) (λr s'=>r=.ok (.ret (.bool true))/\OldK s₁.heap s'.heap/\s'.os=s₁.os/\AllBare s'.gens) s₁:=by
  intro H hO hS hok hA hK;have base_of:∀ {b:Addr} {o:Obj},s₁.heap.get? b=some o->H b=none->(qu6 s₁.heap H).get? b=some o:=λe n=>qu7 e n
  have noA:∀ {b:Addr} {o:Obj} {es:Array DictEntry} {ep:Nat},s₁.heap.get? b=some o->o.data=.dict es ep->H b=none:=fun {b o es ep} e d=>by
   cases q:H b with
   | none=>rfl
   | some u =>
    have e':b=a:=hA b (by rw[q];simp);subst e';rw[ha] at e;cases e;have d':Data.seq vs.toArray _=Data.dict es ep:=d
    cases d'
  have nsK:∀ {b:Addr} {m:Str->Option Value},s₁.heap.Ns b m->(qu6 s₁.heap H).Ns b m:=fun {b m} ⟨o,es,ep,e,d,r⟩=>⟨o,es,ep,base_of e (noA e d),d,r⟩
  have hKb:K.In (qu6 s₁.heap H):=λb o e=>base_of (KX b o e) (by
   cases q:H b with
   | none=>rfl
   | some u =>
    have e':b=a:=hA b (by rw[q];simp);subst e';rw[hK (by rw[q];simp)] at e;cases e)
  have hM:Mod K mg (qu6 s₁.heap H):=⟨hKb,nsK hns,⟨mb,nsK hb,hbb⟩,let ⟨mc,h1,h2⟩:=hlim;⟨mc,nsK h1,h2⟩⟩;have e0:Env0 P w K mg (qu6 s₁.heap H) callerA [] s₁ H:=⟨rfl,hM,λb o e=>qx9 e,DX (qry _ _),trivial,λb hb=>absurd (show b∈([]:List Addr) from hb) (by simp),hok,.of_eq hg⟩;refine CH ((F _ hKb (nsK hns)).run callerA [] s₁ H ⟨[.ref a],[]⟩ [.ref a] [.ref a] _ _ hr e0 (hbind s₁ (.ref a)) (.cons rfl .nil) (hsp H hO hS)) λr s' h=>?_
  cases r with
  | error e=>exact (hCX H e s' h).elim
  | ok fl =>
   cases fl with
   | next=>exact False.elim h
   | brk=>exact False.elim h
   | cont=>exact False.elim h
   | ret u =>
    obtain ⟨v,H',os,bare,un,hok',r',q⟩:=h;have q':v=.bl true:=q;subst q';obtain rfl:u=Value.bool true:=r';refine ⟨rfl,OldK.of_keep λb o e=>?_,os,bare⟩
    cases q:H b with
    | none=>exact un.keep b o e q (by intro z;exact absurd (show b∈([]:List Addr) from z) (by simp)) (by simp)
    | some u =>
     rcases hO b with z|⟨ob,xs,z⟩
     ·rw[q] at z;cases z
     ·have z2:=un.frzs b ob _ z
      obtain ⟨e1,_⟩:=hok b _ z;obtain ⟨e2,_⟩:=hok' b _ z2;rw[e] at e1;cases e1;exact e2
 cases hk:K.lookup a with
 | some o =>
  have e:=KX a o hk;rw[ha] at e;cases e;refine core (λ_=>none) (λ_=>.inl rfl) (.inr ⟨_,vs.toArray,_,hk,rfl,rfl,rfl,by rw[AJ,lenV];exact hl,by simpa using rv⟩) (λb u z=>by have z':(none:Option HO)=some u:=z;cases z') (λb z=>absurd rfl z) λz=>absurd rfl z
 | none =>
  refine core (λb=>if b=a then some (.frz { cls:=.type "list",data:=.seq vs.toArray } (.lst (ns.map V.int))) else none) (λb=>?_) (.inl (.inr ⟨{ cls:=.type "list",data:=.seq vs.toArray },Au rfl⟩)) (λb u z=>?_) (λb z=>?_) λ_=>hk
  ·by_cases hb:b=a
   ·exact .inr ⟨_,_,Au hb⟩
   ·exact .inl (Al hb)
  ·by_cases hb:b=a
   ·have z':=(Au hb).symm.trans z
    cases z'
    subst hb;exact ⟨ha,by rw[Aa];exact hl,vs,_,rv,ha⟩
   ·have z':=(Al hb).symm.trans z
    cases z'
  ·by_cases hb:b=a
   ·exact hb
   ·exact absurd (Al hb) z
open PySem PySem.Spec PyProof.Rows
abbrev KOf {K:Frag} {h:Heap} (_:K.In h):Frag:=K
theorem qyt {l:PySem.W.OpenLaw} {n:Nat} {q:Program} {loose:List Str} {XP:(Str->Option Value)->Heap->Prop} {YP:World->Heap->Prop} {d:DefRec} {K:Params->Frag} {CX:World->CXT} {sp:World->Sp} 
  (hn:l.most=some n) (hn2:n<=sizeLine) (hdf:d.params.defaults=[]) (hr:Room k callerA)
  (hY:∀ (w:World) (h:Heap),YP w h->(K w.params).In h)
  (F:∀ (w:World) (mg:Str->Option Value) (fa:Addr) (h:Heap),(K w.params).In h->h.Ns mainGlobals mg->mg d.name=some (.ref fa) ->
   ∃ fd:FuncData,(∀ (s:Shared) (u:Value),BindsTo s fd ⟨[u],[]⟩ [(x,u)]) /\
    ∀ base:Heap,(K w.params).In base->base.Ns mainGlobals mg->qjr l.prog w (K w.params) mg base (CX w) k fa fd [x] (sp w))
  (hsp:∀ (w:World) (H:Hp) (a:Addr) (ns:List Int),ns.length<=n->qDw H->SqL (K w.params) H a (ns.map V.int)->sp w [.ref a] H (λv _=>v=.bl true) λ_ _ _=>False)
  (hCX:∀ (w:World) (H:Hp) (s:Shared) (e:Value) (s':Shared),CX w [] H s (λ_ _ _=>False) e s'->False) :
  PySem.W.WalkO q loose XP YP l.row.toRowW d [] (λf vs=>PySem.call f vs):=by
 refine Att.attach_call hn hdf λw s₀ s₁ mg mb fa o pm cd doc a vs ns G Y ho hd hcd hmg hobj hints hlen hg=>?_
 have KX:=hY w _ Y;obtain ⟨fd,hb,hF⟩:=F w mg fa _ KX G.T.g hmg;exact qvj KX G.T.g G.T.b G.T.builtins G.T.nolimit hg hobj hints (AL hlen hn2) hr hF hb (λH hO hS=>hsp w H a ns hlen hO hS) λH e s'=>hCX w H s₁ e s'
open PySem PySem.Spec PyProof.Rows
def inClass (s:Stmt) (j:Nat):Stmt:=match s with
 | .ClassDef _ _ _ body _ _ _ _ _ _ _=>body.getD j (.Pass ⟨0,0,0,0⟩)
 | _=>.Pass ⟨0,0,0,0⟩
def qc5 (s:Stmt):Arguments:=match s with
 | .FunctionDef _ a _ _ _ _ _ _ _ _=>a
 | _=>{ posonlyargs:=[],args:=[],vararg:=none,kwonlyargs:=[],kw_defaults:=[],kwarg:=none,defaults:=[] }
def qcd (s:Stmt):List Stmt:=match s with
 | .FunctionDef _ _ b _ _ _ _ _ _ _=>b
 | _=>[]
def qab (s:Stmt):Scope:=match s with
 | .FunctionDef _ _ _ _ _ _ sc _ _ _=>sc
 | _=>{ kind:=.function,names:=[],isGenerator:=false,isCoroutine:=false }
abbrev CX0:CXT:=λ_ _ _ _ _ _=>False
abbrev E0:XK:=λ_ _ _=>False
theorem qsp {X:Cx}:qj1 CX0 X E0:=λ_ _ _ _ _ _ _ h=>h.elim
structure Fun (K:Frag) (x qual:Str) (st:Stmt) (f:Addr) (fd:FuncData):Prop where
 ex:∃ (oc:Value) (od:Option Addr) (kV doc pm:Value) (an:Option Addr) (cdv ct:Value) (osl:Array (Option Value)),
  fd=fnOf x qual (qc5 st) (qcd st) (qab st) .none kV doc pm an cdv ct/\K.lookup f=some ⟨oc,od,.func fd,osl⟩/\codeIn K cdv qual=true
 kp:keepIn K (.ref f)=true
section
variable {P:Program} {w:World} {K:Frag} {mg:Str->Option Value} {base:Heap}
theorem Fun.ok {st:Stmt} {fd:FuncData} (F:Fun K x qual st f fd) (S:qaf N ps (qab st)) (len:∀ vs H Q E,sp vs H Q E->vs.length=ps.length)
  (hbody:∀ (cdv:Value) (A:Around) (outer:List Env) (s:Shared) (H:Hp) (vs:List V) (Q:VK) (E:XK),Room k (A.deeper (envOfC qual (qab st) s.heap.objs.size f cdv))->sp vs H Q E ->
   ∃ t,PSs (qrr CX0 P w K mg base N qual (qab st) f cdv A outer s H E).nox (qcd st) t/\t { nx:=λ_ H'=>Q .non H',rt:=Q } (start N vs) H):qjr P w K mg base CX0 (k+1) f fd ps sp:=by
 obtain ⟨oc,od,kV,doc,pm,an,cdv,ct,osl,rfl,lk,hcd⟩:=F.ex;refine qym lk hcd S len λA outer s H vs Q E hr hsp=>?_
 obtain ⟨t,h,q⟩:=hbody cdv A outer s H vs Q E hr hsp;exact ⟨t,h.nox,q⟩
theorem Fun.binds {st:Stmt} {fd:FuncData} (F:Fun K x qual st f fd)
  (h:∀ (kV doc pm:Value) (an:Option Addr) (cdv ct:Value) (us:List Value),us.length=ps.length->bindArgs (fnOf x qual (qc5 st) (qcd st) (qab st) .none kV doc pm an cdv ct) ⟨us,[]⟩=pure (ps.zip us)):Binds K fd ps []:=by
 obtain ⟨oc,od,kV,doc,pm,an,cdv,ct,osl,rfl,lk,hcd⟩:=F.ex;exact .all (h kV doc pm an cdv ct)
theorem qsq {st:Stmt} {oc:Value} {od an:Option Addr} {osl:Array (Option Value)} {kV doc pm cdv ct:Value} (l:K.lookup f=some ⟨oc,od,.func (fnOf x qual (qc5 st) (qcd st) (qab st) .none kV doc pm an cdv ct),osl⟩)
  (c:codeIn K cdv qual=true) (k:keepIn K (.ref f)=true):Fun K x qual st f (fnOf x qual (qc5 st) (qcd st) (qab st) .none kV doc pm an cdv ct):=⟨⟨oc,od,kV,doc,pm,an,cdv,ct,osl,rfl,l,c⟩,k⟩
end
theorem qhn {A:Around} (hr:Room k A):A.units+1<cLine:=C1 (Nat.add_le_add_left (by decide:1<=64) _) hr.units
theorem qai {n:Nat} (h:n<=1000):n<sizeLine:=C1 h (by decide)
section
variable {X:Cx}
theorem pv (i:Nat) {pos:Pos} (hN:X.N[i]?=some x:=by rfl) (hv:Vis X.env.scope x:=by first|exact Or.inl rfl|exact Or.inr (Or.inl rfl)|exact Or.inr (Or.inr rfl)) (hd:(x == ("__debug__" : Str))=false:=by decide)
  (hcd:(x == ("__classdict__" : Str))=false:=by decide):PE X (.Name x pos) (qE1 i):=qAo hN hv hd hcd
end
theorem qd7 {A B:Prop} (h:B):if false=true then A else B:=by
 rw[Al AA];exact h
theorem qdk {A B:Prop} (h:A):if true=true then A else B:=by
 rw[Au rfl];exact h
theorem qb3 {c A B:Prop} [Decidable c] (h1:c->A) (h2:¬ c->B):if c then A else B:=by
 by_cases h:c
 ·rw[Au h]
  exact h1 h
 ·rw[Al h]
  exact h2 h
theorem qA7 {c A B:Prop} [Decidable c] (hc:c) (h:B):if (!decide c)=true then A else B:=by
 rw[AD hc];exact qd7 h
def Same (H H':Hp):Prop:=∀ b o,H b=some o->H' b=some o
theorem Same.refl (H:Hp):Same H H:=λ_ _ h=>h
theorem Same.trans {H1 H2:Hp} (a:Same H H1) (b:Same H1 H2):Same H H2:=λc o h=>b c o (a c o h)
theorem Same.free (e:Same H H') (h:H' l=Option.none):H l=Option.none:=by
 cases q:H l with
 | none=>rfl
 | some o =>
  rw[e l o q] at h;cases h
section
variable {κ:Type} [DecidableEq κ]
end
end L2
set_option maxHeartbeats 4000000
namespace L2
open PySem PySem.Spec PyProof.Rows
variable {xs:List V}{us vs:List Value}{H H':Hp}{o:HO}{h:Heap}{t' i k ek ep:Nat}{it C f l d:Addr}{N ps:List Str}{j:Int}{x qual:Str}{E Q:Value->Shared->Prop}{u:Value}{e e1 e2:Expr}{σ:St}{y:V}{D:Ends}{tc:TT}{te:TE}{g:TG}{p epos:Pos}{sp:Sp}{ks:List (List Int)}{t1 t2 t3 t4 t5:TS}
section
variable {X:Cx}
theorem qA8:(10:Nat) ^ 100<2 ^ 400:=by decide +kernel
theorem qpb (h:j.natAbs<10 ^ 100):j.natAbs.log2<400:=by
 by_cases h0:j.natAbs=0
 ·rw[h0];decide +kernel
 ·exact (Nat.log2_lt h0).mpr (Du h qA8)
def qDx (_ j:Int):Prop:=0<j/\j<10 ^ 100
theorem qdb:OpR X (binaryOp .FloorDiv) (rI qDx λi j=>.int (i / j)):=opI λi j _ _ _ _ _ hc q=>by
 have h1:(0:Int)<j:=hc.1;have h2:j<10 ^ 100:=hc.2;have h3:j.natAbs<10 ^ 100:=by ext
 exact E5 (by ext) (by rw[C6 i (by ext)];exact q) (.inl (EJ (Du (qpb h3) (by decide))))
def CMulB (i j:Int):Prop:=(-(10 ^ 100)<i/\i<10 ^ 100)/\(-(10 ^ 100)<j/\j<10 ^ 100)
theorem qpc (h:j.natAbs<10 ^ 100):Builtin.Int.intBits j<=400:=by
 unfold Builtin.Int.intBits
 split
 ·exact Bw _
 ·have:=qpb h
  ext
theorem CMulB.ok {i:Int} (h:CMulB i j):IntMulOk i j:=by
 obtain ⟨⟨h1,h2⟩,h3,h4⟩:=h;have e1:=qpc (j:=i) (by ext);have e2:=qpc (j:=j) (by ext);have e3:Builtin.Int.intTooBig (Builtin.Int.intBits i+Builtin.Int.intBits j)=false:=by
  unfold Builtin.Int.intTooBig;rw[Az];have:(bitsLine:Int)=134217728:=by decide +kernel
  ext
 unfold IntMulOk;rw[e3]
 simp
theorem qbp:OpR X (binaryOp .Mult) (rI CMulB λi j=>.int (i*j)):=opI λ_ _ _ _ _ _ _ hc q=>mul_int q hc.ok
end
section
variable {X:Cx}
theorem qd2:CallR X (.builtin "isinstance") (λxs H Q=>∃ x T t b,xs=[x,.ty T]/\TyOf X.K H x t/\PySem.W.kitOne X.K t (.type T)=some b/\Q (.bl b) H):=by
 intro pins s σ H xs us Q I r h;obtain ⟨x,T,t,b,rfl,ty,e,q⟩:=h;obtain ⟨u,w',rfl,ru,rw'⟩:=vals2 r
 cases (show w'=Value.type T from rw')
 exact qsc I ru ty e λtk=>⟨.bl b,H,I.tok tk,rfl,q⟩
end
mutual
inductive Rep (K:Frag) (H:Hp):V->PyData->Prop where
 | non:Rep K H .non .none
 | bl (b:Bool):Rep K H (.bl b) (.bool b)
 | int (i:Int):Rep K H (.int i) (.int i)
 | str (x:Str):Rep K H (.str x) (.str x)
 | lst {a:Addr} {xs:List V} {ds:List PyData}:SqL K H a xs->qyu K H xs ds->Rep K H (.ref a) (.list ds)
 | tup {a:Addr} {xs:List V} {ds:List PyData}:SqT K H a xs->qyu K H xs ds->Rep K H (.ref a) (.tuple ds)
inductive qyu (K:Frag) (H:Hp):List V->List PyData->Prop where
 | nil:qyu K H [] []
 | cons {v:V} {vs:List V} {d:PyData} {ds:List PyData}:Rep K H v d->qyu K H vs ds->qyu K H (v :: vs) (d :: ds)
end
section
variable {X:Cx} {pins:List (Addr×Obj)} {σ:St} {H:Hp} {s:Shared}
mutual
theorem qee (I:Inv X pins σ H s):∀ (d:PyData) (v:V) (u:Value),Rep X.K H v d->RelV v u->∃ as,Reads s.heap u d as
 | .none,v,u,r,q=>by cases r;cases (show u=Value.none from q);exact ⟨_,.none⟩
 | .bool b,v,u,r,q=>by cases r;cases (show u=Value.bool b from q);exact ⟨_,.bool b⟩
 | .int i,v,u,r,q=>by cases r;obtain ⟨t,e⟩:=(show ∃ t,u=Value.int i t from q);cases e;exact ⟨_,.int i t⟩
 | .str x,v,u,r,q=>by cases r;obtain ⟨t,e⟩:=(show ∃ t,u=Value.str x t from q);cases e;exact ⟨_,.str x t⟩
 | .list ds,v,u,r,q=>by
  cases r with
  | @lst a xs _ hq rs =>
   cases (show u=Value.ref a from q)
   obtain ⟨its,rv,⟨o,n,e,c,_,d⟩,hz⟩:=I.list hq;obtain ⟨as,ra⟩:=qgl I ds xs its rs rv;exact ⟨_,.list e c d (by simpa using ra)⟩
 | .tuple ds,v,u,r,q=>by
  cases r with
  | @tup a xs _ hq rs =>
   cases (show u=Value.ref a from q)
   obtain ⟨its,rv,⟨o,e,c,n,d⟩,hz⟩:=I.tuple hq;obtain ⟨as,ra⟩:=qgl I ds xs its rs rv;exact ⟨_,.tuple e c d (by simpa using ra)⟩
 | .dict _,v,u,r,q=>by cases r
theorem qgl (I:Inv X pins σ H s):∀ (ds:List PyData) (vs:List V) (us:List Value),qyu X.K H vs ds->Vals vs us->∃ as,ReadsAll s.heap us ds as
 | [],vs,us,r,q=>by cases r;cases q;exact ⟨_,.nil⟩
 | d :: ds,vs,us,r,q=>by
  cases r with
  | cons r1 r2 =>
   cases q with
   | cons q1 q2 =>
    obtain ⟨as,a1⟩:=qee I d _ _ r1 q1;obtain ⟨bs,a2⟩:=qgl I ds _ _ r2 q2;exact ⟨_,.cons a1 a2⟩
end
end
def qE5 (K:Frag) (neg:Bool):R2:=λx y H Q=>∃ d e,Rep K H x d/\Rep K H y e/\d.canLay0=true/\e.canLay0=true/\d.depth<=20/\Q (.bl (if neg then !PyData.eqv d e else PyData.eqv d e)) H
section
variable {X:Cx}
theorem qA9 (hu:X.A.units+64<cLine):OpR X (compareOp .Eq) (qE5 X.K false):=by
 intro pins s σ H x y v u Q I rx ry h;obtain ⟨d,e,rd,re,cd,ce,hd,q⟩:=h;obtain ⟨as,ra⟩:=qee I d x v rd rx;obtain ⟨bs,rb⟩:=qee I e y u re ry;have hm:min d.depth e.depth<=d.depth:=Nat.min_le_left _ _;exact SeqAt.compareEq_reads ra rb cd ce (by ext) ⟨.bl _,H,I,rfl,q⟩
theorem qBa (hu:X.A.units+64<cLine):OpR X (compareOp .NotEq) (qE5 X.K true):=by
 intro pins s σ H x y v u Q I rx ry h;obtain ⟨d,e,rd,re,cd,ce,hd,q⟩:=h;obtain ⟨as,ra⟩:=qee I d x v rd rx;obtain ⟨bs,rb⟩:=qee I e y u re ry;have hm:min d.depth e.depth<=d.depth:=Nat.min_le_left _ _;exact SeqAt.rcNeAt_reads ra rb cd ce (by ext) X.prog X.w X.xe _ ⟨.bl _,H,I,rfl,q⟩
end
section
variable {X:Cx} {pins:List (Addr×Obj)} {σ:St} {H:Hp} {s:Shared} {h':Heap}
theorem Inv.turnedLaid {ch:List Addr} {a:Addr} (I:Inv X pins σ H s) (hf:∀ b∈ch,qqv X pins H b) (k:∀ b u,b ∉ ch->s.heap.get? b=some u->h'.get? b=some u)
  (hp:s.heap.objs.size<=a) (new:ObjOk X.prog X.w (upd H a o) h' a o):Inv X pins σ (upd H a o) { s with heap:=h',toks:=t' }:=by
 have hna:H a=none:=I.hok.fresh hp;have nch:∀ b u,H b=some u->b ∉ ch:=λb u e z=>by rw[(hf b z).1] at e;cases e
 have nea:∀ b u,s.heap.get? b=some u->b≠a:=λb u e z=>absurd (AY (Aq e) (by rw[z];exact hp)) (BJ _)
 refine I.step (g':=s.gens) (d':=s.drawn) (ch:=ch) (λb hb=>⟨(hf b hb).2.2.2.1,(hf b hb).2.1,(hf b hb).2.2.2.2.1,(hf b hb).2.2.2.2.2⟩) (λb o _ _ hc e _=>k b o hc e) (λb o _ _ hc e _=>⟨o.slots,k b o hc e⟩)
  (λb o hc e n=>by rw[qas (nea b o e)];exact n) (λb o hc e=>⟨o,k b o hc e⟩) (λb xs e=>by rw[qas (qae e hna)];exact e) (λb o u e=>by rw[qas (qae e hna)];exact e)
  (λb ps e=>⟨#[],by rw[qas (qae e hna),e];simp⟩) (λm hm=>?_) (λb u e=>?_) I.bare
 ·obtain ⟨o,es,ep,ho,r⟩:=hm
  exact ⟨o,es,ep,k _ o (λz=>(hf _ z).2.1 rfl) ho,r⟩
 ·by_cases hb:b=a
  ·subst hb;rw[qa5] at e;cases e;exact new
  ·rw[qas hb] at e
   refine (I.hok b u e).stay (λc v hc q=>k c v ?_ q) (λc q=>by rw[qas (qae q hna)];exact q) λc xs q=>by rw[qas (qae q hna)];exact q
   rcases hc with z|z
   ·rw[z];exact nch b u e
   ·exact nch c _ z
theorem Inv.turnedL {ch:List Addr} (I:Inv X pins σ H s) (hf:∀ b∈ch,qqv X pins H b) (k:∀ b u,b ∉ ch->s.heap.get? b=some u->h'.get? b=some u):Inv X pins σ H { s with heap:=h',toks:=t' }:=by
 have nch:∀ b u,H b=some u->b ∉ ch:=λb u e z=>by rw[(hf b z).1] at e;cases e
 refine I.step (g':=s.gens) (d':=s.drawn) (ch:=ch) (λb hb=>⟨(hf b hb).2.2.2.1,(hf b hb).2.1,(hf b hb).2.2.2.2.1,(hf b hb).2.2.2.2.2⟩) (λb o _ _ hc e _=>k b o hc e) (λb o _ _ hc e _=>⟨o.slots,k b o hc e⟩)
  (λ_ _ _ _ n=>n) (λb o hc e=>⟨o,k b o hc e⟩) (λ_ _ e=>e) (λ_ _ _ e=>e) (λb ps e=>⟨#[],by rw[e];simp⟩) (λm hm=>?_) (λb u e=>?_) I.bare
 ·obtain ⟨o,es,ep,ho,r⟩:=hm
  exact ⟨o,es,ep,k _ o (λz=>(hf _ z).2.1 rfl) ho,r⟩
 ·refine (I.hok b u e).stay (λc v hc q=>k c v ?_ q) (λ_ q=>q) λ_ _ q=>q
  rcases hc with z|z
  ·rw[z];exact nch b u e
  ·exact nch c _ z
end
def Itz (K:Frag) (a b:Addr):It:=
 ⟨λi H=>∃ xs ys x y,SqL K H a xs/\SqL K H b ys/\xs[i]?=some x/\ys[i]?=some y,
   λi H v H'=>∃ p,v=.ref p/\H p=none/\∀ xs ys x y,SqL K H a xs->SqL K H b ys->xs[i]?=some x->ys[i]?=some y->H'=upd H p (.tup [x,y]),
   λi H=>∃ xs ys,SqL K H a xs/\SqL K H b ys/\(xs.length<=i\/ys.length<=i)⟩
theorem qa9 {a b:Addr} {o u:Obj} (e:h.get? a=some o) (e':h.get? b=some u) (d:o.cls≠u.cls):a≠b:=λz=>by
 subst z;rw[e] at e';exact d (congrArg Obj.cls (Ax e'))
theorem qDa:Value.type "tuple" ≠ Value.type "zip" :=by decide
theorem qDb:Value.type "list_iterator" ≠ Value.type "zip" :=by decide
theorem qw5:Value.type "tuple" ≠ Value.type "list_iterator" :=by decide
theorem qDc:Value.type "list" ≠ Value.type "zip" :=by decide
theorem qDd:Value.type "list" ≠ Value.type "tuple" :=by decide
theorem qw6:Value.type "list" ≠ Value.type "list_iterator" :=by decide
theorem qvk {P:Program} {w:World} {K:Frag} {elts:List Expr} (a b z TI TO i1 i2:Addr) (d1:TI≠TO) (d2:i1≠i2) :
  Turn P w K (.Tuple elts ek epos) (Itz K a b) [z,TI,TO,i1,i2] z (λi h=>IsZip h z TI TO .none/\IsPair h TI (.ref i1) (.ref i2)/\(∃ x y,IsPair h TO x y)/\h.IsListIter i1 a i/\h.IsListIter i2 b i) where
 mem:=by simp
 obj:=λi h st c hc=>by
  obtain ⟨hz,hTI,⟨x,y,hTO⟩,⟨o1,e1,c1,f1⟩,⟨o2,e2,c2,f2⟩⟩:=st;simp only[Av,Bo,Ce] at hc
  rcases hc with rfl|rfl|rfl|rfl|rfl
  ·exact ⟨_,hz,λv q=>by have q':Data.fields _=Data.cell v:=q;cases q'⟩
  ·exact ⟨_,hTI,λv q=>by have q':Data.seq _ _=Data.cell v:=q;cases q'⟩
  ·exact ⟨_,hTO,λv q=>by have q':Data.seq _ _=Data.cell v:=q;cases q'⟩
  ·exact ⟨_,e1,λv q=>by rw[f1] at q;cases q⟩
  ·exact ⟨_,e2,λv q=>by rw[f2] at q;cases q⟩
 keep:=λi h h' st k=>by
  obtain ⟨hz,hTI,⟨x,y,hTO⟩,h1,h2⟩:=st;exact ⟨k z (by simp) _ hz,k TI (by simp) _ hTI,⟨x,y,k TO (by simp) _ hTO⟩,h1.at λo e=>k i1 (by simp) o e,h2.at λo e=>k i2 (by simp) o e⟩
 item:=by
  intro X hP hw hK hc i pins s σ H E I hf st hg;subst hP hw hK;obtain ⟨xs,ys,x,y,qa,qb,hx,hy⟩:=hg;obtain ⟨hz,hTI,⟨x0,y0,hTO⟩,h1,h2⟩:=st;obtain ⟨itsA,rA,pA,zA⟩:=I.list qa;obtain ⟨itsB,rB,pB,zB⟩:=I.list qb;obtain ⟨u,hu,ru⟩:=rA.get hx;obtain ⟨u',hu',ru'⟩:=rB.get hy;have D:ZipApart z TI TO i1 i2 a b:=by
   obtain ⟨o1,e1,c1,f1⟩:=id h1;obtain ⟨o2,e2,c2,f2⟩:=id h2;obtain ⟨oa,na,ea,ca,_,fa⟩:=id pA;obtain ⟨ob,nb,eb,cb,_,fb⟩:=id pB;exact ⟨qa9 hTI hz qDa,qa9 hTO hz qDa,qa9 e1 hz (by rw[c1];exact qDb),qa9 e2 hz (by rw[c2];exact qDb),d1,qa9 hTI e1 (by rw[c1];exact qw5),qa9 hTI e2 (by rw[c2];exact qw5),
    qa9 hTO e1 (by rw[c1];exact qw5),qa9 hTO e2 (by rw[c2];exact qw5),d2,qa9 ea hz (by rw[ca];exact qDc),qa9 ea hTO (by rw[ca];exact qDd),qa9 ea e1 (by rw[ca,c1];exact qw6),qa9 ea e2 (by rw[ca,c2];exact qw6),
    qa9 eb hz (by rw[cb];exact qDc),qa9 eb hTO (by rw[cb];exact qDd),qa9 eb e1 (by rw[cb,c1];exact qw6),qa9 eb e2 (by rw[cb,c2];exact qw6)⟩
  refine wpAny_pyNext_zip_item D hz hTI hTO h1 h2 pA.isList pB.isList (x:=u) (y:=u') (by simpa using hu) (by simpa using hu') λh' a1 a2 a3 a4 a5 a6 hk=>?_
  refine ⟨.ref s.heap.objs.size,rfl,wpAny_letOwnedTupleGo_zip a1 λh'' hz'' sb=>?_⟩;have lz:z<s.heap.objs.size:=Aq hz;have nz:s.heap.objs.size≠z:=CI lz;have k2:∀ c o,c ∉ [z,TI,TO,i1,i2]->s.heap.get? c=some o->h''.get? c=some o:=λc o hc e=>by
   simp only[Av,Bo,Ce,not_or] at hc;exact sb.extBut _ _ hc.1 (hk c o hc.1 hc.2.2.1 hc.2.2.2.1 hc.2.2.2.2 e)
  have T2:IsPair h'' s.heap.objs.size u u':=sb.extBut _ _ nz a5;refine ⟨.ref s.heap.objs.size,upd H s.heap.objs.size (.tup [x,y]),I.turnedLaid (t':=s.toks) (ch:=[z,TI,TO,i1,i2]) hf k2 (Ak _) ⟨by show 2<=sizeLine;decide,[u,u'],.cons ru (.cons ru' .nil),_,T2,rfl,_,rfl⟩,rfl,⟨_,rfl,I.hok.fresh (Ak _),λxs' ys' x' y' qa' qb' hx' hy'=>?_⟩,⟨hz'',sb.extBut _ _ D.TIz (hk _ _ D.TIz D.TITO D.TIi1 D.TIi2 hTI),⟨_,_,sb.extBut _ _ D.TOz a2⟩,a3.extBut sb.extBut D.i1z,a4.extBut sb.extBut D.i2z⟩,λb hb=>?_⟩
  ·rw[I.list_inj qa' qa,hx] at hx'
   rw[I.list_inj qb' qb,hy] at hy'
   cases hx';cases hy';rfl
  ·have e:b≠s.heap.objs.size:=λq=>by
    have:∃ o,s.heap.get? b=some o:=by
     simp only[Av,Bo,Ce] at hb;obtain ⟨o1,e1,_⟩:=id h1;obtain ⟨o2,e2,_⟩:=id h2
     rcases hb with rfl|rfl|rfl|rfl|rfl
     ·exact ⟨_,hz⟩
     ·exact ⟨_,hTI⟩
     ·exact ⟨_,hTO⟩
     ·exact ⟨_,e1⟩
     ·exact ⟨_,e2⟩
    obtain ⟨o,e⟩:=this;exact absurd (Aq e) (by rw[q];exact BJ _)
   rw[qas e];exact (hf b hb).1
 done:=by
  intro X hP hw hK hc i pins s σ H E I hf st hg;subst hP hw hK;obtain ⟨xs,ys,qa,qb,hx⟩:=hg;obtain ⟨hz,hTI,⟨x0,y0,hTO⟩,h1,h2⟩:=st;obtain ⟨itsA,rA,pA,zA⟩:=I.list qa;obtain ⟨itsB,rB,pB,zB⟩:=I.list qb;have D:ZipApart z TI TO i1 i2 a b:=by
   obtain ⟨o1,e1,c1,f1⟩:=id h1;obtain ⟨o2,e2,c2,f2⟩:=id h2;obtain ⟨oa,na,ea,ca,_,fa⟩:=id pA;obtain ⟨ob,nb,eb,cb,_,fb⟩:=id pB;exact ⟨qa9 hTI hz qDa,qa9 hTO hz qDa,qa9 e1 hz (by rw[c1];exact qDb),qa9 e2 hz (by rw[c2];exact qDb),d1,qa9 hTI e1 (by rw[c1];exact qw5),qa9 hTI e2 (by rw[c2];exact qw5),
    qa9 hTO e1 (by rw[c1];exact qw5),qa9 hTO e2 (by rw[c2];exact qw5),d2,qa9 ea hz (by rw[ca];exact qDc),qa9 ea hTO (by rw[ca];exact qDd),qa9 ea e1 (by rw[ca,c1];exact qw6),qa9 ea e2 (by rw[ca,c2];exact qw6),
    qa9 eb hz (by rw[cb];exact qDc),qa9 eb hTO (by rw[cb];exact qDd),qa9 eb e1 (by rw[cb,c1];exact qw6),qa9 eb e2 (by rw[cb,c2];exact qw6)⟩
  have lA:=rA.length;have lB:=rB.length;refine wpAny_pyNext_zip_end (I.ok.hd hc) D hz hTI hTO h1 h2 pA.isList pB.isList (hx.imp (λq=>by simp;ext) λq=>by simp;ext) λh' hk=>⟨rfl,I.turnedL (t':=s.toks) (ch:=[z,TI,TO,i1,i2]) hf λc o hc e=>?_⟩
  simp only[Av,Bo,Ce,not_or] at hc;exact hk c o hc.1 hc.2.2.1 hc.2.2.2.1 hc.2.2.2.2 e
 self:=λ_ _ _ _ _ st h=>wpAny_pyIter_zip st.1 h
section
variable {X:Cx}
def qFz (K:Frag) (ta:TA):TI:=λσ H R=>ta σ H λvs H1=>∃ a b xs ys,vs=[.ref a,.ref b]/\SqL K H1 a xs/\SqL K H1 b ys/\R (Itz K a b) H1
theorem qj3 {elts:List Expr} {ta:TA} {pos:Pos} (hg:Gl X "zip") (hm:X.mg "zip" = none) (ha:PA X [e1,e2] ta)
  (hs:starEach [e1,e2] X.env=[(false,eval e1 X.env),(false,eval e2 X.env)]:=by rfl) (hs2:starEach [e2] X.env=[(false,eval e2 X.env)]:=by rfl) :
  PI X (.Tuple elts ek epos) (.Call (.Name "zip" p) [e1,e2] [] pos) (qFz X.K ta):=by
 intro pins s σ H R I h;refine Call_ (qgu I hg hm (show bootBuiltins "zip" = some (.type "zip") by decide +kernel) (BI (thn (ha pos pins s σ H _ I h) λus s1 ⟨vs,H1,I1,r1,q1⟩=>?_) (by rw[hs,hs2]) (by rw[hs2];rfl)));obtain ⟨a,b,xs,ys,rfl,qa,qb,q⟩:=q1;obtain ⟨u,u',rfl,ru,ru'⟩:=vals2 r1
 cases (show u=Value.ref a from ru)
 cases (show u'=Value.ref b from ru')
 obtain ⟨itsA,rA,pA,zA⟩:=I1.list qa;obtain ⟨itsB,rB,pB,zB⟩:=I1.list qb;refine call_zip_2 pA.isList pB.isList λh' hz hTI hTO h1 h2 hsz hk=>wpAny_pyIter_zip hz ?_
 refine ⟨s1.heap.objs.size+4,_,_,_,H1,rfl,I1.kept (t':=s1.toks) hk,qvk a b _ (s1.heap.objs.size+2) (s1.heap.objs.size+3) s1.heap.objs.size (s1.heap.objs.size+1) (AH (Cn _)) (AH (Cn _)),⟨hz,hTI,⟨_,_,hTO⟩,h1,h2⟩,λc hc=>?_,q⟩;have e:s1.heap.objs.size<=c:=by
  simp only[Av,Bo,Ce] at hc
  rcases hc with rfl|rfl|rfl|rfl|rfl
  ·exact CP _ _
  ·exact CP _ _
  ·exact CP _ _
  ·exact Ak _
  ·exact CP _ _
 exact I1.fpOk e (I1.hok.fresh e)
end
theorem qyv {K:Frag} {a b:Addr} {ys:List V} {tb:TS} (Pv:Nat->St->Hp->Prop) (h0:Pv 0 σ H) (hl:∀ i σ H,Pv i σ H->SqL K H a xs/\SqL K H b ys)
  (hs:∀ i x y σ H p,xs[i]?=some x->ys[i]?=some y->H p=none->Pv i σ H->g (.ref p) σ (upd H p (.tup [x,y])) λσ2 H2=>tb { D with nx:=Pv (i+1),ct:=Pv (i+1),bk:=D.nx } σ2 H2)
  (hd:∀ i σ H,i=min xs.length ys.length->Pv i σ H->D.nx σ H) :
  ∃ W:Nat->Nat->St->Hp->Prop,(∃ m,W 0 m σ H)/\∀ i m σ H,W i m σ H ->
   ((Itz K a b).stop i H/\D.nx σ H)\/((Itz K a b).go i H/\∃ N:St->Hp->Prop,(∀ σ' H',N σ' H'->∃ m',m'<m/\W (i+1) m' σ' H')/\∀ x H',(Itz K a b).yld i H x H'->g x σ H' λσ2 H2=>tb { D with nx:=N,ct:=N,bk:=D.nx } σ2 H2):=by
 exists λi m σ H=>m=min xs.length ys.length-i/\i<=min xs.length ys.length/\Pv i σ H,⟨min xs.length ys.length,by simp,Bw _,h0⟩;rintro i m σ H ⟨rfl,hi,p⟩;obtain ⟨qa,qb⟩:=hl i σ H p
 by_cases hlt:i<min xs.length ys.length
 ·have ha:i<xs.length:=by ext
  have hb:i<ys.length:=by ext
  refine .inr ⟨⟨xs,ys,xs[i],ys[i],qa,qb,by simp[ha],by simp[hb]⟩,Pv (i+1),λσ' H' p'=>⟨min xs.length ys.length-(i+1),by ext,rfl,hlt,p'⟩,λx H' y=>?_⟩;obtain ⟨t,rfl,ht,y⟩:=y;have ea:xs[i]?=some xs[i]:=by simp[ha]
  have eb:ys[i]?=some ys[i]:=by simp[hb]
  rw[y xs ys xs[i] ys[i] qa qb ea eb];exact hs i xs[i] ys[i] σ H t ea eb ht p
 ·exact .inl ⟨⟨xs,ys,qa,qb,by ext⟩,hd i σ H (by ext) p⟩
structure FunD (K:Frag) (x qual:Str) (st:Stmt) (dV:Value) (f:Addr) (fd:FuncData):Prop where
 ex:∃ (oc:Value) (od:Option Addr) (kV doc pm:Value) (an:Option Addr) (cdv ct:Value) (osl:Array (Option Value)),
  fd=fnOf x qual (qc5 st) (qcd st) (qab st) dV kV doc pm an cdv ct/\K.lookup f=some ⟨oc,od,.func fd,osl⟩/\codeIn K cdv qual=true
 kp:keepIn K (.ref f)=true
section
variable {P:Program} {w:World} {K:Frag} {mg:Str->Option Value} {base:Heap}
theorem FunD.ok {st:Stmt} {dV:Value} {fd:FuncData} (F:FunD K x qual st dV f fd) (S:qaf N ps (qab st)) (len:∀ vs H Q E,sp vs H Q E->vs.length=ps.length)
  (hbody:∀ (cdv:Value) (A:Around) (outer:List Env) (s:Shared) (H:Hp) (vs:List V) (Q:VK) (E:XK),Room k (A.deeper (envOfC qual (qab st) s.heap.objs.size f cdv))->sp vs H Q E ->
   ∃ t,PSs (qrr CX0 P w K mg base N qual (qab st) f cdv A outer s H E).nox (qcd st) t/\t { nx:=λ_ H'=>Q .non H',rt:=Q } (start N vs) H):qjr P w K mg base CX0 (k+1) f fd ps sp:=by
 obtain ⟨oc,od,kV,doc,pm,an,cdv,ct,osl,rfl,lk,hcd⟩:=F.ex;refine qym lk hcd S len λA outer s H vs Q E hr hsp=>?_
 obtain ⟨t,h,q⟩:=hbody cdv A outer s H vs Q E hr hsp;exact ⟨t,h.nox,q⟩
theorem qn9 {fd:FuncData} {ds:List Value} {T:Addr} {o:Obj} {items:Array Value} {n:Nat} (hd:fd.defaults=.ref T) (lk:K.lookup T=some o) (hs:o.data=.seq items n)
  (h:∀ us:List Value,(us ++ ds).length=ps.length->∃ k,bindArgs fd ⟨us,[]⟩=seqItems? fd.defaults >>= k/\k (some items)=pure (ps.zip (us ++ ds))):Binds K fd ps ds:=λs us kin hl=>by
 obtain ⟨k,h1,h2⟩:=h us hl;exact .of_defaults hd (kin _ _ lk) hs h1 h2
end
def qax (P:Program) (w:World) (K:Frag) (mg:Str->Option Value) (base:Heap) (k:Nat) (x:Str) (ps:List Str) (sp:Sp):Prop:=
 ∃ f fd,qjr P w K mg base CX0 k f fd ps sp/\mg x=some (.ref f)/\keepIn K (.ref f)=true/\Binds K fd ps []
def qef (P:Program) (w:World) (K:Frag) (mg:Str->Option Value) (base:Heap) (C:Addr) (k:Nat) (m:Str) (ps:List Str) (sp:Sp):Prop:=
 ∃ f fd,qjr P w K mg base CX0 k f fd ps sp/\qw4 K C m f/\Binds K fd ps []
def qDy (P:Program) (w:World) (K:Frag) (mg:Str->Option Value) (base:Heap) (C:Addr) (k:Nat) (x:Str) (ps:List Str) (ds:List Value) (sp:Sp):Prop:=
 ∃ f fd,qjr P w K mg base CX0 k f fd ps sp/\mg x=some (.ref C)/\Mk K C f/\Binds K fd ps ds
section
variable {X:Cx} {k:Nat} {C:Addr} {ps:List Str} {sp:Sp} {dvs:List V} {ds:List Value} {x m:Str} {p pos apos:Pos} {e o:Expr} {es:List Expr} {ta:TE} {t:TA}
theorem qDz (D:qax X.prog X.w X.K X.mg X.base k x ps sp) (hr:Room k X.A) (hg:Gl X x) (ha:PA X (e :: es) t) (hdb:(x == ("__debug__" : Str))=false:=by decide)
  (he:starEach (e :: es) X.env=(false,eval e X.env) :: starEach es X.env:=by rfl) (hpl:(backTo pos (starEach es X.env)).any (·.1)=false:=by rfl):PE X (.Call (.Name x p) (e :: es) [] pos) (qyk sp [] E0 t):=by
 obtain ⟨f,fd,F,hm,hk,hb⟩:=D;exact qyl F hr hg hm hk hb .nil qsp ha hdb he hpl
end
open PySem PySem.Spec PyProof.Rows
section
variable {X:Cx} {k:Nat} {C:Addr} {ps:List Str} {sp:Sp} {x m:Str} {p pos apos:Pos} {e o:Expr} {es:List Expr} {ta:TE} {t:TA}
theorem qjs {pl:Sem Bool} (he:PE X o ta) (c:Cls X.K C) (D:qef X.prog X.w X.K X.mg X.base C k m ps sp) (hr:Room k X.A) (ha:PA X (e :: es) t)
  (hst:starEach (e :: es) X.env=(false,eval e X.env) :: starEach es X.env:=by rfl) (hpl:(backTo pos (starEach es X.env)).any (·.1)=false:=by rfl)
  (ht:eval (.Call (.Attribute o m apos) (e :: es) [] pos) X.env=(do
   let ov <- eval o X.env
   standAt apos.atName
   let (f,first) <- holding [ov] (getMethod ov m pl)
   callWith pos f first (backTo pos (starEach (e :: es) X.env)) (backToKw pos (keywordEach [] X.env))):=by rfl) :
  PE X (.Call (.Attribute o m apos) (e :: es) [] pos) (qh8 C m sp [] E0 ta t):=by
 obtain ⟨f,fd,F,hm,hb⟩:=D;exact qse (pl:=pl) he c hm F hr hb .nil qsp ha hst hpl ht
theorem qcm {pl:Sem Bool} (he:PE X o ta) (c:Cls X.K C) (D:qef X.prog X.w X.K X.mg X.base C k m ps sp) (hr:Room k X.A)
  (ht:eval (.Call (.Attribute o m apos) [] [] pos) X.env=(do
   let ov <- eval o X.env
   standAt apos.atName
   let (f,first) <- holding [ov] (getMethod ov m pl)
   callWith pos f first (backTo pos (starEach [] X.env)) (backToKw pos (keywordEach [] X.env))):=by rfl) :
  PE X (.Call (.Attribute o m apos) [] [] pos) (qh8 C m sp [] E0 ta qj0):=by
 obtain ⟨f,fd,F,hm,hb⟩:=D;exact qvd (pl:=pl) he c hm F hr hb .nil qsp ht
end
section
variable {P:Program} {w:World} {K:Frag} {mg:Str->Option Value} {base:Heap}
theorem Fun.def_ {st:Stmt} {fd:FuncData} (F:Fun K x x st f fd) (hm:mg x=some (.ref f)) (hf:qjr P w K mg base CX0 k f fd ps sp) (hb:Binds K fd ps []):qax P w K mg base k x ps sp:=
 ⟨f,fd,hf,hm,F.kp,hb⟩
end
theorem qby:bootBuiltins "len" = some (.builtin "len"):=by decide +kernel
theorem qbl:bootBuiltins "isinstance" = some (.builtin "isinstance"):=by decide +kernel
theorem qw7:bootBuiltins "abs" = some (.builtin "abs"):=by decide +kernel
theorem qe3:bootBuiltins "sum" = some (.builtin "sum"):=by decide +kernel
theorem qfl:bootBuiltins "list" = some (.type "list"):=by decide +kernel
theorem qk7:bootBuiltins "tuple" = some (.type "tuple"):=by decide +kernel
theorem qw8:bootBuiltins "int" = some (.type "int"):=by decide +kernel
theorem qsr:bootBuiltins "bool" = some (.type "bool"):=by decide +kernel
theorem qie (K:Frag):PySem.W.kitOne K (.type "int") (.type "int")=some true:=by rfl
theorem qgx (K:Frag):PySem.W.kitOne K (.type "int") (.type "bool")=some false:=by rfl
theorem qvl (K:Frag):PySem.W.kitOne K (.type "list") (.type "list")=some true:=by rfl
theorem kit_tuple (K:Frag):PySem.W.kitOne K (.type "tuple") (.type "tuple")=some true:=by rfl
theorem qfx {p:Addr} (h:H p=none):Same H (upd H p o):=λb u e=>by rw[qas (qae e h)];exact e
open PySem PySem.Spec PyProof.Rows
def blk (X:Cx) (Nc:List Str) (scope:Scope) (cl:List (Str×Addr)) (C:Addr) (s:Shared) (H:Hp) (ex:List Addr):Cx where
 prog:=X.prog
 w:=X.w
 K:=X.K
 mg:=X.mg
 base:=X.base
 A:=X.A
 N:=Nc
 s₀:=s
 H₀:=H
 env:=compEnvC scope cl C X.env
 outer:=X.stack
 stack:=X.stack
 ex:=ex
 fn:=λ_=>false
 calm:=X.calm
 pn:=[]
 xe:=λ_ _=>False
structure qw9 (X:Cx) (scope:Scope) (cl:List (Str×Addr)):Prop where
 clos:closureFor scope X.env=pure cl
 kind:scope.kind=.function
 nocell:∀ y∈scope.names,y.2≠.cell
 names:∀ y∈scope.names,y.2=.local->scope.names.lookup y.1=some .local
 sub:∀ x c,cl.lookup x=some c->X.env.cells.lookup x=some c
 has:∀ x,((relabel scope X.env).names.lookup x=some .cell\/(relabel scope X.env).names.lookup x=some .free)->∃ c,cl.lookup x=some c
def FvOk (X:Cx) (scope:Scope) (cl:List (Str×Addr)):List Str->List Nat->Prop
 | [],[]=>True
 | x :: xs,j :: js=>(X.N[j]?=some x/\(X.env.kindOf x=some .cell\/X.env.kindOf x=some .free)/\cl.lookup x=X.env.cells.lookup x /\
   ((relabel scope X.env).names.lookup x=some .cell\/(relabel scope X.env).names.lookup x=some .free))/\FvOk X scope cl xs js
 | _,_=>False
def lcσ (nv:Nat) (fv:List Nat) (σ:St):St:=List.replicate nv none ++ fv.map λj=>(σ[j]?).join
theorem FvOk.len {X:Cx} {scope:Scope} {cl:List (Str×Addr)}:∀ {xs:List Str} {js:List Nat},FvOk X scope cl xs js->xs.length=js.length
 | [],[],_=>rfl
 | _ :: _,_ :: _,h=>by simp[FvOk.len h.2]
 | [],_ :: _,h=>h.elim
 | _ :: _,[],h=>h.elim
theorem FvOk.get {X:Cx} {scope:Scope} {cl:List (Str×Addr)}:∀ {xs:List Str} {js:List Nat} {k:Nat} {x:Str} {j:Nat},FvOk X scope cl xs js->xs[k]?=some x->js[k]?=some j ->
  X.N[j]?=some x/\(X.env.kindOf x=some .cell\/X.env.kindOf x=some .free)/\cl.lookup x=X.env.cells.lookup x/\((relabel scope X.env).names.lookup x=some .cell\/(relabel scope X.env).names.lookup x=some .free)
 | [],[],_,_,_,_,e,_=>by simp at e
 | _ :: _,_ :: _,0,_,_,h,e,e'=>by simp at e e';subst e;subst e';exact h.1
 | _ :: _,_ :: _,k+1,x,j,h,e,e'=>FvOk.get (k:=k) h.2 (by simpa using e) (by simpa using e')
 | [],_ :: _,_,_,_,h,_,_=>h.elim
 | _ :: _,[],_,_,_,h,_,_=>h.elim
abbrev qao:Obj:={ cls:=.type "list",dict:=none,data:=.seq ([]:List Value).toArray }
theorem ltS {b:Addr} {o:Obj} (e:h.get? b=some o):b≠(h.push qao).objs.size:=AH (by rw[BM];exact CJ (Aq e))
theorem neS :h.objs.size≠(h.push qao).objs.size:=AH (by rw[BM];exact Cn _)
theorem leS :h.objs.size<=(h.push qao).objs.size:=by rw[BM];exact BE _
theorem neZ {b:Addr} {o:Obj} (e:h.get? b=some o):b≠h.objs.size:=AH (Aq e)
section
variable {X:Cx} {pins:List (Addr×Obj)} {σ:St} {H:Hp} {s:Shared} {scope:Scope} {cl:List (Str×Addr)} {vars frees:List Str} {fv:List Nat} {fp:List Addr}
theorem qyw {h':Heap} (I:Inv X pins σ H s) (L:qw9 X scope cl) (fo:FvOk X scope cl frees fv) (hf:∀ b∈fp,qqv X pins H b) (ho:∀ b∈fp,∃ o,s.heap.get? b=some o)
  (hns:h'.Ns (s.heap.push qao).objs.size (λ_=>none)) (hsb:∀ b o,b≠(s.heap.push qao).objs.size->(s.heap.push qao).get? b=some o->h'.get? b=some o) :
  Inv (blk X (vars ++ frees) scope cl (s.heap.push qao).objs.size { s with heap:=s.heap.push qao } H (s.heap.objs.size :: fp)) [(s.heap.objs.size,qao)] (lcσ vars.length fv σ) H { s with heap:=h',toks:=t' }:=by
 have hC:(s.heap.push qao).objs.size=s.heap.objs.size+1:=BM ..;have hlt:∀ {b:Addr} {o:Obj},s.heap.get? b=some o->b<s.heap.objs.size:=λe=>Aq e
 have old:∀ b o,s.heap.get? b=some o->h'.get? b=some o:=λb o e=>hsb b o (ltS e) (Af _ e)
 have hD:h'.get? s.heap.objs.size=some qao:=hsb _ _ neS (Ay _ rfl);have stk:∀ b∈frs X.stack,b<s.heap.objs.size/\b ∉ fp:=λb hb=>by
  rcases Av.mp (I.stkSub b hb) with z|z
  ·exact ⟨by rw[z];exact I.lt,λq=>(hf b q).2.1 z⟩
  ·refine ⟨?_,λq=>(hf b q).2.2.1 z⟩
   apply Nat.lt_of_not_le
   intro q;exact I.nofs q z
 have cellL:∀ x c,cl.lookup x=some c->c<s.heap.objs.size:=λx c e=>by
  obtain ⟨v,q⟩:=I.cell x c (L.sub x c e);exact q.lt
 refine ⟨⟨I.ok.mod,L.kind,I.ok.glob,I.ok.blt,Ak _,λx y c e1 e2=>I.ok.inj x y c (L.sub x c e1) (L.sub y c e2),λx h=>L.has x h,(λx c z=>nomatch z),I.ok.hd,I.ok.frames,.inl rfl,λb hb=>?_,λb o e=>?_,?_,λb o e hb=>?_,λb hb hq=>?_,?_,λb hb=>I.stkFree b hb⟩,
  rfl,I.bare,Un.kept λb u e=>?_,⟨_,hns,λi x v e1 e2 e3=>?_⟩,λx c e=>?_,?_,λx c e=>I.freeC x c (L.sub x c e),λp hp=>?_,I.hok.kept old,?_⟩
 ·
  refine ⟨?_,λx c e z=>?_⟩
  ·show b≠(s.heap.push qao).objs.size
   rcases Av.mp hb with z|z
   ·rw[z];exact neS
   ·obtain ⟨o,e⟩:=ho b z
    exact ltS e
  ·rcases Av.mp hb with q|q
   ·exact AH (cellL x c e) (z.trans q)
   ·exact (hf b q).2.2.2.2.1 x c (L.sub x c e) z
 ·exact ⟨Af _ (I.bs b o e).1,(I.bs b o e).2⟩
 ·exact AL (AL I.ok.bsz I.sz) leS
 ·
  rcases Av.mp hb with q|q
  ·exact neZ (I.bs b o e).1 q
  ·rcases (hf b q).2.2.2.1 with z|z
   ·exact I.ok.noex b o e z
   ·exact absurd (AY (Aq (I.ok.bs b o e).1) z) (BJ _)
 ·
  obtain ⟨h1,h2⟩:=stk b hq
  rcases Av.mp hb with q|q
  ·exact AH h1 q
  ·exact h2 q
 ·exact Heap.FunFrames.of_keeps (λb o e _=>⟨o,Af _ e,rfl⟩) I.stack
 ·exact hsb b u (AH (Aq e)) e
 ·
  obtain ⟨m,hn,hl⟩:=I.loc;have hi:vars.length<=i:=by
   apply Nat.le_of_not_lt
   intro z;rw[show lcσ vars.length fv σ=List.replicate vars.length none ++ fv.map λj=>(σ[j]?).join from rfl,Bn (by simpa using z),Ek (by simpa using z)] at e2;cases e2
  obtain ⟨k,rfl⟩:∃ k,i=vars.length+k:=⟨i-vars.length,by ext⟩;have e1':frees[k]?=some x:=by
   have e1'':(vars ++ frees)[vars.length+k]?=some x:=e1;rw[Ck (by ext)] at e1''
   simpa using e1''
  have e2':(fv.map λj=>(σ[j]?).join)[k]?=some (some v):=by
   rw[show lcσ vars.length fv σ=List.replicate vars.length none ++ fv.map λj=>(σ[j]?).join from rfl,Ck (by simp)] at e2
   simpa using e2
  rw[An] at e2';obtain ⟨j,hj,ej⟩:=Ar.mp e2';have ej':σ[j]?=some (some v):=by
   cases q:σ[j]? with
   | none=>rw[q] at ej;cases ej
   | some y=>rw[q] at ej;exact congrArg some ej
  obtain ⟨f1,f2,f3,f4⟩:=fo.get e1' hj;obtain ⟨u,ru,lk⟩:=hl j x v f1 ej' (f2.elim (λz=>.inr (.inl z)) λz=>.inr (.inr z));refine ⟨u,ru,.inr ⟨f4,?_⟩⟩
  rcases lk with ⟨z,_⟩|⟨_,c,hc,o,q,d⟩
  ·rcases f2 with y|y<;>rw[y] at z<;>cases z
  ·exact ⟨c,f3.trans hc,o,old c o q,d⟩
 ·obtain ⟨v,o,q,d⟩:=I.cell x c (L.sub x c e)
  exact ⟨v,o,old c o q,d⟩
 ·exact I.hok.fresh leS
 ·have e:p=(s.heap.objs.size,qao):=by
   have hp':p∈([]:List (Addr×Obj)) ++ [(s.heap.objs.size,qao)]:=hp
   simpa using hp'
  subst e;refine ⟨hD,I.hok.fresh (Ak _),neS,λq=>?_,λv q=>by have q':Data.seq _ _=Data.cell v:=q;cases q'⟩;exact BJ _ (stk _ q).1
 ·show (lcσ vars.length fv σ).length=(vars ++ frees).length
  simp[lcσ,fo.len]
end
def qAg (X:Cx) (ifs:List Expr) (t:TT):Prop:=
 ∀ (pins:List (Addr×Obj)) (s:Shared) (σ:St) (H:Hp) (Q:Bool->Hp->Prop),Inv X pins σ H s->t σ H Q ->
  wpAny (model X.prog X.w) X.A (forIn ifs true λc r=>if r=true then do let ok <- isTrue c X.env (eval c X.env);pure (ForInStep.yield ok) else pure (ForInStep.yield r)) (TP X pins σ Q) X.xe s
def qDe:TT:=λ_ H Q=>Q true H
theorem ql6 {Q:Bool->Hp->Prop} (h:Q true H):qDe σ H Q:=h
theorem qat {X:Cx}:qAg X [] qDe:=λ_ _ _ H _ I h=>wpAny_tests_nil ⟨H,I,h⟩
theorem qfm {X:Cx} {c:Expr} {t:TT} (h:PT X c t):qAg X [c] t:=λpins s σ H Q I q=>wpAny_tests_one (h pins s σ H Q I q)
def qeg (J:It) (Q:VK) (g:TG) (tc:TT) (te:TE) (σc:St) (H1:Hp):Prop:=∃ W:Nat->Nat->List V->Hp->Prop,(∃ m,W 0 m [] H1)/\∀ i m ys H2,W i m ys H2 ->
 (J.stop i H2/\ys.length<=sizeLine/\∀ p,H2 p=none->Q (.ref p) (upd H2 p (.lst ys))) \/
 (J.go i H2/\ys.length<sizeLine/\∃ N:List V->Hp->Prop,(∀ zs H',N zs H'->∃ m',m'<m/\W (i+1) m' zs H')/\∀ x H3,J.yld i H2 x H3->g x σc H3 λσ4 H4=>tc σ4 H4 λb H5=>if b=true then te σ4 H5 λv H6=>N (ys ++ [v]) H6 else N ys H5)
def tLC (nv:Nat) (fv:List Nat) (wi:TI) (g:TG) (tc:TT) (te:TE):TE:=λσ H Q=>wi σ H λJ H1=>qeg J Q g tc te (lcσ nv fv σ) H1
theorem qq6 {prog:Program} {w:World} {A:Around} {R:Result->Shared->Prop} {s:Shared} {elt target iter:Expr} {ifs:List Expr} {scope:Scope} {pos:Pos} {it acc:Value} {env:Env} (I:Nat->Shared->Prop)
  (turn:∀ n s,I n s->wpAny (model prog w) A (pyNext it) (λr s₁=>match r with
   | none=>R (.ok .next) s₁
   | some v=>wpAny (model prog w) A (letOwnedTupleGo target it v) (λ_ s₁'=>wpAny (model prog w) A (assign target env v) (λ_ s₂ =>
     wpAny (model prog w) A (forIn ifs true λc r=>if r=true then do let ok <- isTrue c env (eval c env);pure (ForInStep.yield ok) else pure (ForInStep.yield r)) (λok s₃ =>
      if ok=true then wpAny (model prog w) A (eval elt env) (λx s₄ =>
       wpAny (model prog w) A (call (.builtin "list.append") [acc,x]) (λ_ s₅=>∃ m,m<n/\I m s₅) (notedBy (model prog w) A env λe s'=>R (.error e) s') s₄) (notedBy (model prog w) A env λe s'=>R (.error e) s') s₃
      else ∃ m,m<n/\I m s₃) (notedBy (model prog w) A env λe s'=>R (.error e) s') s₂) (notedBy (model prog w) A env λe s'=>R (.error e) s') s₁') (notedBy (model prog w) A env λe s'=>R (.error e) s') s₁) (notedBy (model prog w) A env λe s'=>R (.error e) s') s)
  (n:Nat) (h:I n s):codeAny (model prog w) A (.compLoop (.ListComp elt [⟨target,iter,ifs,0⟩] scope pos) 0 it acc env) R s:=by
 refine codeAny_loop rfl I (λn s hI=>?_) n h
 show wpAny _ A ((compTurn (.ListComp elt [⟨target,iter,ifs,0⟩] scope pos) 0 it acc env).onRaise (λx=>do noteFrame x env;theTreesLotGoes x)) _ _ s
 refine wpAny_noted ?_;rw[compTurn_list];refine Ac (EE (Ac (Br (turn n s hI) (λr s₁ h₁=>?_) λ_ _ h'=>h')))
 cases r with
 | none=>exact Ai h₁
 | some v =>
  refine Ac (Br h₁ (λ_ s₁' h₁'=>?_) λ_ _ h'=>h');refine Ac (Br h₁' (λ_ s₂ h₂=>Ac (Br h₂ (λok s₃ h₃=>?_) λ_ _ h'=>h')) λ_ _ h'=>h')
  cases ok with
  | false=>exact Ai ⟨rfl,h₃⟩
  | true =>
   exact Ac (Ac (Br h₃ (λx s₄ h₄=>Ac (Br h₄ (λ_ s₅ h₅=>Ai (Ai ⟨rfl,h₅⟩)) λ_ _ h'=>h')) λ_ _ h'=>h'))
def qoa (nv:Nat) (g:TG):Prop:=∀ x σ H (K:St->Hp->Prop),g x σ H K->g x σ H λσ' H'=>K σ' H'/\σ'.length=σ.length/\∀ i,nv<=i->σ'[i]?=σ[i]?
theorem qbx {nv:Nat} (h:i<nv):qoa nv (qdm i):=λx σ H K q=>⟨q,by simp,λj hj=>by rw[BB (by ext)]⟩
theorem qbf {F:Frag} {nv j:Nat} (hi:i<nv) (hj:j<nv):qoa nv (qwx F 2 (qdn (qdm i) (qdn (qdm j) qww))):=λx σ H K ⟨a,xs,e,hq,hl,v,r,e1,v2,r2,e2,e3,q⟩ =>
 ⟨a,xs,e,hq,hl,v,r,e1,v2,r2,e2,e3,q,by simp,λk hk=>by rw[BB (by ext),BB (by ext)]⟩
abbrev lobj (us:List Value) (n:Nat):Obj:={ cls:=.type "list",data:=.seq us.toArray n }
theorem qyx {Y:Cx} {D:Addr} {J:It} {fp:List Addr} {tn:Nat->Heap->Prop} {Q:VK} {W:Nat->Nat->List V->Hp->Prop} {nv n0 m0:Nat} {σc:St} {s:Shared}
  {elt target iter:Expr} {ifs:List Expr} {scope:Scope} {pos:Pos} {R:Result->Shared->Prop} (hx:Y.xe=λ_ _=>False)
  (hc:Y.calm=true) (hg:PG Y target g) (hk:qoa nv g) (hi:qAg Y ifs tc) (he:PE Y elt te) (T:Turn Y.prog Y.w Y.K target J fp it tn)
  (hnv:∀ i,i<nv->∀ v,σc[i]?≠some (some v))
  (d1:D≠Y.env.locals) (d2:D∈Y.ex) (d3:D ∉ Y.fs) (d4:∀ x c,Y.env.cells.lookup x=some c->c≠D) (d5:D ∉ fp) (d6:Y.pn=[])
  (hf:∀ b∈fp,b≠Y.env.locals/\b ∉ Y.fs/\(b∈Y.ex\/Y.s₀.heap.objs.size<=b)/\(∀ x c,Y.env.cells.lookup x=some c->c≠b))
  (I0:Inv Y [(D,lobj [] n0)] σc H s) (st:tn 0 s.heap) (fr:∀ b∈fp,H b=none) (w0:W 0 m0 [] H)
  (turn:∀ i m ys H2,W i m ys H2->(J.stop i H2/\ys.length<=sizeLine/\∀ p,H2 p=none->Q (.ref p) (upd H2 p (.lst ys))) \/
   (J.go i H2/\ys.length<sizeLine/\∃ N:List V->Hp->Prop,(∀ zs H',N zs H'->∃ m',m'<m/\W (i+1) m' zs H')/\∀ x H3,J.yld i H2 x H3->g x σc H3 λσ4 H4=>tc σ4 H4 λb H5=>if b=true then te σ4 H5 λv H6=>N (ys ++ [v]) H6 else N ys H5))
  (hend:∀ ys us n H' s',Inv Y [(D,lobj us n)] σc H' s'->Vals ys us->ys.length<=sizeLine->(∀ p,H' p=none->Q (.ref p) (upd H' p (.lst ys)))->R (.ok .next) s') :
  codeAny (model Y.prog Y.w) Y.A (.compLoop (.ListComp elt [⟨target,iter,ifs,0⟩] scope pos) 0 (.ref it) (.ref D) Y.env) R s:=by
 have fpok:∀ {H':Hp} {o:Obj},(∀ b∈fp,H' b=none)->∀ b∈fp,qqv Y [(D,o)] H' b:=fun {H' o} hn b hb=>by
  obtain ⟨f1,f2,f3,f4⟩:=hf b hb;refine ⟨hn b hb,f1,f2,f3,f4,λp hp=>?_⟩;rw[d6] at hp;have e:p=(D,o):=by simpa using hp
  rw[e];exact λz=>d5 (by rw[show D=b from z];exact hb)
 refine qq6 (λn s'=>∃ i ys us k H',Inv Y [(D,lobj us k)] σc H' s'/\Vals ys us/\tn i s'.heap/\(∀ b∈fp,H' b=none)/\W i n ys H') ?_ m0 ⟨0,[],[],n0,H,I0,.nil,st,fr,w0⟩;rintro n s3 ⟨i,ys,us,k,H3,I3,rv,st3,fr3,w3⟩;have ex0:∀ {E':Value->Shared->Prop} {e:Value} {s':Shared},Y.xe e s'->E' e s':=fun {E' e s'} z=>by rw[hx] at z;exact z.elim
 rcases turn i n ys H3 w3 with ⟨stop,hz,q⟩|⟨go,hz,N,hN,step⟩
 ·refine thn (T.done Y rfl rfl rfl hc i _ s3 σc H3 _ I3 (fpok fr3) st3 stop) λr s4 hq__=>?_
  obtain ⟨hr,I4⟩:=hq__;subst hr;exact hend ys us k H3 s4 I4 rv hz q
 ·refine thn (T.item Y rfl rfl rfl hc i _ s3 σc H3 _ I3 (fpok fr3) st3 go) λr s4 hq__=>?_
  obtain ⟨u,hr,h4⟩:=hq__;subst hr;refine thn h4 λ_ s5 hq__=>?_
  obtain ⟨x,H5,I5,r5,y5,st5,fr5⟩:=hq__;have I5':=I5.pinned (fpok fr5) (T.obj _ _ st5);refine Br (hg _ s5 σc H5 x u _ I5' r5 (hk x σc H5 _ (step x H5 y5))) (λ_ s6 hq__=>?_) λ_ _ z=>ex0 z
  obtain ⟨σ6,H6,I6,q6,l6,e6⟩:=hq__;have wk:∀ (i:Nat) v,σc[i]?=some (some v)->σ6[i]?=some (some v):=λi v e=>by
   by_cases h:nv<=i
   ·rw[e6 i h];exact e
   ·exact absurd e (hnv i (by ext) v)
  have back:∀ {o:Obj} {H':Hp} {s':Shared},Inv Y ([(D,o)] ++ qlw fp s5.heap) σ6 H' s'->Inv Y [(D,o)] σc H' s'/\tn (i+1) s'.heap/\∀ b∈fp,H' b=none:=fun {o H' s'} I'=>by
   refine ⟨(I'.unpinned).weak (by rw[<- l6]) wk,T.keep _ _ _ st5 λb hb o e=>(I'.pin (b,o) (As _ (As _ (qex hb e)))).1,λb hb=>?_⟩;obtain ⟨o,e,_⟩:=T.obj _ _ st5 b hb;exact (I'.pin (b,o) (As _ (As _ (qex hb e)))).2.1
  refine Br (hi _ s6 σ6 H6 _ I6 q6) (λb s7 hq__=>?_) λ_ _ z=>ex0 z
  obtain ⟨H7,I7,q7⟩:=hq__
  cases b with
  | false =>
   obtain ⟨m',hm,w7⟩:=hN ys H7 q7;obtain ⟨I8,st8,fr8⟩:=back I7;exact ⟨m',hm,i+1,ys,us,k,H7,I8,rv,st8,fr8,w7⟩
  | true =>
   refine Br (he _ s7 σ6 H7 _ I7 q7) (λu2 s8 hq__=>?_) λ_ _ z=>ex0 z
   obtain ⟨v,H8,I8,r8,n8⟩:=hq__;obtain ⟨m',hm,w8⟩:=hN _ H8 n8;obtain ⟨I9,st9,fr9⟩:=back I8;obtain ⟨eD,nD,_,_,_⟩:=I9.pin (D,lobj us k) (by simp);have hlen:=rv.length;refine call_meets F.slot_list_append ⟨_,eD,rfl⟩ F.entry_list_append (FJ _ _) (PySem.list_append D us.toArray k u2 (by rw[AJ];ext)) ⟨eD,?_⟩;have q:=PySem.IsL.update eD (λx_1=>x_1.push u2);have eq:us.toArray.push u2=(us ++ [u2]).toArray:=by simp
   rw[eq] at q;obtain ⟨n',q⟩:∃ n',(s8.heap.update D (Obj.mapSeq λx_1=>x_1.push u2)).get? D=some (lobj (us ++ [u2]) n'):=⟨_,q⟩;have I10:Inv Y [] σc H8 s8:=I9.pins_of λp hp=>by cases hp
   have I11:Inv Y [] σc H8 { s8 with heap:=s8.heap.update D (Obj.mapSeq λx_1=>x_1.push u2),toks:=s8.toks }:=
    I10.turned (it:=D) (λb o hb e=>(BC s8.heap (Obj.mapSeq _) (BR hb)).trans e) nD d1 (.inl d2) d4 (λp hp=>by rw[d6] at hp;cases hp)
   refine ⟨m',hm,i+1,ys ++ [v],us ++ [u2],n',H8,I11.pins_of (λp hp=>?_),rv.append (.cons r8 .nil),?_,fr9,w8⟩
   ·have e:p=(D,lobj (us ++ [u2]) n'):=by simpa using hp
    subst e;exact ⟨q,nD,d1,d3,λv z=>by have z':Data.seq _ _=Data.cell v:=z;cases z'⟩
   ·refine T.keep _ _ _ st9 λb hb o e=>?_
    exact (BC s8.heap (Obj.mapSeq _) (λz=>d5 (by rw[z];exact hb))).trans e
section
variable {X:Cx} {pins:List (Addr×Obj)} {σ:St} {H:Hp} {s:Shared} {scope:Scope} {cl:List (Str×Addr)} {vars frees:List Str} {fv:List Nat} {elt target iter:Expr} {ifs:List Expr} {pos:Pos}
def qBb (X:Cx) (pins:List (Addr×Obj)) (σ:St) (Q:VK) (D C:Addr) (s':Shared):Prop:=
 ∃ (ys:List V) (H':Hp) (oC:Obj) (m:Str->Option Value),Inv X (pins ++ [(C,oC)]) σ (upd H' D (.lst ys)) s'/\s'.heap.Ns C m/\qqv X pins (upd H' D (.lst ys)) C/\Q (.ref D) (upd H' D (.lst ys))
theorem qss {J:It} {fp:List Addr} {tn:Nat->Heap->Prop} {Q:VK} {W:Nat->Nat->List V->Hp->Prop} {m0:Nat} {E2:Value->Addr->Value->Shared->Prop}
  (hc:X.calm=true) (L:qw9 X scope cl) (fo:FvOk X scope cl frees fv) (hk:qoa vars.length g)
  (hg:∀ C s H ex,PG (blk X (vars ++ frees) scope cl C s H ex) target g) (hi:∀ C s H ex,qAg (blk X (vars ++ frees) scope cl C s H ex) ifs tc) (he:∀ C s H ex,PE (blk X (vars ++ frees) scope cl C s H ex) elt te)
  (I:Inv X pins σ H s) (T:Turn X.prog X.w X.K target J fp it tn) (st:tn 0 s.heap) (hf:∀ b∈fp,qqv X pins H b) (w0:W 0 m0 [] H)
  (turn:∀ i m ys H2,W i m ys H2->(J.stop i H2/\ys.length<=sizeLine/\∀ p,H2 p=none->Q (.ref p) (upd H2 p (.lst ys))) \/
   (J.go i H2/\ys.length<sizeLine/\∃ N:List V->Hp->Prop,(∀ zs H',N zs H'->∃ m',m'<m/\W (i+1) m' zs H')/\∀ x H3,J.yld i H2 x H3->g x (lcσ vars.length fv σ) H3 λσ4 H4=>tc σ4 H4 λb H5=>if b=true then te σ4 H5 λv H6=>N (ys ++ [v]) H6 else N ys H5)) :
  wpAny (model X.prog X.w) X.A (newList []) (λacc s₃=>wpAny (model X.prog X.w) X.A (newFunctionEnv scope X.env.globals cl [] X.env.qual none .none (some X.env)) (λcenv s₄ =>
   codeAny (model X.prog X.w) X.A (.compStart (.ListComp elt [⟨target,iter,ifs,0⟩] scope pos) 0 (.ref it) acc { cenv with scope:=relabel scope X.env })
    (λr s'=>match r with|.ok _=>∃ D,acc=.ref D/\qBb X pins σ Q D cenv.locals s'|.error x=>E2 acc cenv.locals x s') s₄) E s₃) E s:=by
 have hoo:∀ b∈fp,∃ o,s.heap.get? b=some o:=λb hb=>let ⟨o,e,_⟩:=T.obj 0 _ st b hb;⟨o,e⟩
 refine Bk (wpAny_newFunctionEnv L.nocell (by intro y hy;simp at hy) (λh₁ hns hsb=>?_) L.kind);dsimp only at hns hsb ⊢;have hC:(s.heap.push qao).objs.size=s.heap.objs.size+1:=BM ..;have keep1:∀ b o,b≠(s.heap.push qao).objs.size->(s.heap.push qao).get? b=some o->h₁.get? b=some o:=λb o hb e=>hsb.extBut b o hb (Af _ e)
 have I0:Inv (blk X (vars ++ frees) scope cl (s.heap.push qao).objs.size { s with heap:=s.heap.push qao } H (s.heap.objs.size :: fp)) [(s.heap.objs.size,qao)] (lcσ vars.length fv σ) H { s with heap:=h₁,toks:=s.toks+([]:List (Str×Value)).length }:=
  qyw I L fo hf hoo (by simpa using hns) keep1
 have st1:tn 0 h₁:=T.keep 0 _ _ st λb hb o e=>keep1 b o (ltS e) (Af _ e)
 have loop:codeAny (model X.prog X.w) X.A (.compLoop (.ListComp elt [⟨target,iter,ifs,0⟩] scope pos) 0 (.ref it) (.ref s.heap.objs.size) (compEnvC scope cl (s.heap.push qao).objs.size X.env))
   (λr s'=>match r with|.ok _=>∃ D,Value.ref s.heap.objs.size=.ref D/\qBb X pins σ Q D (s.heap.push qao).objs.size s'|.error x=>E2 (.ref s.heap.objs.size) (s.heap.push qao).objs.size x s') { s with heap:=h₁,toks:=s.toks+([]:List (Str×Value)).length }:=by
  refine qyx (Y:=blk X (vars ++ frees) scope cl (s.heap.push qao).objs.size { s with heap:=s.heap.push qao } H (s.heap.objs.size :: fp)) (nv:=vars.length) (n0:=0) rfl hc (hg _ _ _ _) hk (hi _ _ _ _) (he _ _ _ _) T (λi hi v e=>?_)
   neS (by show s.heap.objs.size∈s.heap.objs.size :: fp;simp) ?_ (λx c e=>?_) (λz=>?_) rfl (λb hb=>?_) I0 st1 (λb hb=>(hf b hb).1) w0 turn ?_
  ·rw[show lcσ vars.length fv σ=List.replicate vars.length none ++ fv.map λj=>(σ[j]?).join from rfl,Bn (by simpa using hi),Ek (by simpa using hi)] at e
   cases e
  ·exact (I0.pin (s.heap.objs.size,qao) (by simp)).2.2.2.1
  ·obtain ⟨v,q⟩:=I.cell x c (L.sub x c e)
   exact AH q.lt
  ·obtain ⟨o,e⟩:=hoo _ z
   exact absurd (Aq e) (BJ _)
  ·exact ⟨(I0.ok.exf b (Ad _ hb)).1,I0.ok.exfs b (Ad _ hb),.inl (Ad _ hb),(I0.ok.exf b (Ad _ hb)).2⟩
  ·intro ys us n H' s' I' rv hz q
   obtain ⟨eD,nD,_,fD,_⟩:=I'.pin (s.heap.objs.size,lobj us n) (by simp);obtain ⟨mC,hnC,_⟩:=I'.loc;obtain ⟨oC,es,ep,eC,dC,r1,r2⟩:=id hnC;have nC:H' (s.heap.push qao).objs.size=none:=I'.free;have neDC:(s.heap.push qao).objs.size≠s.heap.objs.size:=neS.symm;have lt:∀ {b:Addr} {o:Obj},s.heap.get? b=some o->b≠s.heap.objs.size/\b≠(s.heap.push qao).objs.size:=λe=>⟨neZ e,ltS e⟩
   have nex:∀ {b:Addr} {o:Obj},s.heap.get? b=some o->b ∉ fp->b ∉ s.heap.objs.size :: fp:=λe hb z=>by
    rcases Av.mp z with z|z
    ·exact (lt e).1 z
    ·exact hb z
   have upn:∀ {b:Addr} {u:HO},H' b=some u->upd H' s.heap.objs.size (.lst ys) b=some u:=λe=>by rw[qas (qae e nD)];exact e
   have un:Un (frs X.stack) fp H (upd H' s.heap.objs.size (.lst ys)) s.heap s'.heap:=
    {keep:=λb o e n hb hx=>I'.base.keep b o (Af _ e) n hb (nex e hx)
     slot:=λb o e n hb hx=>I'.base.slot b o (Af _ e) n hb (nex e hx)
     free:=λb o e n hx=>by rw[qas (lt e).1];exact I'.base.free b o (Af _ e) n (nex e hx)
     there:=λb o e hx=>I'.base.there b o (Af _ e) (nex e hx)
     tups:=λb xs e=>upn (I'.base.tups b xs e)
     frzs:=λb o u e=>upn (I'.base.frzs b o u e)
     tbls:=λb ps e=>let ⟨more,z⟩:=I'.base.tbls b ps e;⟨more,upn z⟩ }
   have hok:HOk X.prog X.w (upd H' s.heap.objs.size (.lst ys)) s'.heap:=λb u e=>by
    by_cases hb:b=s.heap.objs.size
    ·subst hb;rw[qa5] at e;cases e
     exact ⟨hz,us,n,rv,eD⟩
    ·rw[qas hb] at e
     exact (I'.hok b u e).stay (λc v _ z=>z) (λc z=>upn z) λc xs z=>upn z
   have J1:Inv X pins σ (upd H' s.heap.objs.size (.lst ys)) s':=I.call' (ch:=fp) I'.os un hok I'.bare λb hb=>⟨(hf b hb).2.2.2.1,(hf b hb).2.1,(hf b hb).2.2.2.2.1,(hf b hb).2.2.2.2.2⟩
   have fC:qqv X pins (upd H' s.heap.objs.size (.lst ys)) (s.heap.push qao).objs.size:=I.fpOk leS (by rw[qas neDC];exact nC);refine ⟨_,rfl,ys,H',oC,mC,J1.pins_of (λp hp=>?_),hnC,fC,q _ nD⟩
   rcases AK.mp hp with z|z
   ·exact J1.pin p (As _ z)
   ·have e:p=((s.heap.push qao).objs.size,oC):=by simpa using z
    subst e;exact ⟨eC,fC.1,fC.2.1,fC.2.2.1,λv z=>by rw[dC] at z;cases z⟩
 exact codeAny_compStart_list loop (T.self _ 0 _ _ _ st1 loop)
theorem qcn {wi:TI} (hc:X.calm=true) (L:qw9 X scope cl) (fo:FvOk X scope cl frees fv) (hit:PI X target iter wi) (hk:qoa vars.length g)
  (hg:∀ C s H ex,PG (blk X (vars ++ frees) scope cl C s H ex) target g) (hi:∀ C s H ex,qAg (blk X (vars ++ frees) scope cl C s H ex) ifs tc) (he:∀ C s H ex,PE (blk X (vars ++ frees) scope cl C s H ex) elt te)
  (hs:∀ x,foldedSetIterable iter X.env x=pure x:=by intro _;rfl):PE X (.ListComp elt [⟨target,iter,ifs,0⟩] scope pos) (tLC vars.length fv wi g tc te):=by
 intro pins s σ H Q I h;rw[eval_ListComp];refine EF (use:=none) rfl hs L.clos L.kind L.names (thn (hit pins s σ H _ I h) λv s1 h1=>thn h1 λitv s2 h2=>?_);obtain ⟨it,fp,tn,J,H2,e,I2,T,st2,f2,W,⟨m0,w0⟩,turn⟩:=h2;subst e;refine Br (qss (E:=X.xe) (E2:=λacc C x s'=>compPost (model X.prog X.w) X.A X.xe none (EP X pins σ Q) acc C (.error x) s') hc L fo hk hg hi he I2 T st2 f2 w0 turn) (λacc s3 h3=>thn h3 λcenv s4 h4=>CH h4 λr s' h5=>?_) λ_ _ z=>z
 cases r with
 | error x=>exact h5
 | ok f =>
  obtain ⟨D,rfl,ys,H',oC,m,J1,hn,fC,q⟩:=h5;refine ⟨m,hn,λh' sb=>⟨.ref D,_,?_,rfl,q⟩⟩;exact J1.unpinned.turned (t':=s'.toks) (it:=cenv.locals) (λb o hb e=>(sb.2 b hb).trans e) fC.1 fC.2.1 fC.2.2.2.1 fC.2.2.2.2.1 fC.2.2.2.2.2
theorem qce {wi:TI} {spos pos':Pos} (hN:X.N.Nodup) (hix:X.N[i]?=some x) (hlx:Loc X.env.scope x) (hc:X.calm=true) (L:qw9 X scope cl) (fo:FvOk X scope cl frees fv) (hit:PI X target iter wi) (hk:qoa vars.length g)
  (hg:∀ C s H ex,PG (blk X (vars ++ frees) scope cl C s H ex) target g) (hi:∀ C s H ex,qAg (blk X (vars ++ frees) scope cl C s H ex) ifs tc) (he:∀ C s H ex,PE (blk X (vars ++ frees) scope cl C s H ex) elt te)
  (hsw:swapsWith (.ListComp elt [⟨target,iter,ifs,0⟩] scope pos) (some (.Name x pos')) spos.line X.env=pure true:=by rfl)
  (hs:∀ x,foldedSetIterable iter X.env x=pure x:=by intro _;rfl) (hf:X.fn x=true\/X.env.scope.names.lookup x=some .local:=by first|exact .inl rfl|exact .inr rfl|assumption) :
  PS X (.Assign [.Name x pos'] (.ListComp elt [⟨target,iter,ifs,0⟩] scope pos) spos) (qC9 (tLC vars.length fv wi g tc te) (qdm i)):=by
 intro pins s σ H Dn I h;rw[exec_Assign_Name_used _ _ _ _ hsw];refine Ac (EE (Ac ?_))
 show wpAny _ X.A (do let _ <- comprehension (.ListComp elt [⟨target,iter,ifs,0⟩] scope pos) scope X.env _ (newList []) false (eval iter X.env) (some (assign (.Name x pos') X.env))) _ _ s
 refine Ac (Br (EF (use:=some (assign (.Name x pos') X.env)) (Q:=λ_ s'=>SP X pins Dn .next s') rfl hs L.clos L.kind L.names (thn (hit pins s σ H _ I h) λv s1 h1=>thn h1 λitv s2 h2=>?_)) (λ_ s' hq=>Ai (Ai hq)) λ_ _ e=>e);obtain ⟨it,fp,tn,J,H2,e,I2,T,st2,f2,W,⟨m0,w0⟩,turn⟩:=h2;subst e;refine Br (qss (Q:=λx H1=>qdm i x σ H1 Dn.nx) (E:=X.xe) (E2:=λacc C y s'=>compPost (model X.prog X.w) X.A X.xe (some (assign (.Name x pos') X.env)) (λ_ s'=>SP X pins Dn .next s') acc C (.error y) s') hc L fo hk hg hi he I2 T st2 f2 w0 turn) (λacc s3 h3=>thn h3 λcenv s4 h4=>CH h4 λr s' h5=>?_) λ_ _ z=>z
 cases r with
 | error y=>exact h5
 | ok f =>
  obtain ⟨D,rfl,ys,H',oC,m,J1,hn,fC,q⟩:=h5
  show wpAny (model X.prog X.w) X.A (assign (.Name x pos') X.env (.ref D)) (λ_ s''=>∃ m,s''.heap.Ns cenv.locals m/\∀ h',Heap.SameBut cenv.locals s''.heap h'->SP X pins Dn .next { s'' with heap:=h' }) X.xe s'
  refine thn (qn5 (i:=i) hN hix hlx hf _ s' σ _ (.ref D) (.ref D) (λσ' H''=>Dn.nx σ' H''/\H''=upd H' D (.lst ys)) J1 rfl ⟨q,rfl⟩) λ_ s6 hq__=>?_
  obtain ⟨σ6,H6,I6,q6,e6⟩:=hq__;subst e6;have eC:=(I6.pin (cenv.locals,oC) (by simp)).1;have eC':=(J1.pin (cenv.locals,oC) (by simp)).1;obtain ⟨o,es,ep,ho,r1⟩:=hn;rw[eC'] at ho;cases ho;refine ⟨m,⟨oC,es,ep,eC,r1⟩,λh' sb=>⟨σ6,_,?_,q6⟩⟩;exact I6.unpinned.turned (t':=s6.toks) (it:=cenv.locals) (λb o hb e=>(sb.2 b hb).trans e) fC.1 fC.2.1 fC.2.2.2.1 fC.2.2.2.2.1 fC.2.2.2.2.2
end
open PySem PySem.Spec PyProof.Rows
theorem qst {K:Frag} {a:Addr} {Q:VK} (Pv:Nat->List V->Hp->Prop) (hz:xs.length<=sizeLine) (h0:Pv 0 [] H) (hl:∀ i ys H,Pv i ys H->SqL K H a xs/\ys.length<=i)
  (hs:∀ i x ys H,xs[i]?=some x->Pv i ys H->g x σ H λσ4 H4=>tc σ4 H4 λb H5=>if b=true then te σ4 H5 λv H6=>Pv (i+1) (ys ++ [v]) H6 else Pv (i+1) ys H5)
  (hd:∀ ys H p,Pv xs.length ys H->H p=none->Q (.ref p) (upd H p (.lst ys))) :
  qeg (Itl K a) Q g tc te σ H:=by
 exists λi m ys H=>m=xs.length-i/\i<=xs.length/\Pv i ys H,⟨xs.length,by simp,Bw _,h0⟩;rintro i m ys H2 ⟨rfl,hi,p⟩;obtain ⟨q,hy⟩:=hl i ys H2 p
 by_cases hlt:i<xs.length
 ·refine .inr ⟨⟨xs,xs[i],q,by simp[hlt]⟩,by ext,Pv (i+1),λzs H' p'=>⟨xs.length-(i+1),by ext,rfl,hlt,p'⟩,λx H3 y=>?_⟩
  obtain ⟨e,y⟩:=y;subst e;exact hs i x ys _ (y xs q) p
 ·have e:i=xs.length:=by ext
  subst e;exact .inl ⟨⟨xs,q,Ak _⟩,by ext,λp' hp'=>hd ys H2 p' p hp'⟩
theorem qBc {K:Frag} {a:Addr} {Q:VK} (Pv:Nat->List V->Hp->Prop) (hz:xs.length<=sizeLine) (h0:Pv 0 [] H) (hl:∀ i ys H,Pv i ys H->SqT K H a xs/\ys.length<=i)
  (hs:∀ i x ys H,xs[i]?=some x->Pv i ys H->g x σ H λσ4 H4=>tc σ4 H4 λb H5=>if b=true then te σ4 H5 λv H6=>Pv (i+1) (ys ++ [v]) H6 else Pv (i+1) ys H5)
  (hd:∀ ys H p,Pv xs.length ys H->H p=none->Q (.ref p) (upd H p (.lst ys))) :
  qeg (Itt K a) Q g tc te σ H:=by
 exists λi m ys H=>m=xs.length-i/\i<=xs.length/\Pv i ys H,⟨xs.length,by simp,Bw _,h0⟩;rintro i m ys H2 ⟨rfl,hi,p⟩;obtain ⟨q,hy⟩:=hl i ys H2 p
 by_cases hlt:i<xs.length
 ·refine .inr ⟨⟨xs,xs[i],q,by simp[hlt]⟩,by ext,Pv (i+1),λzs H' p'=>⟨xs.length-(i+1),by ext,rfl,hlt,p'⟩,λx H3 y=>?_⟩
  obtain ⟨e,y⟩:=y;subst e;exact hs i x ys _ (y xs q) p
 ·have e:i=xs.length:=by ext
  subst e;exact .inl ⟨⟨xs,q,Ak _⟩,by ext,λp' hp'=>hd ys H2 p' p hp'⟩
theorem qxa {K:Frag} {a b:Addr} {ys:List V} {Q:VK} (Pv:Nat->List V->Hp->Prop) (hz:xs.length<=sizeLine) (h0:Pv 0 [] H) (hl:∀ i zs H,Pv i zs H->SqL K H a xs/\SqL K H b ys/\zs.length<=i)
  (hs:∀ i x y zs H p,xs[i]?=some x->ys[i]?=some y->H p=none->Pv i zs H->g (.ref p) σ (upd H p (.tup [x,y])) λσ4 H4=>tc σ4 H4 λb H5=>if b=true then te σ4 H5 λv H6=>Pv (i+1) (zs ++ [v]) H6 else Pv (i+1) zs H5)
  (hd:∀ i zs H p,i=min xs.length ys.length->Pv i zs H->H p=none->Q (.ref p) (upd H p (.lst zs))) :
  qeg (Itz K a b) Q g tc te σ H:=by
 exists λi m zs H=>m=min xs.length ys.length-i/\i<=min xs.length ys.length/\Pv i zs H,⟨min xs.length ys.length,by simp,Bw _,h0⟩;rintro i m zs H2 ⟨rfl,hi,p⟩;obtain ⟨qa,qb,hy⟩:=hl i zs H2 p
 by_cases hlt:i<min xs.length ys.length
 ·have ha:i<xs.length:=by ext
  have hb:i<ys.length:=by ext
  refine .inr ⟨⟨xs,ys,xs[i],ys[i],qa,qb,by simp[ha],by simp[hb]⟩,by ext,Pv (i+1),λzs H' p'=>⟨min xs.length ys.length-(i+1),by ext,rfl,hlt,p'⟩,λx H3 y=>?_⟩;obtain ⟨t,rfl,ht,y⟩:=y;have ea:xs[i]?=some xs[i]:=by simp[ha]
  have eb:ys[i]?=some ys[i]:=by simp[hb]
  rw[y xs ys xs[i] ys[i] qa qb ea eb];exact hs i xs[i] ys[i] zs H2 t ea eb ht p
 ·exact .inl ⟨⟨xs,ys,qa,qb,by ext⟩,by ext,λp' hp'=>hd i zs H2 p' (by ext) p hp'⟩
open PySem PySem.Spec PyProof.Rows
structure New (H H':Hp) (p:Addr) (o:HO):Prop where
 same:Same H H'
 fresh:H p=none
 at_:H' p=some o
theorem qa7 {p:Addr} (h:H p=none):New H (upd H p o) p o:=⟨qfx h,h,qa5⟩
def But (l:Addr) (H H':Hp):Prop:=∀ b o,H b=some o->b≠l->H' b=some o
theorem but_upd :But l H (upd H l o):=λb u e n=>by rw[qas n];exact e
theorem But.same {H0:Hp} (b:But l H H') (s:Same H0 H) (h:H0 l=none):Same H0 H':=λc o e=>b c o (s c o e) (qae e h)
theorem But.tup (b:But l H H') (h:H l=some o) (n:∀ xs,o≠.tup xs):∀ c xs,H c=some (.tup xs)->H' c=some (.tup xs):=λc xs e=>b c _ e (qa0 e h (λz=>n xs z.symm))
section
variable {X:Cx} {e:Expr} {es:List Expr} {te:TE} {t:TA} {pos:Pos}
def qD0 (t:TA):TE:=λσ H Q=>t σ H λxs H1=>xs.length<=sizeLine/\∀ p H',New H1 H' p (.tup xs)->Q (.ref p) H'
def qD1 (t:TA):TE:=λσ H Q=>t σ H λxs H1=>xs.length<=sizeLine/\∀ p H',New H1 H' p (.lst xs)->Q (.ref p) H'
theorem qam {x1} (h:PA X es t):PE X (.Tuple es x1 pos) (qD0 t):=by
 intro pins s σ H Q I hq;refine wpAny_Tuple_spliced (thn (h pos pins s σ H _ I hq) λus s1 ⟨xs,H1,I1,r,z,q⟩=>⟨by rw[<- r.length];exact z,?_⟩);have hf:H1 s1.heap.objs.size=none:=I1.hok.fresh (Ak _);refine ⟨.ref s1.heap.objs.size,upd H1 s1.heap.objs.size (.tup xs),I1.laid (t':=s1.toks) (λb u e=>Af _ e) (Ak _) ?_,rfl,q _ _ (qa7 hf)⟩;exact ⟨z,us,r,⟨_,Ay _ rfl,rfl,_,rfl⟩⟩
theorem qav (h:PA X es t):PE X (.List es pos) (qD1 t):=by
 intro pins s σ H Q I hq;refine wpAny_List_spliced (thn (h pos pins s σ H _ I hq) λus s1 ⟨xs,H1,I1,r,z,q⟩=>⟨by rw[<- r.length];exact z,?_⟩);have hf:H1 s1.heap.objs.size=none:=I1.hok.fresh (Ak _);refine ⟨.ref s1.heap.objs.size,upd H1 s1.heap.objs.size (.lst xs),I1.laid (t':=s1.toks) (λb u e=>Af _ e) (Ak _) ?_,rfl,q _ _ (qa7 hf)⟩;exact ⟨z,us,0,r,Ay _ rfl⟩
theorem CallR.imp {f:Value} {r r':List V->Hp->VK->Prop} (h:CallR X f r) (i:∀ xs H Q,r' xs H Q->r xs H Q):CallR X f r':=λpins s σ H xs us Q I v q=>h pins s σ H xs us Q I v (i xs H Q q)
theorem OpR.imp {f:Value->Value->Sem Value} {r r':R2} (h:OpR X f r) (i:∀ x y H Q,r' x y H Q->r x y H Q):OpR X f r':=λpins s σ H x y v u Q I rx ry q=>h pins s σ H x y v u Q I rx ry (i x y H Q q)
theorem MtM.imp {id:String} {r r':V->List V->Hp->VK->Prop} (h:MtM X id r) (i:∀ x xs H Q,r' x xs H Q->r x xs H Q):MtM X id r':=λpins s σ H x xs v us Q I rx rv q=>h pins s σ H x xs v us Q I rx rv (i x xs H Q q)
theorem qc3:CallR X (.type "list") (λxs H Q=>∃ p ys,xs=[.ref p]/\(SqL X.K H p ys\/SqT X.K H p ys)/\∀ l H',New H H' l (.lst ys)->Q (.ref l) H'):=
 call_list_of.imp λ_ _ _ ⟨p,ys,e,h,q⟩=>⟨p,ys,e,h,λl hl=>q l _ (qa7 hl)⟩
inductive rSlLNS (K:Frag) (x:V) (lo hi:Option Int) (H:Hp) (Q:VK):Prop
 | mk:∀ a xs,x=.ref a->SqL K H a xs->(∀ p H',New H H' p (.lst (qgw xs lo hi))->Q (.ref p) H')->rSlLNS K x lo hi H Q
def qD2 (K:Frag):V->Option Int->Option Int->Hp->VK->Prop:=λx lo hi H Q=>rSlLNS K x lo hi H Q
theorem qdc:SlR X (qD2 X.K):=λpins s σ H x v vl vu lo hi sl Q I rx hs p1 p2 ⟨a,xs,e,h,q⟩=>qyp pins s σ H x v vl vu lo hi sl Q I rx hs p1 p2 ⟨a,xs,e,h,λp hp=>q p _ (qa7 hp)⟩
inductive qxb  (x y:V) (H:Hp) (Q:VK):Prop
 | mk:∀ l b xs zs,x=.ref l->y=.ref b->H l=some (.lst xs)->H b=some (.lst zs)->xs.length+zs.length<=sizeLine->(∀ p H',New H H' p (.lst (xs ++ zs))->Q (.ref p) H')->qxb x y H Q
def qD3:R2:=λx y H Q=>qxb x y H Q
theorem qd3:OpR X (binaryOp .Add) qD3:=op_cat.imp λ_ _ _ _ ⟨l,b,xs,zs,e1,e2,h1,h2,z,q⟩=>⟨l,b,xs,zs,e1,e2,h1,h2,z,λp hp=>q p _ (qa7 hp)⟩
inductive rAppendNS  (x:V) (vs:List V) (H:Hp) (Q:VK):Prop
 | mk:∀ l xs y,x=.ref l->vs=[y]->H l=some (.lst xs)->xs.length<sizeLine->(∀ H',But l H H'->H' l=some (.lst (xs ++ [y]))->Q .non H')->rAppendNS x vs H Q
def qvm:V->List V->Hp->VK->Prop:=λx vs H Q=>rAppendNS x vs H Q
theorem qbb:MtM X "list.append" qvm:=mt_append.imp λ_ _ _ _ ⟨l,xs,y,e1,e2,h,z,q⟩=>⟨l,xs,y,e1,e2,h,z,q _ but_upd qa5⟩
end
section
variable {X:Cx} {k:Nat} {C:Addr} {ps:List Str} {sp:Sp} {dvs:List V} {ds:List Value} {x f:Str} {p pos pos':Pos} {e o value:Expr} {es:List Expr} {ta tv:TE} {t:TA}
def qBd (C:Addr) (sp:Sp) (dvs:List V) (E:XK) (t:TA):TE:=λσ H Q=>t σ H λvs H1=>∀ x dx H',Same H1 H'->H1 x=none->H' x=some (.ins C dx [])->sp (.ref x :: (vs ++ dvs)) H' (λv H2=>v=.non/\Q (.ref x) H2) E
theorem ql7 (D:qDy X.prog X.w X.K X.mg X.base C k x ps ds sp) (hr:Room (k+1) X.A) (hg:Gl X x) (hd:Vals dvs ds) (ha:PA X (e :: es) t) (hdb:(x == ("__debug__" : Str))=false:=by decide)
  (he:starEach (e :: es) X.env=(false,eval e X.env) :: starEach es X.env:=by rfl) (hpl:(backTo pos (starEach es X.env)).any (·.1)=false:=by rfl):PE X (.Call (.Name x p) (e :: es) [] pos) (qBd C sp dvs E0 t):=by
 obtain ⟨f,fd,F,hm,M,hb⟩:=D;intro pins s σ H Q I h;refine Cb (qh2 I hg hm ?_ hdb);refine C0 (h₀:=X.base) I.ok.mod.kin M.kp (thn (ha pos pins s σ H _ I h) λus s1 ⟨vs,H1,I1,r,q⟩=>⟨I1.kIn,?_⟩) he hpl;refine qve M F hr hb hd qsp I1 r λy dx h1 h2 h3=>q y dx _ ?_ h1 qa5
 exact (qfx h2).trans (qfx (by rw[qas h3.symm];exact h1))
def qD4 (K:Frag) (ta tv:TE) (f:Str):TS:=λD σ H=>tv σ H λy H1=>ta σ H1 λx H2=>∃ a C dx fs,x=.ref a/\H2 a=some (.ins C dx fs)/\Cls K C/\NoAttr K C f/\fs.length<1000 /\
 ∀ H',But a H2 H'->H' a=some (.ins C dx (qhs f y fs))->D.nx σ H'
theorem qeh (ha:PE X o ta) (hv:PE X value tv) (hs:swapsWith value (some (.Attribute o f pos')) pos.line X.env=pure false):PS X (.Assign [.Attribute o f pos'] value pos) (qD4 X.K ta tv f):=by
 intro pins s σ H D I h;refine plainObj_wpAny_Assign_Attribute (thn (hv pins s σ H _ I h) λu s1 ⟨y,H1,I1,ry,q⟩=>thn (ha pins s1 σ H1 _ I1 q) λov s2 hq__=>?_) hs;obtain ⟨x,H2,I2,rx,a,C,dx,fs,ex,ea,c,n,l,q2⟩:=hq__;subst ex;obtain rfl:ov=Value.ref a:=rx;exact qqz I2 ea c n l ry λs3 I3=>⟨σ,_,I3,q2 _ but_upd qa5⟩
end
theorem qk8 {K:Frag} {a b:Addr} {ys:List V} {tb:TS} (Pv:Nat->St->Hp->Prop) (h0:Pv 0 σ H) (hl:∀ i σ H,Pv i σ H->SqL K H a xs/\SqL K H b ys)
  (hs:∀ i x y σ H p H',xs[i]?=some x->ys[i]?=some y->New H H' p (.tup [x,y])->Pv i σ H->g (.ref p) σ H' λσ2 H2=>tb { D with nx:=Pv (i+1),ct:=Pv (i+1),bk:=D.nx } σ2 H2)
  (hd:∀ i σ H,i=min xs.length ys.length->Pv i σ H->D.nx σ H) :
  ∃ W:Nat->Nat->St->Hp->Prop,(∃ m,W 0 m σ H)/\∀ i m σ H,W i m σ H ->
   ((Itz K a b).stop i H/\D.nx σ H)\/((Itz K a b).go i H/\∃ N:St->Hp->Prop,(∀ σ' H',N σ' H'->∃ m',m'<m/\W (i+1) m' σ' H')/\∀ x H',(Itz K a b).yld i H x H'->g x σ H' λσ2 H2=>tb { D with nx:=N,ct:=N,bk:=D.nx } σ2 H2):=
 qyv Pv h0 hl (λi x y σ H p e1 e2 hn p'=>hs i x y σ H p _ e1 e2 (qa7 hn) p') hd
theorem qD5 {X:Cx} {scope:Scope} {cl:List (Str×Addr)} (clos:closureFor scope X.env=pure cl) (kind:scope.kind=.function) (nocell:∀ y∈scope.names,y.2≠.cell)
  (names:∀ y∈scope.names,y.2=.local->scope.names.lookup y.1=some .local) (sub:∀ p∈cl,X.env.cells.lookup p.1=some p.2)
  (has:((relabel scope X.env).names.all λy=>(y.2 != .cell && y.2 != .free) || (cl.lookup y.1).isSome)=true):qw9 X scope cl:=by
 refine ⟨clos,kind,nocell,names,λx c e=>?_,λx h=>?_⟩
 ·have:∀ l:List (Str×Addr),l.lookup x=some c->(x,c)∈l:=λl=>by
   induction l with
   | nil=>intro z;simp at z
   | cons p r ih =>
    intro z;obtain ⟨y,d⟩:=p;rw[List.lookup_cons] at z
    by_cases q:(x == y)=true
    ·rw[q] at z
     have e1:x=y:=by simpa using q
     have e2:d=c:=Ax z;subst e1 e2;exact Ae
    ·have q':(x == y)=false:=by simpa using q
     rw[q'] at z;exact Ad _ (ih z)
  exact sub (x,c) (this cl e)
 ·have:∀ (l:List (Str×NameKind)) (k:NameKind),l.lookup x=some k->(x,k)∈l:=λl k=>by
   induction l with
   | nil=>intro z;simp at z
   | cons p r ih =>
    intro z;obtain ⟨y,d⟩:=p;rw[List.lookup_cons] at z
    by_cases q:(x == y)=true
    ·rw[q] at z
     have e1:x=y:=by simpa using q
     have e2:d=k:=Ax z;subst e1 e2;exact Ae
    ·have q':(x == y)=false:=by simpa using q
     rw[q'] at z;exact Ad _ (ih z)
  rw[Eh] at has
  cases e:cl.lookup x with
  | some c=>exact ⟨c,rfl⟩
  | none =>
   rcases h with h|h
   ·have:=has _ (this _ _ h)
    rw[e] at this
    simp at this
   ·have:=has _ (this _ _ h)
    rw[e] at this
    simp at this
open PySem PySem.Spec PyProof.Rows
section
variable {X:Cx}
theorem qcq (hc:X.calm=true):CallR X (.builtin "sum") (λxs H Q=>∃ (p:Addr) (ns:List Int),xs=[.ref p]/\SqL X.K H p (ns.map V.int)/\Q (.int ns.sum) H):=by
 intro pins s σ H xs us Q I r h;obtain ⟨p,ns,rfl,hq,q⟩:=h;obtain ⟨u,rfl,ru⟩:=vals1 r
 cases (show u=Value.ref p from ru)
 obtain ⟨its,rv,pl,hz⟩:=I.list hq;have hi:IntsAre its ns:=L2.intsAre_of rv;have hn:=hi.numsOf;obtain ⟨ys,e⟩:=hi.allInts.items;have hl:=pl.isList;rw[e] at hl;refine sum_intListG (I.ok.hd hc) hl λh' tk t' hk=>⟨.int ns.sum,H,I.kept hk,⟨t',?_⟩,q⟩
 have e3:its=(intItems ys).toList:=by rw[<- e]
 rw[e3,EH] at hn;rw[preSum_eq,BL (by simp),hn]
end
open PySem PySem.Spec PyProof.Rows
def FlT (h:Heap) (e T:Addr) (cls:Value) (dd:Option Addr) (fl:Value):Prop:=
 ∃ oe vs oT ts,h.get? e=some oe/\oe.cls=cls/\oe.dict=dd/\oe.data=.fields vs/\vs[1]?=some (.ref T)/\T≠e/\h.get? T=some oT/\oT.data=.fields ts/\ts[3]?=some fl
def Fl0 (h:Heap) (e:Addr) (cls:Value) (dd:Option Addr):Prop:=
 ∃ oe vs,h.get? e=some oe/\oe.cls=cls/\oe.dict=dd/\oe.data=.fields vs/\vs[1]?=some .none
def FpX (X:Cx) (H:Hp) (b:Addr):Prop:=
 H b=none/\b≠X.env.locals/\b ∉ X.fs/\X.s₀.heap.get? b=none/\(∀ x c,X.env.cells.lookup x=some c->c≠b)/\∀ p∈X.pn,p.1≠b
def Fly (X:Cx) (H:Hp) (h:Heap) (e:Addr) (cls:Value) (dd:Option Addr):Prop:=
 FpX X H e/\(Fl0 h e cls dd\/∃ T fl,FpX X H T/\FlT h e T cls dd fl)
abbrev XW:=Value->Option Addr->St->Hp->Prop
def XE (X:Cx) (W:XW) (ev:Value) (s:Shared):Prop:=
 ∃ e cls dd σ H,ev=.ref e/\Inv X [] σ H s/\Fly X H s.heap e cls dd/\W cls dd σ H
def qq7 (X:Cx):Prop:=X.stack=X.env :: X.outer/\X.env.frame=some X.env.locals/\X.ex=[]
section
variable {X:Cx} {σ:St} {H:Hp} {s:Shared} {h':Heap} {M:Model} {A:Around} {E:Value->Shared->Prop} {e T:Addr} {cls fl:Value} {dd:Option Addr}
theorem Inv.fpX {pins:List (Addr×Obj)} (hs:qq7 X) (I:Inv X pins σ H s) (hb:s.heap.get? e=none) (hn:H' e=none):FpX X H' e:=by
 refine ⟨hn,λz=>?_,λz=>?_,?_,λx c q z=>?_,λp hp z=>?_⟩
 ·obtain ⟨m,⟨o,_,_,ho,_⟩,_⟩:=I.loc
  rw[<- z,hb] at ho;cases ho
 ·obtain ⟨_,o,ho,_⟩:=I.funs.mem z
  rw[hb] at ho;cases ho
 ·cases q:X.s₀.heap.get? e with
  | none=>rfl
  | some o =>
   obtain ⟨o',ho'⟩:=I.base.there e o q (by rw[hs.2.2];simp);rw[hb] at ho';cases ho'
 ·obtain ⟨v,o,ho,_⟩:=I.cell x c q
  rw[z,hb] at ho;cases ho
 ·have:=(I.pin p (AE _ hp)).1
  rw[z,hb] at this;cases this
theorem Inv.turnR {ch:List Addr} (I:Inv X [] σ H s) (hf:∀ b∈ch,FpX X H b) (k:∀ b u,b ∉ ch->b ∉ frs X.stack->s.heap.get? b=some u->h'.get? b=some u)
  (k2:∀ b u,b ∉ ch->s.heap.get? b=some u->∃ sl,h'.get? b=some { u with slots:=sl }) (hH:∀ b,b ∉ ch->H' b=H b) (hok:HOk X.prog X.w H' h'):Inv X [] σ H' { s with heap:=h',toks:=t' }:=by
 have sup:∀ b o,H b=some o->H' b=some o:=λb o q=>by rw[hH b (λz=>by rw[(hf b z).1] at q;cases q)];exact q
 have nosl:∀ b,b≠X.env.locals->b ∉ X.fs->b ∉ frs X.stack:=λb h1 h2 z=>(Av.mp (I.stkSub b z)).elim h1 h2
 have neL:∀ b o,X.s₀.heap.get? b=some o->b≠X.env.locals:=λb o q=>AH (AY (Aq q) I.ok.above)
 have neC:∀ b o,X.s₀.heap.get? b=some o->b ∉ ch:=λb o q hb=>by rw[(hf b hb).2.2.2.1] at q;cases q
 have cellK:∀ x c,X.env.cells.lookup x=some c->∀ v,s.heap.IsCell c v->h'.IsCell c v:=λx c q v ⟨o,ho,hd⟩=>by
  obtain ⟨sl,q'⟩:=k2 c o (λz=>(hf c z).2.2.2.2.1 x c q rfl) ho;exact ⟨_,q',hd⟩
 refine ⟨I.ok,I.os,I.bare,⟨λb o q n hb hx=>?_,λb o q n hb hx=>?_,λb o q n hx=>?_,λb o q hx=>?_,λb xs q=>sup _ _ (I.base.tups b xs q),λb o xs q=>sup _ _ (I.base.frzs b o xs q),λb ps q=>?_⟩,?_,λx c q=>?_,?_,λx c q=>?_,λp hp=>?_,hok,I.len⟩
 ·exact k b o (neC b o q) (nosl b (neL b o q) hb) (I.base.keep b o q n hb hx)
 ·obtain ⟨sl,e1⟩:=I.base.slot b o q n hb hx
  obtain ⟨sl',e2⟩:=k2 b _ (neC b o q) e1;exact ⟨sl',e2⟩
 ·rw[hH b (neC b o q)]
  exact I.base.free b o q n hx
 ·obtain ⟨o',e1⟩:=I.base.there b o q hx
  obtain ⟨sl',e2⟩:=k2 b _ (neC b o q) e1;exact ⟨_,e2⟩
 ·obtain ⟨m1,e1⟩:=I.base.tbls b ps q
  exact ⟨m1,sup _ _ e1⟩
 ·obtain ⟨m,hn,hl⟩:=I.loc
  refine ⟨m,?_,λi x v e1 e2 e3=>?_⟩
  ·obtain ⟨o,es,ep,ho,r⟩:=hn
   obtain ⟨sl,q⟩:=k2 _ o (λz=>(hf _ z).2.1 rfl) ho;exact ⟨_,es,ep,q,r⟩
  ·obtain ⟨u,r,l⟩:=hl i x v e1 e2 e3
   exists u,r
   rcases l with l|⟨kk,c,q,z⟩
   ·exact .inl l
   ·exact .inr ⟨kk,c,q,cellK x c q _ z⟩
 ·obtain ⟨v,z⟩:=I.cell x c q
  exact ⟨v,cellK x c q v z⟩
 ·rw[hH _ (λz=>(hf _ z).2.1 rfl)];exact I.free
 ·rw[hH _ (λz=>(hf _ z).2.2.2.2.1 x c q rfl)];exact I.freeC x c q
 ·obtain ⟨q,n,ne,nf,d⟩:=I.pin p hp
  have hp':p∈X.pn:=by
   have:p∈X.pn ++ ([]:List (Addr×Obj)):=hp
   simpa using this
  have nch:p.1 ∉ ch:=λz=>(hf p.1 z).2.2.2.2.2 p hp' rfl
  exact ⟨k p.1 p.2 nch (nosl p.1 ne nf) q,by rw[hH _ nch];exact n,ne,nf,d⟩
theorem Inv.turnS {ch:List Addr} (I:Inv X [] σ H s) (hf:∀ b∈ch,FpX X H b) (k:∀ b u,b ∉ ch->b ∉ frs X.stack->s.heap.get? b=some u->h'.get? b=some u)
  (k2:∀ b u,b ∉ ch->s.heap.get? b=some u->∃ sl,h'.get? b=some { u with slots:=sl }):Inv X [] σ H { s with heap:=h',toks:=t' }:=by
 have nch:∀ b u,H b=some u->b ∉ ch:=λb u e z=>by rw[(hf b z).1] at e;cases e
 have nst:∀ b u,H b=some u->b ∉ frs X.stack:=λb u e z=>by rw[I.stkFree b z] at e;cases e
 refine I.turnR hf k k2 (λ_ _=>rfl) λb u e=>?_
 refine (I.hok b u e).stay (λc v hc q=>?_) (λ_ q=>q) λ_ _ q=>q
 rcases hc with z|z
 ·subst z;exact k _ v (nch _ u e) (nst _ u e) q
 ·exact k c v (nch c _ z) (nst c _ z) q
theorem qpd {oe:Obj} {vs:Array Value} {head:Value} {hadNext:Bool} {Q:Unit->Shared->Prop} (hs:qq7 X) (hA:A.frames=some X.stack) (I:Inv X [] σ H s) (hp:FpX X H e)
  (he:s.heap.get? e=some oe) (hc:oe.cls=cls) (hdd:oe.dict=dd) (hd:oe.data=.fields vs) (hsz:1<vs.size)
  (k:∀ h' T,Inv X [] σ H { s with heap:=h' }->FpX X H T->FlT h' e T cls dd (rawInt X.env.locals)->Q () { s with heap:=h' }) :
  wpAny M A (do let a <- frameOf X.env;let pl <- entryPlaceOf X.env.locals hadNext;let b <- EntryCells.newEntry head a .none (rawInt X.env.locals) .none pl;setField (.ref e) 1 b) Q E s:=by
 have hs0:=hs;obtain ⟨hst,hfr,_⟩:=hs;have hl:=I.stack;rw[hst] at hl hA;have hene:e ∉ frs X.stack:=λhm=>by
  rcases Av.mp (I.stkSub e hm) with z|z
  ·exact hp.2.1 z
  ·exact hp.2.2.1 z
 refine Ac (wpAny_frameOf_fun hA hl hfr λh₁ hs₁=>?_);refine Ac (wpAny_entryPlaceOf λpl hpl=>?_);unfold EntryCells.newEntry newFields;refine Ac (Bk ?_ (hpl.sizeOk5 _ _ _ _ _));have S:(X.env :: X.outer).filterMap (·.frame)=frs X.stack:=by rw[hst];rfl
 rw[S] at hs₁;have he₁:h₁.get? e=some oe:=(hs₁.2.1 e hene).trans he
 generalize hob:({ cls:=.type "traceback",dict:=none,data:=.fields ([head,.ref X.env.locals,.none,rawInt X.env.locals,.none] ++ (if pl.isEmpty then List.replicate 6 Value.none else pl)).toArray }:Obj)=ob
 have hobd:ob.data=.fields ([head,.ref X.env.locals,.none,rawInt X.env.locals,.none] ++ (if pl.isEmpty then List.replicate 6 Value.none else pl)).toArray:=by rw[<- hob]
 have he₂:=Af (h:=h₁) ob he₁;refine CG he₂ hd hsz ?_;have hTe:h₁.objs.size≠e:=CI (Aq he₁);have hd₃:=CA hd (·.setIfInBounds 1 (Value.ref h₁.objs.size));have he₃:=CN (Obj.mapFields (·.setIfInBounds 1 (Value.ref h₁.objs.size))) he₂ (DD hd₃);have hT₃:=(BC (h₁.push ob) (Obj.mapFields (·.setIfInBounds 1 (Value.ref h₁.objs.size))) (BR hTe)).trans (Ay h₁ (by rw[<- hob];rfl));have kk:∀ b o,b≠e->h₁.get? b=some o->((h₁.push ob).update e (Obj.mapFields (·.setIfInBounds 1 (Value.ref h₁.objs.size)))).get? b=some o:=λb o hb q=>by
  rw[BC _ _ (BR hb)];exact Af _ q
 refine k _ h₁.objs.size (I.turnS (t':=s.toks) (ch:=[e]) (λb hb=>by rw[AI.mp hb];exact hp) (λb u hb hn q=>?_) λb u hb q=>?_) (I.fpX hs0 (by rw[hs₁.1];exact FH (Ak _)) (I.hok.fresh (by rw[hs₁.1];exact Ak _))) ?_
 ·exact kk b u (λz=>hb (by simp[z])) ((hs₁.2.1 b hn).trans q)
 ·obtain ⟨sl,q'⟩:=hs₁.2.2 b u q
  exact ⟨sl,kk b _ (λz=>hb (by simp[z])) q'⟩
 ·refine ⟨_,_,_,_,he₃,(Obj.cls_mapFields _ _).trans hc,?_,hd₃,by simp[hsz],hTe,hT₃,hobd,by simp⟩
  rw[<- hdd];obtain ⟨c9,d9,dt9,sl9⟩:=oe
  cases dt9<;>rfl
theorem qyy {Q:Unit->Shared->Prop} (hs:qq7 X) (hA:A.frames=some X.stack) (I:Inv X [] σ H s) (F:Fly X H s.heap e cls dd)
  (k:∀ h' T,Inv X [] σ H { s with heap:=h' }->FpX X H T->FlT h' e T cls dd (rawInt X.env.locals)->Q () { s with heap:=h' }):wpAny M A (noteFrame (.ref e) X.env) Q E s:=by
 obtain ⟨hp,F⟩:=F;unfold noteFrame;simp only[hs.2.1]
 rcases F with ⟨oe,vs,he,hc,hdd,hd,h1⟩|⟨T,fl,hT,oe,vs,oT,ts,he,hc,hdd,hd,h1,hTe,hoT,hdT,h3⟩
 ·refine Ac (B4 he hd h1 ?_)
  rw[Al (by decide)];exact qpd hs hA I hp he hc hdd hd (Cm.mp h1).1 k
 ·refine Ac (B4 he hd h1 ?_)
  rw[Au (show (Value.ref T != Value.none)=true from by simp)];refine Ac (B4 hoT hdT h3 ?_)
  by_cases hfl:(fl == rawInt X.env.locals)=true
  ·rw[Au hfl]
   have:=k s.heap T I hT ⟨oe,vs,oT,ts,he,hc,hdd,hd,h1,hTe,hoT,hdT,by rw[h3,Dt.mp hfl]⟩;exact Ai this
  ·rw[Al hfl]
   refine Ac (CG hoT hdT (Cm.mp h3).1 ?_);have other:∀ b,b≠T->(s.heap.update T (Obj.mapFields (·.setIfInBounds 3 Value.none))).get? b=s.heap.get? b:=λb hb=>BC _ _ (BR hb)
   have I2:Inv X [] σ H { s with heap:=s.heap.update T (Obj.mapFields (·.setIfInBounds 3 Value.none)) }:=
    I.turnS (t':=s.toks) (ch:=[T]) (λb hb=>by rw[AI.mp hb];exact hT) (λb u hb _ q=>(other b (λz=>hb (by simp[z]))).trans q) λb u hb q=>⟨u.slots,(other b (λz=>hb (by simp[z]))).trans q⟩
   exact qpd hs hA I2 hp ((other e (BR hTe)).trans he) hc hdd hd (Cm.mp h1).1 k
theorem qsu {Q:Unit->Shared->Prop} (fr:Option Addr) (I:Inv X [] σ H s) (hT:FpX X H T) (F:FlT s.heap e T cls dd fl)
  (k:∀ h',Inv X [] σ H { s with heap:=h' }->FlT h' e T cls dd (fr.elim .none λf=>rawInt f)->Q () { s with heap:=h' }):wpAny M A (setFlight (.ref e) fr) Q E s:=by
 obtain ⟨oe,vs,oT,ts,he,hc,hdd,hd,h1,hTe,hoT,hdT,h3⟩:=F;have hsz3:3<ts.size:=(Cm.mp h3).1;have other:∀ b,b≠T->(s.heap.update T (Obj.mapFields (·.setIfInBounds 3 (fr.elim .none λf=>rawInt f)))).get? b=s.heap.get? b:=λb hb=>BC _ _ (BR hb)
 unfold setFlight;refine Ac (B4 he hd h1 ?_);rw[Au (show (Value.ref T != Value.none)=true from by simp)];refine CG hoT hdT hsz3 (k _ ?_ ?_)
 ·exact I.turnS (t':=s.toks) (ch:=[T]) (λb hb=>by rw[AI.mp hb];exact hT) (λb u hb _ q=>(other b (λz=>hb (by simp[z]))).trans q) λb u hb q=>⟨u.slots,(other b (λz=>hb (by simp[z]))).trans q⟩
 ·exact ⟨oe,vs,_,_,(other e (BR hTe)).trans he,hc,hdd,hd,h1,hTe,CN _ hoT (DD (CA hdT _)),CA hdT _,by simp[hsz3]⟩
end
def CX1 (P:Program) (w:World):CXT:=λouter H s E ev s'=>∃ e T cls dd H',ev=.ref e/\s'.os=s.os/\AllBare s'.gens/\Un (frs outer) [] H H' s.heap s'.heap/\HOk P w H' s'.heap/\FlT s'.heap e T cls dd .none/\H' e=none/\H' T=none /\
 s.heap.get? e=none/\s.heap.get? T=none/\E cls dd H'
theorem CX1.xe {X:Cx} {W:XW} {pins:List (Addr×Obj)} {s s':Shared} {ev:Value} (hs:qq7 X) (I:Inv X pins σ H s) (h:CX1 X.prog X.w X.stack H s (λc d H'=>W c d σ H') ev s'):XE X W ev s':=by
 obtain ⟨e,T,cls,dd,H',rfl,os,bare,un,hok,F,he,hT,le,lT,q⟩:=h;have J:Inv X [] σ H s:=I.pins_of (by simp);have J':Inv X [] σ H' s':=by
  obtain ⟨hh,g,d,t,os'⟩:=s';obtain rfl:os'=s.os:=os;exact J.call (h':=hh) (g':=g) (d':=d) (t':=t) (ch:=[]) un hok bare (λb z=>absurd z (by simp))
 exact ⟨e,cls,dd,σ,H',rfl,J',⟨J.fpX hs le he,.inr ⟨T,_,J.fpX hs lT hT,F⟩⟩,q⟩
theorem qBe {P:Program} {w:World} {K:Frag} {mg:Str->Option Value} {base:Heap} {scope:Scope} {cd:Value} {A:Around} {outer:List Env} {s:Shared} {E:XK} {ev:Value} {s':Shared}
  (h:XE (qrr (CX1 P w) P w K mg base N qual scope f cd A outer s H E) (λc d _ H'=>E c d H') ev s'):(qrr (CX1 P w) P w K mg base N qual scope f cd A outer s H E).xe ev s':=by
 obtain ⟨e,cls,dd,σ,H',rfl,I,F,q⟩:=h
 show wpAny _ _ (leaving _ _) _ _ _
 unfold leaving;refine Ac (qyy (X:=qrr (CX1 P w) P w K mg base N qual scope f cd A outer s H E) ⟨rfl,rfl,rfl⟩ I.ok.frames I F λh1 T I1 hT F1=>?_);refine qsu none I1 hT F1 λh2 I2 F2=>?_
 exact ⟨e,T,cls,dd,H',rfl,I2.os,I2.bare,I2.base,I2.hok,F2,F.1.1,hT.1,F.1.2.2.2.1,hT.2.2.2.1,q⟩
def qyz (X:Cx) (W:XW):Prop:=qq7 X/\∀ ev s,XE X W ev s->X.xe ev s
theorem PSs.imp {X:Cx} {st:List Stmt} {t:TS} (hE:∀ ev s,E ev s->X.xe ev s) (h:PSs (X.wish E) st t):PSs X st t:=λpins s σ H D I hw =>
 Br (h pins s σ H D (I.wish _) hw) (λ_ _ q=>q.unwish) λe s z=>hE e s z
section
variable {P:Program} {w:World} {K:Frag} {mg:Str->Option Value} {base:Heap}
abbrev bx (P:Program) (w:World) (K:Frag) (mg:Str->Option Value) (base:Heap) (N:List Str) (qual:Str) (scope:Scope) (f:Addr) (cd:Value) (A:Around) (outer:List Env) (s:Shared) (H:Hp) (E:XK):Cx:=
 (qrr (CX1 P w) P w K mg base N qual scope f cd A outer s H E).wish (XE (qrr (CX1 P w) P w K mg base N qual scope f cd A outer s H E) (λc d _ H'=>E c d H'))
theorem FunD.okX {st:Stmt} {dV:Value} {fd:FuncData} (F:FunD K x qual st dV f fd) (S:qaf N ps (qab st)) (len:∀ vs H Q E,sp vs H Q E->vs.length=ps.length)
  (hbody:∀ (cdv:Value) (A:Around) (outer:List Env) (s:Shared) (H:Hp) (vs:List V) (Q:VK) (E:XK),Room k (A.deeper (envOfC qual (qab st) s.heap.objs.size f cdv))->sp vs H Q E ->
   ∃ t,PSs (bx P w K mg base N qual (qab st) f cdv A outer s H E) (qcd st) t/\t { nx:=λ_ H'=>Q .non H',rt:=Q } (start N vs) H):qjr P w K mg base (CX1 P w) (k+1) f fd ps sp:=by
 obtain ⟨oc,od,kV,doc,pm,an,cdv,ct,osl,rfl,lk,hcd⟩:=F.ex;refine qym lk hcd S len λA outer s H vs Q E hr hsp=>?_
 obtain ⟨t,h,q⟩:=hbody cdv A outer s H vs Q E hr hsp;exact ⟨t,h.imp λ_ _ z=>qBe z,q⟩
end
def qE6 (P:Program) (w:World) (K:Frag) (mg:Str->Option Value) (base:Heap) (k:Nat) (x:Str) (ps:List Str) (ds:List Value) (sp:Sp):Prop:=
 ∃ f fd,qjr P w K mg base (CX1 P w) k f fd ps sp/\mg x=some (.ref f)/\keepIn K (.ref f)=true/\Binds K fd ps ds
def qBf (sp:Sp) (dvs:List V) (W:XW) (t:TA):TE:=λσ H Q=>t σ H λvs H1=>sp (vs ++ dvs) H1 Q λc d H'=>W c d σ H'
section
variable {X:Cx} {W:XW} {k:Nat} {f C:Addr} {fd:FuncData} {ps:List Str} {sp:Sp} {dvs:List V} {ds:List Value} {x m:Str} {p pos apos:Pos} {e o:Expr} {es:List Expr} {ta:TE} {t:TA}
theorem qy0 {pins:List (Addr×Obj)} {s:Shared} {Q:VK} {vs:List V} (hW:qyz X W) (F:qjr X.prog X.w X.K X.mg X.base (CX1 X.prog X.w) k f fd ps sp) (hr:Room k X.A) (hb:Binds X.K fd ps ds) (hd:Vals dvs ds)
  (I:Inv X pins σ H s) (r:Vals vs us) (h:sp (vs ++ dvs) H Q λc d H'=>W c d σ H'):wpAny (model X.prog X.w) X.A (call (.ref f) us) (EP X pins σ Q) X.xe s:=by
 have r2:Vals (vs ++ dvs) (us ++ ds):=r.append hd;have hl:(us ++ ds).length=ps.length:=by rw[<- r2.length];exact F.len _ _ _ _ h
 refine Et (CH (F.run X.A X.stack s H ⟨us,[]⟩ (us ++ ds) (vs ++ dvs) Q _ hr I.env0 (hb s us I.kIn hl) r2 h) λr s' hq=>?_)
 cases r with
 | error e=>exact hW.2 _ _ (CX1.xe hW.1 I hq)
 | ok fl =>
  cases fl with
  | ret u=>exact I.after hq
  | next=>exact False.elim hq
  | brk=>exact False.elim hq
  | cont=>exact False.elim hq
theorem qxc (hW:qyz X W) (D:qE6 X.prog X.w X.K X.mg X.base k x ps ds sp) (hr:Room k X.A) (hg:Gl X x) (hd:Vals dvs ds) (ha:PA X (e :: es) t) (hdb:(x == ("__debug__" : Str))=false:=by decide)
  (he:starEach (e :: es) X.env=(false,eval e X.env) :: starEach es X.env:=by rfl) (hpl:(backTo pos (starEach es X.env)).any (·.1)=false:=by rfl):PE X (.Call (.Name x p) (e :: es) [] pos) (qBf sp dvs W t):=by
 obtain ⟨f,fd,F,hm,hk,hb⟩:=D;intro pins s σ H Q I h;refine Cb (qh2 I hg hm ?_ hdb);refine C0 (h₀:=X.base) I.ok.mod.kin hk (thn (ha pos pins s σ H _ I h) λus s1 ⟨vs,H1,I1,r,q⟩=>⟨I1.kIn,?_⟩) he hpl;exact qy0 hW F hr hb hd I1 r q
end
def qBg:List Value:=[.type "ValueError",.type "Exception",.type "BaseException",.type "object"]
def qBh (K:Frag) (C:Addr):Prop:=PySem.W.excIn K C qBg "ValueError.__new__" = true
open PySem PySem.Spec PyProof.Rows
def qF0 (a:Addr) (cls:Value) (dd:Option Addr):HO:=.ext λh=>∃ oe vs,h.get? a=some oe/\oe.cls=cls/\oe.dict=dd/\oe.data=.fields vs
section
variable {X:Cx} {pins:List (Addr×Obj)} {σ:St} {H:Hp} {s:Shared} {e:Addr}
end
def qF1 (K:Frag) (C:Addr) (cls:Value):Prop:=∃ D,cls=.ref D/\PySem.W.ktsIn K D "BaseException" = true/\PySem.W.mroIn K D (.ref C)=some true
def qD6 (D:Ends) (j:Nat):Ends:={ nx:=λσ H=>D.nx (σ.set j none) H,rt:=D.rt,bk:=λσ H=>D.bk (σ.set j none) H,ct:=λσ H=>D.ct (σ.set j none) H }
def hW (K:Frag) (C:Addr) (th:TS) (j:Nat) (D:Ends):XW:=λcls dd σ H=>qF1 K C cls/\∀ e H',New H H' e (qF0 e cls dd)->th (qD6 D j) (σ.set j (some (.ref e))) H'
open PySem PySem.Spec PyProof.Rows
structure qAh (K:Frag) (D:Addr):Prop where
 ga:PySem.W.findIn K (.ref D) "__getattribute__" = some (some (.builtin "BaseException.__getattribute__"))
 gt:PySem.W.findIn K (.ref D) "__getattr__" = some none
 cl:PySem.W.findIn K (.ref D) "__class__" = some (some (.builtin "object.__class__"))
 ob:PySem.W.mroIn K D (.type "object")=some true
 be:PySem.W.mroIn K D (.type "BaseException")=some true
 kt:PySem.W.ktsIn K D "BaseException" = true
section
variable {prog:Program} {w:World} {A:Around} {E:Value->Shared->Prop} {s:Shared} {K:Frag} {a D:Addr} {oe:Obj} {vs:Array Value}
end
open PySem PySem.Spec PyProof.Rows
section
variable {X:Cx}
theorem qdr (hc:X.calm=true):CallR X (.builtin "max") (λxs H Q=>∃ (p:Addr) (ns:List Int),xs=[.ref p]/\SqL X.K H p (ns.map V.int)/\0<ns.length/\∀ m,m∈ns->(∀ a∈ns,a<=m)->Q (.int m) H):=by
 intro pins s σ H xs us Q I r h;obtain ⟨p,ns,rfl,hq,hne,q⟩:=h;obtain ⟨u,rfl,ru⟩:=vals1 r
 cases (show u=Value.ref p from ru)
 obtain ⟨its,rv,pl,hz⟩:=I.list hq;have hi:IntsAre its ns:=L2.intsAre_of rv;obtain ⟨ys,e⟩:=hi.allInts.items;have hns:ns=ys.toList.map (·.1):=by rw[<- hi.numsOf,<- EH,<- e]
 have hl:=pl.isList;rw[e] at hl;have hsz:0<ys.size:=by have h3:=hne;rw[hns,Aa,Be] at h3;exact h3
 refine max_intList (I.ok.hd hc) hl hsz λv h' tk hv hk=>?_
 obtain ⟨t,rfl⟩:=intItems_at hv;obtain ⟨h1,h2⟩:=argBest_gt (numAt ys) (ys.size-1);refine ⟨.int _,H,I.kept hk,⟨t,rfl⟩,q _ ?_ λa ha=>?_⟩
 ·rw[hns,FA];exact getD_mem (by rw[Aa,Be];ext)
 ·rw[hns] at ha
  obtain ⟨j,hj,rfl⟩:=mem_getD ha;rw[Aa,Be] at hj;rw[<- FA];exact h2 j (by ext)
theorem qei (hc:X.calm=true):CallR X (.builtin "min") (λxs H Q=>∃ (p:Addr) (ns:List Int),xs=[.ref p]/\SqL X.K H p (ns.map V.int)/\0<ns.length/\∀ m,m∈ns->(∀ a∈ns,m<=a)->Q (.int m) H):=by
 intro pins s σ H xs us Q I r h;obtain ⟨p,ns,rfl,hq,hne,q⟩:=h;obtain ⟨u,rfl,ru⟩:=vals1 r
 cases (show u=Value.ref p from ru)
 obtain ⟨its,rv,pl,hz⟩:=I.list hq;have hi:IntsAre its ns:=L2.intsAre_of rv;obtain ⟨ys,e⟩:=hi.allInts.items;have hns:ns=ys.toList.map (·.1):=by rw[<- hi.numsOf,<- EH,<- e]
 have hl:=pl.isList;rw[e] at hl;have hsz:0<ys.size:=by have h3:=hne;rw[hns,Aa,Be] at h3;exact h3
 refine min_intList (I.ok.hd hc) hl hsz λv h' tk hv hk=>?_
 obtain ⟨t,rfl⟩:=intItems_at hv;obtain ⟨h1,h2⟩:=argBest_lt (numAt ys) (ys.size-1);refine ⟨.int _,H,I.kept hk,⟨t,rfl⟩,q _ ?_ λa ha=>?_⟩
 ·rw[hns,FA];exact getD_mem (by rw[Aa,Be];ext)
 ·rw[hns] at ha
  obtain ⟨j,hj,rfl⟩:=mem_getD ha;rw[Aa,Be] at hj;rw[<- FA];exact h2 j (by ext)
theorem qk9 {pins:List (Addr×Obj)} {s:Shared} {out:Array Value} {ns:List Int} (I:Inv X pins σ H s) (hi:IntsAre out.toList ns) (hz:ns.length<=sizeLine) :
  Inv X pins σ (upd H (s.heap.objs.size+1) (.lst (ns.map V.int))) { s with heap:=sortedAll s.heap vs out }:=by
 obtain ⟨e,he⟩:=EY s.heap vs out;refine I.laid (t':=s.toks) (λ_ _=>EG) (BE _) ⟨by simpa using hz,out.toList,e,qid hi,?_⟩;rw[he]
theorem qob:CallR X (.builtin "sorted") (λxs H Q=>∃ (p:Addr) (ns:List Int),xs=[.ref p]/\SqL X.K H p (ns.map V.int)/\ns.length<64/\∀ (ms:List Int) l H',ms.Perm ns->ms.Pairwise (· <= ·)->New H H' l (.lst (ms.map V.int))->Q (.ref l) H'):=by
 intro pins s σ H xs us Q I r h;obtain ⟨p,ns,rfl,hq,h64,q⟩:=h;obtain ⟨u,rfl,ru⟩:=vals1 r
 cases (show u=Value.ref p from ru)
 obtain ⟨its,rv,pl,hz⟩:=I.list hq;have hi:IntsAre its ns:=L2.intsAre_of rv;have hln:=hi.length;refine sorted_ints pl.isList hi (by ext) λout ms a1 a2 a3=>?_
 exact ⟨.ref _,_,qk9 I a1 (by rw[a2.length_eq];simpa using hz),rfl,q ms _ _ a2 a3 (qa7 (I.hok.fresh (BE _)))⟩
end
theorem qd8:bootBuiltins "max" = some (.builtin "max"):=by decide +kernel
theorem qgy:bootBuiltins "min" = some (.builtin "min"):=by decide +kernel
theorem qds:bootBuiltins "sorted" = some (.builtin "sorted"):=by decide +kernel
theorem ql8 {X:Cx} (hs:qq7 X):qyz X.nox (λ_ _ _ _=>False):=⟨hs,λ_ _ ⟨_,_,_,_,_,_,_,_,w⟩=>w⟩
open PySem PySem.Spec PyProof.Rows
theorem qy1 {a:Addr} (s:Same H H') (h:H a=some o):H' a=some o:=s _ _ h
theorem qBi {p a:Addr} {u:HO} (n:New H H' p u) (h:H a=some o):H' a=some o:=n.same _ _ h
theorem qy2 {H1 H2:Hp} {p:Addr} {u:HO} (a:Same H H1) (n:New H1 H2 p u):Same H H2:=a.trans n.same
open PySem PySem.Spec PyProof.Rows
section
variable {X:Cx} {e e1:Expr} {te t1:TE} {pos p2:Pos}
end
def qF2 (J:St->Hp->Prop) (t u:TS):TS:=λD σ H=>t { D with nx:=J } σ H/\∀ σ' H',J σ' H'->u D σ' H'
theorem qsv {X:Cx} {st:Stmt} {rest:List Stmt} {t u:TS} (J:St->Hp->Prop) (h1:PS X st t) (h2:PSs X rest u):PSs X (st :: rest) (qF2 J t u):=by
 intro pins s σ H D I h;refine D8 (thn (h1 pins s σ H { D with nx:=J } I h.1) λf s1 q=>?_)
 cases f with
 | next =>
  obtain ⟨σ',H',I',q⟩:=q;exact h2 pins s1 σ' H' D I' (h.2 σ' H' q)
 | ret v=>exact q
 | brk=>exact q
 | cont=>exact q
open PySem PySem.Spec PyProof.Rows
section
variable {prog:Program} {w:World} {A:Around} {R:Result->Shared->Prop} {I:Addr} {fp wr:List Addr} {n:Nat} {P:Nat->Value->Prop} {St:Nat->Heap->Prop} {d:Value}
end
section
variable {X:Cx}
theorem qif:∀ {bs:List Bool} {us:List Value},Vals (bs.map V.bl) us->us=bs.map Value.bool
 | [],_,.nil=>rfl
 | b :: r,_,.cons h t=>by cases (show _=Value.bool b from h);rw[qif t];rfl
theorem qpe (hc:X.calm=true):CallR X (.builtin "all") (λxs H Q=>∃ (p:Addr) (bs:List Bool),xs=[.ref p]/\SqL X.K H p (bs.map V.bl)/\Q (.bl (bs.all id)) H):=by
 intro pins s σ H xs us Q I r h;obtain ⟨p,bs,rfl,hq,q⟩:=h;obtain ⟨u,rfl,ru⟩:=vals1 r
 cases (show u=Value.ref p from ru)
 obtain ⟨its,rv,pl,hz⟩:=I.list hq;have hl:=pl.isList;have hlt:p<s.heap.objs.size:=by obtain ⟨_,e,_⟩:=hl;exact Aq e
 have hb:=qif rv;refine call_all_walk (wpAny_pyIter_list hl ?_);refine ⟨s.heap.objs.size,[s.heap.objs.size,p],[s.heap.objs.size],its.toArray.size,_,_,λi=>(bs[i]?).getD true,rfl,Walks.list (A:=X.A.in1) (I.ok.hd hc) _ p (AH hlt) its.toArray,
  ⟨⟨_,Ay _ rfl,rfl,rfl⟩,hl.push _⟩,λi v s' Q' E' hP hQ=>?_,λh' tk hk=>?_⟩
 ·rw[hb] at hP
  have hP':(bs.map Value.bool)[i]?=some v:=by simpa using hP
  rw[An] at hP';obtain ⟨b,e1,e2⟩:=Ar.mp hP';subst e2;simp only[e1,Dl] at hQ;exact B3 hQ
 ·have e:((List.range its.toArray.size).all λi=>(bs[i]?).getD true)=bs.all id:=by
   rw[AJ,hb,Aa];exact PyProof.Rows.LSm.range_all bs
  rw[e];refine ⟨.bl _,H,I.kept λb o q=>hk b o (λhm=>?_) (Af _ q),rfl,q⟩;rw[AI.mp hm] at q;exact absurd (Aq q) (BJ _)
end
theorem qxd:bootBuiltins "all" = some (.builtin "all"):=by decide +kernel
open PySem PyProof PyProof.Rows
def Ite (K:Frag) (a:Addr):It:=
 ⟨λi H=>∃ xs x,SqL K H a xs/\xs[i]?=some x,
   λi H v H'=>∃ p,v=.ref p/\H p=none/\∀ xs x,SqL K H a xs->xs[i]?=some x->H'=upd H p (.tup [.int i,x]),
   λi H=>∃ xs,SqL K H a xs/\xs.length<=i⟩
theorem qF3:Value.type "list_iterator" ≠ Value.type "enumerate" :=by decide
theorem qsw {P:Program} {w:World} {K:Frag} {elts:List Expr} (a z it:Addr) :
  Turn P w K (.Tuple elts ek epos) (Ite K a) [z,it] z (λi h=>(∃ old,IsEnum h z it i old)/\h.IsListIter it a i) where
 mem:=by simp
 obj:=λi h st c hc=>by
  obtain ⟨⟨old,hz⟩,⟨o1,e1,c1,f1⟩⟩:=st;simp only[Av,Bo,Ce] at hc
  rcases hc with rfl|rfl
  ·exact ⟨_,hz,λv q=>by have q':Data.fields _=Data.cell v:=q;cases q'⟩
  ·exact ⟨_,e1,λv q=>by rw[f1] at q;cases q⟩
 keep:=λi h h' st k=>by
  obtain ⟨⟨old,hz⟩,h1⟩:=st;exact ⟨⟨old,k z (by simp) _ hz⟩,h1.at λo e=>k it (by simp) o e⟩
 item:=by
  intro X hP hw hK hc i pins s σ H E I hf st hg;subst hP hw hK;obtain ⟨xs,x,qa,hx⟩:=hg;obtain ⟨⟨old,hz⟩,h1⟩:=st;obtain ⟨itsA,rA,pA,zA⟩:=I.list qa;obtain ⟨u,hu,ru⟩:=rA.get hx;have dzi:z≠it:=by
   obtain ⟨o1,e1,c1,f1⟩:=id h1;exact (qa9 e1 hz (by rw[c1];exact qF3)).symm
  refine wpAny_pyNext_enum_item hz h1 pA.isList (x:=u) (by simpa using hu) dzi λh' a1 a2 a3 a4 hk=>?_
  refine ⟨.ref s.heap.objs.size,rfl,wpAny_letOwnedTupleGo_enum a1 λh'' hz'' sb=>?_⟩;have lz:z<s.heap.objs.size:=Aq hz;have nz:s.heap.objs.size≠z:=CI lz;have k2:∀ c o,c ∉ [z,it]->s.heap.get? c=some o->h''.get? c=some o:=λc o hc e=>by
   simp only[Av,Bo,Ce,not_or] at hc;exact sb.extBut _ _ hc.1 (hk c o hc.1 hc.2 e)
  have T2:=sb.extBut _ _ nz a3;refine ⟨.ref s.heap.objs.size,upd H s.heap.objs.size (.tup [.int i,x]),I.turnedLaid (t':=s.toks+1) (ch:=[z,it]) hf k2 (Ak _) ⟨by show 2<=sizeLine;decide,[.int i s.toks,u],.cons ⟨_,rfl⟩ (.cons ru .nil),_,T2,rfl,_,rfl⟩,rfl,⟨_,rfl,I.hok.fresh (Ak _),λxs' x' qa' hx'=>?_⟩,⟨⟨u,by simpa using hz''⟩,a2.extBut sb.extBut dzi.symm⟩,λb hb=>?_⟩
  ·rw[I.list_inj qa' qa,hx] at hx'
   cases hx';rfl
  ·have e:b≠s.heap.objs.size:=λq=>by
    have:∃ o,s.heap.get? b=some o:=by
     simp only[Av,Bo,Ce] at hb;obtain ⟨o1,e1,_⟩:=id h1
     rcases hb with rfl|rfl
     ·exact ⟨_,hz⟩
     ·exact ⟨_,e1⟩
    obtain ⟨o,e⟩:=this;exact absurd (Aq e) (by rw[q];exact BJ _)
   rw[qas e];exact (hf b hb).1
 done:=by
  intro X hP hw hK hc i pins s σ H E I hf st hg;subst hP hw hK;obtain ⟨xs,qa,hx⟩:=hg;obtain ⟨⟨old,hz⟩,h1⟩:=st;obtain ⟨itsA,rA,pA,zA⟩:=I.list qa;have lA:=rA.length;refine wpAny_pyNext_enum_end (I.ok.hd hc) hz h1 pA.isList (by simp;ext) λh' hk=>⟨rfl,I.turnedL (t':=s.toks) (ch:=[z,it]) hf λc o hc e=>?_⟩
  simp only[Av,Bo,Ce,not_or] at hc;exact hk c o hc.2 e
 self:=λ_ _ _ _ _ st h=>wpAny_pyIter_enum st.1.choose_spec h
section
variable {X:Cx}
def qD7 (K:Frag) (ta:TA):TI:=λσ H R=>ta σ H λvs H1=>∃ a xs,vs=[.ref a]/\SqL K H1 a xs/\R (Ite K a) H1
theorem qy3 {elts:List Expr} {ta:TA} {pos:Pos} (hg:Gl X "enumerate") (hm:X.mg "enumerate" = none) (ha:PA X [e1] ta)
  (hs:starEach [e1] X.env=[(false,eval e1 X.env)]:=by rfl) :
  PI X (.Tuple elts ek epos) (.Call (.Name "enumerate" p) [e1] [] pos) (qD7 X.K ta):=by
 intro pins s σ H R I h;refine Call_ (qgu I hg hm (show bootBuiltins "enumerate" = some (.type "enumerate") by decide +kernel) (BI (thn (ha pos pins s σ H _ I h) λus s1 hq__=>?_) hs rfl));obtain ⟨vs,H1,I1,r1,q1⟩:=hq__;obtain ⟨a,xs,rfl,qa,q⟩:=q1;obtain ⟨u,rfl,ru⟩:=vals1 r1
 cases (show u=Value.ref a from ru)
 obtain ⟨itsA,rA,pA,zA⟩:=I1.list qa;refine call_enumerate_list pA.isList λh' hz h1 hsz hk=>wpAny_pyIter_enum hz ?_
 refine ⟨s1.heap.objs.size+1,_,_,_,H1,rfl,I1.kept (t':=s1.toks) hk,qsw a _ s1.heap.objs.size,⟨⟨_,hz⟩,h1⟩,λc hc=>?_,q⟩;have e:s1.heap.objs.size<=c:=by
  simp only[Av,Bo,Ce] at hc
  rcases hc with rfl|rfl
  ·exact CP _ _
  ·exact Ak _
 exact I1.fpOk e (I1.hok.fresh e)
end
theorem qsx {K:Frag} {a:Addr} {tb:TS} (Pv:Nat->St->Hp->Prop) (h0:Pv 0 σ H) (hl:∀ i σ H,Pv i σ H->SqL K H a xs)
  (hs:∀ (i:Nat) x σ H p H',xs[i]?=some x->New H H' p (.tup [.int i,x])->Pv i σ H->g (.ref p) σ H' λσ2 H2=>tb { D with nx:=Pv (i+1),ct:=Pv (i+1),bk:=D.nx } σ2 H2)
  (hd:∀ σ H,Pv xs.length σ H->D.nx σ H) :
  ∃ W:Nat->Nat->St->Hp->Prop,(∃ m,W 0 m σ H)/\∀ i m σ H,W i m σ H ->
   ((Ite K a).stop i H/\D.nx σ H)\/((Ite K a).go i H/\∃ N:St->Hp->Prop,(∀ σ' H',N σ' H'->∃ m',m'<m/\W (i+1) m' σ' H')/\∀ x H',(Ite K a).yld i H x H'->g x σ H' λσ2 H2=>tb { D with nx:=N,ct:=N,bk:=D.nx } σ2 H2):=by
 exists λi m σ H=>m=xs.length-i/\i<=xs.length/\Pv i σ H,⟨xs.length,by simp,Bw _,h0⟩;rintro i m σ H ⟨rfl,hi,p⟩;have qa:=hl i σ H p
 by_cases hlt:i<xs.length
 ·refine .inr ⟨⟨xs,xs[i],qa,by simp[hlt]⟩,Pv (i+1),λσ' H' p'=>⟨xs.length-(i+1),by ext,rfl,hlt,p'⟩,λx H' y=>?_⟩
  obtain ⟨t,rfl,ht,y⟩:=y;have ea:xs[i]?=some xs[i]:=by simp[hlt]
  rw[y xs xs[i] qa ea];exact hs i xs[i] σ H t _ ea (qa7 ht) p
 ·have e:i=xs.length:=by ext
  subst e;exact .inl ⟨⟨xs,qa,Ak _⟩,hd σ H p⟩
open PySem PySem.Spec PyProof.Rows
theorem qsy:typeLookup (.type "list_reverseiterator") "__len__" = pure none:=by rw[typeLookup_type,Fm];kernel_rfl
theorem qvn:typeLookup (.type "list_reverseiterator") "__length_hint__" = pure (some (.builtin "list_reverseiterator.__length_hint__")):=by rw[typeLookup_type,Fm];kernel_rfl
abbrev RvP (items:Array Value):Nat->Value->Prop:=λi v=>items[items.size-1-i]?=some v
abbrev qxe (acc:Array Value) (c:Nat):Obj:={ cls:=.type "list",dict:=none,data:=.seq acc c,slots:=#[] }
section
variable {prog:Program} {w:World} {A:Around} {E:Value->Shared->Prop} {s:Shared}
abbrev qE7 (prog:Program) (w:World) (A:Around) (R:Result->Shared->Prop):Fin->Shared->Prop:=λfin s'=>match fin with|.done f=>R (.ok f) s'|.again c'=>c'.quiet=true/\codeAny (model prog w) A c' R s'
theorem qy4 {R:Result->Shared->Prop} {J S:Addr} {items:Array Value} {res:Value} {c₀:Nat} (hh:A.handled=none) (hit:s.heap.IsRevIter J l ((items.size:Int)-1)) (hl:s.heap.IsList l items) (hne:l≠J) (hSl:S≠l) (hSJ:S≠J) (hn:items.size<=sizeLine) (hS:s.heap.get? S=some (qxe #[] c₀))
  (hR:∀ h' tk acc' c',(∀ b o,b≠S->b≠J->s.heap.get? b=some o->h'.get? b=some o)->h'.get? S=some (qxe acc' c')->ItemsOf (RvP items) acc' items.size->R (.ok (.ret res)) { s with heap:=h',toks:=tk }) :
  wpAny (model prog w) A.in1 (Builtin.List.listExtendWith (.ref S) (.ref J) res) (qE7 prog w A R) (λe s'=>R (.error e) s') s:=by
 have W:=(Walks.listRev (prog:=prog) (w:=w) (A:=A.in1) hh J l hne items).toS;have hSf:S ∉ [J,l]:=λhm=>by
  simp only[Av,Bo,Ce] at hm
  rcases hm with e|e
  ·exact hSJ e
  ·exact hSl e
 have hT:=hit.typeIs;unfold Builtin.List.listExtendWith;refine Ac (wpAny_typeOf hT ?_);have k1:Builtin.List.listSameRef (.ref S) (.ref J)=false:=by simp[Builtin.List.listSameRef,hSJ]
 have k2:(Value.type "list_reverseiterator" == Value.type "list")=false:=by decide
 have k3:(Value.type "list_reverseiterator" == Value.type "tuple")=false:=by decide
 simp only[k1,k2,k3,ET,Cc,Cj];refine Ac (wpAny_pyIter_revIter hit ?_);refine Ac (BS ?_);unfold Builtin.List.listLengthHint;refine Ac (Eo hT qsy ?_)
 show wpAny _ A.in1 (specialOf (Value.ref J) (Str.ofString "__length_hint__") >>= _) _ _ s
 refine Ac (Eo hT qvn ?_)
 generalize hid:("list_reverseiterator.__length_hint__" : String)=id0
 wp_delta
 rw[show splitId id0=some ("list_reverseiterator", "__length_hint__") from by subst hid;decide +kernel];subst hid;refine Ac (D7 (T:= "list_reverseiterator") (b:=true) hT (by rw[isSubtype_type];kernel_rfl) ?_);refine Ai ?_;rw[Al (by decide)];refine Ai ⟨plainId_quiet F.plain_extend_loop _,codeAny_extend_loopS W hn S hSf res items.size 0 s #[] c₀ rfl (Bw _) ⟨Bw _,by simpa using hit,hl⟩ hS (ItemsOf.nil _) λs' acc' c' hm hS' hacc=>?_⟩;rw[Moved.eq_with hm];refine hR s'.heap s'.toks acc' c' (λb o hb hj e=>hm.heap b o (λz=>?_) e) hS' hacc;simp only[Av,Bo,Ce] at z
 rcases z with z|z
 ·exact hb z
 ·exact hj z
theorem qvo {R:Result->Shared->Prop} {J S:Addr} {items:Array Value} (hh:A.handled=none) (hit:s.heap.IsRevIter J l ((items.size:Int)-1)) (hl:s.heap.IsList l items) (hne:l≠J) (hSl:S≠l) (hSJ:S≠J) (hn:items.size<=sizeLine) (hS:s.heap.get? S=some (qxe #[] 0))
  (hR:∀ h' tk acc' c',(∀ b o,b≠S->b≠J->s.heap.get? b=some o->h'.get? b=some o)->h'.get? S=some (qxe acc' c')->ItemsOf (RvP items) acc' items.size->R (.ok (.ret .none)) { s with heap:=h',toks:=tk }) :
  wpAny (model prog w) A.in1 (Builtin.«list.__init__» ⟨[.ref S,.ref J],[]⟩) (qE7 prog w A R) (λe s'=>R (.error e) s') s:=by
 show wpAny _ _ (do let old <- Builtin.List.listItems (.ref S);Builtin.List.listUpdate (.ref S) (λ_=>#[]);letGo old.toList.reverse;Builtin.List.listExtendWith (.ref S) (.ref J) .none) _ _ s
 refine Ac ?_;unfold Builtin.List.listItems;refine Ac (wpAny_seqItems hS rfl (Ai ?_))
 show wpAny _ _ (updateSeq S (λ_=>#[]) >>= λ_=>letGo (#[]:Array Value).toList.reverse >>= λ_=>Builtin.List.listExtendWith (.ref S) (.ref J) .none) _ _ s
 refine Ac (wpAny_updateSeq hS rfl ?_);have hS2:=CN (Obj.mapSeq (λ_=>(#[]:Array Value))) hS rfl;have oth:∀ b o,b≠S->s.heap.get? b=some o->(s.heap.update S (Obj.mapSeq (λ_=>(#[]:Array Value)))).get? b=some o:=λb o hb e=>(BC _ _ (BR hb)).trans e
 refine Ac (wpAny_letGo ?_);refine qy4 hh (hit.at λo e=>oth J o (BR hSJ) e) (hl.at λo e=>oth l o (BR hSl) e) hne hSl hSJ hn hS2 λh' tk acc' c' hk hS' hacc=>?_
 exact hR h' tk acc' c' (λb o hb hj e=>hk b o hb hj (oth b o hb e)) hS' hacc
theorem qvp {J:Addr} {items:Array Value} (hh:A.handled=none) (hit:s.heap.IsRevIter J l ((items.size:Int)-1)) (hl:s.heap.IsList l items) (hne:l≠J) (hn:items.size<=sizeLine)
  (hQ:∀ h' tk acc' c',(∀ b o,b≠J->s.heap.get? b=some o->h'.get? b=some o)->h'.get? s.heap.objs.size=some (qxe acc' c')->ItemsOf (RvP items) acc' items.size->Q (.ref s.heap.objs.size) { s with heap:=h',toks:=tk }) :
  wpAny (model prog w) A (call (.type "list") [.ref J]) Q E s:=by
 refine callType_codes (Q₁:=λobj s₁=>obj=.ref s.heap.objs.size/\s₁={ s with heap:=s.heap.push (qxe #[] 0) }) F.called_list (F.typeCall_list_1 _) F.entry_list_init (code_list_new _ ⟨rfl,rfl⟩) λobj s₁ h₁=>?_
 obtain ⟨rfl,rfl⟩:=h₁;have hS:(s.heap.push (qxe #[] 0)).get? s.heap.objs.size=some (qxe #[] 0):=Ay _ rfl;have hJ:s.heap.objs.size≠J:=by obtain ⟨o,ho,_⟩:=hit;exact BR (AH (Aq ho))
 have hL:s.heap.objs.size≠l:=by obtain ⟨o,ho,_⟩:=hl;exact BR (AH (Aq ho))
 refine ⟨⟨_,hS,rfl⟩,F.args_list_init_2 _ _,qvo (A:=A.in1) hh (hit.at λo e=>Af _ e) (hl.at λo e=>Af _ e) hne hL hJ hn hS λh' tk acc' c' hk hS' hacc=>?_⟩;exact ⟨rfl,hQ h' tk acc' c' (λb o hj e=>hk b o (AH (Aq e)) hj (Af _ e)) hS' hacc⟩
end
theorem qsz {items acc:Array Value} (h:ItemsOf (RvP items) acc items.size):acc.toList=items.toList.reverse:=by
 apply D3
 intro i
 by_cases hi:i<acc.size
 ·have e:=h.2 i acc[i] (by simp[hi])
  have hi2:i<items.toList.length:=by rw[Be,<- h.1];exact hi
  rw[List.getElem?_reverse hi2];have e2:acc.toList[i]?=some acc[i]:=by simp[hi]
  rw[e2,<- e]
  simp
 ·rw[BW (by simpa using hi),BW (by rw[DL,Be,<- h.1];exact Nat.not_lt.mp hi)]
section
variable {X:Cx}
def qvq (K:Frag) (te:TE):TE:=λσ H Q=>te σ H λx H1=>∃ a xs,x=.ref a/\SqL K H1 a xs/\∀ p H',New H1 H' p (.lst xs.reverse)->Q (.ref p) H'
theorem qq8 {p1 pos pos1:Pos} (hc:X.calm=true) (hg:Gl X "list") (hm:X.mg "list" = none) (hg1:Gl X "reversed") (hm1:X.mg "reversed" = none) (ha:PE X e te)
  (hs:starEach [.Call (.Name "reversed" p1) [e] [] pos1] X.env=[(false,eval (.Call (.Name "reversed" p1) [e] [] pos1) X.env)]:=by rfl) (hs1:starEach [e] X.env=[(false,eval e X.env)]:=by rfl) :
  PE X (.Call (.Name "list" p) [.Call (.Name "reversed" p1) [e] [] pos1] [] pos) (qvq X.K te):=by
 intro pins s σ H Q I h;refine Call_ (qgu I hg hm qfl (BI ?_ hs rfl));rw[hs]
 show wpAny _ _ (spliced ((false,eval (.Call (.Name "reversed" p1) [e] [] pos1) X.env) :: [])) _ _ s
 refine CB ?_;refine Call_ (qgu I hg1 hm1 (show bootBuiltins "reversed" = some (.type "reversed") by decide +kernel) (BI ?_ hs1 rfl));rw[hs1]
 show wpAny _ _ (spliced ((false,eval e X.env) :: [])) _ _ s
 refine CB (thn (ha pins s σ H _ I h) λu s1 ⟨x,H1,I1,r1,a,xs,ex,hq,q⟩=>Df ?_);subst ex
 cases (show u=Value.ref a from r1)
 obtain ⟨its,rv,pl,hz⟩:=I1.list hq;have hlen:=rv.length;refine call_reversed_list pl.isList (Df ?_);have hl:=pl.isList;have hJ:a≠s1.heap.objs.size:=by obtain ⟨o,ho,_⟩:=hl;exact AH (Aq ho)
 have hit:(s1.heap.push (revObj a ((its.toArray.size:Int)-1))).IsRevIter s1.heap.objs.size a ((its.toArray.size:Int)-1):=⟨_,Ay _ rfl,rfl,rfl⟩;refine qvp (s:={ s1 with heap:=s1.heap.push (revObj a ((its.toArray.size:Int)-1)) }) (I.ok.hd hc) hit (hl.at λo e=>Af _ e) hJ (by rw[AJ];ext) λh' tk acc' c' hk hS' hacc=>?_
 have e3:acc'.toList=its.reverse:=by simpa using qsz hacc
 have kp:∀ b ob,s1.heap.get? b=some ob->h'.get? b=some ob:=λb ob e=>hk b ob (AH (Aq e)) (Af _ e)
 have hge:s1.heap.objs.size<=(s1.heap.push (revObj a ((its.toArray.size:Int)-1))).objs.size:=by rw[BM];exact BE _
 refine ⟨.ref (s1.heap.push (revObj a ((its.toArray.size:Int)-1))).objs.size,_,I1.laid (t':=tk) (o:=.lst xs.reverse) kp hge ?_,rfl,q _ _ (qa7 (I1.hok.fresh hge))⟩;exists by simpa using hz,its.reverse,c',rv.reverse;rw[<- e3];exact hS'
end
open PySem PySem.Spec PyProof.Rows
def RawD (h:Heap) (d:Addr) (es:Array DictEntry) (ep:Nat):Prop:=∃ o,h.get? d=some o/\o.ExactDict/\o.data=.dict es ep
theorem RawD.ty {s:Shared} {es:Array DictEntry} (x:RawD s.heap d es ep):s.TypeIs (.ref d) "dict" :=let ⟨o,a,b,_⟩:=x;⟨o,a,b.1⟩
theorem RawD.up {h':Heap} {es:Array DictEntry} (x:RawD h d es ep) (e:∀ o,h.get? d=some o->h'.get? d=some o):RawD h' d es ep:=let ⟨o,a,b⟩:=x;⟨o,e o a,b⟩
theorem RawD.lt {es:Array DictEntry} (x:RawD h d es ep):d<h.objs.size:=let ⟨_,a,_⟩:=x;Aq a
section
variable {prog:Program} {w:World} {A:Around} {E:Value->Shared->Prop} {s:Shared}
abbrev qD8 (d:Addr) (n ep:Nat):Obj:={ cls:=.type "dict_keyiterator",data:=.fields #[.ref d,.int 0 0,.int n 0,.int ep 0] }
theorem qy5 {es:Array DictEntry} (lo:(d == sysModules)=false) (hm:RawD s.heap d es ep) (hQ:Q (.ref s.heap.objs.size) { s with heap:=s.heap.push (qD8 d es.size ep) }) :
  wpAny (model prog w) A (pyIter (.ref d)) Q E s:=by
 have ty:=hm.ty;obtain ⟨o,h1,h2,h3⟩:=hm;refine DU ty F.slot_dict_iter (Bt F.slot_dict_iter ty F.entry_dict_iter ?_ (F.args_dict_iter_1 _));unfold Builtin.«dict.__iter__»;refine Ac ?_;unfold Builtin.Dict.dictSlotNone;refine Ac (Fi ty ?_)
 show wpAny _ _ (pure (Value.ref d)) _ _ s;refine Ai ?_
 show wpAny _ _ (Builtin.Dict.showsAll d >>= _) _ _ s;unfold Builtin.Dict.showsAll
 rw[Al (by rw[lo];exact AA)];refine Ac (Ai ?_);refine Ac (Cf h1 h3 ?_);refine Ac (Cw h1 h3 ?_);refine Ac (Bk (Ai ⟨_,rfl, "dict_keyiterator",_,⟨_,Ay _ rfl,rfl⟩,BO.lookup,?_⟩));simpa [rawInt] using hQ
theorem qy6 {es:Array DictEntry} {Q:Option Value->Shared->Prop} (hJ:s.heap.IsKeyIter it d i es.size ep) (hm:RawD s.heap d es ep) (hx:i<es.size)
  (hQ:∀ h',h'.IsKeyIter it d (i+1) es.size ep->Heap.SameBut it s.heap h'->Q (some es[i].key) { s with heap:=h' }):wpAny (model prog w) A (pyNext (.ref it)) Q E s:=by
 obtain ⟨o,ho,hc,hd⟩:=id hJ;obtain ⟨od,h1,h2,h3⟩:=hm;have ty:=hJ.typeIs;unfold pyNext;refine Ac (DN (wpAny_callSpecial?_slot (name:=Str.ofString "__next__") ty BO (Bt BO ty En ?_ (Ej _))));refine Ac (Ai ?_);refine Ac ?_;refine Ac ?_
 first|refine Ac (Ca ty (Ai ?_))|refine Ac (Cu ty (Ai ?_))
 refine Ac (DG ho hd ?_);simp only[show Builtin.Dict_items.ownsTuple "dict_keyiterator" = false by decide,Cc,Cj]
 show wpAny _ _ (if (Value.ref d == Value.none)=true then _ else _) _ _ s;rw[Al (show ¬ ((Value.ref d == Value.none)=true) from AA)]
 refine Ac (Ai ?_);refine Ac (Cf h1 h3 ?_);rw[Al (by simp)];refine Ac (Ai ?_);refine Ac (Cw h1 h3 ?_);rw[Al (by simp)];refine Ai ?_;simp only[show ¬ ((i:Int)<0) from by ext,Cj,CL,Bj hx];refine Ac ?_
 first|refine Ac (Ca ty (Ai ?_))|refine Ac (Cu ty (Ai ?_))
 refine Ac (Fl ty ?_)
 show wpAny _ _ (setField (.ref it) 1 (rawInt ((i:Int)+1)) >>= _) _ _ s;refine Ac (CG ho hd (by simp) ?_)
 have hJ':(s.heap.update it (Obj.mapFields (·.setIfInBounds 1 (rawInt ((i:Int)+1))))).IsKeyIter it d (i+1) es.size ep:=⟨_,CN _ ho (DD (CA hd _)),(Obj.cls_mapFields ..).trans hc,by rw[CA hd];simp[rawInt]⟩;refine Ac (BS ?_);refine Ac (Fl (s:={ s with heap:=s.heap.update it (Obj.mapFields (·.setIfInBounds 1 (rawInt ((i:Int)+1)))) }) hJ'.typeIs ?_)
 show wpAny _ _ (pure es[i].key) _ _ _
 exact Ai (Ai ⟨_,rfl,Ai (hQ _ hJ' (BQ ..))⟩)
theorem qBj {es:Array DictEntry} {Q:Option Value->Shared->Prop} (hh:A.handled=none) (hJ:s.heap.IsKeyIter it d es.size es.size ep) (hm:RawD s.heap d es ep)
  (hQ:∀ h',Heap.ExtBut it s.heap h'->Q none { s with heap:=h' }):wpAny (model prog w) A (pyNext (.ref it)) Q E s:=by
 obtain ⟨o,ho,hc,hd⟩:=id hJ;obtain ⟨od,h1,h2,h3⟩:=hm;have ty:=hJ.typeIs;unfold pyNext;refine Ac (DN (wpAny_callSpecial?_slot (name:=Str.ofString "__next__") ty BO (Bt BO ty En ?_ (Ej _))));refine Ac (Ai ?_);refine Ac ?_;refine Ac ?_
 first|refine Ac (Ca ty (Ai ?_))|refine Ac (Cu ty (Ai ?_))
 refine Ac (DG ho hd ?_);simp only[show Builtin.Dict_items.ownsTuple "dict_keyiterator" = false by decide,Cc,Cj]
 show wpAny _ _ (if (Value.ref d == Value.none)=true then _ else _) _ _ s;rw[Al (show ¬ ((Value.ref d == Value.none)=true) from AA)]
 refine Ac (Ai ?_);refine Ac (Cf h1 h3 ?_);rw[Al (by simp)];refine Ac (Ai ?_);refine Ac (Cw h1 h3 ?_);rw[Al (by simp)];refine Ai ?_;simp only[show ¬ ((es.size:Int)<0) from by ext,Cj,CL,Fh (Ak _)];refine Ac ?_
 first|refine Ac (Ca ty (Ai ?_))|refine Ac (Cu ty (Ai ?_))
 show wpAny _ _ (setField (.ref it) 0 .none >>= _) _ _ s;refine Ac (CG ho hd (by simp) ?_)
 show wpAny _ _ (newExc (.type "StopIteration") [] >>= _) _ _ _;refine Ac ?_
 simp only[newExc,newTuple];refine Ac (Bk ?_ (by size_fits));refine Ac (m:=firstArgMember _ _) (wpAny_of_eq (a:=Value.none) (by first|rfl|(simp only[firstArgMember];rfl)) ?_);refine Bk ?_ (by size_fits);simp only[raiseNew];refine Ac (wpAny_handled ?_);rw[show A.in1.handled=none from hh];refine Ac (Ai (wpAny_throw ?_));refine Ac (D7 (T:= "StopIteration") (b:=true) ⟨_,Ay _ rfl,rfl⟩ isSubtype_stop ?_);exact Ai (hQ _ (((BQ ..).extBut.push _).push _))
theorem qvr (hh:A.handled=none) (J d:Addr) (hne:d≠J) (es:Array DictEntry) (ep:Nat) :
  Walks prog w A J [J,d] [J] es.size (λi v=>∃ e,es[i]?=some e/\v=e.key) (λi h=>h.IsKeyIter J d i es.size ep/\RawD h d es ep) where
 sub:=λb hb=>by simp at hb;simp[hb]
 frame:=λ_ _ _ st hk=>⟨st.1.at λo e=>hk J (by simp) o e,st.2.up λo e=>hk d (by simp) o e⟩
 item:=λi s Q E hi st hQ=>by
  refine qy6 st.1 st.2 hi λh' hJ' hs'=>?_
  exact hQ _ h' s.toks ⟨es[i],by simp[hi],rfl⟩ ⟨hJ',st.2.up λo e=>hs'.extBut d o hne e⟩ λb o hb e=>hs'.extBut b o (λh=>hb (by simp[h])) e
 done:=λs Q E st hQ=>qBj hh st.1 st.2 λh' he'=>hQ h' s.toks λb o hb e=>he' b o (λh=>hb (by simp[h])) e
 self:=λ_ _ _ _ st hQ=>wpAny_pyIter_keyiter st.1 hQ
theorem qBk {es:Array DictEntry} (lo:(d == sysModules)=false):PySem.W.KdlSrc prog w "dict" d d es.size (λi v=>∃ e,es[i]?=some e/\v=e.key) (λh=>RawD h d es ep) where
 type:=λ_ hm=>hm.ty
 there:=λ_ hm=>⟨hm.lt,hm.lt⟩
 keep:=λ_ _ hm hk=>hm.up λo e=>hk d (.inl rfl) o e
 notList:=by decide
 notTuple:=by decide
 hint:=λ_ _ _ _ hm hq=>PySem.W.kdl_hint_dict hm.ty hq
 iter:=λ_ _ hh hm=>⟨_,_,(λ_ _ hq=>qy5 lo hm hq),qvr hh _ d (AH hm.lt) es ep,⟨⟨_,Ay _ rfl,rfl,rfl⟩,hm.up λ_ e=>Af _ e⟩⟩
end
open PySem PySem.Spec PyProof.Rows
section
variable {prog:Program} {w:World} {A:Around} {E:Value->Shared->Prop} {s:Shared}
theorem qj4 {a:Addr} {n:Nat} {P:Fin->Shared->Prop} (ho:s.heap.get? a=some (seqObj "list" vs.toArray n)) (h2:vs.length<2)
  (h:P (.done (.ret .none)) { s with heap:=sortedHeap s.heap a vs ((vs.toArray.zip vs.toArray).map (·.2)) }):wpAny (model prog w) A (Builtin.«list.sort» ⟨[.ref a],[]⟩) P E s:=by
 rw[Ep];have la:a<s.heap.objs.size:=Aq ho;refine Ac (E4 ho rfl ?_);refine Ac (CT ho rfl ?_);obtain ⟨e1,h1⟩:∃ e1,(s.heap.update a (Obj.mapSeq λ_=>#[])).get? a=some (seqObj "list" #[] e1):=⟨_,get?_update_seq ho (λ_=>#[])⟩;refine Ac (Dc h1 rfl ?_);refine Ac (DF ?_);refine Ac (CS ?_);refine BS ?_;have h6:(((s.heap.update a (Obj.mapSeq λ_=>#[])).push (seqObj "tuple" vs.toArray 0)).push (seqObj "list" #[] 0)).get? a=some (seqObj "list" #[] e1):=by
  rw[Ci _ _ _ (by rw[Ds,BV];exact AH (CJ la)),Ci _ _ _ (by rw[BV];exact AH la)];exact h1
 show wpAny (model prog w) A _ P E { s with heap:=((s.heap.update a (Obj.mapSeq λ_=>#[])).push (seqObj "tuple" vs.toArray 0)).push (seqObj "list" #[] 0) }
 dsimp only;have z2:vs.toArray.size<2:=by simpa using h2
 rw[Au z2,Au z2];refine Ac (Ai ?_);rw[StateT.run_pure];refine Ac (Ai ?_);dsimp only;refine Ac (Dc h6 rfl ?_);refine Ac (CT h6 rfl ?_ (hsz2:=by rw[C7];show (pairsOf vs).size<=_;rw[E3,Bv];ext));simp only[DV,Cc,Cj];exact Ai h
end
theorem qs0 (vs:List Value):(vs.toArray.zip vs.toArray).map (·.2)=vs.toArray:=by
 apply Array.ext'
 simpa using List.map_snd_zip (l₁:=vs) (l₂:=vs) (Ak _)
section
variable {X:Cx}
end
open PySem PySem.Spec PyProof.Rows
section
variable {X:Cx} {tg:Expr}
end
section
variable {X:Cx}
inductive qs1 (K:Frag) (x y:V) (H:Hp) (Q:VK):Prop
 | mk:∀ a b xs ys,x=.ref a->y=.ref b->SqT K H a xs->SqT K H b ys->xs≠[]->ys≠[]->xs.length+ys.length<=sizeLine->(∀ p H',New H H' p (.tup (xs ++ ys))->Q (.ref p) H')->qs1 K x y H Q
def qj5 (K:Frag):R2:=λx y H Q=>qs1 K x y H Q
theorem qfy:OpR X (binaryOp .Add) (qj5 X.K):=op_catT.imp λ_ _ _ _ ⟨a,b,xs,ys,e1,e2,h1,h2,z,zy,hz,q⟩=>⟨a,b,xs,ys,e1,e2,h1,h2,z,hz,λe=>absurd e zy,λ_ p hp=>q p _ (qa7 hp)⟩
def qBl:TE:=λ_ H Q=>∀ p H',New H H' p (.dT [])->Q (.ref p) H'
theorem qhu {pos:Pos}:PE X (.Dict [] [] pos) qBl:=λpins s σ H Q I h=>qvi pins s σ H Q I λp hp=>h p _ (qa7 hp)
end
open PySem PySem.Spec PyProof.Rows
end L2
namespace L2
variable {xs:List V}{us vs:List Value}{H H':Hp}{o:HO}{h:Heap}{t' i k ek ep:Nat}{it C f l d:Addr}{N ps:List Str}{j:Int}{x qual:Str}{E Q:Value->Shared->Prop}{u:Value}{e e1 e2:Expr}{σ:St}{y:V}{D:Ends}{tc:TT}{te:TE}{g:TG}{p epos:Pos}{sp:Sp}{ks:List (List Int)}{t1 t2 t3 t4 t5:TS}
theorem lq1 {α:Type} {us:List α} (h:us.length=1):∃ a,us=[a]:=by
 cases us with
 | nil=>cases h
 | cons a r=>exact ⟨a,by rw[Bg.mp (DW h)]⟩
theorem lq2 {α:Type} {us:List α} (h:us.length=2):∃ a0 a1,us=[a0,a1]:=by
 cases us with
 | nil=>cases h
 | cons a r=>obtain ⟨a1,e⟩:=lq1 (DW h);exact ⟨a,a1,by rw[e]⟩
theorem lq3 {α:Type} {us:List α} (h:us.length=3):∃ a0 a1 a2,us=[a0,a1,a2]:=by
 cases us with
 | nil=>cases h
 | cons a r=>obtain ⟨a1,a2,e⟩:=lq2 (DW h);exact ⟨a,a1,a2,by rw[e]⟩
theorem lq4 {α:Type} {us:List α} (h:us.length=4):∃ a0 a1 a2 a3,us=[a0,a1,a2,a3]:=by
 cases us with
 | nil=>cases h
 | cons a r=>obtain ⟨a1,a2,a3,e⟩:=lq3 (DW h);exact ⟨a,a1,a2,a3,by rw[e]⟩
open PySem PySem.Spec PyProof.Rows PySem.W
def KW (lt:Nat->Nat->Bool) (n:Nat) {α:Type}:KasT α->(α->Prop)->Prop
 | .ret a,Q=>Q a
 | .ask i j k,Q=>i<n/\j<n/\KW lt n (k (lt i j)) Q
theorem KW.bind {lt:Nat->Nat->Bool} {n:Nat} {α β:Type} {f:α->KasT β} {Q:β->Prop}:∀ {t:KasT α},KW lt n t (λa=>KW lt n (f a) Q)->KW lt n (t.bind f) Q
 | .ret a,h=>by rw[KasT.bind.eq_1];exact h
 | .ask i j k,h=>by
  rw[KasT.bind.eq_2];exact ⟨h.1,h.2.1,KW.bind h.2.2⟩
theorem KW.mono {lt:Nat->Nat->Bool} {n:Nat} {α:Type} {Q Q':α->Prop} (hq:∀ a,Q a->Q' a):∀ {t:KasT α},KW lt n t Q->KW lt n t Q'
 | .ret a,h=>hq a h
 | .ask i j k,h=>⟨h.1,h.2.1,KW.mono hq h.2.2⟩
theorem KW.run {lt:Nat->Nat->Bool} {n:Nat} {α:Type} {Q:α->Prop} {cmp:Nat->Nat->(Bool->Shared->Prop)->Shared->Prop} {s:Shared} (hc:∀ i j (C:Bool->Shared->Prop),i<n->j<n->C (lt i j) s->cmp i j C s) :
  ∀ {t:KasT α},KW lt n t Q->KasT.kasWp cmp t (λa s'=>s'=s/\Q a) s
 | .ret a,h=>by rw[KasT.kasWp.eq_1];exact ⟨rfl,h⟩
 | .ask i j k,h=>by
  rw[KasT.kasWp.eq_2];exact hc i j _ h.1 h.2.1 (KW.run hc h.2.2)
structure qE8 (n:Nat) (lt:Nat->Nat->Bool):Prop where
 tot:∀ i j,i<n->j<n->i≠j->lt i j=false->lt j i=true
 tr:∀ i j k,i<n->j<n->k<n->lt i j=true->lt j k=true->lt i k=true
structure PermA (n:Nat) (p:Array Nat):Prop where
 sz:p.size=n
 perm:p.toList.Perm (List.range n)
theorem PermA.lt {n:Nat} {p:Array Nat} (h:PermA n p) {x:Nat} (hx:x<n):p.getD x 0<n:=by
 have hs:=h.sz;rw[AW,Bj (by ext)];have:p[x]∈p.toList:=by simp
 exact C5.mp (h.perm.mem_iff.mp this)
theorem PermA.inj {n:Nat} {p:Array Nat} (h:PermA n p) {x y:Nat} (hx:x<n) (hy:y<n) (hne:x≠y):p.getD x 0≠p.getD y 0:=by
 have hs:=h.sz;have nd:p.toList.Nodup:=h.perm.nodup_iff.mpr List.nodup_range;rw[AW,Bj (by ext),AW,Bj (by ext)];intro e;have e':p.toList[x]'(by simpa using by ext)=p.toList[y]'(by simpa using by ext):=by simpa using e
 have pw:=BX.mp nd
 rcases Nat.lt_or_gt_of_ne hne with h1|h1
 ·exact pw x y (by simpa using by ext) (by simpa using by ext) h1 e'
 ·exact pw y x (by simpa using by ext) (by simpa using by ext) h1 e'.symm
theorem PermA.of {n:Nat} {p q:Array Nat} (h:PermA n p) (hq:q.Perm p):PermA n q:=by
 have e:q.toList.Perm p.toList:=Array.perm_iff_toList_perm.mp hq;exact ⟨by have:=e.length_eq;simpa [h.sz] using this,e.trans h.perm⟩
def Asc (lt:Nat->Nat->Bool) (p:Array Nat) (b:Nat):Prop:=∀ x y,x<y->y<b->lt (p.getD x 0) (p.getD y 0)=true
structure OrdW (n:Nat) (lt:Nat->Nat->Bool):Prop where
 as_:∀ i j,i<n->j<n->lt i j=true->lt j i=false
 tr:∀ i j k,i<n->j<n->k<n->lt j i=false->lt k j=false->lt k i=false
theorem OrdW.irr {n:Nat} {lt:Nat->Nat->Bool} (O:OrdW n lt) (h:i<n):lt i i=false:=by
 cases e:lt i i with
 | false=>rfl
 | true=>rw[<- e];exact O.as_ i i h h e
def qrs (lt:Nat->Nat->Bool) (p:Array Nat) (b:Nat):Prop:=∀ x y,x<y->y<b->lt (p.getD y 0) (p.getD x 0)=false
def qu3 (lt:Nat->Nat->Bool) (p:Array Nat) (b:Nat):Prop:=∀ x y,x<y->y<b->lt (p.getD x 0) (p.getD y 0)=false
def qla (lt:Nat->Nat->Bool) (p:Array Nat) (i j:Nat):Prop:=∀ a b,i<=a->a<j->i<=b->b<j->lt (p.getD a 0) (p.getD b 0)=false
section
variable {lt:Nat->Nat->Bool} {n:Nat}
theorem qoc (O:OrdW n lt) {p:Array Nat} (hp:PermA n p):∀ (f x:Nat),1<=x->x+f<=n->qrs lt p x->KW lt n (kas_asc p f x) (λm=>x<=m/\m<=x+f/\qrs lt p m/\(m=x+f\/lt (p.getD m 0) (p.getD (m-1) 0)=true))
 | 0,x,h1,hx,ha=>by rw[kas_asc.eq_1];exact ⟨Ak _,Ak _,ha,.inl rfl⟩
 | f+1,x,h1,hx,ha=>by
  rw[kas_asc.eq_2];exists hp.lt (by ext),hp.lt (by ext)
  cases e:lt (p.getD x 0) (p.getD (x-1) 0) with
  | true=>dsimp only;rw[Au rfl];exact ⟨Ak _,by ext,ha,.inr e⟩
  | false =>
   dsimp only;rw[Al AA];refine KW.mono (λm hm=>?_) (qoc O hp f (x+1) (by ext) (by ext) ?_)
   ·obtain ⟨m1,m2,m3,m4⟩:=hm
    exact ⟨by ext,by ext,m3,m4.imp (λz=>by ext) id⟩
   ·intro a b hab hb
    by_cases hbx:b=x
    ·subst hbx
     by_cases hax:a=b-1
     ·subst hax;exact e
     ·exact O.tr _ _ _ (hp.lt (by ext)) (hp.lt (by ext)) (hp.lt (by ext)) (ha a (b-1) (by ext) (by ext)) e
    ·exact ha a b hab (by ext)
theorem qlb {p:Array Nat} (hp:PermA n p) {m x:Nat} (hm:m<=n):(kas_rev p i m).getD x 0=if i<=x/\x<m then p.getD (i+m-1-x) 0 else p.getD x 0:=by
 have hs:=hp.sz;unfold kas_rev;rw[AW,getElem?_mirror_all (by ext)]
 split<;>rw[AW]
theorem qej {p:Array Nat} (hp:PermA n p) (i m:Nat):PermA n (kas_rev p i m):=hp.of (mirror_perm _ _ _ _)
theorem qpf (O:OrdW n lt) {p:Array Nat} (hp:PermA n p) {m:Nat} (hm:m<=n) (hs:qla lt p i m) {a:Nat} (ha:a<n):lt ((kas_rev p i m).getD a 0) (p.getD a 0)=false/\lt (p.getD a 0) ((kas_rev p i m).getD a 0)=false:=by
 rw[qlb hp hm]
 split
 ·exact ⟨hs _ _ (by ext) (by ext) (by ext) (by ext),hs _ _ (by ext) (by ext) (by ext) (by ext)⟩
 ·exact ⟨O.irr (hp.lt ha),O.irr (hp.lt ha)⟩
theorem qs2 (O:OrdW n lt) {p:Array Nat} (hp:PermA n p) {m:Nat} (hm:m<=n) (hs:qla lt p i m) {a b:Nat} (ha:a<n) (hb:b<n) (h:lt (p.getD a 0) (p.getD b 0)=false):lt ((kas_rev p i m).getD a 0) ((kas_rev p i m).getD b 0)=false:=by
 have hq:=qej hp i m;have h1:=qpf O hp hm hs ha;have h2:=qpf O hp hm hs hb;exact O.tr _ _ _ (hq.lt hb) (hp.lt ha) (hq.lt ha) (O.tr _ _ _ (hq.lt hb) (hp.lt hb) (hp.lt ha) h2.2 h) h1.1
theorem qs3 (O:OrdW n lt) {p:Array Nat} (hp:PermA n p) {m x:Nat} (hm:m<=n) (hx:x<=n) (hs:qla lt p i m) (h:qu3 lt p x):qu3 lt (kas_rev p i m) x:=
 λa b hab hb=>qs2 O hp hm hs (by ext) (by ext) (h a b hab hb)
theorem qhv (O:OrdW n lt):∀ (f:Nat) (p:Array Nat) (x q:Nat),PermA n p->2<=x->x+f<=n->q+1<=x->qu3 lt p x->qla lt p (x-(q+1)) x ->
  KW lt n (kas_desc f p x q) (λr=>PermA n r.1/\x<=r.2.1/\r.2.1<=x+f/\r.2.2+1<=r.2.1/\qu3 lt r.1 r.2.1/\qla lt r.1 (r.2.1-(r.2.2+1)) r.2.1)
 | 0,p,x,q,hp,h1,hx,hq,ha,hs=>by rw[kas_desc.eq_1];exact ⟨hp,Ak _,Ak _,hq,ha,hs⟩
 | f+1,p,x,q,hp,h1,hx,hq,ha,hs=>by
  rw[kas_desc.eq_2];exists hp.lt (by ext),hp.lt (by ext);have fin:∀ {t:KasT (Array Nat×Nat×Nat)},KW lt n t (λr=>PermA n r.1/\x+1<=r.2.1/\r.2.1<=x+1+f/\r.2.2+1<=r.2.1/\qu3 lt r.1 r.2.1/\qla lt r.1 (r.2.1-(r.2.2+1)) r.2.1)->KW lt n t (λr=>PermA n r.1/\x<=r.2.1/\r.2.1<=x+(f+1)/\r.2.2+1<=r.2.1/\qu3 lt r.1 r.2.1/\qla lt r.1 (r.2.1-(r.2.2+1)) r.2.1):=λh=>KW.mono (λr ⟨r1,r2,r3,r4,r5,r6⟩=>⟨r1,by ext,by ext,r4,r5,r6⟩) h
  have one:∀ (p':Array Nat),PermA n p'->qu3 lt p' x->lt (p'.getD (x-1) 0) (p'.getD x 0)=false->qu3 lt p' (x+1):=λp' hp' hd e a b hab hb=>by
   by_cases hbx:b=x
   ·subst hbx
    by_cases hax:a=b-1
    ·subst hax;exact e
    ·exact O.tr _ _ _ (hp'.lt (by ext)) (hp'.lt (by ext)) (hp'.lt (by ext)) e (hd a (b-1) (by ext) (by ext))
   ·exact hd a b hab (by ext)
  have seg1:∀ (p':Array Nat),PermA n p'->qla lt p' (x+1-(0+1)) (x+1):=λp' hp' a b h1 h2 h3 h4=>by
   have ea:a=x:=by ext
   have eb:b=x:=by ext
   rw[ea,eb];exact O.irr (hp'.lt (by ext))
  cases e:lt (p.getD x 0) (p.getD (x-1) 0) with
  | true =>
   have e2:=O.as_ _ _ (hp.lt (by ext)) (hp.lt (by ext)) e;dsimp only;rw[Au rfl]
   by_cases hq0:q>0
   ·rw[Au hq0]
    have hp':=qej hp (x-(q+1)) x;refine fin (qhv O f _ (x+1) 0 hp' (by ext) (by ext) (by ext) (one _ hp' (qs3 O hp (by ext) (by ext) hs ha) ?_) (seg1 _ hp'));exact qs2 O hp (by ext) hs (by ext) (by ext) e2
   ·rw[Al hq0]
    exact fin (qhv O f _ (x+1) 0 hp (by ext) (by ext) (by ext) (one _ hp ha e2) (seg1 _ hp))
  | false =>
   dsimp only;rw[Al AA];exists hp.lt (by ext),hp.lt (by ext)
   cases e2:lt (p.getD (x-1) 0) (p.getD x 0) with
   | true =>
    dsimp only;rw[Au rfl];exact ⟨hp,Ak _,(show x<=x+(f+1) by ext),hq,ha,hs⟩
   | false =>
    dsimp only;rw[Al AA];refine fin (qhv O f _ (x+1) (q+1) hp (by ext) (by ext) (by ext) (one _ hp ha e2) ?_);have key:∀ a,x-(q+1)<=a->a<=x->lt (p.getD a 0) (p.getD x 0)=false/\lt (p.getD x 0) (p.getD a 0)=false:=λa h1 h2=>by
     by_cases hax:a=x
     ·rw[hax];exact ⟨O.irr (hp.lt (by ext)),O.irr (hp.lt (by ext))⟩
     ·have f1:=hs a (x-1) (by ext) (by ext) (by ext) (by ext)
      have f2:=hs (x-1) a (by ext) (by ext) (by ext) (by ext);exact ⟨O.tr _ _ _ (hp.lt (by ext)) (hp.lt (by ext)) (hp.lt (by ext)) e2 f1,O.tr _ _ _ (hp.lt (by ext)) (hp.lt (by ext)) (hp.lt (by ext)) f2 e⟩
    intro a b h1 h2 h3 h4;exact O.tr _ _ _ (hp.lt (by ext)) (hp.lt (show x<n by ext)) (hp.lt (by ext)) (key b (by ext) (by ext)).2 (key a (by ext) (by ext)).1
theorem qgz (O:OrdW n lt) {p:Array Nat} (hp:PermA n p) {m:Nat} (h1:1<=m) (hm:m<n) (hd:qu3 lt p (m+1)):KW lt n (kas_descPart m n p) (λr=>PermA n r.2/\1<=r.1/\r.1<=n/\qrs lt r.2 r.1):=by
 unfold kas_descPart;have tail:∀ {q:Array Nat} {x:Nat},PermA n q->1<=x->x<=n->qu3 lt q x->KW lt n (kas_tail3 x n q) (λr=>PermA n r.2/\1<=r.1/\r.1<=n/\qrs lt r.2 r.1):=fun {q x} hq hx1 hxn hdq=>by
  unfold kas_tail3;have hq':=qej hq 0 x;refine KW.bind (KW.mono (λm' hm'=>?_) (qoc O hq' (n-x) x hx1 (by ext) ?_))
  ·obtain ⟨a1,a2,a3,_⟩:=hm'
   exact ⟨hq',by show 1<=m';ext,by show m'<=n;ext,a3⟩
  ·intro a b hab hb
   rw[qlb hq hxn,qlb hq hxn,Au ⟨Bw _,hb⟩,Au ⟨Bw _,by ext⟩];exact hdq _ _ (by ext) (by ext)
 refine KW.bind (KW.mono (λr hr=>?_) (qhv O (n-(m+1)) p (m+1) 0 hp (by ext) (by ext) (by ext) hd (λa b h1 h2 h3 h4=>?_)))
 ·obtain ⟨r1,r2,r3,r4,r5,r6⟩:=hr
  by_cases hq:r.2.2>0
  ·rw[Au hq]
   exact tail (qej r1 _ _) (by ext) (by ext) (qs3 O r1 (by ext) (by ext) r6 r5)
  ·rw[Al hq]
   exact tail r1 (by ext) (by ext) r5
 ·have ea:a=m:=by ext
  have eb:b=m:=by ext
  rw[ea,eb];exact O.irr (hp.lt hm)
theorem qs4 (O:OrdW n lt) {p:Array Nat} (hp:PermA n p) (hn:2<=n):KW lt n (kas_count n p) (λr=>PermA n r.2/\1<=r.1/\r.1<=n/\qrs lt r.2 r.1):=by
 rw[kas_count.eq_1];refine KW.bind (KW.mono (λm hm=>?_) (qoc O hp (n-1) 1 (Ak _) (by ext) (λx y h1 h2=>by ext)));obtain ⟨m1,m2,m3,m4⟩:=hm
 by_cases hmn:m=n
 ·rw[Au (by simpa using hmn)]
  exact ⟨hp,by ext,by ext,m3⟩
 ·rw[Al (by simpa using hmn)]
  have d0:lt (p.getD m 0) (p.getD (m-1) 0)=true:=by
   rcases m4 with z|z
   ·ext
   ·exact z
  have d1:=O.as_ _ _ (hp.lt (by ext)) (hp.lt (by ext)) d0
  by_cases h1:m>1
  ·rw[Au h1]
   exists hp.lt (by ext),hp.lt (by ext)
   cases e:lt (p.getD 0 0) (p.getD (m-1) 0) with
   | true =>
    dsimp only;rw[Au rfl];exact ⟨hp,by ext,by ext,m3⟩
   | false =>
    dsimp only;rw[Al AA];have le:∀ a b,a<=b->b<m->lt (p.getD b 0) (p.getD a 0)=false:=λa b hab hb=>by
     by_cases z:a=b
     ·rw[z];exact O.irr (hp.lt (by ext))
     ·exact m3 a b (by ext) hb
    have hs:qla lt p 0 m:=λa b _ ha _ hb=>by
     exact O.tr _ _ _ (hp.lt (by ext)) (hp.lt (show 0<n by ext)) (hp.lt (by ext)) (O.tr _ _ _ (hp.lt (by ext)) (hp.lt (show m-1<n by ext)) (hp.lt (by ext)) (le b (m-1) (by ext) (by ext)) e) (le 0 a (by ext) ha)
    refine qgz O (qej hp 0 m) (by ext) (by ext) λa b hab hb=>qs2 O hp (by ext) hs (by ext) (by ext) ?_
    by_cases hbm:b=m
    ·rw[hbm]
     exact O.tr _ _ _ (hp.lt (by ext)) (hp.lt (show m-1<n by ext)) (hp.lt (by ext)) d1 (hs a (m-1) (by ext) (by ext) (by ext) (by ext))
    ·exact hs a b (by ext) (by ext) (by ext) (by ext)
  ·rw[Al h1]
   have em:m=1:=by ext
   subst em;refine qgz O hp (Ak _) (by ext) λa b hab hb=>?_
   have ea:a=0:=by ext
   have eb:b=1:=by ext
   rw[ea,eb];exact d1
theorem qig (O:OrdW n lt) {p:Array Nat} (hp:PermA n p) (hk:k<n) (ha:qrs lt p k):∀ (f lo hi:Nat),lo<=hi->hi<=k->hi-lo<=f->(∀ j,j<lo->lt (p.getD k 0) (p.getD j 0)=false)->(∀ j,hi<=j->j<k->lt (p.getD j 0) (p.getD k 0)=false) ->
  KW lt n (kas_place p k f lo hi) (λl=>l<=k/\(∀ j,j<l->lt (p.getD k 0) (p.getD j 0)=false)/\∀ j,l<=j->j<k->lt (p.getD j 0) (p.getD k 0)=false)
 | 0,lo,hi,h1,h2,h3,h4,h5=>by
  rw[kas_place.eq_1];exact ⟨by ext,h4,λj hj=>h5 j (by ext)⟩
 | f+1,lo,hi,h1,h2,h3,h4,h5=>by
  rw[kas_place.eq_2]
  by_cases hlt:lo ≥ hi
  ·rw[Au hlt]
   exact ⟨by ext,h4,λj hj=>h5 j (by ext)⟩
  ·rw[Al hlt]
   exists hp.lt hk,hp.lt (by ext);have le:∀ a b,a<=b->b<k->lt (p.getD b 0) (p.getD a 0)=false:=λa b hab hb=>by
    by_cases z:a=b
    ·rw[z];exact O.irr (hp.lt (by ext))
    ·exact ha a b (by ext) hb
   cases e:lt (p.getD k 0) (p.getD ((lo+hi) / 2) 0) with
   | true =>
    dsimp only;rw[Au rfl];have e2:=O.as_ _ _ (hp.lt hk) (hp.lt (by ext)) e;refine qig O hp hk ha f lo ((lo+hi) / 2) (by ext) (by ext) (by ext) h4 λj hj hjk=>?_
    exact O.tr _ _ _ (hp.lt hk) (hp.lt (by ext)) (hp.lt (by ext)) e2 (le _ j hj hjk)
   | false =>
    dsimp only;rw[Al AA];refine qig O hp hk ha f ((lo+hi) / 2+1) hi (by ext) h2 (by ext) (λj hj=>?_) h5;exact O.tr _ _ _ (hp.lt (by ext)) (hp.lt (show (lo+hi) / 2<n by ext)) (hp.lt hk) (le j _ (by ext) (by ext)) e
theorem qs5 (O:OrdW n lt):∀ (f:Nat) (p:Array Nat) (k:Nat),PermA n p->1<=k->k+f=n->qrs lt p k->KW lt n (kas_bin f p k) (λq=>PermA n q/\qrs lt q n)
 | 0,p,k,hp,h1,hk,ha=>by
  rw[kas_bin.eq_1];have:k=n:=by ext
  subst this;exact ⟨hp,ha⟩
 | f+1,p,k,hp,h1,hk,ha=>by
  rw[kas_bin.eq_2];have hkn:k<n:=by ext
  have hs:=hp.sz;refine KW.bind (KW.mono (λl hl=>?_) (qig O hp hkn ha k 0 k (Bw _) (Ak _) (by ext) (λj hj=>by ext) (λj h1 h2=>by ext)));obtain ⟨l1,l2,l3⟩:=hl;have hq:PermA n (bubble p k (k-l)):=hp.of (bubble_perm _ _ _);refine qs5 O f _ (k+1) hq (by ext) (by ext) ?_;have hg:∀ x,(bubble p k (k-l)).getD x 0=if x=l then p.getD k 0 else if l<x/\x<=k then p.getD (x-1) 0 else p.getD x 0:=λx=>by
   rw[AW,getElem?_bubble (by ext) (k-l) (by ext),show k-(k-l)=l by ext]
   split
   ·rw[AW]
   ·split<;>rw[AW]
  intro x y hxy hy;rw[hg x,hg y]
  by_cases hx:x=l
  ·rw[Au hx,Al (by ext),Au ⟨by ext,by ext⟩]
   exact l3 _ (by ext) (by ext)
  ·rw[Al hx]
   by_cases hy2:y=l
   ·rw[Au hy2,Al (by ext)]
    exact l2 _ (by ext)
   ·rw[Al hy2]
    by_cases hx3:l<x/\x<=k
    ·rw[Au hx3,Au ⟨by ext,by ext⟩]
     exact ha _ _ (by ext) (by ext)
    ·rw[Al hx3]
     by_cases hy3:l<y/\y<=k
     ·rw[Au hy3]
      exact ha _ _ (by ext) (by ext)
     ·rw[Al hy3]
      exact ha _ _ hxy (by ext)
theorem qpg (O:OrdW n lt) (hn:2<=n):KW lt n (kas_sort n) (λq=>PermA n q/\qrs lt q n):=by
 unfold kas_sort;have hp:PermA n (List.range n).toArray:=⟨by simp,by simp⟩;refine KW.bind (KW.mono (λr hr=>?_) (qs4 O hp hn));obtain ⟨r1,r2,r3,r4⟩:=hr
 by_cases h:r.1<n
 ·rw[Au h,Nat.max_eq_left r2]
  exact qs5 O _ _ _ r1 r2 (by ext) r4
 ·rw[Al h]
  have e:r.1=n:=by ext
  rw[e] at r4;exact ⟨r1,r4⟩
end
theorem qy7 {lt:Nat->Nat->Bool} {n:Nat} (O:qE8 n lt) (W:OrdW n lt) (hn:2<=n):KW lt n (kas_sort n) (λq=>PermA n q/\Asc lt q n):=KW.mono (λ_ h=>⟨h.1,λx y hxy hy=>O.tot _ _ (h.1.lt hy) (h.1.lt (by ext)) (h.1.inj hy (by ext) (by ext)) (h.2 x y hxy hy)⟩) (qpg W hn)
open PySem PySem.Spec PyProof.Rows PySem.W
def blt:List Int->List Int->Bool
 | [],[]=>false
 | [],_ :: _=>true
 | _ :: _,[]=>false
 | a :: r,b :: t=>if a=b then blt r t else decide (a<b)
theorem qfn:∀ (k l:List Int),k≠l->blt k l=false->blt l k=true
 | [],[],h,_=>absurd rfl h
 | [],_ :: _,_,h=>by simp[blt] at h
 | _ :: _,[],_,_=>rfl
 | a :: r,b :: t,h,e=>by
  unfold blt at e ⊢
  by_cases hab:a=b
  ·subst hab
   rw[Au rfl] at e ⊢;exact qfn r t (λz=>h (by rw[z])) e
  ·rw[Al hab] at e
   rw[Al (λz=>hab z.symm)]
   simp at e ⊢
   ext
theorem qj6:∀ (k l m:List Int),blt k l=true->blt l m=true->blt k m=true
 | [],[],_,h,_=>by simp[blt] at h
 | _ :: _,[],_,h,_=>by simp[blt] at h
 | [],_ :: _,[],_,h=>by simp[blt] at h
 | _ :: _,_ :: _,[],_,h=>by simp[blt] at h
 | [],_ :: _,_ :: _,_,_=>rfl
 | a :: r,b :: t,c :: u,h1,h2=>by
  unfold blt at h1 h2 ⊢
  by_cases hab:a=b
  ·subst hab
   rw[Au rfl] at h1
   by_cases hbc:a=c
   ·subst hbc
    rw[Au rfl] at h2 ⊢;exact qj6 r t u h1 h2
   ·rw[Al hbc] at h2 ⊢
    exact h2
  ·rw[Al hab] at h1
   by_cases hbc:b=c
   ·subst hbc
    rw[Al hab];exact h1
   ·rw[Al hbc] at h2
    simp at h1 h2
    rw[Al (by ext)]
    simp;ext
theorem qfo:∀ k:List Int,blt k k=false
 | []=>rfl
 | a :: r=>by unfold blt;rw[Au rfl];exact qfo r
def ltK (ks:List (List Int)) (i j:Nat):Bool:=blt (ks.getD i []) (ks.getD j [])
theorem qF4 (ks:List (List Int)) (nd:ks.Nodup):qE8 ks.length (ltK ks) where
 tot:=λi j hi hj hne e=>by
  refine qfn _ _ (λz=>?_) e;rw[AN,AN,Ab hi,Ab hj] at z;have pw:=BX.mp nd
  rcases Nat.lt_or_gt_of_ne hne with h|h
  ·exact pw i j hi hj h z
  ·exact pw j i hj hi h z.symm
 tr:=λi j k _ _ _ h1 h2=>qj6 _ _ _ h1 h2
theorem qxf {k l:List Int} (h:blt k l=true):blt l k=false:=by
 cases e:blt l k with
 | false=>rfl
 | true =>
  have:=qj6 k l k h e;rw[qfo] at this;cases this
theorem qBm {k l m:List Int} (h1:blt l k=false) (h2:blt m l=false):blt m k=false:=by
 by_cases e1:k=l
 ·rw[e1];exact h2
 ·by_cases e2:l=m
  ·rw[<- e2];exact h1
  ·exact qxf (qj6 _ _ _ (qfn _ _ (λz=>e1 z.symm) h1) (qfn _ _ (λz=>e2 z.symm) h2))
theorem qBn (ks:List (List Int)):OrdW ks.length (ltK ks):=⟨λ_ _ _ _ h=>qxf h,λ_ _ _ _ _ _ h1 h2=>qBm h1 h2⟩
def qrt (h:Heap) (v:Value) (k:List Int):Prop:=∃ b o xs e,v=.ref b/\h.get? b=some o/\o.cls=.type "tuple" /\ o.data=.seq xs e/\Vals (k.map V.int) xs.toList
section
variable {prog:Program} {w:World} {A:Around} {E:Value->Shared->Prop} {s:Shared}
theorem qph {b fin:Bool} {Q:Bool->Shared->Prop}:∀ (k l:List Int) (us ws:List Value) (i:Nat),Vals (k.map V.int) us->Vals (l.map V.int) ws->fin=decide (k.length<l.length)->Q (blt k l) s->KatLex prog w A b fin Q (us.zip ws) i s
 | [],l,us,ws,i,hu,hw,hf,q=>by
  cases us with
  | cons _ _=>exact absurd hu.length (by simp)
  | nil =>
   rw[List.zip_nil_left];refine kat_nil ?_;rw[hf]
   cases l with
   | nil=>exact q
   | cons _ _=>exact q
 | x :: k,[],us,ws,i,hu,hw,hf,q=>by
  cases ws with
  | cons _ _=>exact absurd hw.length (by simp)
  | nil =>
   rw[List.zip_nil_right];refine kat_nil ?_;rw[hf];exact q
 | x :: k,y :: l,us,ws,i,hu,hw,hf,q=>by
  cases us with
  | nil=>exact absurd hu.length (by simp)
  | cons u us =>
   cases ws with
   | nil=>exact absurd hw.length (by simp)
   | cons v ws =>
    rw[AR] at hu hw
    cases hu with
    | cons hx hu =>
     cases hw with
     | cons hy hw =>
      obtain ⟨t,rfl⟩:=(show ∃ t,u=Value.int x t from hx);obtain ⟨t',rfl⟩:=(show ∃ t,v=Value.int y t from hy);rw[C3];refine kat_cons (wpAny_eqBool_int ?_)
      by_cases hxy:x=y
      ·subst hxy
       rw[show (x == x)=true by simp];refine kat_yes (qph k l us ws (i+1) hu hw (by rw[hf];simp) ?_);unfold blt at q
       rwa [Au rfl] at q
      ·rw[show (x == y)=false by simpa using hxy]
       unfold blt at q;rw[Al hxy] at q;refine kat_no ?_
       cases (b && i == 0) with
       | true=>exact oneLt_int q
       | false=>exact kat_one _ _ (lt_int q)
theorem qxg {b:Bool} {Q:Bool->Shared->Prop} {x y:Value} {k l:List Int} (hx:qrt s.heap x k) (hy:qrt s.heap y l) (q:Q (blt k l) s):wpAny (model prog w) A (keyLt' (tuples' b) x y) Q E s:=by
 obtain ⟨a,o,xs,e,rfl,h1,h2,h3,h4⟩:=hx;obtain ⟨a',o',xs',e',rfl,h1',h2',h3',h4'⟩:=hy;refine kat_lt h1 h3 h1' h3' (qph k l _ _ 0 h4 h4' ?_ q);have e1:k.length=xs.size:=by have:=h4.length;simpa using this
 have e2:l.length=xs'.size:=by have:=h4'.length;simpa using this
 rw[e1,e2]
theorem qs6 {h:Heap}:∀ {vs:List Value} {ks:List (List Int)},vs.length=ks.length->(∀ (i:Nat) v k,vs[i]?=some v->ks[i]?=some k->qrt h v k/\k≠[])->∃ fs,KatTups h vs fs/\fs.length=vs.length/\∀ v∈fs,∃ i t,v=Value.int i t
 | [],[],_,_=>⟨[],.nil,rfl,λv hv=>by cases hv⟩
 | v :: vs,k :: ks,hl,H=>by
  obtain ⟨fs,f1,f2,f3⟩:=qs6 (vs:=vs) (ks:=ks) (by simpa using hl) (λi v k e1 e2=>H (i+1) v k (by simpa using e1) (by simpa using e2));obtain ⟨⟨b,o,xs,e,rfl,h1,h2,h3,h4⟩,hne⟩:=H 0 v k rfl rfl
  cases k with
  | nil=>exact absurd rfl hne
  | cons i r =>
   obtain ⟨u,us,eu,hu⟩:∃ u us,xs.toList=u :: us/\RelV (.int i) u:=by
    generalize xs.toList=ys at h4
    cases h4 with
    | cons hx _=>exact ⟨_,_,rfl,hx⟩
   obtain ⟨t,rfl⟩:=(show ∃ t,u=Value.int i t from hu);refine ⟨Value.int i t :: fs,?_,by simp[f2],λv hv=>?_⟩
   ·rw[KatTups.eq_2]
    refine ⟨⟨b,o,xs,e,rfl,h1,h2,h3,?_⟩,f1⟩;rw[<- CO,eu];rfl
   ·rcases Av.mp hv with h|h
    ·exact ⟨i,t,h⟩
    ·exact f3 v h
theorem qs7 {a:Addr} {n:Nat} {P:Fin->Shared->Prop} (ho:s.heap.get? a=some (seqObj "list" vs.toArray n)) (h2:2<=vs.length) (h64:vs.length<64) (hl:vs.length=ks.length) (nd:ks.Nodup)
  (hT:∀ (i:Nat) v k,vs[i]?=some v->ks[i]?=some k->qrt s.heap v k/\k≠[])
  (h:∀ p:Array Nat,PermA ks.length p->Asc (ltK ks) p ks.length->P (.done (.ret .none)) { s with heap:=sortedHeap s.heap a vs (p.map λi=>vs.getD i .none) }):wpAny (model prog w) A (Builtin.«list.sort» ⟨[.ref a],[]⟩) P E s:=by
 rw[Ep];have la:a<s.heap.objs.size:=Aq ho;refine Ac (E4 ho rfl ?_);refine Ac (CT ho rfl ?_);obtain ⟨e1,h1⟩:∃ e1,(s.heap.update a (Obj.mapSeq λ_=>#[])).get? a=some (seqObj "list" #[] e1):=⟨_,get?_update_seq ho (λ_=>#[])⟩;refine Ac (Dc h1 rfl ?_);refine Ac (DF ?_ (by simp only[List.toList_toArray];rw[Bv];ext));refine Ac (CS ?_);refine BS ?_;have h6:(((s.heap.update a (Obj.mapSeq λ_=>#[])).push (seqObj "tuple" vs.toArray 0)).push (seqObj "list" #[] 0)).get? a=some (seqObj "list" #[] e1):=by
  rw[Ci _ _ _ (by rw[Ds,BV];exact AH (CJ la)),Ci _ _ _ (by rw[BV];exact AH la)];exact h1
 show wpAny (model prog w) A _ P E { s with heap:=((s.heap.update a (Obj.mapSeq λ_=>#[])).push (seqObj "tuple" vs.toArray 0)).push (seqObj "list" #[] 0) }
 obtain ⟨s3,es3⟩:∃ s3:Shared,s3={ s with heap:=((s.heap.update a (Obj.mapSeq λ_=>#[])).push (seqObj "tuple" vs.toArray 0)).push (seqObj "list" #[] 0) }:=⟨_,rfl⟩;have hT3:∀ (i:Nat) v k,vs[i]?=some v->ks[i]?=some k->qrt s3.heap v k/\k≠[]:=λi v k q1 q2=>by
  obtain ⟨⟨b,o,xs,e,rfl,g1,g2,g3,g4⟩,hne⟩:=hT i v k q1 q2;refine ⟨⟨b,o,xs,e,rfl,?_,g2,g3,g4⟩,hne⟩;have hba:b≠a:=λz=>by
   subst z;rw[ho] at g1;cases g1;have g2':(Value.type "list" : Value)=Value.type "tuple" :=g2;injection g2' with e'
   exact absurd e' (by decide)
  rw[es3];exact Af _ (Af _ ((BQ s.heap a _).extBut b o hba g1))
 obtain ⟨fs,f1,f2,f3⟩:=qs6 hl hT3;have z2:¬ vs.toArray.size<2:=by simpa using by ext
 dsimp only;rw[Al z2,Al z2,<- es3];refine Ac (kat_kind (T:=.type "int") f1 (by ext) (λv hv=>?_) (by decide) ?_)
 ·obtain ⟨i,t,rfl⟩:=f3 v hv
  exact Looks.of_pure rfl
 have hrun:=kas_runs (prog:=prog) (w:=w) (A:=A) (E:=E) (κ:=tuples' true) (it:=pairsOf vs) (n:=ks.length) (s:=s3) (G:=λp s'=>s'=s3/\PermA ks.length p/\Asc (ltK ks) p ks.length)
  (Q:=λ_ st' s'=>s'=s3/\failedOf st'=none/\∃ p,arrOf st'=p.map (kas_item (pairsOf vs))/\PermA ks.length p/\Asc (ltK ks) p ks.length) (by ext) (by ext)
  (λp st' s' hz ha hf hG=>⟨hG.1,hf,p,ha,hG.2⟩)
  (KW.run (λi j C hi hj hC=>by
   unfold kas_cmp;rw[Dd,Dd];have q1:vs[i]?=some (vs.getD i .none):=by rw[AN,Ab (by ext)];rfl
   have q2:vs[j]?=some (vs.getD j .none):=by rw[AN,Ab (by ext)];rfl
   have q3:ks[i]?=some (ks.getD i []):=by rw[AN,Ab hi];rfl
   have q4:ks[j]?=some (ks.getD j []):=by rw[AN,Ab hj];rfl
   exact qxg (hT3 i _ _ q1 q3).1 (hT3 j _ _ q2 q4).1 hC) (qy7 (qF4 ks nd) (qBn ks) (by ext)))
 have est:kas_st (tuples' true) (pairsOf vs) (List.range ks.length).toArray=SortSt.mk' (tuples' true) (vs.toArray.zip vs.toArray) #[] 7 none:=by
  unfold kas_st;have:=kas_range (pairsOf vs);rw[E3,hl] at this;rw[this];rfl
 rw[est] at hrun
 show wpAny (model prog w) A (sortRuns'.run (SortSt.mk' (tuples' true) (vs.toArray.zip vs.toArray) #[] 7 none) >>= _) P E s3
 refine Ac (Br hrun (λr s' hq=>?_) λ_ _ z=>z);obtain ⟨rfl,hf,p,hp,hq⟩:=hq;have h6':s'.heap.get? a=some (seqObj "list" #[] e1):=by rw[es3];exact h6
 have hz:((arrOf r.2).map (·.2)).size<=sizeLine:=by rw[C7,hp,C7,hq.1.sz,Bv];ext
 refine Ac (Dc h6' rfl ?_);refine Ac (CT h6' rfl ?_ (hsz2:=Nat.le_succ_of_le hz));rw[hf];simp only[DV,Cc,Cj];refine Ai ?_;have:=h p hq.1 hq.2;rw[es3];rw[hp,Array.map_map];have ef:((λx:Keyed=>x.2) ∘ kas_item (pairsOf vs))=λi=>vs.getD i .none:=by
  funext i
  show (kas_item (pairsOf vs) i).2=_
  rw[Dd]
 rw[ef];exact this
end
open PySem PySem.Spec PyProof.Rows PySem.W
def pick {α:Type} (idx:List Nat) (xs:List α) (d:α):List α:=idx.map λi=>xs.getD i d
theorem qdt {α:Type} (xs:List α) (d:α):pick (List.range xs.length) xs d=xs:=by
 unfold pick
 apply D3
 intro i;rw[An]
 by_cases h:i<xs.length
 ·rw[List.getElem?_range h,Ab h]
  simp[AN,Ab h]
 ·rw[BW (by simpa using by ext),BW (by ext)];rfl
theorem qih {α:Type} {idx:List Nat} {xs:List α} {d:α} (h:idx.Perm (List.range xs.length)):(pick idx xs d).Perm xs:=by
 have:=h.map (λi=>xs.getD i d);have e:=qdt xs d;unfold pick at e;rw[e] at this;exact this
def TupsH (H:Hp) (xs:List V) (ks:List (List Int)):Prop:=Paired (λv r=>∃ a,v=V.ref a/\H a=some (.tup (r.map V.int))) xs ks
theorem TupsH.len {H:Hp}:∀ {xs:List V} {ks:List (List Int)},TupsH H xs ks->xs.length=ks.length
 | _,_,.nil=>rfl
 | _,_,.cons _ t=>by simp[TupsH.len t]
theorem TupsH.get {H:Hp}:∀ {xs:List V} {ks:List (List Int)} {i:Nat} {x:V} {k:List Int},TupsH H xs ks->xs[i]?=some x->ks[i]?=some k->∃ a,x=.ref a/\H a=some (.tup (k.map V.int))
 | _,_,_,_,_,.nil,e,_=>by simp at e
 | _,_,0,_,_,.cons r _,e,f=>by simp at e f;subst e f;exact r
 | _,_,i+1,x,k,.cons _ t,e,f=>TupsH.get (i:=i) t (by simpa using e) (by simpa using f)
theorem TupsH.pick {H:Hp} {xs:List V} {ks:List (List Int)} (h:TupsH H xs ks):∀ {idx:List Nat},(∀ i∈idx,i<ks.length)->TupsH H (pick idx xs .non) (pick idx ks [])
 | [],_=>.nil
 | i :: r,hi=>by
  have h0:=hi i Ae;have hl:=h.len;refine .cons (h.get (i:=i) ?_ ?_) (TupsH.pick h λj hj=>hi j (Ad _ hj))
  ·show xs[i]?=some (xs.getD i .non)
   rw[AN,Ab (by ext)];rfl
  ·show ks[i]?=some (ks.getD i [])
   rw[AN,Ab h0];rfl
theorem vals_pick {xs:List V} {vs:List Value} (h:Vals xs vs):∀ {idx:List Nat},(∀ i∈idx,i<xs.length)->Vals (pick idx xs .non) (pick idx vs .none)
 | [],_=>.nil
 | i :: r,hi=>by
  have h0:=hi i Ae;have hl:=h.length;refine .cons ?_ (vals_pick h λj hj=>hi j (Ad _ hj))
  show RelV (xs.getD i .non) (vs.getD i .none)
  rw[AN,Ab h0,AN,Ab (by ext)];exact vals_ix h h0 (by ext)
where
 vals_ix:∀ {xs:List V} {vs:List Value} {i:Nat},Vals xs vs->(h1:i<xs.length)->(h2:i<vs.length)->RelV xs[i] vs[i]
  | _,_,0,.cons r _,_,_=>r
  | _,_,i+1,.cons _ t,h1,h2=>vals_ix (i:=i) t (by simpa using h1) (by simpa using h2)
section
variable {prog:Program} {w:World} {A:Around} {E:Value->Shared->Prop} {s:Shared}
theorem qpi {a:Addr} {n:Nat} {P:Fin->Shared->Prop} (ho:s.heap.get? a=some (seqObj "list" vs.toArray n)) (h64:vs.length<64) (hl:vs.length=ks.length) (nd:ks.Nodup)
  (hT:∀ (i:Nat) v k,vs[i]?=some v->ks[i]?=some k->qrt s.heap v k/\k≠[])
  (h:∀ idx:List Nat,idx.Perm (List.range ks.length)->(pick idx ks []).Pairwise (λk l=>blt k l=true)->P (.done (.ret .none)) { s with heap:=sortedHeap s.heap a vs (pick idx vs .none).toArray }):wpAny (model prog w) A (Builtin.«list.sort» ⟨[.ref a],[]⟩) P E s:=by
 by_cases h2:vs.length<2
 ·refine qj4 ho h2 ?_
  have:=h (List.range ks.length) (.refl _) (by
   rw[qdt]
   match ks,hl with
   | [],_=>exact .nil
   | [k],_=>exact Dm _ _
   | _ :: _ :: _,hl=>simp at hl;ext)
  rw[<- hl,qdt] at this;rw[qs0];exact this
 ·refine qs7 ho (by ext) h64 hl nd hT λp hp ha=>?_
  have e:(p.map λi=>vs.getD i .none)=(pick p.toList vs .none).toArray:=by
   apply Array.ext'
   simp[pick]
  rw[e];refine h p.toList hp.perm ?_;rw[BX];intro i j hi hj hij;have hs:=hp.sz;have li:i<p.size:=by simpa [pick] using hi
  have lj:j<p.size:=by simpa [pick] using hj
  have:=ha i j hij (by ext);unfold ltK at this;rw[AW,Bj li,AW,Bj lj] at this
  simpa [pick] using this
theorem qod (hL:s.heap.IsList l vs.toArray) (h64:vs.length<64) (hl:vs.length=ks.length) (nd:ks.Nodup)
  (hT:∀ (i:Nat) v k,vs[i]?=some v->ks[i]?=some k->qrt s.heap v k/\k≠[])
  (h:∀ idx:List Nat,idx.Perm (List.range ks.length)->(pick idx ks []).Pairwise (λk l=>blt k l=true)->Q (.ref (s.heap.objs.size+1)) { s with heap:=sortedAll s.heap vs (pick idx vs .none).toArray }):wpAny (model prog w) A (call (.builtin "sorted") [.ref l]) Q E s:=by
 refine C9 FC EZ E6 (E7 _) ?_;unfold Builtin.«sorted»;refine Ac (m:=checkCount "sorted" 1 1 _) (Ai ?_);refine Ac (collect_list hL ?_ (by rw[Bv];ext));refine Ac (CS ?_ (by rw[Bv];ext));have hsz:((s.heap.push (seqObj "list" #[] 0)).update s.heap.objs.size (Obj.mapSeq λx=>x ++ vs.toArray)).objs.size=s.heap.objs.size+1:=by rw[BV,Ds]
 have hS:(((s.heap.push (seqObj "list" #[] 0)).update s.heap.objs.size (Obj.mapSeq λx=>x ++ vs.toArray)).push (seqObj "list" vs.toArray 0)).get? (s.heap.objs.size+1)=some (seqObj "list" vs.toArray 0):=by
  rw[<- hsz];exact Ay _ rfl
 dsimp only;rw[hsz];have kp:∀ b ob,s.heap.get? b=some ob->(((s.heap.push (seqObj "list" #[] 0)).update s.heap.objs.size (Obj.mapSeq λx=>x ++ vs.toArray)).push (seqObj "list" vs.toArray 0)).get? b=some ob:=λb ob hb=>by
  refine Af _ ((BQ _ s.heap.objs.size _).extBut b ob (AH (Aq hb)) (Af _ hb))
 refine Ac (BS (Bt Eu ⟨_,hS,rfl⟩ Er (qpi (s:={ s with heap:=((s.heap.push (seqObj "list" #[] 0)).update s.heap.objs.size (Obj.mapSeq λx=>x ++ vs.toArray)).push (seqObj "list" vs.toArray 0) }) hS h64 hl nd (λi v k q1 q2=>?_) λidx i1 i2=>⟨_,rfl,?_⟩) (Ew _)))
 ·obtain ⟨⟨b,o,xs,e,e1,g1,g2⟩,hne⟩:=hT i v k q1 q2
  exact ⟨⟨b,o,xs,e,e1,kp _ _ g1,g2⟩,hne⟩
 ·exact Ai ⟨_,rfl,h idx i1 i2⟩
end
section
variable {X:Cx}
theorem qoe {pins:List (Addr×Obj)} {s:Shared} {a:Addr} {k:List Int} (I:Inv X pins σ H s) (h:H a=some (.tup (k.map V.int))):qrt s.heap (.ref a) k:=by
 obtain ⟨its,rv,p,_⟩:=I.tuple (SqT.of h);obtain ⟨o,h1,h2,n,h3⟩:=(show s.heap.IsTuple a its.toArray from p);exact ⟨a,o,its.toArray,n,rfl,h1,h2,h3,by simpa using rv⟩
def qBo (K:Frag):List V->Hp->VK->Prop:=λxs H Q=>∃ (p:Addr) (ys:List V) (ks:List (List Int)),xs=[.ref p]/\SqL K H p ys/\TupsH H ys ks/\ks.length<64/\ks.Nodup/\(∀ k∈ks,k≠[]) /\
 ∀ ms zs l H',ms.Perm ks->ms.Pairwise (λk l=>blt k l=true)->TupsH H zs ms->New H H' l (.lst zs)->Q (.ref l) H'
theorem qg0:CallR X (.builtin "sorted") (qBo X.K):=by
 intro pins s σ H xs us Q I r h;obtain ⟨p,ys,ks,rfl,hq,hT,h64,nd,hne,q⟩:=h;obtain ⟨u,rfl,ru⟩:=vals1 r
 cases (show u=Value.ref p from ru)
 obtain ⟨its,rv,pl,hz⟩:=I.list hq;have l1:=hT.len;have l2:=rv.length;refine qod pl.isList (by ext) (ks:=ks) (by ext) nd (λi v k q1 q2=>?_) λidx i1 i2=>?_
 ·obtain ⟨x,qx⟩:∃ x,ys[i]?=some x:=⟨_,Ab (by have:=(Aj.mp q2).1;ext)⟩
  obtain ⟨a,rfl,ha⟩:=hT.get qx q2;have hv:v=Value.ref a:=by
   have hx:=(Aj.mp qx);have hvv:=(Aj.mp q1);have:=vals_pick.vals_ix rv hx.1 hvv.1;rw[hx.2,hvv.2] at this;exact this
  subst hv;exact ⟨qoe I ha,hne k (Am q2)⟩
 ·have hi:∀ i∈idx,i<ks.length:=λi h=>C5.mp (i1.mem_iff.mp h)
  obtain ⟨e,he⟩:=EY s.heap its (pick idx its .none).toArray;have vp:Vals (pick idx ys .non) (pick idx its .none):=vals_pick rv (λi h=>by have:=hi i h;ext);refine ⟨.ref _,_,I.laid (t':=s.toks) (o:=.lst (pick idx ys .non)) (λ_ _=>EG) (BE _) ⟨?_,pick idx its .none,e,vp,he⟩,rfl,q (pick idx ks []) (pick idx ys .non) _ _ (qih i1) i2 (hT.pick hi) (qa7 (I.hok.fresh (BE _)))⟩;have:=i1.length_eq;rw[D1] at this
  show (pick idx ys .non).length<=_
  unfold pick;rw[Aa,Bv];ext
def qBp:List V->Hp->VK->Prop:=λxs H Q=>∃ (a:Addr) (kvs:List (List Key×V)) (ks:List (List Int)),xs=[.ref a]/\H a=some (.dT kvs)/\kvs.map (·.1)=ks.map (λk=>k.map Sum.inl)/\ks.length<64/\ks.Nodup/\(∀ k∈ks,k≠[]) /\
 ∀ ms zs l H',ms.Perm ks->ms.Pairwise (λk l=>blt k l=true)->TupsH H zs ms->New H H' l (.lst zs)->Q (.ref l) H'
theorem qs8 {H:Hp}:∀ {kvs:List (List Key×V)} {ys:List (List Key×Addr×Value)} {ks:List (List Int)},KT H kvs ys->kvs.map (·.1)=ks.map (λk=>k.map Sum.inl)->TupsH H (ys.map λy=>V.ref y.2.1) ks
 | [],_,ks,.nil,e=>by
  cases ks with
  | nil=>exact .nil
  | cons _ _=>cases e
 | p :: r,_,ks,.cons (b:=y) hy t,e=>by
  cases ks with
  | nil=>cases e
  | cons k ks =>
   rw[AR,AR] at e;injection e with e1 e2
   refine .cons ⟨y.2.1,rfl,?_⟩ (qs8 t e2);have:=hy.2.1;rw[e1] at this;rw[this,By];rfl
theorem ql9:∀ ys:List (List Key×Addr×Value),Vals (ys.map λy=>V.ref y.2.1) (ys.map λy=>Value.ref y.2.1)
 | []=>.nil
 | _ :: r=>.cons rfl (ql9 r)
theorem qg1 (hc:X.calm=true):CallR X (.builtin "sorted") qBp:=by
 intro pins s σ H xs us Q I r h;obtain ⟨a,kvs,ks,rfl,ha,ek,h64,nd,hne,q⟩:=h;obtain ⟨u,rfl,rx⟩:=vals1 r
 cases (show u=Value.ref a from rx)
 obtain ⟨hz,lo,ys,kt,o,es,ep,e1,e2,e3,e4,_⟩:=qA0 I.hok ha;have hR:RawD s.heap a es ep:=⟨o,e1,e2,e3⟩;have hT:=qs8 kt ek;have lk:kvs.length=ks.length:=by have:=congrArg List.length ek;simpa using this
 have ly:ys.length=ks.length:=by have:=hT.len;simpa using this
 have hl:es.size=ys.length:=by rw[<- Be,e4,Aa]
 refine C9 FC EZ E6 (E7 _) ?_;unfold Builtin.«sorted»;refine Ac (m:=checkCount "sorted" 1 1 _) (Ai ?_);refine Ac (PySem.W.kdu_collect (qBk lo) (I.ok.hd hc) hR (by rw[Bv];ext) λh' tk acc hk hacc=>?_);have hlen:acc.toList.length=ks.length:=by rw[Be,hacc.1,hl,ly]
 have hacc':acc.toList=ys.map λy=>Value.ref y.2.1:=by
  apply D3
  intro i
  by_cases hi:i<ys.length
  ·obtain ⟨v,hv⟩:∃ v,acc.toList[i]?=some v:=⟨_,Ab (by ext)⟩
   obtain ⟨e,he,hve⟩:=hacc.2 i v (by rw[<- CO];exact hv);rw[<- CO,e4,An,Ab hi] at he;cases he;rw[hv,An,Ab hi,hve];rfl
  ·rw[BW (by ext),BW (by simpa using by ext)]
 have I':Inv X pins σ H { s with heap:=h',toks:=tk }:=I.kept hk;have rv:Vals (ys.map λy=>V.ref y.2.1) acc.toList:=by
  rw[hacc'];exact ql9 ys
 refine Ac (CS ?_ (by rw[hlen,Bv];ext));have hS:(h'.push (seqObj "list" acc.toList.toArray 0)).get? h'.objs.size=some (seqObj "list" acc.toList.toArray 0):=Ay _ rfl;refine Ac (BS (Bt Eu ⟨_,hS,rfl⟩ Er (qpi (s:={ s with heap:=h'.push (seqObj "list" acc.toList.toArray 0),toks:=tk }) (ks:=ks) hS (by ext) hlen nd (λi v k q1 q2=>?_) λidx i1 i2=>⟨_,rfl,?_⟩) (Ew _)))
 ·obtain ⟨y,hy⟩:∃ y,ys[i]?=some y:=⟨_,Ab (by have:=(Aj.mp q2).1;ext)⟩
  obtain ⟨b,eb,hb⟩:=hT.get (i:=i) (by rw[An,hy];rfl) q2;cases eb;have hv:v=Value.ref y.2.1:=by
   rw[hacc',An,hy] at q1;exact (Ax q1).symm
  subst hv;obtain ⟨b,o,xs,e,e1,g1,g2⟩:=qoe I' hb;exact ⟨⟨b,o,xs,e,e1,Af _ g1,g2⟩,hne k (Am q2)⟩
 ·refine Ai ⟨_,rfl,?_⟩
  have hi:∀ i∈idx,i<ks.length:=λi h=>C5.mp (i1.mem_iff.mp h)
  have hil:=i1.length_eq;rw[D1] at hil;obtain ⟨c,hat⟩:∃ c,(sortedHeap (h'.push (seqObj "list" acc.toList.toArray 0)) h'.objs.size acc.toList (pick idx acc.toList .none).toArray).get? h'.objs.size=some (seqObj "list" (pick idx acc.toList .none).toArray c):=sortedHeap_at hS;have kp:∀ b ob,h'.get? b=some ob->(sortedHeap (h'.push (seqObj "list" acc.toList.toArray 0)) h'.objs.size acc.toList (pick idx acc.toList .none).toArray).get? b=some ob:=λb ob hb=>by
   have lb:=Aq hb;rw[sortedHeap_old (AH lb) (by rw[Ds];exact CJ lb)];exact Af _ hb
  have vp:Vals (pick idx (ys.map λy=>V.ref y.2.1) .non) (pick idx acc.toList .none):=vals_pick rv (λi h=>by have:=hi i h;simp;ext);refine ⟨.ref h'.objs.size,_,I'.laid (t':=tk) (o:=.lst (pick idx (ys.map λy=>V.ref y.2.1) .non)) kp (Ak _) ⟨?_,pick idx acc.toList .none,c,vp,hat⟩,rfl,q (pick idx ks []) _ _ _ (qih i1) i2 (hT.pick hi) (qa7 (I'.hok.fresh (Ak _)))⟩
  show (pick idx _ V.non).length<=_
  unfold pick;rw[Aa,Bv];ext
end
open PySem PySem.Spec PyProof.Rows
def qE9 (P:Program) (w:World) (K:Frag) (mg:Str->Option Value) (base:Heap) (C:Addr) (k:Nat) (m:Str) (ps:List Str) (ds:List Value) (sp:Sp):Prop:=
 ∃ f fd,qjr P w K mg base CX0 k f fd ps sp/\qw4 K C m f/\Binds K fd ps ds
section
variable {X:Cx} {k:Nat} {C:Addr} {ps:List Str} {sp:Sp} {dvs:List V} {ds:List Value} {m:Str} {pos apos:Pos} {e o:Expr} {es:List Expr} {ta:TE} {t:TA}
theorem qs9 {pl:Sem Bool} (he:PE X o ta) (c:Cls X.K C) (D:qE9 X.prog X.w X.K X.mg X.base C k m ps ds sp) (hr:Room k X.A) (hd:Vals dvs ds) (ha:PA X (e :: es) t)
  (hst:starEach (e :: es) X.env=(false,eval e X.env) :: starEach es X.env:=by rfl) (hpl:(backTo pos (starEach es X.env)).any (·.1)=false:=by rfl)
  (ht:eval (.Call (.Attribute o m apos) (e :: es) [] pos) X.env=(do
   let ov <- eval o X.env
   standAt apos.atName
   let (f,first) <- holding [ov] (getMethod ov m pl)
   callWith pos f first (backTo pos (starEach (e :: es) X.env)) (backToKw pos (keywordEach [] X.env))):=by rfl) :
  PE X (.Call (.Attribute o m apos) (e :: es) [] pos) (qh8 C m sp dvs E0 ta t):=by
 obtain ⟨f,fd,F,hm,hb⟩:=D;exact qse (pl:=pl) he c hm F hr hb hd qsp ha hst hpl ht
end
open PySem PySem.Spec PyProof.Rows PySem.W
section
variable {prog:Program} {w:World} {A:Around} {E:Value->Shared->Prop} {s:Shared}
end
section
variable {X:Cx} {pos:Pos}
end
open PySem PySem.Spec PyProof.Rows
section
variable {prog:Program} {w:World} {A:Around} {E:Value->Shared->Prop} {s:Shared}
abbrev qxh (d:Addr) (n ep:Nat):Obj:={ cls:=.type "dict_itemiterator",data:=.fields #[.none,.bool false,.ref d,.int 0 0,.int n 0,.int ep 0,.none,.none] }
theorem qy8 {es:Array DictEntry} (lo:(d == sysModules)=false) (hm:RawD s.heap d es ep)
  (hQ:Q (.ref s.heap.objs.size) { s with heap:=s.heap.push { cls:=.type "dict_items",data:=.fields #[.ref d] } }):wpAny (model prog w) A (call (.builtin "dict.items") [.ref d]) Q E s:=by
 have ty:=hm.ty;refine Bt F.slot_dict_items ty F.entry_dict_items ?_ (F.args_dict_items_1 _);unfold Builtin.«dict.items»;refine Ac ?_;unfold Builtin.Dict.noArgs;refine Ac (Fi ty ?_);show wpAny _ _ (pure d) _ _ s;refine Ai ?_
 show wpAny _ _ (Builtin.Dict.showsAll d >>= _) _ _ s;unfold Builtin.Dict.showsAll;rw[Al (by rw[lo];exact AA)]
 refine Ac (Ai ?_);exact Ac (Bk (Ai ⟨_,rfl,hQ⟩))
theorem qy9 {v:Addr} {es:Array DictEntry} (hv:s.heap.IsItemsView v d) (hm:RawD s.heap d es ep)
  (hQ:Q (.ref s.heap.objs.size) { s with heap:=s.heap.push (qxh d es.size ep) }):wpAny (model prog w) A (pyIter (.ref v)) Q E s:=by
 have ty:=hv.typeIs;obtain ⟨u,e1,e2,e3⟩:=hv;obtain ⟨o,h1,h2,h3⟩:=hm;refine DU ty Ff (Bt Ff ty F.entry_dict_items_iter ?_ (F.args_dict_items_iter_1 _));unfold Builtin.«dict_items.__iter__»;refine Ac (Ai ?_);refine Ac ?_;unfold Builtin.Dict_items.dictOf;refine Ac (B4 e1 e3 (x:=.ref d) rfl (Ai ?_));refine Ac ?_;unfold Builtin.Dict_items.newIterator;refine Ac (Cf h1 h3 ?_);refine Ac (Cw h1 h3 ?_);simp only[show Builtin.Dict_items.ownsTuple "dict_itemiterator" = true by decide,CY];refine Bk (Ai ⟨_,rfl, "dict_itemiterator",_,⟨_,Ay _ rfl,rfl⟩,BG.lookup,?_⟩) (by simp only[sizeOk,Builtin.Dict_items.ownedTupleFields,AJ,Ag,AF,BZ,Bv];ext)
 simpa [rawInt,Builtin.Dict_items.ownedTupleFields] using hQ
theorem qza {es:Array DictEntry} {ok ov:Value} {Q:Option Value->Shared->Prop} (hJ:IsItemIter s.heap it d i es.size ep ok ov) (hm:RawD s.heap d es ep) (hx:i<es.size)
  (hQ:∀ h',IsItemIterOut h' it d (i+1) es.size ep es[i].key es[i].val s.heap.objs.size->h'.get? s.heap.objs.size=some { cls:=.type "tuple",data:=.seq #[es[i].key,es[i].val] } ->
   (∀ b o,b≠it->s.heap.get? b=some o->h'.get? b=some o)->Q (some (.ref s.heap.objs.size)) { s with heap:=h' }):wpAny (model prog w) A (pyNext (.ref it)) Q E s:=by
 obtain ⟨hp,g,dr,tk,os⟩:=s;obtain ⟨od,h1,h2,h3⟩:=hm;have ty:Shared.TypeIs ⟨hp,g,dr,tk,os⟩ (.ref it) "dict_itemiterator" :=⟨_,hJ,rfl⟩;unfold pyNext;refine Ac (DN (wpAny_callSpecial?_slot (name:=Str.ofString "__next__") ty BG (Bt BG ty Ei ?_ (D6 _))));refine Ac (Ai ?_);refine Ac ?_;refine Ac ?_
 first|refine Ac (B8 ty (Ai ?_))|refine Ac (Cq ty (Ai ?_))
 refine Ac (DG hJ rfl ?_);simp only[show Builtin.Dict_items.ownsTuple "dict_itemiterator" = true by decide,CY]
 show wpAny _ _ (if (Value.ref d == Value.none)=true then _ else _) _ _ _;rw[Al (show ¬ ((Value.ref d == Value.none)=true) from AA)]
 refine Ac (Ai ?_);refine Ac (Cf h1 h3 ?_);rw[Al (by simp)];refine Ac (Ai ?_);refine Ac (Cw h1 h3 ?_);rw[Al (by simp)];refine Ai ?_;simp only[show ¬ ((i:Int)<0) from by ext,Cj,CL,Bj hx];refine Ac ?_
 first|refine Ac (B8 ty (Ai ?_))|refine Ac (Cq ty (Ai ?_))
 refine Ac (Dr ty ?_)
 show wpAny _ _ (setField (.ref it) 3 (rawInt ((i:Int)+1)) >>= _) _ _ ⟨hp,g,dr,tk,os⟩;refine Ac (Cz hJ (by simp) λg1 j1 b1=>?_)
 replace b1:Heap.SameBut it hp g1:=b1
 replace j1:IsItemIter g1 it d (i+1) es.size ep ok ov:=by
  unfold IsItemIter;rw[show ((i+1:Nat):Int)=(i:Int)+1 by ext];simpa [rawInt] using j1
 have ty1:Shared.TypeIs ⟨g1,g,dr,tk,os⟩ (.ref it) "dict_itemiterator" :=⟨_,j1,rfl⟩;refine Ac (BS ?_);refine Ac (Dr ty1 ?_);refine Ac (Dr ty1 ?_)
 show wpAny _ _ (Builtin.Dict_items.pairFromOwner (.ref it) 6 es[i].key es[i].val) _ _ ⟨g1,g,dr,tk,os⟩;unfold Builtin.Dict_items.pairFromOwner;refine Ac (DF ?_)
 have j2:IsItemIter (g1.push { cls:=.type "tuple",data:=.seq #[es[i].key,es[i].val] }) it d (i+1) es.size ep ok ov:=Af _ j1;have z1:g1.objs.size=hp.objs.size:=b1.1;have il:it≠hp.objs.size:=AH (Aq hJ);have t2:(g1.push { cls:=.type "tuple",data:=.seq #[es[i].key,es[i].val] }).get? hp.objs.size=some { cls:=.type "tuple",data:=.seq #[es[i].key,es[i].val] }:=by rw[<- z1];exact Ay _ rfl
 have k2:∀ b o,b≠it->hp.get? b=some o->(g1.push { cls:=.type "tuple",data:=.seq #[es[i].key,es[i].val] }).get? b=some o:=λb o hb e=>Af _ (b1.extBut b o hb e)
 generalize (g1.push { cls:=.type "tuple",data:=.seq #[es[i].key,es[i].val] })=g2 at j2 t2 k2 ⊢
 show wpAny _ _ (Builtin.Dict_items.ownedTupleIsFree (.ref it) >>= _) _ _ ⟨g2,g,dr,tk,os⟩;rw[z1];refine Ac ?_
 unfold Builtin.Dict_items.ownedTupleIsFree;refine Ac (B4 j2 rfl (x:=.none) rfl (Ai ?_));simp only[CY];refine Ac (B4 j2 rfl (x:=ok) rfl ?_);refine Ac (B4 j2 rfl (x:=ov) rfl ?_);refine Ac (Cz j2 (by simp) λg3 j3 b3=>?_);replace b3:Heap.SameBut it g2 g3:=b3;replace j3:IsItemIter g3 it d (i+1) es.size ep es[i].key ov:=j3;refine Ac (Cz j3 (by simp) λg4 j4 b4=>?_);replace b4:Heap.SameBut it g3 g4:=b4;replace j4:IsItemIter g4 it d (i+1) es.size ep es[i].key es[i].val:=j4;refine Ac (Cz j4 (by simp) λg5 j5 b5=>?_);replace b5:Heap.SameBut it g4 g5:=b5;replace j5:IsItemIterOut g5 it d (i+1) es.size ep es[i].key es[i].val hp.objs.size:=j5;refine Ac (Cz j5 (by simp) λg6 j6 b6=>?_);replace b6:Heap.SameBut it g5 g6:=b6;replace j6:IsItemIterOut g6 it d (i+1) es.size ep es[i].key es[i].val hp.objs.size:=j6;have k6:∀ b o,b≠it->g2.get? b=some o->g6.get? b=some o:=λb o hb e=>b6.extBut b o hb (b5.extBut b o hb (b4.extBut b o hb (b3.extBut b o hb e)))
 exact Ac (wpAny_letGo (Ai (Ai ⟨_,rfl,Ai (hQ g6 j6 (k6 _ _ il.symm t2) λb o hb e=>k6 b o hb (k2 b o hb e))⟩)))
theorem qBq {es:Array DictEntry} {ok ov:Value} {Q:Option Value->Shared->Prop} (hh:A.handled=none) (hJ:IsItemIter s.heap it d i es.size ep ok ov) (hm:RawD s.heap d es ep) (hx:es.size<=i)
  (hQ:∀ h',Heap.ExtBut it s.heap h'->Q none { s with heap:=h' }):wpAny (model prog w) A (pyNext (.ref it)) Q E s:=by
 obtain ⟨od,h1,h2,h3⟩:=hm;have ty:s.TypeIs (.ref it) "dict_itemiterator" :=⟨_,hJ,rfl⟩;unfold pyNext;refine Ac (DN (wpAny_callSpecial?_slot (name:=Str.ofString "__next__") ty BG (Bt BG ty Ei ?_ (D6 _))));refine Ac (Ai ?_);refine Ac ?_;refine Ac ?_
 first|refine Ac (B8 ty (Ai ?_))|refine Ac (Cq ty (Ai ?_))
 refine Ac (DG hJ rfl ?_);simp only[show Builtin.Dict_items.ownsTuple "dict_itemiterator" = true by decide,CY]
 show wpAny _ _ (if (Value.ref d == Value.none)=true then _ else _) _ _ s;rw[Al (show ¬ ((Value.ref d == Value.none)=true) from AA)]
 refine Ac (Ai ?_);refine Ac (Cf h1 h3 ?_);rw[Al (by simp)];refine Ac (Ai ?_);refine Ac (Cw h1 h3 ?_);rw[Al (by simp)];refine Ai ?_;simp only[show ¬ ((i:Int)<0) from by ext,Cj,CL,Fh hx];refine Ac ?_
 first|refine Ac (B8 ty (Ai ?_))|refine Ac (Cq ty (Ai ?_))
 show wpAny _ _ (setField (.ref it) 2 .none >>= _) _ _ s;refine Ac (CG hJ rfl (by simp) ?_)
 show wpAny _ _ (newExc (.type "StopIteration") [] >>= _) _ _ _;refine Ac ?_
 simp only[newExc,newTuple];refine Ac (Bk ?_ (by size_fits));refine Ac (m:=firstArgMember _ _) (wpAny_of_eq (a:=Value.none) (by first|rfl|(simp only[firstArgMember];rfl)) ?_);refine Bk ?_ (by size_fits);simp only[raiseNew];refine Ac (wpAny_handled ?_);rw[show A.in1.handled=none from hh];refine Ac (Ai (wpAny_throw ?_));refine Ac (D7 (T:= "StopIteration") (b:=true) ⟨_,Ay _ rfl,rfl⟩ isSubtype_stop ?_);exact Ai (hQ _ (((BQ ..).extBut.push _).push _))
theorem qvs:entryFor table "dict_itemiterator.__iter__" = some Builtin.«dict_keyiterator.__iter__» :=
 entryFor_alias (id':= "dict_keyiterator.__iter__") (by rw[fastTable_eq_tree];kernel_rfl) (by first|rfl|decide +kernel) (by decide +kernel) (by rw[fastTable_eq_tree];kernel_rfl)
theorem qzb {n:Nat} {ok ov:Value} (hJ:IsItemIter s.heap it d i n ep ok ov) (h:Q (.ref it) s):wpAny (model prog w) A (pyIter (.ref it)) Q E s:=by
 have ty:s.TypeIs (.ref it) "dict_itemiterator" :=⟨_,hJ,rfl⟩;refine DU ty Em (Bt Em ty qvs ?_ (F.args_dict_itemiterator_iter_1 _));show wpAny _ _ (ret (.ref it)) _ _ s
 exact Ai ⟨_,rfl, "dict_itemiterator",_,ty,BG.lookup,h⟩
end
open PySem PySem.Spec PyProof.Rows
def NoF (X:Cx) (d:Addr):Prop:=(∀ xs,X.H₀ d≠some (.tup xs))/\(∀ o u,X.H₀ d≠some (.frz o u))/\∀ ps,X.H₀ d≠some (.tbl ps)
section
variable {X:Cx} {pins:List (Addr×Obj)} {σ:St} {H:Hp} {s:Shared} {d:Addr}
theorem Inv.noF {kvs:List (List Key×V)} (I:Inv X pins σ H s) (hd:H d=some (.dT kvs)):NoF X d:=by
 refine ⟨λxs q=>?_,λo u q=>?_,λps q=>?_⟩
 ·have:=I.base.tups d xs q;rw[hd] at this;cases this
 ·have:=I.base.frzs d o u q;rw[hd] at this;cases this
 ·obtain ⟨m,e⟩:=I.base.tbls d ps q;rw[hd] at e;cases e
theorem Inv.swap {o1 o2:HO} (I:Inv X pins σ H s) (hd:H d=some o1) (n1:∀ xs,o1≠.tup xs) (n2:∀ b,o1≠.own b) (nf:NoF X d) (ok:ObjOk X.prog X.w (upd H d o2) s.heap d o2):Inv X pins σ (upd H d o2) s:=by
 have ne:∀ {b},H b=none->b≠d:=λh z=>by rw[z,hd] at h;cases h
 refine ⟨I.ok,I.os,I.bare,⟨I.base.keep,I.base.slot,λb o q n hx=>?_,I.base.there,λb xs q=>?_,λb o u q=>?_,λb ps q=>?_⟩,I.loc,I.cell,?_,λx c q=>?_,λp hp=>?_,λb u q=>?_,I.len⟩
 ·have h0:=I.base.free b o q n hx
  rw[qas (ne h0)];exact h0
 ·have hb:b≠d:=λz=>nf.1 xs (by rw[<- z];exact q)
  rw[qas hb];exact I.base.tups b xs q
 ·have hb:b≠d:=λz=>nf.2.1 o u (by rw[<- z];exact q)
  rw[qas hb];exact I.base.frzs b o u q
 ·have hb:b≠d:=λz=>nf.2.2 ps (by rw[<- z];exact q)
  rw[qas hb];exact I.base.tbls b ps q
 ·rw[qas (ne I.free)];exact I.free
 ·rw[qas (ne (I.freeC x c q))];exact I.freeC x c q
 ·obtain ⟨e,n,r⟩:=I.pin p hp
  exact ⟨e,by rw[qas (ne n)];exact n,r⟩
 ·by_cases hb:b=d
  ·subst hb;rw[qa5] at q;cases q;exact ok
  ·rw[qas hb] at q
   refine (I.hok b u q).stay (λ_ _ _ q=>q) (λc q=>?_) λc xs q=>?_
   ·rw[qas (λz=>by rw[z,hd] at q;exact n2 _ (Ax q))];exact q
   ·rw[qas (λz=>by rw[z,hd] at q;exact n1 _ (Ax q))];exact q
theorem qta {P:Program} {w:World} {o1 o2:HO} {kvs:List (List Key×V)} (hd:H d=some o1) (n1:∀ xs,o1≠.tup xs) (n2:∀ b,o1≠.own b) (x:ObjOk P w H h d (.dT kvs)):ObjOk P w (upd H d o2) h d (.dT kvs):=
 x.stay (λ_ _ _ q=>q) (λc q=>by rw[qas (λz=>by rw[z,hd] at q;exact n2 _ (Ax q))];exact q) λc xs q=>by rw[qas (λz=>by rw[z,hd] at q;exact n1 _ (Ax q))];exact q
theorem Inv.freeze {kvs:List (List Key×V)} {ob:Obj} (I:Inv X pins σ H s) (hd:H d=some (.dT kvs)) (e:s.heap.get? d=some ob):Inv X pins σ (upd H d (.frz ob (.dT kvs))) s:=
 I.swap hd (λ_ z=>nomatch z) (λ_ z=>nomatch z) (I.noF hd) ⟨e,qta hd (λ_ z=>nomatch z) (λ_ z=>nomatch z) (I.hok d _ hd)⟩
theorem Inv.thaw {kvs:List (List Key×V)} {ob:Obj} (I:Inv X pins σ H s) (hd:H d=some (.frz ob (.dT kvs))) (nf:NoF X d):Inv X pins σ (upd H d (.dT kvs)) s:=
 I.swap hd (λ_ z=>nomatch z) (λ_ z=>nomatch z) nf (qta hd (λ_ z=>nomatch z) (λ_ z=>nomatch z) (I.hok d _ hd).2)
end
def Iti (d:Addr) (ob:Obj) (kvs:List (List Key×V)):It:=
 ⟨λi H=>H d=some (.frz ob (.dT kvs))/\i<kvs.length,
   λi H x H'=>∃ p b k v,kvs[i]?=some (k,v)/\x=.ref p/\H p=none/\H b=some (.tup (k.map kV))/\H'=upd H p (.tup [.ref b,v]),
   λi H=>H d=some (.frz ob (.dT kvs))/\kvs.length<=i⟩
theorem qdu {α β:Type} {R:α->β->Prop}:∀ {xs:List α} {ys:List β} {i:Nat} {x:α},Paired R xs ys->xs[i]?=some x->∃ y,ys[i]?=some y/\R x y
 | _,_,_,_,.nil,e=>by simp at e
 | _,_,0,_,.cons r _,e=>by simp at e;subst e;exact ⟨_,rfl,r⟩
 | _,_,i+1,x,.cons _ t,e=>by
  obtain ⟨u,h1,h2⟩:=qdu (i:=i) (x:=x) t (by simpa using e);exact ⟨u,by simpa using h1,h2⟩
theorem qtb {P:Program} {w:World} {ob:Obj} {kvs:List (List Key×V)} {es:Array DictEntry} (x:ObjOk P w H h d (.frz ob (.dT kvs))) (he:ob.data=.dict es ep) :
  RawD h d es ep/\es.size=kvs.length/\∀ (i:Nat) k v,kvs[i]?=some (k,v)->∃ (hi:i<es.size) (b:Addr),es[i].key=.ref b/\H b=some (.tup (k.map kV))/\RelV v es[i].val:=by
 obtain ⟨e0,hz,lo,xs,pr,o,es',ep',e1,e2,e3,e4,nd⟩:=x;rw[e0] at e1;cases e1;rw[he] at e3;cases e3;have hl:es.size=kvs.length:=by rw[<- Be,e4,Aa];exact pr.length.symm
 refine ⟨⟨ob,e0,e2,he⟩,hl,λi k v hk=>?_⟩;obtain ⟨⟨k',b,u⟩,hq,hk',hb,hv⟩:=qdu pr hk;have hi:i<es.size:=by rw[hl];exact (Aj.mp hk).1
 have ei:es.toList[i]?=some (entryOfKey (tupleKind (qbr P w)) (k',b,u)):=by rw[e4,An,hq];rfl
 have ei':es[i]=entryOfKey (tupleKind (qbr P w)) (k',b,u):=by
  rw[CO,Bj hi] at ei;exact Ax ei
 refine ⟨hi,b,by rw[ei'];rfl,hb,by rw[ei'];exact hv⟩
theorem qq9 {P:Program} {w:World} {K:Frag} {elts:List Expr} (d it:Addr) (ob:Obj) (kvs:List (List Key×V)) (es:Array DictEntry) (ep:Nat) (he:ob.data=.dict es ep) :
  Turn P w K (.Tuple elts ek epos) (Iti d ob kvs) [it] it (λi h=>∃ ok ov,IsItemIter h it d i es.size ep ok ov) where
 mem:=by simp
 obj:=λi h st b hb=>by
  have e:b=it:=by simpa using hb
  subst e;obtain ⟨ok,ov,st⟩:=st;exact ⟨_,st,λv z=>by
   have z':Data.fields _=Data.cell v:=z
   cases z'⟩
 keep:=λi h h' st k=>let ⟨ok,ov,st⟩:=st;⟨ok,ov,k it (by simp) _ st⟩
 item:=by
  intro X hP hw hK hc i pins s σ H E I hf st hg;subst hP hw hK;obtain ⟨hd,hi⟩:=hg;obtain ⟨ok,ov,st⟩:=st;obtain ⟨hR,hl,at_⟩:=qtb (I.hok d _ hd) he;have hkv:kvs[i]?=some (kvs[i].1,kvs[i].2):=by rw[Ab hi]
  obtain ⟨hi',b,ek',hb,hv⟩:=at_ i _ _ hkv;refine qza st hR hi' λh' a1 a2 a3=>?_
  refine ⟨.ref s.heap.objs.size,rfl,wpAny_letOwnedTupleGo_items a1 λh'' j'' sb=>?_⟩;have nz:s.heap.objs.size≠it:=CI (Aq st);have T2:=sb.extBut _ _ nz a2;rw[ek'] at T2;refine ⟨.ref s.heap.objs.size,upd H s.heap.objs.size (.tup [.ref b,kvs[i].2]),I.turnedLaid (t':=s.toks) (ch:=[it]) hf (λc o hc e=>?_) (Ak _) ⟨by show 2<=sizeLine;decide,[.ref b,es[i].val],.cons rfl (.cons hv .nil),_,T2,rfl,_,rfl⟩,rfl,⟨_,b,_,_,hkv,rfl,I.hok.fresh (Ak _),hb,rfl⟩,⟨_,_,j''⟩,λc hc=>?_⟩
  ·have hne:c≠it:=λz=>hc (by simp[z])
   exact sb.extBut _ _ hne (a3 c o hne e)
  ·have e:c=it:=by simpa using hc
   subst e;rw[qas (BR nz)];exact (hf c (by simp)).1
 done:=by
  intro X hP hw hK hc i pins s σ H E I hf st hg;subst hP hw hK;obtain ⟨hd,hi⟩:=hg;obtain ⟨ok,ov,st⟩:=st;obtain ⟨hR,hl,at_⟩:=qtb (I.hok d _ hd) he;obtain ⟨f0,f1,f2,f3,f4,f5⟩:=hf it (by simp);exact qBq (I.ok.hd hc) st hR (by ext) λh' eb=>⟨rfl,I.turned (t':=s.toks) (λb o hb e=>eb b o hb e) f0 f1 f3 f4 f5⟩
 self:=λ_ _ _ _ _ st h=>let ⟨_,_,st⟩:=st;qzb st h
section
variable {X:Cx}
def qtc (X:Cx) (to:TE):TI:=λσ H R=>to σ H λx H1=>∃ d kvs,x=.ref d/\H1 d=some (.dT kvs)/\∀ ob,NoF X d->R (Iti d ob kvs) (upd H1 d (.frz ob (.dT kvs)))
theorem qpj {elts:List Expr} {o:Expr} {to:TE} {apos cpos:Pos} (ho:PE X o to)
  (hbase:attributeBase o (Str.ofString "items") X.env (eval o X.env)=eval o X.env:=by rfl) (hline:(apos.endLine == cpos.line)=true:=by rfl) :
  PI X (.Tuple elts ek epos) (.Call (.Attribute o (Str.ofString "items") apos) [] [] cpos) (qtc X to):=by
 intro pins s σ H R I h;refine wpAny_Call_method0_late hbase hline (thn (ho pins s σ H _ I h) λv s1 hq__=>?_);obtain ⟨x,H1,I1,r1,d,kvs,ex,hd,q⟩:=hq__;subst ex
 cases (show v=Value.ref d from r1)
 obtain ⟨hz,lo,xs,pr,ob,es,ep,e1,e2,e3,e4,nd⟩:=I1.hok d _ hd;have hR:RawD s1.heap d es ep:=⟨ob,e1,e2,e3⟩;refine ⟨"dict", "dict.items",F.plainAttrs_dict,F.slot_dict_items,F.type_dict_items,hR.ty,(λa ea=>by cases ea;exact ⟨ob,e1,e2.2.1⟩),Dw rfl (PySem.evalArgs_none (qy8 lo hR ?_))⟩;refine qy9 (s:={ s1 with heap:=s1.heap.push { cls:=.type "dict_items",data:=.fields #[.ref d] } }) ⟨_,Ay _ rfl,rfl,rfl⟩ (hR.up λ_ e=>Af _ e) ?_;have k2:∀ b o,s1.heap.get? b=some o->((s1.heap.push { cls:=.type "dict_items",data:=.fields #[.ref d] }).push (qxh d es.size ep)).get? b=some o:=λb o e=>Af _ (Af _ e)
 have I2:=(I1.kept (t':=s1.toks) k2).freeze hd (k2 _ _ e1);have hsz:s1.heap.objs.size<=(s1.heap.push { cls:=.type "dict_items",data:=.fields #[.ref d] }).objs.size:=by rw[BM];exact BE _
 refine ⟨_,[_],_,_,_,rfl,I2,qq9 d _ ob kvs es ep e3,⟨_,_,Ay _ rfl⟩,λb hb=>?_,q ob (I1.noF hd)⟩;have e:b=(s1.heap.push { cls:=.type "dict_items",data:=.fields #[.ref d] }).objs.size:=by simpa using hb
 subst e;refine I1.fpOk hsz ?_;have hne:(s1.heap.push { cls:=.type "dict_items",data:=.fields #[.ref d] }).objs.size≠d:=CI (AY (Aq e1) hsz);rw[qas hne];exact I1.hok.fresh hsz
def qBr (X:Cx) (Q:VK):VK:=λv H2=>∃ d kvs ob,H2 d=some (.frz ob (.dT kvs))/\NoF X d/\Q v (upd H2 d (.dT kvs))
def qF5 (X:Cx) (nv:Nat) (fv:List Nat) (to:TE) (g:TG) (tc:TT) (te:TE):TE:=λσ H Q=>tLC nv fv (qtc X to) g tc te σ H (qBr X Q)
theorem qtd {nv:Nat} {fv:List Nat} {to:TE} (h:PE X e (tLC nv fv (qtc X to) g tc te)):PE X e (qF5 X nv fv to g tc te):=by
 intro pins s σ H Q I q;exact thn (h pins s σ H _ I q) λu s' ⟨v,H2,I2,r,d,kvs,ob,hd,nf,q⟩=>⟨v,_,I2.thaw hd nf,r,q⟩
end
theorem qpk {X:Cx} {ob:Obj} {kvs:List (List Key×V)} {Q:VK} (Pv:Nat->List V->Hp->Prop) (hz:kvs.length<=sizeLine) (nf:NoF X d) (h0:Pv 0 [] (upd H d (.frz ob (.dT kvs))))
  (hl:∀ i ys H2,Pv i ys H2->H2 d=some (.frz ob (.dT kvs))/\ys.length<=i)
  (hs:∀ i k v b p ys H2 H3,kvs[i]?=some (k,v)->H2 b=some (.tup (k.map kV))->New H2 H3 p (.tup [.ref b,v])->Pv i ys H2->g (.ref p) σ H3 λσ4 H4=>tc σ4 H4 λbb H5=>if bb=true then te σ4 H5 λv H6=>Pv (i+1) (ys ++ [v]) H6 else Pv (i+1) ys H5)
  (hd:∀ ys H2 p H3,Pv kvs.length ys H2->New H2 H3 p (.lst ys)->H3 d=some (.frz ob (.dT kvs))->Q (.ref p) (upd H3 d (.dT kvs))):qeg (Iti d ob kvs) (qBr X Q) g tc te σ (upd H d (.frz ob (.dT kvs))):=by
 exists λi m ys H2=>m=kvs.length-i/\i<=kvs.length/\Pv i ys H2,⟨kvs.length,by simp,Bw _,h0⟩;rintro i m ys H2 ⟨rfl,hi,p⟩;obtain ⟨hd2,hy⟩:=hl i ys H2 p
 by_cases hlt:i<kvs.length
 ·refine .inr ⟨⟨hd2,hlt⟩,by ext,Pv (i+1),λzs H' p'=>⟨kvs.length-(i+1),by ext,rfl,hlt,p'⟩,λx H3 y=>?_⟩
  obtain ⟨q,b,k,v,e1,rfl,e3,e4,rfl⟩:=y;exact hs i k v b q ys H2 _ e1 e4 (qa7 e3) p
 ·have e:i=kvs.length:=by ext
  subst e;refine .inl ⟨⟨hd2,Ak _⟩,by ext,λp' hp'=>?_⟩;have hne:d≠p':=λz=>by rw[<- z,hd2] at hp';cases hp'
  have h3:upd H2 p' (.lst ys) d=some (.frz ob (.dT kvs)):=by rw[qas hne];exact hd2
  exact ⟨d,kvs,ob,h3,nf,hd ys H2 p' _ p (qa7 hp') h3⟩
open PySem PySem.Spec PyProof.Rows
section
variable {prog:Program} {w:World} {A:Around} {E:Value->Shared->Prop} {h:Heap} {g:Array GenState} {d:Drawn} {t:Nat} {os:OsState}
variable {nm q:Str} {C N x:Addr} {bs bm:List Value} {hdct:Bool} {sn:List Str} {sub:List Value} {ab:Bool} {col:Option Bool} {dd:Option Addr} {k0 k1 k2 k3 k5:Option Value}
end
section
variable {prog:Program} {w:World} {A:Around} {E:Value->Shared->Prop} {K:Frag} {h:Heap} {g:Array GenState} {d:Drawn} {t:Nat} {os:OsState} {C f x:Addr} {o:Obj} {vs:Array Value}
end
open PySem PySem.Spec PyProof.Rows
section
variable {prog:Program} {w:World} {A:Around} {E:Value->Shared->Prop} {s:Shared} {K:Frag} {a D:Addr} {oe:Obj} {od:Option Obj}
end
open PySem PySem.Spec PyProof.Rows
def qBs (t u:TE):TE:=λσ H Q=>t σ H Q\/u σ H Q
theorem qpl {X:Cx} {t u:TE} (ht:PE X e t) (hu:PE X e u):PE X e (qBs t u):=λpins s σ H Q I h=>h.elim (ht pins s σ H Q I) (hu pins s σ H Q I)
structure Mk0 (K:Frag) (C:Addr):Prop where
 makes:PySem.W.makesIn K C=true
 init:PySem.W.findIn K (.ref C) "__init__" = some (some (.builtin "object.__init__"))
 kp:keepIn K (.ref C)=true
def qD9 (C:Addr):TE:=λ_ H Q=>∀ x dx H',Same H H'->H x=none->H' x=some (.ins C dx [])->Q (.ref x) H'
theorem qii {X:Cx} {pos:Pos} (M:Mk0 X.K C) (hg:Gl X x) (hm:X.mg x=some (.ref C)) (hdb:(x == ("__debug__" : Str))=false:=by decide):PE X (.Call (.Name x p) [] [] pos) (qD9 C):=by
 intro pins s σ H Q I h;refine Cb (qh2 I hg hm ?_ hdb);refine PySem.W.callWith_K0 I.kIn M.kp ?_;have I2:=Inv.made (C:=C) I;have f1:H (s.heap.objs.size+1)=none:=I.hok.fresh (BE _);have f2:H s.heap.objs.size=none:=I.hok.fresh (Ak _);have hq:=h (s.heap.objs.size+1) s.heap.objs.size (upd (upd H s.heap.objs.size (.own (s.heap.objs.size+1))) (s.heap.objs.size+1) (.ins C s.heap.objs.size [])) ((qfx f2).trans (qfx (by rw[qas (CI (Cn _))];exact f1))) f1 qa5;have Y:=Ea (M:=model X.prog X.w) I.kIn M.makes;have kin:=I.kIn;clear I h f1 f2;obtain ⟨hh,g,d,t,os⟩:=s;refine Et (qsa kin M.makes M.init (λself=>PySem.W.Looks.of_pure (PySem.W.oi_bind self)) ?_);have e2:((hh.push PySem.W.emptyDict).push (PySem.W.instObj C hh.objs.size)).get? (hh.objs.size+1)=some (PySem.W.instObj C hh.objs.size):=by
  have:=Ay (hh.push PySem.W.emptyDict) (o:=PySem.W.instObj C hh.objs.size) rfl
  rwa [BM] at this
 have t1:PySem.W.Looks (model X.prog X.w) ((hh.push PySem.W.emptyDict).push (PySem.W.instObj C hh.objs.size)) (typeOf (.ref (hh.objs.size+1))) (.ref C):=(PySem.W.Looks.ld e2).andThen .now;have t2:PySem.W.Looks (model X.prog X.w) ((hh.push PySem.W.emptyDict).push (PySem.W.instObj C hh.objs.size)) (isInstance (.ref (hh.objs.size+1)) (.type "object")) true:=t1.andThen (Y.top.keeps λb o e=>Af _ (Af _ e));refine codeAny_call_builtin PySem.W.oi_plain PySem.W.entry_oi (@PySem.W.check_slot (model X.prog X.w) _ _ _ "object.__init__" "object" "__init__" (.ref (hh.objs.size+1)) [] [] _ PySem.W.oi_kind PySem.W.oi_split t2 (PySem.W.oi_args (.ref (hh.objs.size+1))) ?_);rw[PySem.W.oi_run];exact Ai (And.intro rfl ⟨.ref _,_,I2,rfl,hq⟩)
open PySem PySem.Spec PyProof.Rows PySem.Builtin PySem.Builtin.Str
end L2
namespace L2
open PySem PySem.Spec PyProof.Rows PySem.W
open PySem PySem.Spec PyProof.Rows PySem.W
variable {xs:List V}{us vs:List Value}{H H':Hp}{o:HO}{h:Heap}{t' i k ek ep:Nat}{it C f l d:Addr}{N ps:List Str}{j:Int}{x qual:Str}{E Q:Value->Shared->Prop}{u:Value}{e e1 e2:Expr}{σ:St}{y:V}{D:Ends}{tc:TT}{te:TE}{g:TG}{p epos:Pos}{sp:Sp}{ks:List (List Int)}{t1 t2 t3 t4 t5:TS}
section
variable {prog:Program} {w:World} {A:Around} {E:Value->Shared->Prop} {s:Shared}
theorem qra {a:Addr} {n:Nat} {P:Fin->Shared->Prop} (ho:s.heap.get? a=some (seqObj "list" vs.toArray n)) (h2:2<=vs.length) (h64:vs.length<64) (hl:vs.length=ks.length)
  (hT:∀ (i:Nat) v k,vs[i]?=some v->ks[i]?=some k->qrt s.heap v k/\k≠[])
  (h:∀ p:Array Nat,PermA ks.length p->qrs (ltK ks) p ks.length->P (.done (.ret .none)) { s with heap:=sortedHeap s.heap a vs (p.map λi=>vs.getD i .none) }):wpAny (model prog w) A (Builtin.«list.sort» ⟨[.ref a],[]⟩) P E s:=by
 rw[Ep];have la:a<s.heap.objs.size:=Aq ho;refine Ac (E4 ho rfl ?_);refine Ac (CT ho rfl ?_);obtain ⟨e1,h1⟩:∃ e1,(s.heap.update a (Obj.mapSeq λ_=>#[])).get? a=some (seqObj "list" #[] e1):=⟨_,get?_update_seq ho (λ_=>#[])⟩;refine Ac (Dc h1 rfl ?_);refine Ac (DF ?_ (by simp only[List.toList_toArray];rw[Bv];ext));refine Ac (CS ?_);refine BS ?_;have h6:(((s.heap.update a (Obj.mapSeq λ_=>#[])).push (seqObj "tuple" vs.toArray 0)).push (seqObj "list" #[] 0)).get? a=some (seqObj "list" #[] e1):=by
  rw[Ci _ _ _ (by rw[Ds,BV];exact AH (CJ la)),Ci _ _ _ (by rw[BV];exact AH la)];exact h1
 show wpAny (model prog w) A _ P E { s with heap:=((s.heap.update a (Obj.mapSeq λ_=>#[])).push (seqObj "tuple" vs.toArray 0)).push (seqObj "list" #[] 0) }
 obtain ⟨s3,es3⟩:∃ s3:Shared,s3={ s with heap:=((s.heap.update a (Obj.mapSeq λ_=>#[])).push (seqObj "tuple" vs.toArray 0)).push (seqObj "list" #[] 0) }:=⟨_,rfl⟩;have hT3:∀ (i:Nat) v k,vs[i]?=some v->ks[i]?=some k->qrt s3.heap v k/\k≠[]:=λi v k q1 q2=>by
  obtain ⟨⟨b,o,xs,e,rfl,g1,g2,g3,g4⟩,hne⟩:=hT i v k q1 q2;refine ⟨⟨b,o,xs,e,rfl,?_,g2,g3,g4⟩,hne⟩;have hba:b≠a:=λz=>by
   subst z;rw[ho] at g1;cases g1;have g2':(Value.type "list" : Value)=Value.type "tuple" :=g2;injection g2' with e'
   exact absurd e' (by decide)
  rw[es3];exact Af _ (Af _ ((BQ s.heap a _).extBut b o hba g1))
 obtain ⟨fs,f1,f2,f3⟩:=qs6 hl hT3;have z2:¬ vs.toArray.size<2:=by simpa using by ext
 dsimp only;rw[Al z2,Al z2,<- es3];refine Ac (kat_kind (T:=.type "int") f1 (by ext) (λv hv=>?_) (by decide) ?_)
 ·obtain ⟨i,t,rfl⟩:=f3 v hv
  exact Looks.of_pure rfl
 have hrun:=kas_runs (prog:=prog) (w:=w) (A:=A) (E:=E) (κ:=tuples' true) (it:=pairsOf vs) (n:=ks.length) (s:=s3) (G:=λp s'=>s'=s3/\PermA ks.length p/\qrs (ltK ks) p ks.length)
  (Q:=λ_ st' s'=>s'=s3/\failedOf st'=none/\∃ p,arrOf st'=p.map (kas_item (pairsOf vs))/\PermA ks.length p/\qrs (ltK ks) p ks.length) (by ext) (by ext)
  (λp st' s' hz ha hf hG=>⟨hG.1,hf,p,ha,hG.2⟩)
  (KW.run (λi j C hi hj hC=>by
   unfold kas_cmp;rw[Dd,Dd];have q1:vs[i]?=some (vs.getD i .none):=by rw[AN,Ab (by ext)];rfl
   have q2:vs[j]?=some (vs.getD j .none):=by rw[AN,Ab (by ext)];rfl
   have q3:ks[i]?=some (ks.getD i []):=by rw[AN,Ab hi];rfl
   have q4:ks[j]?=some (ks.getD j []):=by rw[AN,Ab hj];rfl
   exact qxg (hT3 i _ _ q1 q3).1 (hT3 j _ _ q2 q4).1 hC) (qpg (qBn ks) (by ext)))
 have est:kas_st (tuples' true) (pairsOf vs) (List.range ks.length).toArray=SortSt.mk' (tuples' true) (vs.toArray.zip vs.toArray) #[] 7 none:=by
  unfold kas_st;have:=kas_range (pairsOf vs);rw[E3,hl] at this;rw[this];rfl
 rw[est] at hrun
 show wpAny (model prog w) A (sortRuns'.run (SortSt.mk' (tuples' true) (vs.toArray.zip vs.toArray) #[] 7 none) >>= _) P E s3
 refine Ac (Br hrun (λr s' hq=>?_) λ_ _ z=>z);obtain ⟨rfl,hf,p,hp,hq⟩:=hq;have h6':s'.heap.get? a=some (seqObj "list" #[] e1):=by rw[es3];exact h6
 have hz:((arrOf r.2).map (·.2)).size<=sizeLine:=by rw[C7,hp,C7,hq.1.sz,Bv];ext
 refine Ac (Dc h6' rfl ?_);refine Ac (CT h6' rfl ?_ (hsz2:=Nat.le_succ_of_le hz));rw[hf];simp only[DV,Cc,Cj];refine Ai ?_;have:=h p hq.1 hq.2;rw[es3];rw[hp,Array.map_map];have ef:((λx:Keyed=>x.2) ∘ kas_item (pairsOf vs))=λi=>vs.getD i .none:=by
  funext i
  show (kas_item (pairsOf vs) i).2=_
  rw[Dd]
 rw[ef];exact this
theorem qte {a:Addr} {n:Nat} {P:Fin->Shared->Prop} (ho:s.heap.get? a=some (seqObj "list" vs.toArray n)) (h64:vs.length<64) (hl:vs.length=ks.length)
  (hT:∀ (i:Nat) v k,vs[i]?=some v->ks[i]?=some k->qrt s.heap v k/\k≠[])
  (h:∀ idx:List Nat,idx.Perm (List.range ks.length)->(pick idx ks []).Pairwise (λk l=>blt l k=false)->P (.done (.ret .none)) { s with heap:=sortedHeap s.heap a vs (pick idx vs .none).toArray }):wpAny (model prog w) A (Builtin.«list.sort» ⟨[.ref a],[]⟩) P E s:=by
 by_cases h2:vs.length<2
 ·refine qj4 ho h2 ?_
  have:=h (List.range ks.length) (.refl _) (by
   rw[qdt]
   match ks,hl with
   | [],_=>exact .nil
   | [k],_=>exact Dm _ _
   | _ :: _ :: _,hl=>simp at hl;ext)
  rw[<- hl,qdt] at this;rw[qs0];exact this
 ·refine qra ho (by ext) h64 hl hT λp hp ha=>?_
  have e:(p.map λi=>vs.getD i .none)=(pick p.toList vs .none).toArray:=by
   apply Array.ext'
   simp[pick]
  rw[e];refine h p.toList hp.perm ?_;rw[BX];intro i j hi hj hij;have hs:=hp.sz;have li:i<p.size:=by simpa [pick] using hi
  have lj:j<p.size:=by simpa [pick] using hj
  have:=ha i j hij (by ext);unfold ltK at this;rw[AW,Bj lj,AW,Bj li] at this
  simpa [pick] using this
theorem qma (hL:s.heap.IsList l vs.toArray) (h64:vs.length<64) (hl:vs.length=ks.length)
  (hT:∀ (i:Nat) v k,vs[i]?=some v->ks[i]?=some k->qrt s.heap v k/\k≠[])
  (h:∀ idx:List Nat,idx.Perm (List.range ks.length)->(pick idx ks []).Pairwise (λk l=>blt l k=false)->Q (.ref (s.heap.objs.size+1)) { s with heap:=sortedAll s.heap vs (pick idx vs .none).toArray }):wpAny (model prog w) A (call (.builtin "sorted") [.ref l]) Q E s:=by
 refine C9 FC EZ E6 (E7 _) ?_;unfold Builtin.«sorted»;refine Ac (m:=checkCount "sorted" 1 1 _) (Ai ?_);refine Ac (collect_list hL ?_ (by rw[Bv];ext));refine Ac (CS ?_ (by rw[Bv];ext));have hsz:((s.heap.push (seqObj "list" #[] 0)).update s.heap.objs.size (Obj.mapSeq λx=>x ++ vs.toArray)).objs.size=s.heap.objs.size+1:=by rw[BV,Ds]
 have hS:(((s.heap.push (seqObj "list" #[] 0)).update s.heap.objs.size (Obj.mapSeq λx=>x ++ vs.toArray)).push (seqObj "list" vs.toArray 0)).get? (s.heap.objs.size+1)=some (seqObj "list" vs.toArray 0):=by
  rw[<- hsz];exact Ay _ rfl
 dsimp only;rw[hsz];have kp:∀ b ob,s.heap.get? b=some ob->(((s.heap.push (seqObj "list" #[] 0)).update s.heap.objs.size (Obj.mapSeq λx=>x ++ vs.toArray)).push (seqObj "list" vs.toArray 0)).get? b=some ob:=λb ob hb=>by
  refine Af _ ((BQ _ s.heap.objs.size _).extBut b ob (AH (Aq hb)) (Af _ hb))
 refine Ac (BS (Bt Eu ⟨_,hS,rfl⟩ Er (qte (s:={ s with heap:=((s.heap.push (seqObj "list" #[] 0)).update s.heap.objs.size (Obj.mapSeq λx=>x ++ vs.toArray)).push (seqObj "list" vs.toArray 0) }) hS h64 hl (λi v k q1 q2=>?_) λidx i1 i2=>⟨_,rfl,?_⟩) (Ew _)))
 ·obtain ⟨⟨b,o,xs,e,e1,g1,g2⟩,hne⟩:=hT i v k q1 q2
  exact ⟨⟨b,o,xs,e,e1,kp _ _ g1,g2⟩,hne⟩
 ·exact Ai ⟨_,rfl,h idx i1 i2⟩
end
section
variable {X:Cx}
inductive qmb  (x:V) (vs:List V) (H:Hp) (Q:VK):Prop
 | mk:∀ l b xs zs,x=.ref l->vs=[.ref b]->H l=some (.lst xs)->H b=some (.lst zs)->xs.length+zs.length<=sizeLine->(∀ H',But l H H'->H' l=some (.lst (xs ++ zs))->Q .non H')->qmb x vs H Q
def qvt:V->List V->Hp->VK->Prop:=λx vs H Q=>qmb x vs H Q
theorem qgm:MtM X "list.extend" qvt:=mt_extend.imp λ_ _ _ _ ⟨l,b,xs,zs,e1,e2,h,h2,z,q⟩=>⟨l,b,xs,zs,e1,e2,h,h2,z,q _ but_upd qa5⟩
def qBt (K:Frag):List V->Hp->VK->Prop:=λxs H Q=>∃ (p:Addr) (ys:List V) (ks:List (List Int)),xs=[.ref p]/\SqL K H p ys/\TupsH H ys ks/\ks.length<64/\(∀ k∈ks,k≠[]) /\
 ∀ ms zs l H',ms.Perm ks->ms.Pairwise (λk l=>blt l k=false)->TupsH H zs ms->New H H' l (.lst zs)->Q (.ref l) H'
theorem qmc:CallR X (.builtin "sorted") (qBt X.K):=by
 intro pins s σ H xs us Q I r h;obtain ⟨p,ys,ks,rfl,hq,hT,h64,hne,q⟩:=h;obtain ⟨u,rfl,ru⟩:=vals1 r
 cases (show u=Value.ref p from ru)
 obtain ⟨its,rv,pl,hz⟩:=I.list hq;have l1:=hT.len;have l2:=rv.length;refine qma pl.isList (by ext) (ks:=ks) (by ext) (λi v k q1 q2=>?_) λidx i1 i2=>?_
 ·obtain ⟨x,qx⟩:∃ x,ys[i]?=some x:=⟨_,Ab (by have:=(Aj.mp q2).1;ext)⟩
  obtain ⟨a,rfl,ha⟩:=hT.get qx q2;have hv:v=Value.ref a:=by
   have hx:=(Aj.mp qx);have hvv:=(Aj.mp q1);have:=vals_pick.vals_ix rv hx.1 hvv.1;rw[hx.2,hvv.2] at this;exact this
  subst hv;exact ⟨qoe I ha,hne k (Am q2)⟩
 ·have hi:∀ i∈idx,i<ks.length:=λi h=>C5.mp (i1.mem_iff.mp h)
  obtain ⟨e,he⟩:=EY s.heap its (pick idx its .none).toArray;have vp:Vals (pick idx ys .non) (pick idx its .none):=vals_pick rv (λi h=>by have:=hi i h;ext);refine ⟨.ref _,_,I.laid (t':=s.toks) (o:=.lst (pick idx ys .non)) (λ_ _=>EG) (BE _) ⟨?_,pick idx its .none,e,vp,he⟩,rfl,q (pick idx ks []) (pick idx ys .non) _ _ (qih i1) i2 (hT.pick hi) (qa7 (I.hok.fresh (BE _)))⟩;have:=i1.length_eq;rw[D1] at this
  show (pick idx ys .non).length<=_
  unfold pick;rw[Aa,Bv];ext
end
open PySem PySem.Spec PyProof.Rows
section
variable {prog:Program} {w:World} {A:Around} {R:Result->Shared->Prop} {I:Addr} {fp wr:List Addr} {n:Nat} {P:Nat->Value->Prop} {St:Nat->Heap->Prop} {K:Type} [DecidableEq K] {knd:KeyKind prog w K}
end
open PySem PySem.Spec PyProof.Rows
section
variable {prog:Program} {w:World} {A:Around} {E:Value->Shared->Prop} {s:Shared} {K:Type} [DecidableEq K] {knd:KeyKind prog w K}
end
open PySem PySem.Spec PyProof.Rows
section
variable {X:Cx} {k:Nat} {ps:List Str} {sp:Sp} {dvs:List V} {ds:List Value} {x:Str} {p pos:Pos} {e:Expr} {es:List Expr} {t:TA}
end
open PySem
def qEa (K:Frag):R2:=λx y H Q=>∃ (a b:Addr) (xs:List V),x=.ref a/\y=.ref b/\SqL K H a xs/\H b=some (.lst [])/\Q (.bl (decide (xs≠[]))) H
theorem qzc {X:Cx} (hu:X.A.units+64<cLine):OpR X (compareOp .NotEq) (qEa X.K):=by
 intro pins s σ H x y v u Q I rx ry h;obtain ⟨a,b,xs,rfl,rfl,ha,hb,q⟩:=h
 cases (show v=Value.ref a from rx)
 cases (show u=Value.ref b from ry)
 obtain ⟨its,rv,pa,hz⟩:=I.list ha;obtain ⟨its2,rv2,pb,hz2⟩:=I.list (SqL.of hb);cases rv2
 cases rv with
 | nil =>
  exact SeqAt.RcNeAt.lists (e:=λ_=>true) pa.isList pb.isList rfl (by ext) (λj h1=>absurd h1 (Nat.not_lt_zero _)) X.prog X.w X.xe _ ⟨.bl _,H,I,rfl,q⟩
 | cons r1 r2 =>
  exact SeqAt.RcNeAt.lists_lengths pa.isList pb.isList (by simp) (by ext) X.prog X.w X.xe _ ⟨.bl _,H,I,rfl,q⟩
open PySem
end L2
namespace L2
open PySem
variable {xs:List V}{us vs:List Value}{H H':Hp}{o:HO}{h:Heap}{t' i k ek ep:Nat}{it C f l d:Addr}{N ps:List Str}{j:Int}{x qual:Str}{E Q:Value->Shared->Prop}{u:Value}{e e1 e2:Expr}{σ:St}{y:V}{D:Ends}{tc:TT}{te:TE}{g:TG}{p epos:Pos}{sp:Sp}{ks:List (List Int)}{t1 t2 t3 t4 t5:TS}
section
variable {X:Cx}
theorem jS (i:Nat) {pos pos':Pos} (hN:X.N.Nodup) (he:PE X e te) (hi:X.N[i]?=some x:=by rfl) (hx:Loc X.env.scope x:=by exact Or.inl rfl) (hs:swapsWith e (some (.Name x pos')) pos.line X.env=pure false:=by rfl) (hf:X.fn x=true\/X.env.scope.names.lookup x=some .local:=by first|exact .inl rfl|exact .inr rfl|assumption):PS X (.Assign [.Name x pos'] e pos) (qC9 te (qdm i)):=qr1 hN hi hx he hs hf
theorem jN (i:Nat) {pos:Pos} (hN:X.N.Nodup) (hi:X.N[i]?=some x:=by rfl) (hx:Loc X.env.scope x:=by exact Or.inl rfl) (hf:X.fn x=true\/X.env.scope.names.lookup x=some .local:=by first|exact .inl rfl|exact .inr rfl|assumption):PG X (.Name x pos) (qdm i):=qn5 hN hi hx hf
theorem jM (i:Nat) {pos:Pos} (L:List Str) (hl:X.N=L:=by rfl) (hd:L.Nodup:=by decide +kernel) (hi:X.N[i]?=some x:=by rfl) (hx:Loc X.env.scope x:=by exact Or.inl rfl) (hf:X.fn x=true\/X.env.scope.names.lookup x=some .local:=by first|exact .inl rfl|exact .inr rfl|assumption):PG X (.Name x pos) (qdm i):=qn5 (by rw[hl];exact hd) hi hx hf
theorem jF {k2:Nat} {es:List Expr} {t:TA} {pos:Pos} (D:qax X.prog X.w X.K X.mg X.base k x ps sp) (hr:Room k2 X.A) (ha:PA X (e :: es) t) (hk:k<=k2:=by decide) (hg:Gl X x:=by rfl) (hdb:(x == ("__debug__" : Str))=false:=by decide) (he:starEach (e :: es) X.env=(false,eval e X.env) :: starEach es X.env:=by rfl) (hpl:(backTo pos (starEach es X.env)).any (·.1)=false:=by rfl):PE X (.Call (.Name x p) (e :: es) [] pos) (qyk sp [] E0 t):=qDz D (hr.mono hk) hg ha hdb he hpl
theorem jC {op:CmpOp} {r:R2} {a b:Expr} {ta tb:TE} {pos:Pos} (ho:OpR X (compareOp op) r) (ha:PE X a ta) (hb:PE X b tb) (hm:behindInMarks op b=false:=by exact qw3 _):PT X (.Compare a [op] [b] pos) (qAu (tOp r ta tb)):=qyg ho ha hb hm
theorem jD {op:CmpOp} {r:R2} {a b:Expr} {ta tb:TE} {pos:Pos} (ho:OpR X (compareOp op) r) (ha:PE X a ta) (hb:PE X b tb) (hm:behindInMarks op b=false:=by exact qw3 _):PE X (.Compare a [op] [b] pos) (tOp r ta tb):=qyf ho ha hb hm
theorem jI {a b:Expr} {ta tb:TE} {pos:Pos} (ha:PE X a ta) (hb:PE X b tb) (hs:qn6 b:=by exact λ_ _=>rfl):PE X (.Subscript a b pos) (tOp (qAx X.K) ta tb):=qc9 qk4 ha hb hs
theorem jT {a b:Expr} {ta tb:TE} {pos:Pos} (ha:PE X a ta) (hb:PE X b tb) (hs:qn6 b:=by exact λ_ _=>rfl):PE X (.Subscript a b pos) (tOp (qk3 X.K) ta tb):=qc9 qcl ha hb hs
theorem jA1 {t1:TE} (h1:PE X e1 t1) (s1:starEach [e1] X.env=(false,eval e1 X.env) :: starEach [] X.env:=by rfl):PA X [e1] (qe0 t1 qj0):=qb2 h1 qct s1
theorem jA2 {t1 t2:TE} (h1:PE X e1 t1) (h2:PE X e2 t2) (s1:starEach [e1,e2] X.env=(false,eval e1 X.env) :: starEach [e2] X.env:=by rfl) (s2:starEach [e2] X.env=(false,eval e2 X.env) :: starEach [] X.env:=by rfl):PA X [e1,e2] (qe0 t1 (qe0 t2 qj0)):=qb2 h1 (qb2 h2 qct s2) s1
theorem jA3 {e3:Expr} {t1 t2 t3:TE} (h1:PE X e1 t1) (h2:PE X e2 t2) (h3:PE X e3 t3) (s1:starEach [e1,e2,e3] X.env=(false,eval e1 X.env) :: starEach [e2,e3] X.env:=by rfl) (s2:starEach [e2,e3] X.env=(false,eval e2 X.env) :: starEach [e3] X.env:=by rfl) (s3:starEach [e3] X.env=(false,eval e3 X.env) :: starEach [] X.env:=by rfl):PA X [e1,e2,e3] (qe0 t1 (qe0 t2 (qe0 t3 qj0))):=qb2 h1 (qb2 h2 (qb2 h3 qct s3) s2) s1
theorem jA4 {e3 e4:Expr} {t1 t2 t3 t4:TE} (h1:PE X e1 t1) (h2:PE X e2 t2) (h3:PE X e3 t3) (h4:PE X e4 t4) (s1:starEach [e1,e2,e3,e4] X.env=(false,eval e1 X.env) :: starEach [e2,e3,e4] X.env:=by rfl) (s2:starEach [e2,e3,e4] X.env=(false,eval e2 X.env) :: starEach [e3,e4] X.env:=by rfl) (s3:starEach [e3,e4] X.env=(false,eval e3 X.env) :: starEach [e4] X.env:=by rfl) (s4:starEach [e4] X.env=(false,eval e4 X.env) :: starEach [] X.env:=by rfl):PA X [e1,e2,e3,e4] (qe0 t1 (qe0 t2 (qe0 t3 (qe0 t4 qj0)))):=qb2 h1 (qb2 h2 (qb2 h3 (qb2 h4 qct s4) s3) s2) s1
theorem jA5 {e3 e4 e5:Expr} {t1 t2 t3 t4 t5:TE} (h1:PE X e1 t1) (h2:PE X e2 t2) (h3:PE X e3 t3) (h4:PE X e4 t4) (h5:PE X e5 t5) (s1:starEach [e1,e2,e3,e4,e5] X.env=(false,eval e1 X.env) :: starEach [e2,e3,e4,e5] X.env:=by rfl) (s2:starEach [e2,e3,e4,e5] X.env=(false,eval e2 X.env) :: starEach [e3,e4,e5] X.env:=by rfl) (s3:starEach [e3,e4,e5] X.env=(false,eval e3 X.env) :: starEach [e4,e5] X.env:=by rfl) (s4:starEach [e4,e5] X.env=(false,eval e4 X.env) :: starEach [e5] X.env:=by rfl) (s5:starEach [e5] X.env=(false,eval e5 X.env) :: starEach [] X.env:=by rfl):PA X [e1,e2,e3,e4,e5] (qe0 t1 (qe0 t2 (qe0 t3 (qe0 t4 (qe0 t5 qj0))))):=qb2 h1 (qb2 h2 (qb2 h3 (qb2 h4 (qb2 h5 qct s5) s4) s3) s2) s1
theorem jG2 {t1 t2:TG} {pos:Pos} (h1:PG X e1 t1) (h2:PG X e2 t2) (hc:X.calm=true:=by rfl) (s1:(assignEach [e1,e2] X.env).map (·.2)=assign e1 X.env :: (assignEach [e2] X.env).map (·.2):=by rfl) (s2:(assignEach [e2] X.env).map (·.2)=assign e2 X.env :: (assignEach [] X.env).map (·.2):=by rfl) (hn:(assignEach [e1,e2] X.env).length=2:=by rfl) (hst:(assignEach [e1,e2] X.env).findIdx? (·.1)=none:=by rfl):PG X (.Tuple [e1,e2] k pos) (qwx X.K 2 (qdn t1 (qdn t2 qww))):=qo5 hc (qbj h1 (qbj h2 qk1 s2) s1) hn hst
theorem jG3 {e3:Expr} {t1 t2 t3:TG} {pos:Pos} (h1:PG X e1 t1) (h2:PG X e2 t2) (h3:PG X e3 t3) (hc:X.calm=true:=by rfl) (s1:(assignEach [e1,e2,e3] X.env).map (·.2)=assign e1 X.env :: (assignEach [e2,e3] X.env).map (·.2):=by rfl) (s2:(assignEach [e2,e3] X.env).map (·.2)=assign e2 X.env :: (assignEach [e3] X.env).map (·.2):=by rfl) (s3:(assignEach [e3] X.env).map (·.2)=assign e3 X.env :: (assignEach [] X.env).map (·.2):=by rfl) (hn:(assignEach [e1,e2,e3] X.env).length=3:=by rfl) (hst:(assignEach [e1,e2,e3] X.env).findIdx? (·.1)=none:=by rfl):PG X (.Tuple [e1,e2,e3] k pos) (qwx X.K 3 (qdn t1 (qdn t2 (qdn t3 qww)))):=qo5 hc (qbj h1 (qbj h2 (qbj h3 qk1 s3) s2) s1) hn hst
theorem jG4 {e3 e4:Expr} {t1 t2 t3 t4:TG} {pos:Pos} (h1:PG X e1 t1) (h2:PG X e2 t2) (h3:PG X e3 t3) (h4:PG X e4 t4) (hc:X.calm=true:=by rfl) (s1:(assignEach [e1,e2,e3,e4] X.env).map (·.2)=assign e1 X.env :: (assignEach [e2,e3,e4] X.env).map (·.2):=by rfl) (s2:(assignEach [e2,e3,e4] X.env).map (·.2)=assign e2 X.env :: (assignEach [e3,e4] X.env).map (·.2):=by rfl) (s3:(assignEach [e3,e4] X.env).map (·.2)=assign e3 X.env :: (assignEach [e4] X.env).map (·.2):=by rfl) (s4:(assignEach [e4] X.env).map (·.2)=assign e4 X.env :: (assignEach [] X.env).map (·.2):=by rfl) (hn:(assignEach [e1,e2,e3,e4] X.env).length=4:=by rfl) (hst:(assignEach [e1,e2,e3,e4] X.env).findIdx? (·.1)=none:=by rfl):PG X (.Tuple [e1,e2,e3,e4] k pos) (qwx X.K 4 (qdn t1 (qdn t2 (qdn t3 (qdn t4 qww))))):=qo5 hc (qbj h1 (qbj h2 (qbj h3 (qbj h4 qk1 s4) s3) s2) s1) hn hst
theorem jB2 {s1 s2:Stmt} (h1:PS X s1 t1) (h2:PS X s2 t2):PSs X [s1,s2] (qcj t1 t2):=qaj h1 (qac h2)
theorem jB3 {s1 s2 s3:Stmt} (h1:PS X s1 t1) (h2:PS X s2 t2) (h3:PS X s3 t3):PSs X [s1,s2,s3] (qcj t1 (qcj t2 t3)):=qaj h1 (qaj h2 (qac h3))
theorem jB4 {s1 s2 s3 s4:Stmt} (h1:PS X s1 t1) (h2:PS X s2 t2) (h3:PS X s3 t3) (h4:PS X s4 t4):PSs X [s1,s2,s3,s4] (qcj t1 (qcj t2 (qcj t3 t4))):=qaj h1 (qaj h2 (qaj h3 (qac h4)))
theorem jB5 {s1 s2 s3 s4 s5:Stmt} (h1:PS X s1 t1) (h2:PS X s2 t2) (h3:PS X s3 t3) (h4:PS X s4 t4) (h5:PS X s5 t5):PSs X [s1,s2,s3,s4,s5] (qcj t1 (qcj t2 (qcj t3 (qcj t4 t5)))):=qaj h1 (qaj h2 (qaj h3 (qaj h4 (qac h5))))
theorem jB6 {s1 s2 s3 s4 s5 s6:Stmt} {t6:TS} (h1:PS X s1 t1) (h2:PS X s2 t2) (h3:PS X s3 t3) (h4:PS X s4 t4) (h5:PS X s5 t5) (h6:PS X s6 t6):PSs X [s1,s2,s3,s4,s5,s6] (qcj t1 (qcj t2 (qcj t3 (qcj t4 (qcj t5 t6))))):=qaj h1 (qaj h2 (qaj h3 (qaj h4 (qaj h5 (qac h6)))))
theorem jB7 {s1 s2 s3 s4 s5 s6 s7:Stmt} {t6 t7:TS} (h1:PS X s1 t1) (h2:PS X s2 t2) (h3:PS X s3 t3) (h4:PS X s4 t4) (h5:PS X s5 t5) (h6:PS X s6 t6) (h7:PS X s7 t7):PSs X [s1,s2,s3,s4,s5,s6,s7] (qcj t1 (qcj t2 (qcj t3 (qcj t4 (qcj t5 (qcj t6 t7)))))):=qaj h1 (qaj h2 (qaj h3 (qaj h4 (qaj h5 (qaj h6 (qac h7))))))
theorem jB8 {s1 s2 s3 s4 s5 s6 s7 s8:Stmt} {t6 t7 t8:TS} (h1:PS X s1 t1) (h2:PS X s2 t2) (h3:PS X s3 t3) (h4:PS X s4 t4) (h5:PS X s5 t5) (h6:PS X s6 t6) (h7:PS X s7 t7) (h8:PS X s8 t8):PSs X [s1,s2,s3,s4,s5,s6,s7,s8] (qcj t1 (qcj t2 (qcj t3 (qcj t4 (qcj t5 (qcj t6 (qcj t7 t8))))))):=qaj h1 (qaj h2 (qaj h3 (qaj h4 (qaj h5 (qaj h6 (qaj h7 (qac h8)))))))
theorem jB9 {s1 s2 s3 s4 s5 s6 s7 s8 s9:Stmt} {t6 t7 t8 t9:TS} (h1:PS X s1 t1) (h2:PS X s2 t2) (h3:PS X s3 t3) (h4:PS X s4 t4) (h5:PS X s5 t5) (h6:PS X s6 t6) (h7:PS X s7 t7) (h8:PS X s8 t8) (h9:PS X s9 t9):PSs X [s1,s2,s3,s4,s5,s6,s7,s8,s9] (qcj t1 (qcj t2 (qcj t3 (qcj t4 (qcj t5 (qcj t6 (qcj t7 (qcj t8 t9)))))))):=qaj h1 (qaj h2 (qaj h3 (qaj h4 (qaj h5 (qaj h6 (qaj h7 (qaj h8 (qac h9))))))))
theorem qF6 {s1 s2 s3 s4 s5 s6 s7 s8 s9 s10 s11 s12 s13 s14 s15:Stmt} {t6 t7 t8 t9 t10 t11 t12 t13 t14 t15:TS} (h1:PS X s1 t1) (h2:PS X s2 t2) (h3:PS X s3 t3) (h4:PS X s4 t4) (h5:PS X s5 t5) (h6:PS X s6 t6) (h7:PS X s7 t7) (h8:PS X s8 t8) (h9:PS X s9 t9) (h10:PS X s10 t10) (h11:PS X s11 t11) (h12:PS X s12 t12) (h13:PS X s13 t13) (h14:PS X s14 t14) (h15:PS X s15 t15):PSs X [s1,s2,s3,s4,s5,s6,s7,s8,s9,s10,s11,s12,s13,s14,s15] (qcj t1 (qcj t2 (qcj t3 (qcj t4 (qcj t5 (qcj t6 (qcj t7 (qcj t8 (qcj t9 (qcj t10 (qcj t11 (qcj t12 (qcj t13 (qcj t14 t15)))))))))))))):=qaj h1 (qaj h2 (qaj h3 (qaj h4 (qaj h5 (qaj h6 (qaj h7 (qaj h8 (qaj h9 (qaj h10 (qaj h11 (qaj h12 (qaj h13 (qaj h14 (qac h15))))))))))))))
theorem jL0 {scope:Scope} {cl:List (Str×Addr)} (h1:closureFor scope X.env=pure cl) (h2:scope.kind=.function:=by rfl) (h3:∀ y∈scope.names,y.2≠.cell:=by decide +kernel) (h4:∀ y∈scope.names,y.2=.local->scope.names.lookup y.1=some .local:=by decide +kernel) (h5:∀ p∈cl,X.env.cells.lookup p.1=some p.2:=by intro p hp;cases hp) (h6:((relabel scope X.env).names.all λy=>(y.2 != .cell && y.2 != .free) || (cl.lookup y.1).isSome)=true:=by rfl):qw9 X scope cl:=qD5 h1 h2 h3 h4 h5 h6
theorem jL1 {scope:Scope} {cl:List (Str×Addr)} (h1:closureFor scope X.env=pure cl) (h2:scope.kind=.function:=by rfl) (h3:∀ y∈scope.names,y.2≠.cell:=by decide +kernel) (h4:∀ y∈scope.names,y.2=.local->scope.names.lookup y.1=some .local:=by decide +kernel) (h5:∀ p∈cl,X.env.cells.lookup p.1=some p.2:=by intro p hp;simp only[Av,Bo,Ce] at hp;rcases hp with rfl<;>rfl) (h6:((relabel scope X.env).names.all λy=>(y.2 != .cell && y.2 != .free) || (cl.lookup y.1).isSome)=true:=by rfl):qw9 X scope cl:=qD5 h1 h2 h3 h4 h5 h6
theorem jL2 {scope:Scope} {cl:List (Str×Addr)} (h1:closureFor scope X.env=pure cl) (h2:scope.kind=.function:=by rfl) (h3:∀ y∈scope.names,y.2≠.cell:=by decide +kernel) (h4:∀ y∈scope.names,y.2=.local->scope.names.lookup y.1=some .local:=by decide +kernel) (h5:∀ p∈cl,X.env.cells.lookup p.1=some p.2:=by intro p hp;simp only[Av,Bo,Ce] at hp;rcases hp with rfl|rfl<;>rfl) (h6:((relabel scope X.env).names.all λy=>(y.2 != .cell && y.2 != .free) || (cl.lookup y.1).isSome)=true:=by rfl):qw9 X scope cl:=qD5 h1 h2 h3 h4 h5 h6
end
open PySem PyProof PyProof.Rows
section
variable {X:Cx}
theorem qzd:(10:Nat) ^ 250<2 ^ 1000:=by decide +kernel
theorem qmd (h:j.natAbs<10 ^ 250):j.natAbs.log2<1000:=by
 by_cases h0:j.natAbs=0
 ·rw[h0];decide +kernel
 ·exact (Nat.log2_lt h0).mpr (Du h qzd)
def qEb (_ j:Int):Prop:=0<j/\j<10 ^ 250
theorem qvu:OpR X (binaryOp .FloorDiv) (rI qEb λi j=>.int (i / j)):=opI λi j _ _ _ _ _ hc q=>by
 have h1:(0:Int)<j:=hc.1;have h2:j<10 ^ 250:=hc.2;have h3:j.natAbs<10 ^ 250:=by ext
 exact E5 (by ext) (by rw[C6 i (by ext)];exact q) (.inl (EJ (Du (qmd h3) (by decide))))
def CMulH (i j:Int):Prop:=(-(10 ^ 250)<i/\i<10 ^ 250)/\(-(10 ^ 250)<j/\j<10 ^ 250)
theorem qme (h:j.natAbs<10 ^ 250):Builtin.Int.intBits j<=1000:=by
 unfold Builtin.Int.intBits
 split
 ·exact Bw _
 ·have:=qmd h
  ext
theorem CMulH.ok {i:Int} (h:CMulH i j):IntMulOk i j:=by
 obtain ⟨⟨h1,h2⟩,h3,h4⟩:=h;have e1:=qme (j:=i) (by ext);have e2:=qme (j:=j) (by ext);have e3:Builtin.Int.intTooBig (Builtin.Int.intBits i+Builtin.Int.intBits j)=false:=by
  unfold Builtin.Int.intTooBig;rw[Az];have:(bitsLine:Int)=134217728:=by decide +kernel
  ext
 unfold IntMulOk;rw[e3]
 simp
theorem qtf:OpR X (binaryOp .Mult) (rI CMulH λi j=>.int (i*j)):=opI λ_ _ _ _ _ _ _ hc q=>mul_int q hc.ok
end
end L2
namespace TB
variable {x y:V}{B d e0 e m lo hi z A:Int}{ps rs S G:List (Int×Int)}{p:Int×Int}{H H':Hp}{xs ys:List V}{C l R ro:Addr}{g:Option Int}{o:HO}{i k:Nat}{σ:St}{te:TE}{Q:VK}{es ws:List Int}{r:Rd3}{ms ks LY LZ my mz:List (List Int)}{hs:List HP4}{cell':Int->Option (Int×Int)}{F:TS}{D:Ends}
def qFa (c k:Int):Int:=(c % 2147483647+7919*k+1)*48271 % 2147483647
def mixed (c k:Int):Int:=qFa c k*(qFa c k / 1009+69621) % 2147483647
theorem qtg (c k:Int):0<=mixed c k/\mixed c k<2147483647:=by
 unfold mixed;exact ⟨Bh _ (by decide),A7 _ (by decide)⟩
def qg2 (x:Int):Int:=if x % 4=0 then 0 else if x % 4=1 then x / 4 % 5 else if x % 4=2 then x / 4 % 100 else x / 4*(10 ^ 12+39)
theorem qvv {x:Int} (h:0<=x) (h2:x<2147483647):0<=qg2 x/\qg2 x<10 ^ 22:=by
 unfold qg2
 split
 ·ext
 ·split
  ·ext
  ·split<;>ext
def factor (x:Int):Int:=1+(if x % 3=0 then 0 else if x % 3=1 then x / 3 % 12 else x / 3 % 10 ^ 7)
theorem qvw (x:Int):1<=factor x/\factor x<=10 ^ 7:=by
 unfold factor
 split
 ·ext
 ·split<;>ext
def qij (c:Int):Nat->Int
 | 0=>qg2 (mixed c 0)
 | k+1=>qij c k+qg2 (mixed c (2*(k:Int)+2))
def qcy (c:Int):Nat->Int
 | 0=>1
 | k+1=>qcy c k*factor (mixed c (2*(k:Int)+1))
theorem qth (c k:Int):0<=qg2 (mixed c k)/\qg2 (mixed c k)<10 ^ 22:=qvv (qtg c k).1 (qtg c k).2
theorem qlc (c:Int):∀ k:Nat,0<=qij c k/\qij c k<10 ^ 22*((k:Int)+1)
 | 0=>by have:=qth c 0;simp only[qij];ext
 | k+1=>by
  have h1:=qlc c k;have h2:=qth c (2*(k:Int)+2);simp only[qij];ext
theorem qik (c:Int):∀ k:Nat,1<=qcy c k/\qcy c k<=(10 ^ 7) ^ k
 | 0=>by simp[qcy]
 | k+1=>by
  have h1:=qik c k;have h2:=qvw (mixed c (2*(k:Int)+1));simp only[qcy]
  constructor
  ·have:1*1<=qcy c k*factor (mixed c (2*(k:Int)+1)):=Int.mul_le_mul h1.1 h2.1 (by ext) (by ext)
   ext
  ·rw[Int.pow_succ]
   exact Int.mul_le_mul h1.2 h2.2 (by ext) (by ext)
structure Good (ps:List (Int×Int)):Prop where
 lo:1<=ps.length
 hi:ps.length<=5
 each:∀ (i:Nat) p,ps[i]?=some p->0<=p.1/\1<=p.2
 next:∀ (i:Nat) p q,ps[i]?=some p->ps[i+1]?=some q->p.1<=q.1/\q.2 % p.2=0
def qti (g:Option Int) (last:Int):Prop:=∀ z,g=some z->last<=z
end TB
namespace TB
variable {x y:V}{B d e0 e m lo hi z A:Int}{ps rs S G:List (Int×Int)}{p:Int×Int}{H H':Hp}{xs ys:List V}{C l R ro:Addr}{g:Option Int}{o:HO}{i k:Nat}{σ:St}{te:TE}{Q:VK}{es ws:List Int}{r:Rd3}{ms ks LY LZ my mz:List (List Int)}{hs:List HP4}{cell':Int->Option (Int×Int)}{F:TS}{D:Ends}
def cut (d a w:Int):Int:=(d-a) / w*w
def Bd (x:Int):Prop:=-(10 ^ 45)<x/\x<10 ^ 45
def qBu (ps:List (Int×Int)):Prop:=∀ (i:Nat) p,ps[i]?=some p->0<=p.1/\p.1<10 ^ 45/\1<=p.2/\p.2<10 ^ 45
theorem qvx {x w:Int} (hw:1<=w) (hB:0<=B) (h1:-B<=x) (h2:x<B):-B<=x / w/\x / w<B:=by
 have hBw:B*1<=B*w:=Ap hw hB
 constructor
 ·refine Int.le_ediv_of_mul_le (by ext) ?_
  have:-B*w = -(B*w):=CD _ _;ext
 ·exact Fy (by ext) (by ext)
theorem qBv {a w:Int} (hw:1<=w):cut d a w<=d-a:=by
 have h:=Fx (d-a) w;have h1:=Bh (d-a) (show w≠0 by ext);unfold cut;rw[Bf] at h;ext
theorem qBw {a w:Int} (hw:1<=w):d-a<cut d a w+w:=by
 have h:=Fx (d-a) w;have h1:=A7 (d-a) (show 0<w by ext);unfold cut;rw[Bf] at h;ext
theorem qxi {a w:Int} (hd:Bd d) (ha:0<=a) (ha':a<10 ^ 45) (hw:1<=w) (hw':w<10 ^ 45):-(4*10 ^ 45)<cut d a w/\cut d a w<4*10 ^ 45:=by
 have h1:=qBv (d:=d) (a:=a) hw;have h2:=qBw (d:=d) (a:=a) hw;unfold Bd at hd;ext
theorem qvy (h:ps[ps.length-1]?=some p):ps.getLast?.getD (0,1)=p:=by
 rw[C8,h];rfl
end TB
namespace TB
open PySem L2
variable {x y:V}{B d e0 e m lo hi z A:Int}{ps rs S G:List (Int×Int)}{p:Int×Int}{H H':Hp}{xs ys:List V}{C l R ro:Addr}{g:Option Int}{o:HO}{i k:Nat}{σ:St}{te:TE}{Q:VK}{es ws:List Int}{r:Rd3}{ms ks LY LZ my mz:List (List Int)}{hs:List HP4}{cell':Int->Option (Int×Int)}{F:TS}{D:Ends}
def PairAt (H:Hp) (v:V) (p:Int×Int):Prop:=∃ a,v=.ref a/\H a=some (.tup [.int p.1,.int p.2])
def Pairs (H:Hp) (xs:List V) (ps:List (Int×Int)):Prop:=Paired (PairAt H) xs ps
theorem PairAt.same (s:Same H H') {v:V} :PairAt H v p->PairAt H' v p:=fun ⟨a,e,h⟩=>⟨a,e,s _ _ h⟩
def TupS (H H':Hp):Prop:=∀ b xs,H b=some (.tup xs)->H' b=some (.tup xs)
theorem Same.tup (s:Same H H'):TupS H H':=λb xs h=>s b _ h
theorem PairAt.tupS (s:TupS H H') {v:V} :PairAt H v p->PairAt H' v p:=fun ⟨a,e,h⟩=>⟨a,e,s _ _ h⟩
theorem Pairs.tupS {H H':Hp} (s:TupS H H'):∀ {xs:List V} {ps:List (Int×Int)},Pairs H xs ps->Pairs H' xs ps
 | _,_,.nil=>.nil
 | _,_,.cons r t=>.cons (r.tupS s) (Pairs.tupS s t)
theorem Pairs.same (s:Same H H') (h:Pairs H xs ps):Pairs H' xs ps:=Pairs.tupS (Same.tup s) h
theorem Pairs.length {H:Hp}:∀ {xs:List V} {ps:List (Int×Int)},Pairs H xs ps->xs.length=ps.length
 | _,_,.nil=>rfl
 | _,_,.cons _ t=>by simp[Pairs.length t]
theorem Pairs.get {H:Hp}:∀ {xs:List V} {ps:List (Int×Int)} {i:Nat} {x:V},Pairs H xs ps->xs[i]?=some x->∃ p,ps[i]?=some p/\PairAt H x p
 | _,_,_,_,.nil,e=>by simp at e
 | _,_,0,_,.cons r _,e=>by simp at e;subst e;exact ⟨_,rfl,r⟩
 | _,_,i+1,x,.cons _ t,e=>by
  obtain ⟨u,h1,h2⟩:=Pairs.get (i:=i) (x:=x) t (by simpa using e);exact ⟨u,by simpa using h1,h2⟩
theorem Pairs.get' {H:Hp}:∀ {xs:List V} {ps:List (Int×Int)} {i:Nat} {p:Int×Int},Pairs H xs ps->ps[i]?=some p->∃ x,xs[i]?=some x/\PairAt H x p
 | _,_,_,_,.nil,e=>by simp at e
 | _,_,0,_,.cons r _,e=>by simp at e;subst e;exact ⟨_,rfl,r⟩
 | _,_,i+1,x,.cons _ t,e=>by
  obtain ⟨u,h1,h2⟩:=Pairs.get' (i:=i) (p:=x) t (by simpa using e);exact ⟨u,by simpa using h1,h2⟩
theorem Pairs.snoc {H:Hp} {v:V} {p:Int×Int} (r:PairAt H v p):∀ {xs:List V} {ps:List (Int×Int)},Pairs H xs ps->Pairs H (xs ++ [v]) (ps ++ [p])
 | _,_,.nil=>.cons r .nil
 | _,_,.cons q t=>.cons q (Pairs.snoc r t)
theorem qmf {K:Frag} {H:Hp}:∀ ns:List Int,qyu K H (ns.map V.int) (ns.map PyData.int)
 | []=>.nil
 | n :: r=>.cons (.int n) (qmf r)
theorem qmg:∀ ns:List Int,PyData.canLayAll0 (ns.map PyData.int)=true
 | []=>rfl
 | n :: r=>by simp[PyData.canLayAll0,PyData.canLay0,qmg r]
theorem qmh:∀ ns:List Int,PyData.depthAll (ns.map PyData.int)=0
 | []=>rfl
 | n :: r=>by simp[PyData.depthAll,PyData.depth,qmh r]
def gv:Option Int->V
 | none=>.non
 | some i=>.int i
theorem qEc:¬ (("kept_steps" : Str) = "gone_age"):=by decide +kernel
def rf (l:Addr) (g:V):List (Str×V):=qhs "gone_age" g (qhs "kept_steps" (.ref l) [])
theorem qze (l:Addr) (g:V):(rf l g).lookup ("kept_steps" : Str)=some (.ref l):=by
 unfold rf;rw[qal,Al qEc,qal,Au rfl]
theorem qEd (l:Addr) (g:V):(rf l g).lookup ("gone_age" : Str)=some g:=by
 unfold rf;rw[qal,Au rfl]
theorem qtj (l:Addr) (g:V) {m:Str} (h1:¬ m = "gone_age") (h2:¬ m = "kept_steps"):(rf l g).lookup m=none:=by
 unfold rf;rw[qal,Al h1,qal,Al h2]
 rfl
structure RuleAt (C:Addr) (H:Hp) (r l:Addr) (ps:List (Int×Int)) (g:Option Int):Prop where
 ob:∃ dx,H r=some (.ins C dx (rf l (gv g)))
 ls:∃ xs,H l=some (.lst xs)/\Pairs H xs ps
theorem RuleAt.same {r:Addr} (s:Same H H') (h:RuleAt C H r l ps g):RuleAt C H' r l ps g:=
 ⟨let ⟨dx,e⟩:=h.ob;⟨dx,s _ _ e⟩,let ⟨xs,e,p⟩:=h.ls;⟨xs,s _ _ e,p.same s⟩⟩
theorem qek {v:V} (h:xs[xs.length-1]?=some v):atI xs (-1)=some v:=by
 have hl:xs.length-1<xs.length:=(Aj.mp h).1;have e:ixN xs.length (-1)=some (xs.length-1):=by
  unfold ixN;rw[Al (by decide),Au (by ext)]
  congr 1;ext
 unfold atI;rw[e];exact h
theorem at3 (x a b c:Int):atI [V.int a,V.int b,V.int c] (x % 3)=some (.int (if x % 3=0 then a else if x % 3=1 then b else c)):=by
 have h:x % 3=0\/x % 3=1\/x % 3=2:=by ext
 rcases h with h|h|h<;>rw[h]<;>rfl
theorem qF7 (xs:List V):qgw xs (some 1) none=xs.drop 1:=by
 unfold qgw;rw[HT.sIx_none,show (some (1:Int))=some ((1:Nat):Int) from rfl,HT.sIx_nat]
 by_cases h:1<=xs.length
 ·rw[Nat.min_eq_left h]
  exact BL (by simp)
 ·have e:xs=[]:=by cases xs with|nil=>rfl|cons _ _=>simp at h
  subst e;rfl
def qof:Sp:=λvs H Q _=>∃ x,vs=[x]/\((∃ i,x=.int i/\Q (.bl true) H))
def qrb:Sp:=λvs H Q _=>∃ x p,vs=[x]/\PairAt H x p/\Q (.bl true) H
def qgn:Sp:=λvs H Q _=>∃ x p,vs=[x]/\PairAt H x p/\0<=p.1/\1<=p.2/\Q .non H
inductive qdd (vs:List V) (H:Hp) (Q:VK) (E_:XK):Prop
 | mk:∀ x y p q,vs=[x,y]->PairAt H x p->PairAt H y q->1<=p.2->p.1<=q.1->q.2 % p.2=0->Q .non H->qdd vs H Q E_
inductive qe4 (vs:List V) (H:Hp) (Q:VK) (E_:XK):Prop
 | mk:∀ l xs ps,vs=[.ref l]->H l=some (.lst xs)->Pairs H xs ps->Good ps->(∀ H',Same H H'->Q .non H')->qe4 vs H Q E_
def qld:Sp:=λvs H Q _=>∃ g last,vs=[gv g,.int last]/\qti g last/\Q .non H
inductive qtk (C:Addr) (vs:List V) (H:Hp) (Q:VK) (E_:XK):Prop
 | mk:∀ r l ps g,vs=[.ref r]->RuleAt C H r l ps g->Q (gv g) H->qtk C vs H Q E_
def qxj (K:Frag):Sp:=λvs H Q _=>∃ (a:Addr) (ns:List Int),vs=[.ref a]/\SqL K H a (ns.map V.int)/\ns.length<=63/\∀ H',Q (.bl true) H'
open PySem L2
theorem New.after {H1 H2:Hp} {p:Addr} (s:Same H H1) (n:New H1 H2 p o):New H H2 p o:=⟨s.trans n.same,s.free n.fresh,n.at_⟩
def lw (ps:List (Int×Int)):Int:=(ps.getLast?.getD (0,1)).2
def eV (ps:List (Int×Int)) (g:Option Int) (d:Int):List V:=(ps.map λp=>V.int (cut d p.1 p.2)) ++ [gv (g.map λz=>cut d z (lw ps))]
def GBd (g:Option Int):Prop:=∀ z,g=some z->0<=z/\z<10 ^ 45
structure Pr (ps:List (Int×Int)) (g:Option Int):Prop where
 good:Good ps
 size:qBu ps
 gone:∀ p,ps[ps.length-1]?=some p->qti g p.1
 gb:GBd g
theorem Pr.last (P:Pr ps g):∃ p,ps[ps.length-1]?=some p/\lw ps=p.2:=by
 have hl:=P.good.lo;exists ps[ps.length-1]'(by ext),Ab _;unfold lw;rw[qvy (Ab _)]
theorem RuleAt.but {r m:Addr} (h:RuleAt C H r l ps g) (b:But m H H') (hm:H m=some o) (nt:∀ xs,o≠.tup xs) (n1:r≠m) (n2:l≠m):RuleAt C H' r l ps g:=
 ⟨let ⟨dx,e⟩:=h.ob;⟨dx,b _ _ e n1⟩,let ⟨xs,e,p⟩:=h.ls;⟨xs,b _ _ e n2,p.tupS (b.tup hm nt)⟩⟩
theorem Pairs.but {m:Addr} (h:Pairs H xs ps) (b:But m H H') (hm:H m=some o) (nt:∀ xs,o≠.tup xs):Pairs H' xs ps:=h.tupS (b.tup hm nt)
theorem qtl :∀ ys,(HO.lst xs)≠.tup ys:=λ_ z=>by cases z
theorem qg3 {dx:Addr} {fs:List (Str×V)}:∀ ys,(HO.ins C dx fs)≠.tup ys:=λ_ z=>by cases z
inductive qle (C:Addr) (vs:List V) (H:Hp) (Q:VK) (E_:XK):Prop
 | mk:∀ r dx l xs ps g,vs=[.ref r,.ref l,gv g]->H r=some (.ins C dx [])->H l=some (.lst xs)->Pairs H xs ps->Good ps->(∀ p,ps[ps.length-1]?=some p->qti g p.1)->(∀ l' H',H l'=none->RuleAt C H' r l' ps g->But r H H'->Q .non H')->qle C vs H Q E_
inductive qmi (C:Addr) (vs:List V) (H:Hp) (Q:VK) (E_:XK):Prop
 | mk:∀ r l ps g xs,vs=[.ref r]->RuleAt C H r l ps g->H l=some (.lst xs)->(∀ p H',New H H' p (.lst xs)->Q (.ref p) H')->qmi C vs H Q E_
def qrc:Sp:=λvs H Q _=>∃ n w,vs=[.int n,.int w]/\1<=w/\w<10 ^ 45 /\ -(10 ^ 46)<=n/\n<10 ^ 46/\Q (.int (n / w*w)) H
inductive qil (C:Addr) (vs:List V) (H:Hp) (Q:VK) (E_:XK):Prop
 | mk:∀ r l ps g d,vs=[.ref r,.int d]->RuleAt C H r l ps g->Pr ps g->Bd d->(∀ H',Same H H'->Q (gv (g.map λz=>cut d z (lw ps))) H')->qil C vs H Q E_
inductive qim (C:Addr) (vs:List V) (H:Hp) (Q:VK) (E_:XK):Prop
 | mk:∀ r l ps g d,vs=[.ref r,.int d]->RuleAt C H r l ps g->Pr ps g->Bd d->(∀ p H',New H H' p (.lst (eV ps g d))->Q (.ref p) H')->qim C vs H Q E_
def dV:V->PyData
 | .int i=>.int i
 | _=>.none
def Ed (v:V):Prop:=v=.non\/∃ i,v=.int i
theorem qFb {α β:Type} (f:α->β) (xs:List α) (i:Nat) (x:α) (h:xs[i]?=some x):(xs.take (i+1)).map f=(xs.take i).map f ++ [f x]:=by
 rw[Ey,h]
 simp
open PySem L2
end TB
namespace TB
variable {x y:V}{B d e0 e m lo hi z A:Int}{ps rs S G:List (Int×Int)}{p:Int×Int}{H H':Hp}{xs ys:List V}{C l R ro:Addr}{g:Option Int}{o:HO}{i k:Nat}{σ:St}{te:TE}{Q:VK}{es ws:List Int}{r:Rd3}{ms ks LY LZ my mz:List (List Int)}{hs:List HP4}{cell':Int->Option (Int×Int)}{F:TS}{D:Ends}
def mc (p e:Int×Int):Int:=(e.1-p.1+e.2-1) / p.2
open PySem L2
theorem qc1 {v:V} {K:St->Hp->Prop} (h:K (σ.set i (some v)) H):qdm i v σ H K:=h
theorem qtm {K:Frag} {a b:Addr} {g:TG} {tc:TT} (Pv:Nat->List V->Hp->Prop) (hz:xs.length<=sizeLine) (h0:Pv 0 [] H) (hl:∀ i zs H,Pv i zs H->SqL K H a xs/\SqL K H b ys/\zs.length<=i)
  (hs:∀ i x y zs H p H',xs[i]?=some x->ys[i]?=some y->New H H' p (.tup [x,y])->Pv i zs H->g (.ref p) σ H' λσ4 H4=>tc σ4 H4 λb H5=>if b=true then te σ4 H5 λv H6=>Pv (i+1) (zs ++ [v]) H6 else Pv (i+1) zs H5)
  (hd:∀ i zs H p H',i=min xs.length ys.length->Pv i zs H->New H H' p (.lst zs)->Q (.ref p) H'):qeg (Itz K a b) Q g tc te σ H:=
 qxa Pv hz h0 hl (λi x y zs H p e1 e2 hn p'=>hs i x y zs H p _ e1 e2 (qa7 hn) p') λi zs H p e p' hp=>hd i zs H p _ e p' (qa7 hp)
open PySem L2
end TB
namespace TB
open PySem L2
variable {x y:V}{B d e0 e m lo hi z A:Int}{ps rs S G:List (Int×Int)}{p:Int×Int}{H H':Hp}{xs ys:List V}{C l R ro:Addr}{g:Option Int}{o:HO}{i k:Nat}{σ:St}{te:TE}{Q:VK}{es ws:List Int}{r:Rd3}{ms ks LY LZ my mz:List (List Int)}{hs:List HP4}{cell':Int->Option (Int×Int)}{F:TS}{D:Ends}
def gE:V->V->V
 | .non,y=>y
 | .int i,.int j=>.int (if j>i then j else i)
 | x,_=>x
theorem qtn (hx:Ed x) (hy:Ed y):gE x y=gE y x:=by
 rcases hx with rfl|⟨i,rfl⟩<;>rcases hy with rfl|⟨j,rfl⟩<;>try rfl
 simp only[gE]
 congr 1
 split<;>split<;>ext
theorem qlf:∀ {xs ys:List V},(∀ v∈xs,Ed v)->(∀ v∈ys,Ed v)->List.zipWith gE xs ys=List.zipWith gE ys xs
 | [],ys,_,_=>by simp
 | x :: xs,[],_,_=>rfl
 | x :: xs,y :: ys,h1,h2=>by
  simp only[CK];rw[qtn (h1 x Ae) (h2 y Ae),qlf (λv hv=>h1 v (Ad _ hv)) λv hv=>h2 v (Ad _ hv)]
theorem zip_get (h1:xs[i]?=some x) (h2:ys[i]?=some y):(List.zipWith gE xs ys)[i]?=some (gE x y):=by
 rw[Ft,h1,h2]
theorem qbn {α:Type} (xs:List α) (i:Nat) (x:α) (h:xs[i]?=some x):xs.take (i+1)=xs.take i ++ [x]:=by
 rw[Ey,h];rfl
def qin:Sp:=λvs H Q _=>∃ x y,vs=[x,y]/\Ed x/\Ed y/\Q (gE x y) H
theorem qEe (g:Option Int):Ed (gv g):=by cases g with
 | none=>exact .inl rfl
 | some z=>exact .inr ⟨z,rfl⟩
def qu4 (v:V):Bool:=!decide (v=V.non)
theorem qBx (h:xs[i]?=some x) (hn:qu4 x=true):(xs.take (i+1)).filter qu4=(xs.take i).filter qu4 ++ [x]:=by
 rw[qbn xs i x h,Bm];simp[hn]
theorem qBy (h:xs[i]?=some x) (hn:¬ qu4 x=true):(xs.take (i+1)).filter qu4=(xs.take i).filter qu4:=by
 rw[qbn xs i x h,Bm];simp[hn]
theorem qvz (xs:List V) (i:Nat):((xs.take i).filter qu4).length<=i:=AL (Bx _ _) (by rw[AU];ext)
theorem qto {K:Frag} {a:Addr} {g:TG} {tc:TT} (Pv:Nat->List V->Hp->Prop) (hz:xs.length<=sizeLine) (h0:Pv 0 [] H) (hl:∀ i ys H,Pv i ys H->SqT K H a xs/\ys.length<=i)
  (hs:∀ i x ys H,xs[i]?=some x->Pv i ys H->g x σ H λσ4 H4=>tc σ4 H4 λb H5=>if b=true then te σ4 H5 λv H6=>Pv (i+1) (ys ++ [v]) H6 else Pv (i+1) ys H5)
  (hd:∀ ys H p H',Pv xs.length ys H->New H H' p (.lst ys)->Q (.ref p) H'):qeg (Itt K a) Q g tc te σ H:=
 qBc Pv hz h0 hl hs λys H p p' hp=>hd ys H p _ p' (qa7 hp)
open PySem L2
def qzf (c c':Int) (n:Nat):List (Int×Int):=(List.range n).map λk=>(qij c' (k+1),qcy c (k+1))
def qEf (c':Int) (n:Nat):Option Int:=if 0<c' / 5 % 3 then some (qij c' n+qg2 (mixed c' 20)) else none
theorem qzg {α:Type} (f:Nat->α) {n:Nat} (h:k<n):((List.range n).map f)[k]?=some (f k):=by
 rw[An,List.getElem?_range h];rfl
theorem qmj {α:Type} {f:Nat->α} {n:Nat} {x:α} (h:((List.range n).map f)[k]?=some x):k<n/\x=f k:=by
 have hk:k<n:=by have:=(Aj.mp h).1;simpa using this
 rw[qzg f hk] at h;exact ⟨hk,(Ax h).symm⟩
theorem good2 (c c':Int) {n:Nat} (h1:1<=n) (h5:n<=5):Good (qzf c c' n) where
 lo:=by simpa [qzf] using h1
 hi:=by simpa [qzf] using h5
 each:=λi p h=>by
  obtain ⟨_,rfl⟩:=qmj h;exact ⟨(qlc c' _).1,(qik c _).1⟩
 next:=λi p q h h'=>by
  obtain ⟨_,rfl⟩:=qmj h;obtain ⟨_,rfl⟩:=qmj h';exists ?_
  ·have:=qth c' (2*((i+1:Nat):Int)+2)
   show qij c' (i+1)<=qij c' (i+1)+_
   ext
  ·show qcy c (i+1)*_ % qcy c (i+1)=0
   exact Int.mul_emod_right _ _
theorem w_b (c:Int) {n:Nat} (h:k<n) (h5:n<=5):1<=qcy c (k+1)/\qcy c (k+1)<=10 ^ 35:=by
 have h2:=qik c (k+1);have h4:((10:Int) ^ 7) ^ (k+1)<=10 ^ 35:=by
  have:k+1=1\/k+1=2\/k+1=3\/k+1=4\/k+1=5:=by ext
  rcases this with e|e|e|e|e<;>rw[e]<;>decide
 ext
theorem pr2 (c c':Int) {n:Nat} (h1:1<=n) (h5:n<=5):Pr (qzf c c' n) (qEf c' n):=by
 refine ⟨good2 c c' h1 h5,λi p h=>?_,λp h z hz=>?_,λz hz=>?_⟩
 ·obtain ⟨hi,rfl⟩:=qmj h
  have a1:=qlc c' (i+1);have a2:=w_b c hi h5;exists a1.1,?_,a2.1
  ·show qij c' (i+1)<10 ^ 45;ext
  ·show qcy c (i+1)<10 ^ 45;ext
 ·obtain ⟨hi,rfl⟩:=qmj h
  have e:(qzf c c' n).length-1+1=n:=by simp[qzf];ext
  show qij c' ((qzf c c' n).length-1+1)<=z
  rw[e];unfold qEf at hz;have:=qth c' 20
  split at hz
  ·cases hz;ext
  ·cases hz
 ·unfold qEf at hz
  have a1:=qth c' 20;have a2:=qlc c' n
  split at hz
  ·cases hz;ext
  ·cases hz
def EB (x:Int):Prop:=-(4*10 ^ 45)<x/\x<4*10 ^ 45
structure EdS (EV:List V) (es:List Int) (ge:Option Int):Prop where
 eq:EV=es.map V.int ++ [gv ge]
 bd:∀ x∈es,EB x
 gb:∀ z,ge=some z->EB z
theorem EdS.ed {EV:List V} {ge:Option Int} (h:EdS EV es ge):∀ v∈EV,Ed v:=by
 intro v hv;rw[h.eq] at hv
 rcases AK.mp hv with z|z
 ·obtain ⟨i,_,e⟩:=Ah.mp z;exact .inr ⟨i,e.symm⟩
 ·rw[AI.mp z];exact qEe ge
theorem EdS.of (P:Pr ps g) (hd:Bd d):EdS (eV ps g d) (ps.map λp=>cut d p.1 p.2) (g.map λz=>cut d z (lw ps)):=by
 refine ⟨by unfold eV;rw[By];rfl,λx hx=>?_,λz hz=>?_⟩
 ·obtain ⟨p,hp,rfl⟩:=Ah.mp hx
  obtain ⟨i,hi,e⟩:=BD hp;have hs:=P.size i p (by rw[<- e];exact Ab hi);exact qxi hd hs.1 hs.2.1 hs.2.2.1 hs.2.2.2
 ·cases g with
  | none=>cases hz
  | some y =>
   cases hz;obtain ⟨p,hp,ep⟩:=P.last;have hs:=P.size _ p hp;have hg:=P.gb y rfl;rw[ep];exact qxi hd hg.1 hg.2 hs.2.2.1 hs.2.2.2
def qn2:Option Int->Option Int->Option Int
 | none,y=>y
 | some i,some j=>some (if j>i then j else i)
 | x,none=>x
theorem qBz (x y:Option Int):gE (gv x) (gv y)=gv (qn2 x y):=by cases x<;>cases y<;>rfl
theorem EdS.max {E1 E2:List V} {a b:List Int} {g1 g2:Option Int} (h1:EdS E1 a g1) (h2:EdS E2 b g2) (hl:a.length=b.length):EdS (List.zipWith gE E1 E2) (List.zipWith (λi j=>if j>i then j else i) a b) (qn2 g1 g2):=by
 refine ⟨?_,λx hx=>?_,λz hz=>?_⟩
 ·rw[h1.eq,h2.eq,List.zipWith_append (by simpa using hl)]
  congr 1
  ·rw[List.zipWith_map_left,List.zipWith_map_right,List.map_zipWith];rfl
  ·show [gE (gv g1) (gv g2)]=_
   rw[qBz]
 ·obtain ⟨i,hi,e⟩:=BD hx
  have hi':=hi;rw[BP] at hi';have hia:i<a.length:=by ext
  have hib:i<b.length:=by ext
  rw[List.getElem_zipWith] at e;have e1:=h1.bd a[i] (Cp _);have e2:=h2.bd b[i] (Cp _);rw[<- e]
  split
  ·exact e2
  ·exact e1
 ·cases g1 with
  | none=>exact h2.gb z hz
  | some i =>
   cases g2 with
   | none=>exact h1.gb z hz
   | some j =>
    have e1:=h1.gb i rfl;have e2:=h2.gb j rfl;simp only[qn2,Option.some.injEq] at hz;rw[<- hz]
    split
    ·exact e2
    ·exact e1
def wl (ws es:List Int) (t:Int):List Int:=((ws.zip es).filter λx=>decide (t<x.2)).map (·.1)
def qcf (ge:Option Int) (t:Int):Prop:=∃ z,ge=some z/\t<z
def CellOf (ws es:List Int) (ge:Option Int) (t:Int) (o:Option (Int×Int)):Prop:=
 (∀ e0,es[0]?=some e0->(e0<=t->o=some (t,0))/\(t<e0->(qcf ge t->o=none)/\(¬ qcf ge t->∃ w,(wl ws es t)[(wl ws es t).length-1]?=some w/\o=some (t / w*w,w))))
theorem qzh {t w0:Int} (h1:ws[0]?=some w0) (h2:es[0]?=some e0) (h:t<e0):1<=(wl ws es t).length:=by
 cases ws with
 | nil=>simp at h1
 | cons w r =>
  cases es with
  | nil=>simp at h2
  | cons e s =>
   simp at h2
   subst h2;unfold wl;rw[C3,Bz (by simpa using h)]
   simp
theorem qpm {t w:Int} (h:w∈wl ws es t):w∈ws:=by
 unfold wl at h;obtain ⟨x,hx,rfl⟩:=Ah.mp h;exact (CV (AX.mp hx).1).1
theorem qFc {t:Int} {w:Int} (h1:ws[i]?=some w) (h2:es[i]?=some e) (h:t<e):((((ws.zip es).take (i+1)).filter λx=>decide (t<x.2)).map (·.1))=((((ws.zip es).take i).filter λx=>decide (t<x.2)).map (·.1)) ++ [w]:=by
 have hz:(ws.zip es)[i]?=some (w,e):=by rw[BY];exact ⟨h1,h2⟩
 rw[qbn _ i _ hz,Bm,Ao]
 simp[h]
theorem qFd {t:Int} {w:Int} (h1:ws[i]?=some w) (h2:es[i]?=some e) (h:¬ t<e):((((ws.zip es).take (i+1)).filter λx=>decide (t<x.2)).map (·.1))=((((ws.zip es).take i).filter λx=>decide (t<x.2)).map (·.1)):=by
 have hz:(ws.zip es)[i]?=some (w,e):=by rw[BY];exact ⟨h1,h2⟩
 rw[qbn _ i _ hz,Bm,Ao]
 simp[h]
theorem qxk {t:Int} (h:(ws.zip es).length<=i):((((ws.zip es).take i).filter λx=>decide (t<x.2)).map (·.1))=wl ws es t:=by
 rw[BL h];rfl
theorem qB0 (ws es:List Int) (t:Int) (i:Nat):((((ws.zip es).take i).filter λx=>decide (t<x.2)).map (·.1)).length<=i:=by
 rw[Aa];exact AL (Bx _ _) (by rw[AU];ext)
def qxl (H:Hp) (v:V) (o:Option (Int×Int)):Prop:=match o with
 | none=>v=.non
 | some p=>PairAt H v p
theorem CellOf.uniq {ge:Option Int} {t:Int} {o o':Option (Int×Int)} (h0:es[0]?=some e0) (h:CellOf ws es ge t o) (h':CellOf ws es ge t o'):o=o':=by
 obtain ⟨a1,a2⟩:=h e0 h0;obtain ⟨b1,b2⟩:=h' e0 h0
 by_cases hc:e0<=t
 ·rw[a1 hc,b1 hc]
 ·have hlt:t<e0:=by ext
  by_cases hg:qcf ge t
  ·rw[(a2 hlt).1 hg,(b2 hlt).1 hg]
  ·obtain ⟨w,hw,rfl⟩:=(a2 hlt).2 hg
   obtain ⟨w',hw',rfl⟩:=(b2 hlt).2 hg;rw[hw] at hw'
   cases hw'
   rfl
inductive qj7 (vs:List V) (H:Hp) (Q:VK) (E_:XK):Prop
 | mk:∀ (e:Addr) (es:List Int) (ge:Option Int) (t:Int),vs=[.ref e,.int t]->H e=some (.lst (es.map V.int ++ [gv ge]))->(qcf ge t->Q (.bl true) H)->(¬ qcf ge t->Q (.bl false) H)->qj7 vs H Q E_
inductive qio (C:Addr) (vs:List V) (H:Hp) (Q:VK) (E_:XK):Prop
 | mk:∀ (r l:Addr) (ps:List (Int×Int)) (g:Option Int) (e:Addr) (es:List Int) (ge:Option Int) (t e0:Int),vs=[.ref r,.ref e,.int t]->RuleAt C H r l ps g->H e=some (.lst (es.map V.int ++ [gv ge]))->es.length=ps.length->1<=ps.length->ps.length<=5->es[0]?=some e0->t<e0->(∀ w H',(wl (ps.map (·.2)) es t)[(wl (ps.map (·.2)) es t).length-1]?=some w->Same H H'->Q (.int w) H')->qio C vs H Q E_
def qpn (t:Int):Prop:=-(10 ^ 46)<=t/\t<10 ^ 46
inductive qj8 (C:Addr) (vs:List V) (H:Hp) (Q:VK) (E_:XK):Prop
 | mk:∀ (r l:Addr) (ps:List (Int×Int)) (g:Option Int) (e:Addr) (es:List Int) (ge:Option Int) (t:Int),vs=[.ref r,.ref e,.int t]->RuleAt C H r l ps g->H e=some (.lst (es.map V.int ++ [gv ge]))->es.length=ps.length->1<=ps.length->ps.length<=5->qBu ps->qpn t->(∀ v o H',CellOf (ps.map (·.2)) es ge t o->qxl H' v o->Same H H'->Q v H')->qj8 C vs H Q E_
inductive qpo (K:Frag) (vs:List V) (H:Hp) (Q:VK) (E_:XK):Prop
 | mk:∀ (a:Addr) (ns:List Int) (k:Int),vs=[.ref a,.int k]->SqL K H a (List.map V.int ns)->0<=k->(∀ i,Q (.int i) H)->qpo K vs H Q E_
inductive qd4 (vs:List V) (H:Hp) (Q:VK) (E_:XK):Prop
 | mk:∀ (a b:Addr) (xs ys:List V),vs=[.ref a,.ref b]->H a=some (.lst xs)->H b=some (.lst ys)->(∀ v∈xs,Ed v)->(∀ v∈ys,Ed v)->xs.length=ys.length->xs.length<=1000->(∀ p H',New H H' p (.lst (List.zipWith gE xs ys))->Q (.ref p) H')->qd4 vs H Q E_
theorem CellOf.a {ge:Option Int} {t:Int} (h0:es[0]?=some e0) (h:e0<=t):CellOf ws es ge t (some (t,0)):=λx hx=>by
 rw[h0] at hx;cases hx;exact ⟨λ_=>rfl,λh'=>absurd h (by ext)⟩
theorem CellOf.b {ge:Option Int} {t:Int} (h0:es[0]?=some e0) (h:t<e0) (hg:qcf ge t):CellOf ws es ge t none:=λx hx=>by
 rw[h0] at hx;cases hx;exact ⟨λh'=>absurd h (by ext),λ_=>⟨λ_=>rfl,λn=>absurd hg n⟩⟩
theorem CellOf.c {ge:Option Int} {t w:Int} (h0:es[0]?=some e0) (h:t<e0) (hg:¬ qcf ge t) (hw:(wl ws es t)[(wl ws es t).length-1]?=some w):CellOf ws es ge t (some (t / w*w,w)):=λx hx=>by
 rw[h0] at hx;cases hx;exact ⟨λh'=>absurd h (by ext),λ_=>⟨λn=>absurd n hg,λ_=>⟨w,hw,rfl⟩⟩⟩
theorem qel {K:Frag} {a:Addr} (s:Same H H') (h:SqL K H a xs):SqL K H' a xs:=by
 rcases h with (h|⟨o,h⟩)|h
 ·exact .inl (.inl (s _ _ h))
 ·exact .inl (.inr ⟨o,s _ _ h⟩)
 ·exact .inr h
theorem qEg (ns:List Int) (h:0<ns.length) (x:Int):∃ m,m∈ns/\atI (ns.map V.int) (x % ((ns.map V.int).length:Int))=some (V.int m):=by
 rw[Aa];have h1:=Bh x (show (ns.length:Int)≠0 by ext);have h2:=A7 x (show (0:Int)<ns.length by ext);have hl:(x % (ns.length:Int)).toNat<ns.length:=by ext
 exists ns[(x % (ns.length:Int)).toNat],Cp _;have:=qc4 (xs:=ns.map V.int) (j:=(x % (ns.length:Int)).toNat) (v:=V.int ns[(x % (ns.length:Int)).toNat]) (by simp[hl])
 rwa [CW h1] at this
theorem qmk:∀ es:List Int,(es.map V.int).filter qu4=es.map V.int
 | []=>rfl
 | e :: r=>by rw[AR,Bz (by rfl),qmk r]
theorem known (es:List Int) (ge:Option Int):(es.map V.int ++ [gv ge]).filter qu4=(es ++ ge.toList).map V.int:=by
 rw[Bm,qmk,Ao]
 cases ge<;>rfl
theorem qzi {EV:List V} {ge:Option Int} (E:EdS EV es ge):∀ x∈es ++ ge.toList,EB x:=by
 intro x hx
 rcases AK.mp hx with h|h
 ·exact E.bd x h
 ·cases ge with
  | none=>cases h
  | some y=>simp at h;subst h;exact E.gb _ rfl
theorem qbm {K:Frag} {a:Addr} {g:TG} {tc:TT} (Pv:Nat->List V->Hp->Prop) (hz:xs.length<=sizeLine) (h0:Pv 0 [] H) (hl:∀ i ys H,Pv i ys H->SqL K H a xs/\ys.length<=i)
  (hs:∀ i x ys H,xs[i]?=some x->Pv i ys H->g x σ H λσ4 H4=>tc σ4 H4 λb H5=>if b=true then te σ4 H5 λv H6=>Pv (i+1) (ys ++ [v]) H6 else Pv (i+1) ys H5)
  (hd:∀ ys H p H',Pv xs.length ys H->New H H' p (.lst ys)->Q (.ref p) H'):qeg (Itl K a) Q g tc te σ H:=
 qst Pv hz h0 hl hs λys H p p' hp=>hd ys H p _ p' (qa7 hp)
open PySem L2
def qho (p:Int×Int):Prop:=(-(10 ^ 40)<p.1/\p.1<10 ^ 40)/\1<=p.2/\p.2<10 ^ 40
def qbq (rs:List (Int×Int)):Prop:=∀ p∈rs,qho p
def RunT (p:Int×Int):Prop:=(-(10 ^ 31)<p.1/\p.1<10 ^ 31)/\1<=p.2/\p.2<10 ^ 31
def RunsT (rs:List (Int×Int)):Prop:=∀ p∈rs,RunT p
theorem RunT.ok (h:RunT p):qho p:=by unfold RunT at h;unfold qho;ext
theorem RunsT.ok (h:RunsT rs):qbq rs:=λp hp=>(h p hp).ok
def qci (rs:List (Int×Int)):List Int:=rs.map λp=>p.1
def qj9 (rs:List (Int×Int)):List Int:=rs.map λp=>p.2
def qml (rs:List (Int×Int)):List Int:=rs.map λp=>p.1*p.2
def rN (rs:List (Int×Int)):Int:=(qj9 rs).sum
def rT (rs:List (Int×Int)):Int:=(qml rs).sum
structure HeapOf (rs:List (Int×Int)) (vm vt vl vg:Int):Prop where
 m:vm=rN rs
 t:vt=rT rs
 lo:vl∈qci rs
 lo':∀ a∈qci rs,vl<=a
 hi:vg∈qci rs
 hi':∀ a∈qci rs,a<=vg
theorem HeapOf.uniq {t m' t' lo' hi':Int} (a:HeapOf rs m t lo hi) (b:HeapOf rs m' t' lo' hi'):m=m'/\t=t'/\lo=lo'/\hi=hi':=by
 have h1:=a.lo' _ b.lo;have h2:=b.lo' _ a.lo;have h3:=a.hi' _ b.hi;have h4:=b.hi' _ a.hi;exact ⟨a.m.trans b.m.symm,a.t.trans b.t.symm,by ext,by ext⟩
theorem qbc (p:Int×Int) (rs:List (Int×Int)):rN (p :: rs)=p.2+rN rs:=by simp[rN,qj9]
theorem qbe (p:Int×Int) (rs:List (Int×Int)):rT (p :: rs)=p.1*p.2+rT rs:=by simp[rT,qml]
theorem qip (rs qs:List (Int×Int)):rN (rs ++ qs)=rN rs+rN qs:=by
 induction rs with
 | nil=>simp[rN,qj9]
 | cons p r ih=>rw[Bb,qbc,qbc,ih];ext
theorem qka (rs qs:List (Int×Int)):rT (rs ++ qs)=rT rs+rT qs:=by
 induction rs with
 | nil=>simp[rT,qml]
 | cons p r ih=>rw[Bb,qbe,qbe,ih];ext
theorem qbz (rs qs:List (Int×Int)):qci (rs ++ qs)=qci rs ++ qci qs:=by simp[qci]
theorem HeapOf.app {qs:List (Int×Int)} {t m' t' lo' hi':Int} (a:HeapOf rs m t lo hi) (b:HeapOf qs m' t' lo' hi'):HeapOf (rs ++ qs) (m+m') (t+t') (if lo'<lo then lo' else lo) (if hi'>hi then hi' else hi):=by
 exists by rw[qip,a.m,b.m],by rw[qka,a.t,b.t],?_,?_,?_
 ·rw[qbz]
  split
  ·exact As _ b.lo
  ·exact AE _ a.lo
 ·intro x hx
  rw[qbz] at hx
  rcases AK.mp hx with h|h
  ·have:=a.lo' x h
   split<;>ext
  ·have:=b.lo' x h
   split<;>ext
 ·rw[qbz]
  split
  ·exact As _ b.hi
  ·exact AE _ a.hi
 ·intro x hx
  rw[qbz] at hx
  rcases AK.mp hx with h|h
  ·have:=a.hi' x h
   split<;>ext
  ·have:=b.hi' x h
   split<;>ext
theorem qB1 (h:qbq rs):(rs.length:Int)<=rN rs/\rN rs<=rs.length*10 ^ 40:=by
 induction rs with
 | nil=>simp[rN,qj9]
 | cons p r ih =>
  have h1:=ih λq hq=>h q (Ad _ hq)
  have h2:=h p Ae;unfold qho at h2;rw[qbc];simp only[AF];ext
theorem qB2 (h:RunsT rs):rN rs<=rs.length*10 ^ 31:=by
 induction rs with
 | nil=>simp[rN,qj9]
 | cons p r ih =>
  have h1:=ih λq hq=>h q (Ad _ hq)
  have h2:=h p Ae;unfold RunT at h2;rw[qbc];simp only[AF];ext
theorem qpp (h:qbq rs) {v:Int} (hv:v∈qci rs):-(10 ^ 40)<v/\v<10 ^ 40:=by
 obtain ⟨p,hp,rfl⟩:=Ah.mp hv;exact (h p hp).1
theorem Pairs.app {H:Hp}:∀ {xs ys:List V} {ps qs:List (Int×Int)},Pairs H xs ps->Pairs H ys qs->Pairs H (xs ++ ys) (ps ++ qs)
 | _,_,_,_,.nil,h=>h
 | _,_,_,_,.cons r t,h=>.cons r (Pairs.app t h)
theorem Pairs.rev {H:Hp}:∀ {xs:List V} {ps:List (Int×Int)},Pairs H xs ps->Pairs H xs.reverse ps.reverse
 | _,_,.nil=>.nil
 | _,_,.cons r t=>by
  rw[De,De];exact Pairs.snoc r (Pairs.rev t)
theorem qzj (xs:List V) (k:Nat) (h:k<=xs.length):qgw xs (some (k:Int)) none=xs.drop k:=by
 unfold qgw;rw[HT.sIx_none,HT.sIx_nat,Nat.min_eq_left h];exact BL (by simp)
theorem mapN' (f:Int×Int->Int) (rs:List (Int×Int)) (h:rs[i]?=some p):((rs.take (i+1)).map f).map V.int=((rs.take i).map f).map V.int ++ [V.int (f p)]:=by
 rw[Ey,h]
 simp
theorem qb0 {K:Frag} (f:Int×Int->Int) (hl:H l=some (.lst xs)) (hp:Pairs H xs rs) (hz:rs.length<=200)
  (hs:∀ p∈rs,∀ Q':VK,Q' (.int (f p)) H->te ((σ.set 0 (some (.int p.1))).set 1 (some (.int p.2))) H Q')
  (hd:∀ a H',New H H' a (.lst ((rs.map f).map V.int))->Q (.ref a) H'):qeg (Itl K l) Q (qwx K 2 (qdn (qdm 0) (qdn (qdm 1) qww))) qDe te σ H:=by
 have hlen:=hp.length;refine qbm (xs:=xs) (λi ys H2=>H2=H/\ys=((rs.take i).map f).map V.int) (AB (qai (by ext))) ⟨rfl,rfl⟩ (λi ys H2 h2=>⟨SqL.of (by rw[h2.1];exact hl),by rw[h2.2];simp;ext⟩) ?_ ?_
 ·rintro i x ys H2 hi ⟨rfl,rfl⟩
  obtain ⟨p,hpi,a,rfl,ha⟩:=hp.get hi;refine ⟨a,_,rfl,SqT.of ha,rfl,_,_,rfl,_,_,rfl,rfl,ql6 (qdk ?_)⟩;refine hs p (Am hpi) _ ⟨rfl,?_⟩;rw[mapN' f rs hpi]
 ·rintro ys H2 a H' ⟨rfl,rfl⟩ n
  rw[hlen,Aw] at n;exact hd a H' n
theorem qF8 {xs:List Int} (h:xs.length=3):∃ a b c,xs=[a,b,c]:=by
 match xs,h with
 | [a,b,c],_=>exact ⟨a,b,c,rfl⟩
def XB (x:Int):Prop:=0<=x/\x<10 ^ 41
def qB3:Sp:=λvs H Q _=>∃ c k,vs=[.int c,.int k]/\0<=k/\k<6/\∀ a p H',New H H' a (.tup [.int p.1,.int p.2])->RunT p->Q (.ref a) H'
inductive qpq (vs:List V) (H:Hp) (Q:VK) (E_:XK):Prop
 | mk:∀ l xs rs,vs=[.ref l]->H l=some (.lst xs)->Pairs H xs rs->qbq rs->1<=rs.length->rs.length<=200->(∀ a m t lo hi H',HeapOf rs m t lo hi->New H H' a (.tup [.int m,.int t,.int lo,.int hi])->Q (.ref a) H')->qpq vs H Q E_
inductive qmm (vs:List V) (H:Hp) (Q:VK) (E_:XK):Prop
 | mk:∀ a b m t lo hi m' t' lo' hi',vs=[.ref a,.ref b]->H a=some (.tup [.int m,.int t,.int lo,.int hi])->H b=some (.tup [.int m',.int t',.int lo',.int hi'])->(∀ p H',New H H' p (.tup [.int (m+m'),.int (t+t'),.int (if lo'<lo then lo' else lo),.int (if hi'>hi then hi' else hi)])->Q (.ref p) H')->qmm vs H Q E_
def qtp:Sp:=λvs H Q _=>∃ i,vs=[.int i]/\Q (.bl true) H
inductive qmn (vs:List V) (H:Hp) (Q:VK) (E_:XK):Prop
 | mk:∀ (a:Addr) (ns:List Int) (k:Nat),vs=[.ref a,.int (k:Int)]->H a=some (.tup (ns.map V.int))->ns.length=k->k<=20->(∀ H',Same H H'->Q (.bl true) H')->qmn vs H Q E_
open PySem L2
structure qjt (vm vt vl vg:Int):Prop where
 m:1<=vm
 le:vl<=vg
 a:(vm-1)*vl+vg<=vt
 b:vt<=vl+(vm-1)*vg
theorem qpr (lo v c T N:Int):v*c+T-lo*(c+N)=(v-lo)*c+(T-lo*N):=by
 rw[AQ,Ba];ext
theorem exc_cons' (hi v c T N:Int):hi*(c+N)-(v*c+T)=(hi-v)*c+(hi*N-T):=by
 rw[AQ,Ba];ext
theorem qhw {x c:Int} (hx:0<=x) (hc:1<=c):x<=x*c:=by
 have:=Ap hc hx;ext
theorem qxm {lo:Int}:∀ {rs:List (Int×Int)},qbq rs->(∀ a∈qci rs,lo<=a)->0<=rT rs-lo*rN rs
 | [],_,_=>by simp[rT,rN,qml,qj9]
 | p :: r,ok,h=>by
  have h1:=qxm (rs:=r) (λq hq=>ok q (Ad _ hq)) λa ha=>h a (Ad _ ha)
  have h2:=h p.1 Ae;have h3:=(ok p Ae).2.1;have h4:=qhw (x:=p.1-lo) (by ext) h3;rw[qbe,qbc,qpr];ext
theorem qxn {hi:Int}:∀ {rs:List (Int×Int)},qbq rs->(∀ a∈qci rs,a<=hi)->0<=hi*rN rs-rT rs
 | [],_,_=>by simp[rT,rN,qml,qj9]
 | p :: r,ok,h=>by
  have h1:=qxn (rs:=r) (λq hq=>ok q (Ad _ hq)) λa ha=>h a (Ad _ ha)
  have h2:=h p.1 Ae;have h3:=(ok p Ae).2.1;have h4:=qhw (x:=hi-p.1) (by ext) h3;rw[qbe,qbc,exc_cons'];ext
theorem exc_lo' {lo v:Int}:∀ {rs:List (Int×Int)},qbq rs->(∀ a∈qci rs,lo<=a)->v∈qci rs->v-lo<=rT rs-lo*rN rs
 | [],_,_,hv=>by simp[qci] at hv
 | p :: r,ok,h,hv=>by
  have ok':qbq r:=λq hq=>ok q (Ad _ hq)
  have h':∀ a∈qci r,lo<=a:=λa ha=>h a (Ad _ ha)
  have h1:=qxm ok' h';have h2:=h p.1 Ae;have h3:=(ok p Ae).2.1;have h4:=qhw (x:=p.1-lo) (by ext) h3;rw[qbe,qbc,qpr]
  rcases Av.mp hv with e|hv
  ·have e:v=p.1:=e
   ext
  ·have:=exc_lo' ok' h' hv
   ext
theorem exc_hi' {hi v:Int}:∀ {rs:List (Int×Int)},qbq rs->(∀ a∈qci rs,a<=hi)->v∈qci rs->hi-v<=hi*rN rs-rT rs
 | [],_,_,hv=>by simp[qci] at hv
 | p :: r,ok,h,hv=>by
  have ok':qbq r:=λq hq=>ok q (Ad _ hq)
  have h':∀ a∈qci r,a<=hi:=λa ha=>h a (Ad _ ha)
  have h1:=qxn ok' h';have h2:=h p.1 Ae;have h3:=(ok p Ae).2.1;have h4:=qhw (x:=hi-p.1) (by ext) h3;rw[qbe,qbc,exc_cons']
  rcases Av.mp hv with e|hv
  ·have e:v=p.1:=e
   ext
  ·have:=exc_hi' ok' h' hv
   ext
theorem qlg (m x:Int):(m-1)*x=x*m-x:=by rw[Ba,FF,Bf]
theorem HeapOf.can {t:Int} (h:HeapOf rs m t lo hi) (ok:qbq rs):qjt m t lo hi:=by
 have h1:=exc_lo' ok h.lo' h.hi;have h2:=exc_hi' ok h.hi' h.lo;have h3:=h.lo' _ h.hi;rw[<- h.m,<- h.t] at h1 h2;refine ⟨?_,h3,by rw[qlg];ext,by rw[qlg];ext⟩;have:=(qB1 ok).1;rw[<- h.m] at this;have hne:1<=rs.length:=by
  cases rs with
  | nil=>exact absurd h.lo (by simp[qci])
  | cons p r=>simp
 ext
def qlr (m t lo hi:Int):List (Int×Int):=
 if lo=hi then [(lo,m)] else if (t-m*lo) % (hi-lo)=0 then [(lo,m-(t-m*lo) / (hi-lo)),(hi,(t-m*lo) / (hi-lo))]
 else [(lo,m-(t-m*lo) / (hi-lo)-1),(lo+(t-m*lo) % (hi-lo),1),(hi,(t-m*lo) / (hi-lo))]
inductive WRow (m t lo hi:Int):List (Int×Int)->Prop
 | one:lo=hi->t=m*lo->1<=m->WRow m t lo hi [(lo,m)]
 | two {L U:Int}:lo<hi->1<=L->1<=U->L+U=m->t=lo*L+hi*U->WRow m t lo hi [(lo,L),(hi,U)]
 | three {L U x:Int}:lo<hi->1<=L->1<=U->L+1+U=m->0<x->x<hi-lo->t=lo*L+(lo+x)+hi*U->WRow m t lo hi [(lo,L),(lo+x,1),(hi,U)]
theorem WRow.of {t:Int} (h:qjt m t lo hi):WRow m t lo hi (qlr m t lo hi):=by
 have h1:=h.m;have h2:=h.le;have h3:=h.a;have h4:=h.b;rw[qlg] at h3 h4;unfold qlr
 split
 ·rename_i e
  subst e;exact .one rfl (by rw[Bf] at h3 h4;ext) h1
 ·have hd:0<hi-lo:=by ext
  have e1:(hi-lo)*((t-m*lo) / (hi-lo))+(t-m*lo) % (hi-lo)=t-m*lo:=DE _ _;have e2:=Bh (t-m*lo) (show hi-lo≠0 by ext);have e3:=A7 (t-m*lo) hd
  generalize (t-m*lo) / (hi-lo)=U at e1 ⊢
  generalize (t-m*lo) % (hi-lo)=x at e1 e2 e3 ⊢
  have e4:(hi-lo)*U=hi*U-lo*U:=Ba _ _ _;have e5:m*lo=lo*m:=Bf _ _;have e6:(hi-lo)*(m-1)=hi*m-lo*m-(hi-lo):=by rw[A8,Ba];ext
  have e7:lo*(m-U)=lo*m-lo*U:=A8 _ _ _;have e8:lo*(m-U-1)=lo*m-lo*U-lo:=by rw[A8,A8];ext
  have u1:1<=U:=by
   by_cases z:U<=0
   ·have:=Ap z (show 0<=hi-lo by ext)
    ext
   ·ext
  split
  ·rename_i z
   have u2:U<=m-1:=by
    by_cases z:m<=U
    ·have:=Ap z (show 0<=hi-lo by ext)
     rw[Ba,Ba] at this;ext
    ·ext
   exact .two (by ext) (by ext) u1 (by ext) (by rw[e7];ext)
  ·rename_i z
   have u2:U<=m-2:=by
    by_cases z:m-1<=U
    ·have:=Ap z (show 0<=hi-lo by ext)
     ext
    ·ext
   exact .three (by ext) (by ext) u1 (by ext) (by ext) (by ext) (by rw[e8];ext)
theorem WRow.heap {t:Int} (h:WRow m t lo hi rs):HeapOf rs m t lo hi:=by
 cases h with
 | one e1 e2 e3 =>
  subst e1;refine ⟨by simp[rN,qj9],by rw[e2,Bf];simp[rT,qml],by simp[qci],?_,by simp[qci],?_⟩<;>(intro a ha;simp[qci] at ha;ext)
 | two e1 e2 e3 e4 e5 =>
  refine ⟨by simp[rN,qj9];ext,by simp[rT,qml];ext,by simp[qci],?_,by simp[qci],?_⟩<;>(intro a ha;simp[qci] at ha;ext)
 | three e1 e2 e3 e4 e5 e6 e7 =>
  refine ⟨by simp[rN,qj9];ext,by simp[rT,qml];ext,by simp[qci],?_,by simp[qci],?_⟩<;>(intro a ha;simp[qci] at ha;ext)
theorem WRow.len {t:Int} (h:WRow m t lo hi rs):1<=rs.length/\rs.length<=3:=by cases h<;>simp
theorem WRow.ok {t:Int} (h:WRow m t lo hi rs) (hi':rs[i]?=some p):1<=p.2/\p.2<=m/\lo<=p.1/\p.1<=hi/\(p.1=lo\/p.1=hi\/p.2=1):=by
 have hm:=Am hi'
 cases h with
 | one e1 e2 e3=>simp at hm;subst hm;simp;ext
 | two e1 e2 e3 e4 e5=>simp at hm;rcases hm with rfl|rfl<;>simp<;>ext
 | three e1 e2 e3 e4 e5 e6 e7=>simp at hm;rcases hm with rfl|rfl|rfl<;>simp<;>ext
def oth (lo hi:Int) (p:Int×Int):Bool:=!decide (p.1=lo) && !decide (p.1=hi)
def HBd (m lo hi:Int):Prop:=(0<=m/\m<10 ^ 45)/\(-(10 ^ 45)<lo/\lo<10 ^ 45) /\ -(10 ^ 45)<hi/\hi<10 ^ 45
theorem HeapOf.bd {t:Int} (h:HeapOf rs m t lo hi) (ok:qbq rs) (hl:rs.length<=200):HBd m lo hi:=by
 have h1:=qB1 ok;rw[<- h.m] at h1;have h2:=qpp ok h.lo;have h3:=qpp ok h.hi;refine ⟨⟨by ext,?_⟩,⟨by ext,by ext⟩,by ext,by ext⟩;have:(rs.length:Int)*10 ^ 40<=200*10 ^ 40:=AG (by ext) (by decide);ext
def hT (m t lo hi:Int):HO:=.tup [.int m,.int t,.int lo,.int hi]
inductive qmo (vs:List V) (H:Hp) (Q:VK) (E_:XK):Prop
 | mk:∀ a m t lo hi,vs=[.ref a]->H a=some (.tup [.int m,.int t,.int lo,.int hi])->qjt m t lo hi->HBd m lo hi->(∀ l xs H1 H',Same H H1->New H1 H' l (.lst xs)->Pairs H' xs (qlr m t lo hi)->Q (.ref l) H')->qmo vs H Q E_
open PySem L2
structure Least (m t lo hi k v:Int):Prop where
 a:lo*k<=v
 b:t-hi*(m-k)<=v
 c:v=lo*k\/v=t-hi*(m-k)
theorem nn {a b:Int} (ha:0<=a) (hb:0<=b):0<=a*b:=DI ha hb
open PySem L2
def fA (c x:Int):Int:=if c<x then x-c else 0
def fB (c x:Int):Int:=if x<c then c-x else 0
def above (c:Int):List (Int×Int)->Int
 | []=>0
 | p :: r=>fA c p.1*p.2+above c r
def below (c:Int):List (Int×Int)->Int
 | []=>0
 | p :: r=>fB c p.1*p.2+below c r
theorem qEh (c x:Int):0<=fA c x/\x-c<=fA c x:=by unfold fA;split<;>ext
theorem qEi (c x:Int):0<=fB c x/\c-x<=fB c x:=by unfold fB;split<;>ext
theorem qbd {a b c:Int} (h:a<=b) (hc:0<=c):a*c<=b*c:=AG h hc
theorem qcr {a b c:Int} (h:a<=b) (hc:0<=c):c*a<=c*b:=Ap h hc
theorem qkb {c lo hi:Int}:∀ {rs:List (Int×Int)},qbq rs->(∀ a∈qci rs,lo<=a)->(∀ a∈qci rs,a<=hi)->∃ K S,0<=K/\K<=rN rs/\above c rs=S-c*K/\S<=hi*K/\S<=rT rs-lo*(rN rs-K)
 | [],_,_,_=>⟨0,0,by ext,by simp[rN,qj9],by simp[above],by ext,by simp[rT,rN,qml,qj9]⟩
 | p :: r,ok,h1,h2=>by
  obtain ⟨K,S,k0,k1,e,s1,s2⟩:=qkb (c:=c) (lo:=lo) (hi:=hi) (rs:=r) (λq hq=>ok q (Ad _ hq)) (λa ha=>h1 a (Ad _ ha)) λa ha=>h2 a (Ad _ ha)
  have a1:=h1 p.1 Ae;have a2:=h2 p.1 Ae;have a3:=(ok p Ae).2.1;have b1:=qbd a1 (show 0<=p.2 by ext);have b2:=qbd a2 (show 0<=p.2 by ext);rw[qbc,qbe]
  show ∃ K S,0<=K/\K<=p.2+rN r/\fA c p.1*p.2+above c r=S-c*K/\_
  have e1:lo*(rN r-K)=lo*rN r-lo*K:=A8 _ _ _
  by_cases z:c<p.1
  ·exists K+p.2,S+p.1*p.2,by ext,by ext,?_,?_
   ·unfold fA;rw[Au z,e,Ba,AQ];ext
   ·rw[AQ];ext
   ·rw[show p.2+rN r-(K+p.2)=rN r-K by ext];ext
  ·exists K,S,by ext,by ext,?_,s1
   ·unfold fA;rw[Al z,e];ext
   ·rw[A8,AQ];ext
theorem qkc {c lo hi:Int}:∀ {rs:List (Int×Int)},qbq rs->(∀ a∈qci rs,lo<=a)->(∀ a∈qci rs,a<=hi)->∃ K S,0<=K/\K<=rN rs/\below c rs=c*K-S/\lo*K<=S/\rT rs-hi*(rN rs-K)<=S
 | [],_,_,_=>⟨0,0,by ext,by simp[rN,qj9],by simp[below],by ext,by simp[rT,rN,qml,qj9]⟩
 | p :: r,ok,h1,h2=>by
  obtain ⟨K,S,k0,k1,e,s1,s2⟩:=qkc (c:=c) (lo:=lo) (hi:=hi) (rs:=r) (λq hq=>ok q (Ad _ hq)) (λa ha=>h1 a (Ad _ ha)) λa ha=>h2 a (Ad _ ha)
  have a1:=h1 p.1 Ae;have a2:=h2 p.1 Ae;have a3:=(ok p Ae).2.1;have b1:=qbd a1 (show 0<=p.2 by ext);have b2:=qbd a2 (show 0<=p.2 by ext);rw[qbc,qbe]
  show ∃ K S,0<=K/\K<=p.2+rN r/\fB c p.1*p.2+below c r=c*K-S/\_
  have e1:hi*(rN r-K)=hi*rN r-hi*K:=A8 _ _ _
  by_cases z:p.1<c
  ·exists K+p.2,S+p.1*p.2,by ext,by ext,?_,?_
   ·unfold fB;rw[Au z,e,Ba,AQ];ext
   ·rw[AQ];ext
   ·rw[show p.2+rN r-(K+p.2)=rN r-K by ext];ext
  ·exists K,S,by ext,by ext,?_,s1
   ·unfold fB;rw[Al z,e];ext
   ·rw[A8,AQ];ext
theorem WRow.above {t:Int} (h:WRow m t lo hi rs) {c K S:Int} (h0:0<=K) (hk:K<=m) (s1:S<=hi*K) (s2:S<=t-lo*(m-K)):S-c*K<=above c rs:=by
 have el:=qEh c lo;have eh:=qEh c hi
 cases h with
 | one e1 e2 e3 =>
  subst e1
  show S-c*K<=fA c lo*m+0
  have a1:=qcr hk el.1;have a2:=qbd el.2 h0;rw[Ba] at a2;ext
 | @two L U e1 e2 e3 e4 e5 =>
  show S-c*K<=fA c lo*L+(fA c hi*U+0)
  by_cases z:K<=U
  ·have a1:=qcr z eh.1
   have a2:=qbd eh.2 h0;have a3:=nn el.1 (show 0<=L by ext);rw[Ba] at a2;ext
  ·have a1:=qbd eh.2 (show 0<=U by ext)
   have a2:=qcr (show K-U<=L by ext) el.1;have a3:=qbd el.2 (show 0<=K-U by ext);have e:lo*(m-K)=lo*L+lo*U-lo*K:=by rw[<- e4,A8,AQ]
   rw[Ba] at a1;rw[Ba,A8,A8] at a3;ext
 | @three L U x e1 e2 e3 e4 e5 e6 e7 =>
  have ex:=qEh c (lo+x)
  show S-c*K<=fA c lo*L+(fA c (lo+x)*1+(fA c hi*U+0))
  rw[BU]
  by_cases z:K<=U
  ·have a1:=qcr z eh.1
   have a2:=qbd eh.2 h0;have a3:=nn el.1 (show 0<=L by ext);rw[Ba] at a2;ext
  ·have a1:=qbd eh.2 (show 0<=U by ext)
   have a2:=qcr (show K-U-1<=L by ext) el.1;have a3:=qbd el.2 (show 0<=K-U-1 by ext);have e:lo*(m-K)=lo*L+lo+lo*U-lo*K:=by rw[<- e4,A8,AQ,AQ];ext
   rw[Ba] at a1;rw[Ba,A8,A8,A8,A8] at a3;ext
theorem WRow.below {t:Int} (h:WRow m t lo hi rs) {c K S:Int} (h0:0<=K) (hk:K<=m) (s1:lo*K<=S) (s2:t-hi*(m-K)<=S):c*K-S<=below c rs:=by
 have el:=qEi c lo;have eh:=qEi c hi
 cases h with
 | one e1 e2 e3 =>
  subst e1
  show c*K-S<=fB c lo*m+0
  have a1:=qcr hk el.1;have a2:=qbd el.2 h0;rw[Ba] at a2;ext
 | @two L U e1 e2 e3 e4 e5 =>
  show c*K-S<=fB c lo*L+(fB c hi*U+0)
  by_cases z:K<=L
  ·have a1:=qcr z el.1
   have a2:=qbd el.2 h0;have a3:=nn eh.1 (show 0<=U by ext);rw[Ba] at a2;ext
  ·have a1:=qbd el.2 (show 0<=L by ext)
   have a2:=qcr (show K-L<=U by ext) eh.1;have a3:=qbd eh.2 (show 0<=K-L by ext);have e:hi*(m-K)=hi*L+hi*U-hi*K:=by rw[<- e4,A8,AQ]
   rw[Ba] at a1;rw[Ba,A8,A8] at a3;ext
 | @three L U x e1 e2 e3 e4 e5 e6 e7 =>
  have ex:=qEi c (lo+x)
  show c*K-S<=fB c lo*L+(fB c (lo+x)*1+(fB c hi*U+0))
  rw[BU]
  by_cases z:K<=L
  ·have a1:=qcr z el.1
   have a2:=qbd el.2 h0;have a3:=nn eh.1 (show 0<=U by ext);rw[Ba] at a2;ext
  ·have a1:=qbd el.2 (show 0<=L by ext)
   have a2:=qcr (show K-L-1<=U by ext) eh.1;have a3:=qbd eh.2 (show 0<=K-L-1 by ext);have e:hi*(m-K)=hi*L+hi+hi*U-hi*K:=by rw[<- e4,A8,AQ,AQ];ext
   rw[Ba] at a1;rw[Ba,A8,A8,A8,A8] at a3;ext
theorem HeapOf.above {t:Int} (h:HeapOf rs m t lo hi) (ok:qbq rs) (c:Int):above c rs<=TB.above c (qlr m t lo hi):=by
 obtain ⟨K,S,k0,k1,e,s1,s2⟩:=qkb (c:=c) ok h.lo' h.hi';rw[e];rw[<- h.m,<- h.t] at s2;rw[<- h.m] at k1;exact (WRow.of (h.can ok)).above k0 k1 s1 s2
theorem HeapOf.below {t:Int} (h:HeapOf rs m t lo hi) (ok:qbq rs) (c:Int):below c rs<=TB.below c (qlr m t lo hi):=by
 obtain ⟨K,S,k0,k1,e,s1,s2⟩:=qkc (c:=c) ok h.lo' h.hi';rw[e];rw[<- h.m,<- h.t] at s2;rw[<- h.m] at k1;exact (WRow.of (h.can ok)).below k0 k1 s1 s2
open PySem L2
def rof (ru:Addr) (day:Int) (le dy dh:Addr):List (Str×V):=qhs "cell_heaps" (.ref dh) (qhs "whole_ones" (.ref dy) (qhs "kept_edges" (.ref le) (qhs "kept_day" (.int day) (qhs "kept_rule" (.ref ru) []))))
section
variable (ru:Addr) (day:Int) (le dy dh:Addr)
theorem qtq:(rof ru day le dy dh).lookup ("kept_rule" : Str)=some (.ref ru):=by
 unfold rof;rw[qal,Al (by decide +kernel),qal,Al (by decide +kernel),qal,Al (by decide +kernel),qal,Al (by decide +kernel),qal,Au rfl]
theorem qB4:(rof ru day le dy dh).lookup ("kept_day" : Str)=some (.int day):=by
 unfold rof;rw[qal,Al (by decide +kernel),qal,Al (by decide +kernel),qal,Al (by decide +kernel),qal,Au rfl]
theorem qps:(rof ru day le dy dh).lookup ("kept_edges" : Str)=some (.ref le):=by
 unfold rof;rw[qal,Al (by decide +kernel),qal,Al (by decide +kernel),qal,Au rfl]
theorem qpt:(rof ru day le dy dh).lookup ("whole_ones" : Str)=some (.ref dy):=by
 unfold rof;rw[qal,Al (by decide +kernel),qal,Au rfl]
theorem qkd:(rof ru day le dy dh).lookup ("cell_heaps" : Str)=some (.ref dh):=by
 unfold rof;rw[qal,Au rfl]
theorem qe5 {m:Str} (h1:¬ m = "cell_heaps") (h2:¬ m = "whole_ones") (h3:¬ m = "kept_edges") (h4:¬ m = "kept_day") (h5:¬ m = "kept_rule"):(rof ru day le dy dh).lookup m=none:=by
 unfold rof;rw[qal,Al h1,qal,Al h2,qal,Al h3,qal,Al h4,qal,Al h5];rfl
theorem qog:(rof ru day le dy dh).lookup ("put" : Str)=none:=qe5 _ _ _ _ _ (by decide +kernel) (by decide +kernel) (by decide +kernel) (by decide +kernel) (by decide +kernel)
theorem qpu:(rof ru day le dy dh).lookup ("pour_into_cell" : Str)=none:=qe5 _ _ _ _ _ (by decide +kernel) (by decide +kernel) (by decide +kernel) (by decide +kernel) (by decide +kernel)
theorem qpv:(rof ru day le dy dh).lookup ("rule" : Str)=none:=qe5 _ _ _ _ _ (by decide +kernel) (by decide +kernel) (by decide +kernel) (by decide +kernel) (by decide +kernel)
theorem qoh:(rof ru day le dy dh).lookup ("day" : Str)=none:=qe5 _ _ _ _ _ (by decide +kernel) (by decide +kernel) (by decide +kernel) (by decide +kernel) (by decide +kernel)
theorem qfz:(rof ru day le dy dh).lookup ("edges" : Str)=none:=qe5 _ _ _ _ _ (by decide +kernel) (by decide +kernel) (by decide +kernel) (by decide +kernel) (by decide +kernel)
theorem qmp:(rof ru day le dy dh).lookup ("young" : Str)=none:=qe5 _ _ _ _ _ (by decide +kernel) (by decide +kernel) (by decide +kernel) (by decide +kernel) (by decide +kernel)
theorem qmq:(rof ru day le dy dh).lookup ("heaps" : Str)=none:=qe5 _ _ _ _ _ (by decide +kernel) (by decide +kernel) (by decide +kernel) (by decide +kernel) (by decide +kernel)
end
abbrev KV:=List (List Key×V)
structure qa2 where
 ru:Addr
 rl:Addr
 le:Addr
 dy:Addr
 dh:Addr
 ps:List (Int×Int)
 g:Option Int
 day:Int
 es:List Int
 ge:Option Int
 Y:KV
 Z:KV
structure RollAt (C R:Addr) (H:Hp) (ro:Addr) (D:qa2):Prop where
 ob:∃ dx,H ro=some (.ins C dx (rof D.ru D.day D.le D.dy D.dh))
 rule:RuleAt R H D.ru D.rl D.ps D.g
 ed:H D.le=some (.lst (D.es.map V.int ++ [gv D.ge]))
 yo:H D.dy=some (.dT D.Y)
 he:H D.dh=some (.dT D.Z)
 ne:D.dy≠D.dh
theorem RollAt.same {D:qa2} (s:Same H H') (h:RollAt C R H ro D):RollAt C R H' ro D:=
 ⟨let ⟨dx,e⟩:=h.ob;⟨dx,s _ _ e⟩,h.rule.same s,s _ _ h.ed,s _ _ h.yo,s _ _ h.he,h.ne⟩
theorem qB5 {kvs:KV}:∀ xs,HO.dT kvs≠.tup xs:=λ_ z=>by cases z
theorem RuleAt.but2 {r a:Addr} (h:RuleAt C H r l ps g) (b:But a H H') (ha:H a=some o) (nt:∀ xs,o≠.tup xs) (nl:∀ xs,o≠.lst xs) (hr:r≠a):RuleAt C H' r l ps g:=by
 obtain ⟨dx,e⟩:=h.ob;obtain ⟨xs,e2,p⟩:=h.ls;exact ⟨⟨dx,b _ _ e hr⟩,xs,b _ _ e2 (qa0 e2 ha (λz=>nl xs z.symm)),p.but b ha nt⟩
theorem RollAt.putY {D:qa2} {Y':KV} (A:RollAt C R H ro D) (b:But D.dy H H') (h:H' D.dy=some (.dT Y')):RollAt C R H' ro { D with Y:=Y' }:=by
 obtain ⟨dx,e⟩:=A.ob;obtain ⟨dx2,e2⟩:=A.rule.ob;exact ⟨⟨dx,b _ _ e (qa0 e A.yo (by intro z;cases z))⟩,A.rule.but2 b A.yo qB5 (by intro xs z;cases z) (qa0 e2 A.yo (by intro z;cases z)),b _ _ A.ed (qa0 A.ed A.yo (by intro z;cases z)),h,b _ _ A.he A.ne.symm,A.ne⟩
theorem RollAt.putZ {D:qa2} {Z':KV} (A:RollAt C R H ro D) (b:But D.dh H H') (h:H' D.dh=some (.dT Z')):RollAt C R H' ro { D with Z:=Z' }:=by
 obtain ⟨dx,e⟩:=A.ob;obtain ⟨dx2,e2⟩:=A.rule.ob;exact ⟨⟨dx,b _ _ e (qa0 e A.he (by intro z;cases z))⟩,A.rule.but2 b A.he qB5 (by intro xs z;cases z) (qa0 e2 A.he (by intro z;cases z)),b _ _ A.ed (qa0 A.ed A.he (by intro z;cases z)),b _ _ A.yo A.ne,h,A.ne⟩
def But2 (a b:Addr) (H H':Hp):Prop:=∀ c o,H c=some o->c≠a->c≠b->H' c=some o
structure qem (D:qa2):Prop where
 pr:Pr D.ps D.g
 es:D.es.length=D.ps.length
def qB6 (ru rl le dy dh:Addr) (ps:List (Int×Int)) (g:Option Int) (day:Int):qa2:=⟨ru,rl,le,dy,dh,ps,g,day,ps.map (λp=>cut day p.1 p.2),g.map (λz=>cut day z (lw ps)),[],[]⟩
def YOk (Y:KV):Prop:=∀ k x,qb8 Y k=some x->∃ n,x=V.int n
def ZOk (H:Hp) (Z:KV):Prop:=∀ k x,qb8 Z k=some x->∃ (h:Addr) (m t lo hi:Int),x=.ref h/\H h=some (.tup [.int m,.int t,.int lo,.int hi])
theorem ZOk.same {Z:KV} (s:Same H H') (h:ZOk H Z):ZOk H' Z:=λk x e=>by
 obtain ⟨a,m,t,lo,hi,e1,e2⟩:=h k x e;exact ⟨a,m,t,lo,hi,e1,s _ _ e2⟩
def yv (Y:KV) (k:List Key):Int:=match qb8 Y k with
 | some (.int n)=>n
 | _=>0
def kk (a b:Int):List Key:=[.inl a,.inl b]
theorem qxo {Y:KV} (h:YOk Y) (k:List Key):(qb8 Y k).getD (V.int 0)=V.int (yv Y k):=by
 unfold yv
 cases e:qb8 Y k with
 | none=>rfl
 | some x =>
  obtain ⟨n,rfl⟩:=h k x e
  rfl
def qB7 (H:Hp) (Z:KV) (k:List Key) (v m a b lo hi:Int):Prop:=
 (qb8 Z k=none/\HeapOf [(v,m)] a b lo hi)\/∃ (h0:Addr) (m0 t0 lo0 hi0 a' b' lo' hi':Int),qb8 Z k=some (.ref h0)/\H h0=some (.tup [.int m0,.int t0,.int lo0,.int hi0])/\HeapOf [(v,m)] a' b' lo' hi'/\a=m0+a'/\b=t0+b'/\lo=(if lo'<lo0 then lo' else lo0)/\hi=(if hi'>hi0 then hi' else hi0)
def Puts (H H':Hp) (D D':qa2) (o:Option (Int×Int)) (t v m:Int):Prop:=
 (o=none/\D'=D)\/(o=some (t,0)/\D'={ D with Y:=putK D.Y (kk t v) (.int (yv D.Y (kk t v)+m)) }) \/
 ∃ (s w:Int) (h:Addr) (a b lo hi:Int),o=some (s,w)/\1<=w/\D'={ D with Z:=putK D.Z (kk s w) (.ref h) }/\H' h=some (.tup [.int a,.int b,.int lo,.int hi])/\qB7 H D.Z (kk s w) v m a b lo hi
theorem CellOf.some_ {ge:Option Int} {t:Int} (h:CellOf ws es ge t (some p)) (hl:1<=es.length) (hw:∀ w∈ws,1<=w):p=(t,0)\/1<=p.2:=by
 obtain ⟨h1,h2⟩:=h es[0] (Ab (by ext))
 by_cases c:es[0]<=t
 ·exact .inl (Ax (h1 c))
 ·obtain ⟨g1,g2⟩:=h2 (by ext)
  by_cases hg:qcf ge t
  ·cases g1 hg
  ·obtain ⟨w,e1,e2⟩:=g2 hg
   cases e2;exact .inr (hw w (qpm (Am e1)))
theorem Pr.w1 (P:Pr ps g) {w:Int} (h:w∈ps.map (·.2)):1<=w:=by
 obtain ⟨p,hp,rfl⟩:=Ah.mp h;obtain ⟨i,hi,e⟩:=BD hp;exact (P.size i p (by rw[<- e];exact Ab hi)).2.2.1
def qv0 (p:Int×Int):Prop:=(-(10 ^ 45)<p.1/\p.1<10 ^ 45)/\1<=p.2/\p.2<10 ^ 45
inductive qiq (vs:List V) (H:Hp) (Q:VK) (E_:XK):Prop
 | mk:∀ l xs rs,vs=[.ref l]->H l=some (.lst xs)->Pairs H xs rs->(∀ p∈rs,qv0 p)->rs.length<=200->(rs=[]->Q .non H)->(rs≠[]->∀ a m t lo hi H',HeapOf rs m t lo hi->New H H' a (.tup [.int m,.int t,.int lo,.int hi])->Q (.ref a) H')->qiq vs H Q E_
inductive qg4 (C R:Addr) (vs:List V) (H:Hp) (Q:VK) (E_:XK):Prop
 | mk:∀ (ro dx ru rl:Addr) (ps:List (Int×Int)) (g:Option Int) (day:Int),vs=[.ref ro,.ref ru,.int day]->H ro=some (.ins C dx [])->RuleAt R H ru rl ps g->Pr ps g->Bd day->(∀ le dy dh H',H le=none->H dy=none->H dh=none->RollAt C R H' ro (qB6 ru rl le dy dh ps g day)->But ro H H'->Q .non H')->qg4 C R vs H Q E_
def qv1 (C R:Addr):Sp:=λvs H Q _=>∃ (ro:Addr) (D:qa2),vs=[.ref ro]/\RollAt C R H ro D/\Q (.ref D.ru) H
def qzk (C R:Addr):Sp:=λvs H Q _=>∃ (ro:Addr) (D:qa2),vs=[.ref ro]/\RollAt C R H ro D/\Q (.int D.day) H
def qtr (C R:Addr):Sp:=λvs H Q _=>∃ (ro:Addr) (D:qa2),vs=[.ref ro]/\RollAt C R H ro D/\∀ p H',New H H' p (.lst (D.es.map V.int ++ [gv D.ge]))->Q (.ref p) H'
def TupAt (H:Hp) (v:V) (r:List Int):Prop:=∃ a,v=.ref a/\H a=some (.tup (r.map V.int))
def Tups (H:Hp) (xs:List V) (rs:List (List Int)):Prop:=Paired (TupAt H) xs rs
theorem TupAt.same (s:Same H H') {v:V} {r:List Int}:TupAt H v r->TupAt H' v r:=fun ⟨a,e,h⟩=>⟨a,e,s _ _ h⟩
theorem Tups.same {H H':Hp} (s:Same H H'):∀ {xs:List V} {rs:List (List Int)},Tups H xs rs->Tups H' xs rs
 | _,_,.nil=>.nil
 | _,_,.cons r t=>.cons (r.same s) (Tups.same s t)
theorem Tups.length {H:Hp}:∀ {xs:List V} {rs:List (List Int)},Tups H xs rs->xs.length=rs.length
 | _,_,.nil=>rfl
 | _,_,.cons _ t=>by simp[Tups.length t]
theorem Tups.get {H:Hp}:∀ {xs:List V} {rs:List (List Int)} {i:Nat} {x:V},Tups H xs rs->xs[i]?=some x->∃ r,rs[i]?=some r/\TupAt H x r
 | _,_,_,_,.nil,e=>by simp at e
 | _,_,0,_,.cons r _,e=>by simp at e;subst e;exact ⟨_,rfl,r⟩
 | _,_,i+1,x,.cons _ t,e=>by
  obtain ⟨u,h1,h2⟩:=Tups.get (i:=i) (x:=x) t (by simpa using e);exact ⟨u,by simpa using h1,h2⟩
open PySem L2
abbrev HP4:=Int×Int×Int×Int
structure Abs where
 y:List Int->Option Int
 z:List Int->Option HP4
def mg4 (a b:HP4):HP4:=(a.1+b.1,a.2.1+b.2.1,(if b.2.2.1<a.2.2.1 then b.2.2.1 else a.2.2.1),(if b.2.2.2>a.2.2.2 then b.2.2.2 else a.2.2.2))
def qfp (v m:Int):HP4:=(m,v*m,v,v)
def qcz {α:Type} (f:List Int->Option α) (k:List Int) (x:α):List Int->Option α:=λj=>if j=k then some x else f j
theorem qaq {α:Type} (f:List Int->Option α) (k:List Int) (x:α):qcz f k x k=some x:=Au rfl
theorem qaw {α:Type} (f:List Int->Option α) {k j:List Int} (x:α) (h:j≠k):qcz f k x j=f j:=Al h
theorem qbs {α:Type} (f:List Int->Option α) (k:List Int) (x y:α):qcz (qcz f k x) k y=qcz f k y:=by
 funext j;unfold qcz;split<;>rfl
theorem qf0 {α:Type} (f:List Int->Option α) {k l:List Int} (x y:α) (h:k≠l):qcz (qcz f k x) l y=qcz (qcz f l y) k x:=by
 funext j;unfold qcz
 by_cases h1:j=k
 ·subst h1;rw[Al h,Au rfl]
  simp
 ·by_cases h2:j=l
  ·subst h2;simp[h1]
  ·simp[h1,h2]
def qb9 (o:Option HP4) (b:HP4):HP4:=match o with
 | none=>b
 | some a=>mg4 a b
theorem qAi {a b:HP4} (h1:a.1=b.1) (h2:a.2.1=b.2.1) (h3:a.2.2.1=b.2.2.1) (h4:a.2.2.2=b.2.2.2):a=b:=by
 obtain ⟨_,_,_,_⟩:=a;obtain ⟨_,_,_,_⟩:=b
 simp at h1 h2 h3 h4
 simp[h1,h2,h3,h4]
theorem qv2 (a b:HP4):mg4 a b=mg4 b a:=by
 unfold mg4;refine qAi ?_ ?_ ?_ ?_<;>dsimp only
 ·ext
 ·ext
 ·split<;>split<;>ext
 ·split<;>split<;>ext
theorem qts (h a b:HP4):mg4 (mg4 h a) b=mg4 (mg4 h b) a:=by
 unfold mg4;refine qAi ?_ ?_ ?_ ?_<;>dsimp only
 ·ext
 ·ext
 ·repeat' split
  all_goals ext
 ·repeat' split
  all_goals ext
theorem qgo (o:Option HP4) (a b:HP4):qb9 (some (qb9 o a)) b=qb9 (some (qb9 o b)) a:=by
 cases o with
 | none=>exact qv2 a b
 | some h=>exact qts h a b
theorem qrd (o:Option HP4) (v m n:Int):qb9 (some (qb9 o (qfp v m))) (qfp v n)=qb9 o (qfp v (m+n)):=by
 have e:v*m+v*n=v*(m+n):=(AQ v m n).symm
 cases o with
 | none =>
  show mg4 (qfp v m) (qfp v n)=qfp v (m+n)
  unfold mg4 qfp;refine qAi ?_ ?_ ?_ ?_<;>dsimp only
  ·exact e
  ·split<;>rfl
  ·split<;>rfl
 | some h =>
  show mg4 (mg4 h (qfp v m)) (qfp v n)=mg4 h (qfp v (m+n))
  unfold mg4 qfp;refine qAi ?_ ?_ ?_ ?_<;>dsimp only
  ·ext
  ·rw[ES,e]
  ·repeat' split
   all_goals ext
  ·repeat' split
   all_goals ext
abbrev Rd3:=Int×Int×Int
def qb4 (cell:Int->Option (Int×Int)) (s:Abs) (r:Rd3):Abs:=match cell r.1 with
 | none=>s
 | some (a,w)=>if w=0 then { s with y:=qcz s.y [r.1,r.2.1] ((s.y [r.1,r.2.1]).getD 0+r.2.2) } else { s with z:=qcz s.z [a,w] (qb9 (s.z [a,w]) (qfp r.2.1 r.2.2)) }
theorem qtt (cell:Int->Option (Int×Int)) (s:Abs) (r q:Rd3):qb4 cell (qb4 cell s r) q=qb4 cell (qb4 cell s q) r:=by
 unfold qb4
 cases e1:cell r.1 with
 | none=>cases e2:cell q.1<;>rfl
 | some p =>
  obtain ⟨a,w⟩:=p
  cases e2:cell q.1 with
  | none=>rfl
  | some p2 =>
   obtain ⟨b,u⟩:=p2;dsimp only
   by_cases hw:w=0
   ·by_cases hu:u=0
    ·rw[Au hw,Au hu,Au hu,Au hw]
     dsimp only
     by_cases hk:[r.1,r.2.1]=[q.1,q.2.1]
     ·rw[hk,qaq,qbs,qaq,qbs]
      simp only[Dl]
      congr 2
      ext
     ·rw[qaw _ _ (λz=>hk z.symm),qaw _ _ hk,qf0 _ _ _ hk]
    ·rw[Au hw,Al hu,Al hu,Au hw]
   ·by_cases hu:u=0
    ·rw[Al hw,Au hu,Au hu,Al hw]
    ·rw[Al hw,Al hu,Al hu,Al hw]
     dsimp only
     by_cases hk:[a,w]=[b,u]
     ·rw[hk,qaq,qbs,qaq,qbs,qgo]
     ·rw[qaw _ _ (λz=>hk z.symm),qaw _ _ hk,qf0 _ _ _ hk]
theorem qre (cell:Int->Option (Int×Int)) (s:Abs) (t v m n:Int):qb4 cell (qb4 cell s (t,v,m)) (t,v,n)=qb4 cell s (t,v,m+n):=by
 unfold qb4;dsimp only
 cases e1:cell t with
 | none=>rfl
 | some p =>
  obtain ⟨a,w⟩:=p;dsimp only
  by_cases hw:w=0
  ·rw[Au hw,Au hw,Au hw]
   dsimp only;rw[qaq,qbs];simp only[Dl]
   congr 2
   ext
  ·rw[Al hw,Al hw,Al hw]
   dsimp only;rw[qaq,qbs,qrd]
def qmr:Abs:=⟨λ_=>none,λ_=>none⟩
def qa8 (cell:Int->Option (Int×Int)) (rs:List Rd3):Abs:=rs.foldl (qb4 cell) qmr
theorem qdv (cell:Int->Option (Int×Int)) (rs:List Rd3) (r:Rd3):qa8 cell (rs ++ [r])=qb4 cell (qa8 cell rs) r:=by
 unfold qa8;rw[B5];rfl
structure SKeys {α:Type} (f:List Int->Option α) (ms:List (List Int)):Prop where
 srt:ms.Pairwise (λk l=>blt k l=true)
 mem:∀ k,k∈ms↔f k≠none
theorem qhx {k l:List Int} (h1:blt k l=true) (h2:blt l k=true):False:=by
 have:=qj6 k l k h1 h2;rw[qfo] at this;cases this
theorem SKeys.uniq {α:Type} {f:List Int->Option α} {ms':List (List Int)} (a:SKeys f ms) (b:SKeys f ms'):ms=ms':=by
 have nd:∀ {l:List (List Int)},l.Pairwise (λk l=>blt k l=true)->l.Nodup:=λh=>h.imp fun {k l} hb e=>by rw[e,qfo] at hb;cases hb
 refine EO (le:=λk l=>blt k l=true) (λk l _ _ h1 h2=>(qhx h1 h2).elim) a.srt b.srt ?_;rw[C4 (nd a.srt) (nd b.srt)];intro k;rw[a.mem,b.mem]
def kI (k:List Int):List Key:=k.map Sum.inl
theorem qen {k l:List Int} (h:kI k=kI l):k=l:=by
 induction k generalizing l with
 | nil=>cases l with
  | nil=>rfl
  | cons _ _=>cases h
 | cons a r ih=>cases l with
  | nil=>cases h
  | cons b t =>
   unfold kI at h;rw[AR,AR] at h;injection h with h1 h2
   injection h1 with h1
   rw[h1,ih h2]
theorem qv3 (k:List Int):(kI k).map kV=k.map V.int:=by
 unfold kI;rw[By];rfl
theorem qpw (kvs:KV) (k:List Key) (v:V):(k∈kvs.map (·.1)->(putK kvs k v).map (·.1)=kvs.map (·.1))/\(k ∉ kvs.map (·.1)->(putK kvs k v).map (·.1)=kvs.map (·.1) ++ [k]):=by
 unfold putK
 by_cases h:(kvs.any λkv=>decide (kv.1=k))=true
 ·have hm:k∈kvs.map (·.1):=by
   obtain ⟨x,hx,e⟩:=List.any_eq_true.mp h;exact Ah.mpr ⟨x,hx,by simpa using e⟩
  refine ⟨λ_=>?_,λn=>absurd hm n⟩;rw[Au h,By]
  apply Bc
  intro x hx
  show (if x.1=k then (x.1,v) else x).1=x.1
  split<;>rfl
 ·have hm:k ∉ kvs.map (·.1):=λhm=>h (by
   obtain ⟨x,hx,e⟩:=Ah.mp hm;exact List.any_eq_true.mpr ⟨x,hx,by simpa using e⟩)
  refine ⟨λn=>absurd n hm,λ_=>?_⟩;rw[Al h,Ao];rfl
theorem valV_mem {kvs:KV} {k:List Key}:qb8 kvs k≠none↔k∈kvs.map (·.1):=by
 unfold qb8
 constructor
 ·intro h
  cases e:kvs.find? λkv=>decide (kv.1=k) with
  | none=>rw[e] at h;exact absurd rfl h
  | some x =>
   have:=List.find?_some e;exact Ah.mpr ⟨x,List.mem_of_find?_eq_some e,by simpa using this⟩
 ·intro h z
  obtain ⟨x,hx,e⟩:=Ah.mp h;rw[Option.map_eq_none_iff,List.find?_eq_none] at z;exact z x hx (by simpa using e)
structure DKeys (kvs:KV) (ks:List (List Int)):Prop where
 eq:kvs.map (·.1)=ks.map kI
 nd:ks.Nodup
 ne:∀ k∈ks,k.length=2
theorem DKeys.nil:DKeys [] []:=⟨rfl,.nil,λk h=>by cases h⟩
theorem DKeys.put {kvs:KV} (h:DKeys kvs ks) (k:List Int) (hk:k.length=2) (v:V):∃ ks',DKeys (putK kvs (kI k) v) ks'/\∀ j,j∈ks'↔j∈ks\/j=k:=by
 have hm:kI k∈kvs.map (·.1)↔k∈ks:=by
  rw[h.eq]
  constructor
  ·intro z
   obtain ⟨j,hj,e⟩:=Ah.mp z;rw[<- qen e];exact hj
  ·exact λz=>Ah.mpr ⟨k,z,rfl⟩
 by_cases hin:k∈ks
 ·refine ⟨ks,⟨by rw[(qpw _ _ _).1 (hm.mpr hin)];exact h.eq,h.nd,h.ne⟩,λj=>⟨.inl,λz=>z.elim id λe=>by rw[e];exact hin⟩⟩
 ·refine ⟨ks ++ [k],⟨by rw[(qpw _ _ _).2 (λz=>hin (hm.mp z)),h.eq,Ao];rfl,?_,?_⟩,λj=>by simp⟩
  ·rw[DZ]
   exact ⟨h.nd,Dm _ _,λa ha b hb e=>by
    rw[AI.mp hb] at e;exact hin (by rw[<- e];exact ha)⟩
  ·intro j hj
   rcases AK.mp hj with z|z
   ·exact h.ne j z
   ·rw[AI.mp z];exact hk
theorem DKeys.ne' {kvs:KV} (h:DKeys kvs ks):∀ k∈ks,k≠[]:=λk hk z=>by
 have:=h.ne k hk;rw[z] at this;cases this
theorem DKeys.mem {kvs:KV} (h:DKeys kvs ks) (k:List Int):k∈ks↔qb8 kvs (kI k)≠none:=by
 rw[valV_mem,h.eq]
 constructor
 ·exact λz=>Ah.mpr ⟨k,z,rfl⟩
 ·intro z
  obtain ⟨j,hj,e⟩:=Ah.mp z;rw[<- qen e];exact hj
def v4 (h:HP4):List V:=[.int h.1,.int h.2.1,.int h.2.2.1,.int h.2.2.2]
structure RAbs (H:Hp) (D:qa2) (s:Abs) (LY LZ:List (List Int)):Prop where
 yv:∀ k,qb8 D.Y (kI k)=(s.y k).map V.int
 yk:∃ ks,DKeys D.Y ks/\ks ⊆ LY
 zn:∀ k,s.z k=none->qb8 D.Z (kI k)=none
 zs:∀ k h,s.z k=some h->∃ a,qb8 D.Z (kI k)=some (.ref a)/\H a=some (.tup (v4 h))
 zk:∃ ks,DKeys D.Z ks/\ks ⊆ LZ
theorem RAbs.same {D:qa2} {s:Abs} (e:Same H H') (h:RAbs H D s LY LZ):RAbs H' D s LY LZ:=
 ⟨h.yv,h.yk,h.zn,λk x q=>(h.zs k x q).imp λ_ z=>⟨z.1,e _ _ z.2⟩,h.zk⟩
theorem RAbs.tups {D:qa2} {s:Abs} (e:TupS H H') (h:RAbs H D s LY LZ):RAbs H' D s LY LZ:=
 ⟨h.yv,h.yk,h.zn,λk x q=>(h.zs k x q).imp λ_ z=>⟨z.1,e _ _ z.2⟩,h.zk⟩
theorem RAbs.mono {D:qa2} {s:Abs} {LY' LZ':List (List Int)} (h:RAbs H D s LY LZ) (a:LY ⊆ LY') (b:LZ ⊆ LZ'):RAbs H D s LY' LZ':=
 ⟨h.yv,h.yk.imp λ_ z=>⟨z.1,λ_ y=>a (z.2 y)⟩,h.zn,h.zs,h.zk.imp λ_ z=>⟨z.1,λ_ y=>b (z.2 y)⟩⟩
theorem RAbs.zero {D:qa2} (eY:D.Y=[]) (eZ:D.Z=[]):RAbs H D qmr LY LZ where
 yv:=λk=>by rw[eY];rfl
 yk:=⟨[],by rw[eY];exact DKeys.nil,λ_ z=>by cases z⟩
 zn:=λk _=>by rw[eZ];rfl
 zs:=λk x z=>by cases z
 zk:=⟨[],by rw[eZ];exact DKeys.nil,λ_ z=>by cases z⟩
theorem RAbs.yok {D:qa2} {s:Abs} (h:RAbs H D s LY LZ):∀ k x,qb8 D.Y (kI k)=some x->∃ n,x=V.int n:=λk x e=>by
 rw[h.yv] at e
 cases e2:s.y k with
 | none=>rw[e2] at e;cases e
 | some n=>rw[e2] at e;exact ⟨n,(Ax e).symm⟩
theorem qxp {kvs:KV} {L:List (List Int)} (h:DKeys kvs ks) (hs:ks ⊆ L):kvs.length<=L.length:=by
 have:=congrArg List.length h.eq;rw[Aa,Aa] at this;rw[this];exact Bq h.nd hs
open PySem L2
theorem qlh {v a b:Int} (h:HeapOf [(v,m)] a b lo hi):a=m/\b=v*m/\lo=v/\hi=v:=by
 refine ⟨by rw[h.m];simp[rN,qj9],by rw[h.t];simp[rT,qml],?_,?_⟩
 ·have:=h.lo;simpa [qci] using this
 ·have:=h.hi;simpa [qci] using this
theorem qtu {kvs:KV} (h:DKeys kvs ks) {k:List Key} (e:qb8 kvs k=some x):∃ j,k=kI j:=by
 have:k∈kvs.map (·.1):=valV_mem.mp (by rw[e];simp);rw[h.eq] at this;obtain ⟨j,_,e⟩:=Ah.mp this;exact ⟨j,e.symm⟩
theorem RAbs.YOk {D:qa2} {s:Abs} (h:RAbs H D s LY LZ):YOk D.Y:=λk x e=>by
 obtain ⟨ks,d,_⟩:=h.yk;obtain ⟨j,rfl⟩:=qtu d e;exact h.yok j x e
theorem RAbs.ZOk {D:qa2} {s:Abs} (h:RAbs H D s LY LZ):ZOk H D.Z:=λk x e=>by
 obtain ⟨ks,d,_⟩:=h.zk;obtain ⟨j,rfl⟩:=qtu d e
 cases ez:s.z j with
 | none=>rw[h.zn j ez] at e;cases e
 | some p =>
  obtain ⟨a,e1,e2⟩:=h.zs j p ez;rw[e] at e1;cases e1;exact ⟨a,p.1,p.2.1,p.2.2.1,p.2.2.2,rfl,e2⟩
theorem RAbs.ylen {D:qa2} {s:Abs} (h:RAbs H D s LY LZ):D.Y.length<=LY.length:=by
 obtain ⟨ks,d,e⟩:=h.yk;exact qxp d e
theorem RAbs.zlen {D:qa2} {s:Abs} (h:RAbs H D s LY LZ):D.Z.length<=LZ.length:=by
 obtain ⟨ks,d,e⟩:=h.zk;exact qxp d e
def qEj (cell:Int->Option (Int×Int)) (r:Rd3):List Int:=match cell r.1 with
 | none=>[]
 | some (a,w)=>[a,w]
theorem RAbs.put {D D':qa2} {o:Option (Int×Int)} {t v:Int} {s:Abs} {cell:Int->Option (Int×Int)} (h:RAbs H D s LY LZ) (hp:Puts H H' D D' o t v m) (eo:cell t=o) (ts:TupS H H')
  (hy:[t,v]∈LY) (hz:∀ a w,o=some (a,w)->[a,w]∈LZ):RAbs H' D' (qb4 cell s (t,v,m)) LY LZ:=by
 have h2:=h.tups ts;unfold qb4;dsimp only
 rcases hp with ⟨rfl,rfl⟩|⟨rfl,rfl⟩|⟨a,w,b,m1,t1,lo1,hi1,rfl,hw,rfl,hb,po⟩
 ·rw[eo];exact h2
 ·rw[eo]
  dsimp only;rw[Au rfl];have ey:TB.yv D.Y (kk t v)=(s.y [t,v]).getD 0:=by
   unfold TB.yv;have:=h.yv [t,v];rw[show kk t v=kI [t,v] from rfl,this]
   cases s.y [t,v]<;>rfl
  refine ⟨λk=>?_,?_,h2.zn,h2.zs,h2.zk⟩
  ·show qb8 (putK D.Y (kI [t,v]) _) (kI k)=(qcz s.y [t,v] ((s.y [t,v]).getD 0+m) k).map V.int
   rw[qda,ey]
   by_cases hk:k=[t,v]
   ·subst hk;rw[Au rfl,qaq];rfl
   ·rw[Al (λz=>hk (qen z)),qaw _ _ hk];exact h.yv k
  ·obtain ⟨ks,d,e⟩:=h.yk
   obtain ⟨ks',d',e'⟩:=d.put [t,v] rfl (V.int (TB.yv D.Y (kk t v)+m));exact ⟨ks',d',λj hj=>(e' j).mp hj |>.elim (λz=>e z) λz=>by rw[z];exact hy⟩
 ·rw[eo]
  dsimp only;rw[Al (by ext)];have ev:(m1,t1,lo1,hi1)=qb9 (s.z [a,w]) (qfp v m):=by
   rcases po with ⟨p1,p2⟩|⟨h0,m0,t0,lo0,hi0,a',b',lo',hi',p1,p2,p3,rfl,rfl,rfl,rfl⟩
   ·obtain ⟨rfl,rfl,rfl,rfl⟩:=qlh p2
    cases ez:s.z [a,w] with
    | none=>rfl
    | some q =>
     obtain ⟨_,e1,_⟩:=h.zs _ q ez;rw[show kk a w=kI [a,w] from rfl,e1] at p1;cases p1
   ·obtain ⟨rfl,rfl,rfl,rfl⟩:=qlh p3
    cases ez:s.z [a,w] with
    | none =>
     have:=h.zn _ ez;rw[show kk a w=kI [a,w] from rfl,this] at p1;cases p1
    | some q =>
     obtain ⟨_,e1,e2⟩:=h.zs _ q ez;rw[show kk a w=kI [a,w] from rfl,e1] at p1;cases p1;rw[p2] at e2;have e3:[V.int m0,V.int t0,V.int lo0,V.int hi0]=v4 q:=by injection e2 with e2;injection e2
     unfold v4 at e3;injection e3 with c1 e3
     injection e3 with c2 e3
     injection e3 with c3 e3
     injection e3 with c4 e3
     injection c1 with c1
     injection c2 with c2
     injection c3 with c3
     injection c4 with c4
     subst c1 c2 c3 c4
     rfl
  have hb':H' b=some (.tup (v4 (qb9 (s.z [a,w]) (qfp v m)))):=by rw[<- ev];exact hb
  exists h2.yv,h2.yk,λk hk=>?_,λk q hk=>?_
  ·have hk:qcz s.z [a,w] (qb9 (s.z [a,w]) (qfp v m)) k=none:=hk
   show qb8 (putK D.Z (kI [a,w]) _) (kI k)=_
   rw[qda]
   by_cases hk2:k=[a,w]
   ·subst hk2;rw[qaq] at hk;cases hk
   ·rw[Al (λz=>hk2 (qen z))]
    rw[qaw _ _ hk2] at hk;exact h.zn k hk
  ·have hk:qcz s.z [a,w] (qb9 (s.z [a,w]) (qfp v m)) k=some q:=hk
   show ∃ c,qb8 (putK D.Z (kI [a,w]) (.ref b)) (kI k)=some (.ref c)/\_
   rw[qda]
   by_cases hk2:k=[a,w]
   ·subst hk2
    rw[qaq] at hk;cases hk;exact ⟨b,Au rfl,hb'⟩
   ·rw[qaw _ _ hk2] at hk
    rw[Al (λz=>hk2 (qen z))];exact h2.zs k q hk
  ·obtain ⟨ks,d,e⟩:=h.zk
   obtain ⟨ks',d',e'⟩:=d.put [a,w] rfl (V.ref b);exact ⟨ks',d',λj hj=>(e' j).mp hj |>.elim (λz=>e z) λz=>by rw[z];exact hz a w rfl⟩
inductive qf1 (C R:Addr) (vs:List V) (H:Hp) (Q:VK) (E_:XK):Prop
 | mk:∀ (ro:Addr) (D:qa2) (t v m:Int),vs=[.ref ro,.int t,.int v,.int m]->RollAt C R H ro D->qem D->qpn t->1<=m->qv0 (v,m)->TB.YOk D.Y->TB.ZOk H D.Z->D.Y.length<=900->D.Z.length<=900->(∀ o,CellOf (D.ps.map (·.2)) D.es D.ge t o->∀ D' H',Puts H H' D D' o t v m->RollAt C R H' ro D'->But2 D.dy D.dh H H'->Q (.bl o.isSome) H')->qf1 C R vs H Q E_
def qf2 (s:Abs) (k:List Int):List Int:=k ++ [(s.y k).getD 0]
def i4 (h:HP4):List Int:=[h.1,h.2.1,h.2.2.1,h.2.2.2]
def qec (s:Abs) (k:List Int):List Int:=k ++ i4 ((s.z k).getD (0,0,0,0))
inductive qir (C R:Addr) (vs:List V) (H:Hp) (Q:VK) (E_:XK):Prop
 | mk:∀ (ro:Addr) (D:qa2) (s:Abs) (LY LZ:List (List Int)),vs=[.ref ro]->RollAt C R H ro D->RAbs H D s LY LZ->LY.length<64->(∀ l xs ms H',Same H H'->H l=none->H' l=some (.lst xs)->SKeys s.y ms->ms.length<64->Tups H' xs (ms.map (qf2 s))->Q (.ref l) H')->qir C R vs H Q E_
inductive qis (C R:Addr) (vs:List V) (H:Hp) (Q:VK) (E_:XK):Prop
 | mk:∀ (ro:Addr) (D:qa2) (s:Abs) (LY LZ:List (List Int)),vs=[.ref ro]->RollAt C R H ro D->RAbs H D s LY LZ->LZ.length<64->(∀ l xs ms H',Same H H'->H l=none->H' l=some (.lst xs)->SKeys s.z ms->ms.length<64->Tups H' xs (ms.map (qec s))->Q (.ref l) H')->qis C R vs H Q E_
theorem Tups.snoc {H:Hp} {v:V} {r:List Int} (h:TupAt H v r):∀ {xs:List V} {rs:List (List Int)},Tups H xs rs->Tups H (xs ++ [v]) (rs ++ [r])
 | _,_,.nil=>.cons h .nil
 | _,_,.cons q t=>.cons q (Tups.snoc h t)
theorem SKeys.ofD {kvs:KV} {α:Type} {f:List Int->Option α} (d:DKeys kvs ks) (hf:∀ k,qb8 kvs (kI k)≠none↔f k≠none) (p:ms.Perm ks) (hs:ms.Pairwise (λk l=>blt k l=true)):SKeys f ms:=
 ⟨hs,λk=>by rw[p.mem_iff,d.mem,hf]⟩
open PySem L2
def ROk (r:Rd3):Prop:=qpn r.1/\qv0 (r.2.1,r.2.2)
def l3 (r:Rd3):List Int:=[r.1,r.2.1,r.2.2]
open Classical in
noncomputable def qa1 (ws es:List Int) (ge:Option Int) (t:Int):Option (Int×Int):=if h:∃ o,CellOf ws es ge t o then h.choose else none
theorem qhy {ge:Option Int} {t:Int} {o:Option (Int×Int)} (hl:1<=es.length) (h:CellOf ws es ge t o):qa1 ws es ge t=o:=by
 have hx:∃ o,CellOf ws es ge t o:=⟨o,h⟩;unfold qa1;rw[dif_pos hx];exact CellOf.uniq (e0:=es[0]) (Ab (by ext)) hx.choose_spec h
def dd (Y Z:KV):qa2:=⟨0,0,0,0,0,[],none,0,[],none,Y,Z⟩
theorem qtv:∀ {k l:List Int} (a b:List Int),k.length=l.length->blt k l=true->blt (k ++ a) (l ++ b)=true
 | [],[],_,_,_,h=>by rw[qfo] at h;cases h
 | [],_ :: _,_,_,e,_=>by simp at e
 | _ :: _,[],_,_,e,_=>by simp at e
 | x :: k,y :: l,a,b,e,h=>by
  have e':k.length=l.length:=by simpa using e
  rw[Bb,Bb];unfold blt at h ⊢
  by_cases h1:x=y
  ·subst h1
   rw[Au rfl] at h ⊢;exact qtv a b e' h
  ·rw[Al h1] at h ⊢
   exact h
theorem qms {R:List (List Int)} (f:List Int->List Int) (hf:∀ k,∃ t,f k=k ++ t) (hk:∀ k∈ms,k.length=2) (sm:ms.Pairwise λk l=>blt k l=true) (pm:ms.Perm ks) (pR:R.Perm (ks.map f)) (sR:R.Pairwise λk l=>blt k l=true):R=ms.map f:=by
 have s2:(ms.map f).Pairwise λk l=>blt k l=true:=by
  rw[BF];refine sm.imp_of_mem fun {k l} h1 h2 hb=>?_
  obtain ⟨t,e1⟩:=hf k;obtain ⟨u,e2⟩:=hf l;rw[e1,e2];exact qtv _ _ ((hk k h1).trans (hk l h2).symm) hb
 exact EO (le:=λk l=>blt k l=true) (λk l _ _ h1 h2=>(qhx h1 h2).elim) sR s2 (pR.trans (pm.map f).symm)
open PySem L2
def RR (C R:Addr) (H:Hp) (ro:Addr) (c:qa2) (s:Abs) (LY LZ:List (List Int)):Prop:=
 ∃ Y Z,RollAt C R H ro { c with Y:=Y,Z:=Z }/\RAbs H { c with Y:=Y,Z:=Z } s LY LZ
theorem RR.same {c:qa2} {s:Abs} (e:Same H H') (h:RR C R H ro c s LY LZ):RR C R H' ro c s LY LZ:=
 let ⟨Y,Z,a,b⟩:=h;⟨Y,Z,a.same e,b.same e⟩
theorem But2.tups {a b:Addr} {Y Z:KV} (h:But2 a b H H') (ha:H a=some (.dT Y)) (hb:H b=some (.dT Z)):TupS H H':=λx xs e =>
 h x _ e (qa0 e ha (by intro z;cases z)) (qa0 e hb (by intro z;cases z))
theorem But2.keep {a b:Addr} {Y Z:KV} (h:But2 a b H H') (ha:H a=some (.dT Y)) (hb:H b=some (.dT Z)) {x:Addr} (e:H x=some o) (n:∀ K,o≠.dT K):H' x=some o:=
 h x _ e (qa0 e ha (n _)) (qa0 e hb (n _))
theorem But2.trans {H1 H2:Hp} {a b:Addr} (h:But2 a b H H1) (h2:But2 a b H1 H2):But2 a b H H2:=λx o e n m=>h2 x o (h x o e n m) n m
theorem But2.refl (a b:Addr) (H:Hp):But2 a b H H:=λ_ _ e _ _=>e
theorem RuleAt.keep2 {r a b:Addr} {Y Z:KV} (h:RuleAt C H r l ps g) (e:But2 a b H H') (ha:H a=some (.dT Y)) (hb:H b=some (.dT Z)):RuleAt C H' r l ps g:=by
 obtain ⟨dx,e1⟩:=h.ob;obtain ⟨xs,e2,p⟩:=h.ls;exact ⟨⟨dx,e.keep ha hb e1 (by intro K z;cases z)⟩,xs,e.keep ha hb e2 (by intro K z;cases z),p.tupS (e.tups ha hb)⟩
theorem RR.frame {c:qa2} {s:Abs} {a b:Addr} {Y Z:KV} (h:RR C R H ro c s LY LZ) (e:But2 a b H H') (ha:H a=some (.dT Y)) (hb:H b=some (.dT Z))
  (n1:c.dy≠a) (n2:c.dy≠b) (n3:c.dh≠a) (n4:c.dh≠b):RR C R H' ro c s LY LZ:=by
 obtain ⟨Y',Z',A,B⟩:=h;obtain ⟨dx,e1⟩:=A.ob;exact ⟨Y',Z',⟨⟨dx,e.keep ha hb e1 (by intro K z;cases z)⟩,A.rule.keep2 e ha hb,e.keep ha hb A.ed (by intro K z;cases z),e _ _ A.yo n1 n2,e _ _ A.he n3 n4,A.ne⟩,B.tups (e.tups ha hb)⟩
theorem RR.dicts {c:qa2} {s:Abs} (h:RR C R H ro c s LY LZ):(∃ Y,H c.dy=some (.dT Y))/\∃ Z,H c.dh=some (.dT Z):=
 let ⟨_,_,A,_⟩:=h;⟨⟨_,A.yo⟩,⟨_,A.he⟩⟩
theorem RR.obj {c:qa2} {s:Abs} (h:RR C R H ro c s LY LZ):∃ dx,H ro=some (.ins C dx (rof c.ru c.day c.le c.dy c.dh)):=
 let ⟨_,_,A,_⟩:=h;A.ob
noncomputable abbrev cellD (c:qa2):Int->Option (Int×Int):=qa1 (c.ps.map (·.2)) c.es c.ge
theorem RR.put {c:qa2} {s:Abs} {t v:Int} {E:XK} (h:RR C R H ro c s LY LZ) (ok:qem c) (hr:qpn t) (h1:1<=m) (hb:qv0 (v,m)) (ly:LY.length<64) (lz:LZ.length<64)
  (hy:[t,v]∈LY) (hz:∀ a w,cellD c t=some (a,w)->[a,w]∈LZ)
  (q:∀ H',RR C R H' ro c (qb4 (cellD c) s (t,v,m)) LY LZ->But2 c.dy c.dh H H'->Q (.bl (cellD c t).isSome) H'):qf1 C R [.ref ro,.int t,.int v,.int m] H Q E:=by
 obtain ⟨Y,Z,A,B⟩:=h;have hes:1<=c.es.length:=by rw[ok.es];exact ok.pr.good.lo
 refine ⟨ro,_,t,v,m,rfl,A,⟨ok.pr,ok.es⟩,hr,h1,hb,B.YOk,B.ZOk,AL B.ylen (by ext),AL B.zlen (by ext),λo hc D' H' pu A' b'=>?_⟩;have eo:cellD c t=o:=qhy hes hc;rw[<- eo];have B':=B.put pu eo (b'.tups A.yo A.he) hy (λa w e=>hz a w (eo.trans e));refine q H' ?_ b'
 rcases pu with ⟨_,rfl⟩|⟨_,rfl⟩|⟨_,_,_,_,_,_,_,_,_,rfl,_,_⟩
 ·exact ⟨Y,Z,A',B'⟩
 ·exact ⟨_,Z,A',B'⟩
 ·exact ⟨Y,_,A',B'⟩
open Classical in
noncomputable def qbg (s:Abs):List (List Int):=if h:∃ ms,SKeys s.y ms then h.choose.map (qf2 s) else []
open Classical in
noncomputable def qa4 (s:Abs):List (List Int):=if h:∃ ms,SKeys s.z ms then h.choose.map (qec s) else []
theorem qcg {s:Abs} (h:SKeys s.y ms):ms.map (qf2 s)=qbg s:=by
 have hx:∃ ms,SKeys s.y ms:=⟨ms,h⟩;unfold qbg;rw[dif_pos hx,SKeys.uniq h hx.choose_spec]
theorem qb1 {s:Abs} (h:SKeys s.z ms):ms.map (qec s)=qa4 s:=by
 have hx:∃ ms,SKeys s.z ms:=⟨ms,h⟩;unfold qa4;rw[dif_pos hx,SKeys.uniq h hx.choose_spec]
def qxq (rs:List (List Int)):Prop:=rs.length<=900/\∀ r∈rs,r.length<=10
theorem RR.young {c:qa2} {s:Abs} {E:XK} (h:RR C R H ro c s LY LZ) (ly:LY.length<64)
  (q:∀ l xs H',Same H H'->H l=none->H' l=some (.lst xs)->Tups H' xs (qbg s)->qxq (qbg s)->Q (.ref l) H'):qir C R [.ref ro] H Q E:=by
 obtain ⟨Y,Z,A,B⟩:=h;refine ⟨ro,_,s,LY,LZ,rfl,A,B,ly,λl xs ms H' e f hl sk hm tu=>?_⟩;rw[qcg sk] at tu;refine q l xs H' e f hl tu ?_;rw[<- qcg sk];obtain ⟨ks,dk,_⟩:=B.yk;refine ⟨by rw[Aa];ext,λr hr=>?_⟩;obtain ⟨k,hk,rfl⟩:=Ah.mp hr;have:k∈ks:=(dk.mem k).mpr (by rw[B.yv];have:=(sk.mem k).mp hk;cases z:s.y k with|none=>exact absurd z this|some _=>simp);have:=dk.ne k this;unfold qf2;rw[Ag,this];simp
theorem RR.heaps {c:qa2} {s:Abs} {E:XK} (h:RR C R H ro c s LY LZ) (lz:LZ.length<64)
  (q:∀ l xs H',Same H H'->H l=none->H' l=some (.lst xs)->Tups H' xs (qa4 s)->qxq (qa4 s)->Q (.ref l) H'):qis C R [.ref ro] H Q E:=by
 obtain ⟨Y,Z,A,B⟩:=h;refine ⟨ro,_,s,LY,LZ,rfl,A,B,lz,λl xs ms H' e f hl sk hm tu=>?_⟩;rw[qb1 sk] at tu;refine q l xs H' e f hl tu ?_;rw[<- qb1 sk];obtain ⟨ks,dk,_⟩:=B.zk;refine ⟨by rw[Aa];ext,λr hr=>?_⟩;obtain ⟨k,hk,rfl⟩:=Ah.mp hr;have:k∈ks:=(dk.mem k).mpr (by
  have:=(sk.mem k).mp hk
  cases z:s.z k with
  | none=>exact absurd z this
  | some h4=>obtain ⟨a,e1,_⟩:=B.zs k h4 z;rw[e1];simp)
 have:=dk.ne k this;unfold qec i4;rw[Ag,this];simp
theorem Tups.tupS {H H':Hp} (s:TupS H H'):∀ {xs:List V} {rs:List (List Int)},Tups H xs rs->Tups H' xs rs
 | _,_,.nil=>.nil
 | _,_,.cons ⟨a,e,h⟩ t=>.cons ⟨a,e,s _ _ h⟩ (Tups.tupS s t)
open PySem L2
def qdw (cell:Int->Option (Int×Int)) (s:Abs) (a:Int) (x:HP4):Abs:=match cell a with
 | none=>s
 | some (b,w)=>{ s with z:=qcz s.z [b,w] (qb9 (s.z [b,w]) x) }
def qtw (H:Hp) (Z:KV) (k:List Key) (x y:HP4):Prop:=
 (qb8 Z k=none/\y=x)\/∃ (h0:Addr) (x0:HP4),qb8 Z k=some (.ref h0)/\H h0=some (.tup (v4 x0))/\y=mg4 x0 x
theorem qxr {x y:HP4} (h:v4 x=v4 y):x=y:=by
 unfold v4 at h;injection h with h1 h
 injection h with h2 h
 injection h with h3 h
 injection h with h4 _
 injection h1 with h1
 injection h2 with h2
 injection h3 with h3
 injection h4 with h4
 exact qAi h1 h2 h3 h4
theorem RAbs.pour {D:qa2} {a w:Int} {b:Addr} {x y:HP4} {s:Abs} (h:RAbs H D s LY LZ) (po:qtw H D.Z (kk a w) x y) (hb:H' b=some (.tup (v4 y))) (ts:TupS H H') (hz:[a,w]∈LZ) :
  RAbs H' { D with Z:=putK D.Z (kk a w) (.ref b) } { s with z:=qcz s.z [a,w] (qb9 (s.z [a,w]) x) } LY LZ:=by
 have h2:=h.tups ts;have ev:y=qb9 (s.z [a,w]) x:=by
  rcases po with ⟨p1,p2⟩|⟨h0,x0,p1,p2,p3⟩
  ·cases ez:s.z [a,w] with
   | none=>exact p2
   | some q =>
    obtain ⟨_,e1,_⟩:=h.zs _ q ez;rw[show kk a w=kI [a,w] from rfl,e1] at p1;cases p1
  ·cases ez:s.z [a,w] with
   | none =>
    have:=h.zn _ ez;rw[show kk a w=kI [a,w] from rfl,this] at p1;cases p1
   | some q =>
    obtain ⟨_,e1,e2⟩:=h.zs _ q ez;rw[show kk a w=kI [a,w] from rfl,e1] at p1;cases p1;rw[p2] at e2;have e3:v4 x0=v4 q:=by injection e2 with e2;injection e2
    rw[p3,qxr e3]
    rfl
 subst ev;exists h2.yv,h2.yk,λk hk=>?_,λk q hk=>?_
 ·have hk:qcz s.z [a,w] (qb9 (s.z [a,w]) x) k=none:=hk
  show qb8 (putK D.Z (kI [a,w]) _) (kI k)=_
  rw[qda]
  by_cases hk2:k=[a,w]
  ·subst hk2;rw[qaq] at hk;cases hk
  ·rw[Al (λz=>hk2 (qen z))]
   rw[qaw _ _ hk2] at hk;exact h.zn k hk
 ·have hk:qcz s.z [a,w] (qb9 (s.z [a,w]) x) k=some q:=hk
  show ∃ c,qb8 (putK D.Z (kI [a,w]) (.ref b)) (kI k)=some (.ref c)/\_
  rw[qda]
  by_cases hk2:k=[a,w]
  ·subst hk2
   rw[qaq] at hk;cases hk;exact ⟨b,Au rfl,hb⟩
  ·rw[qaw _ _ hk2] at hk
   rw[Al (λz=>hk2 (qen z))];exact h2.zs k q hk
 ·obtain ⟨ks,d,e⟩:=h.zk
  obtain ⟨ks',d',e'⟩:=d.put [a,w] rfl (V.ref b);exact ⟨ks',d',λj hj=>(e' j).mp hj |>.elim (λz=>e z) λz=>by rw[z];exact hz⟩
def qc2 (cell:Int->Option (Int×Int)) (s:Abs):List Int->Abs
 | [t,v,m]=>qb4 cell s (t,v,m)
 | _=>s
def qb5 (cell:Int->Option (Int×Int)) (s:Abs):List Int->Abs
 | [a,_,m,t,lo,hi]=>qdw cell s a (m,t,lo,hi)
 | _=>s
def qfq (cell:Int->Option (Int×Int)) (s:Abs) (Y Z:List (List Int)):Abs:=Z.foldl (qb5 cell) (Y.foldl (qc2 cell) s)
inductive qmt (C R:Addr) (vs:List V) (H:Hp) (Q:VK) (E_:XK):Prop
 | mk:∀ (ro:Addr) (D:qa2) (c h:Addr) (s w:Int) (x:HP4),vs=[.ref ro,.ref c,.ref h]->RollAt C R H ro D->H c=some (.tup [.int s,.int w])->H h=some (.tup (v4 x))->ZOk H D.Z->D.Z.length<=900->(∀ h2 y H',H' h2=some (.tup (v4 y))->qtw H D.Z (kk s w) x y->RollAt C R H' ro { D with Z:=putK D.Z (kk s w) (.ref h2) }->But D.dh H H'->Q .non H')->qmt C R vs H Q E_
inductive qpx (C R:Addr) (vs:List V) (H:Hp) (Q:VK) (E_:XK):Prop
 | mk:∀ (ro:Addr) (c:qa2) (s:Abs) (LY LZ:List (List Int)) (a:Int) (h:Addr) (x:HP4),vs=[.ref ro,.int a,.ref h]->RR C R H ro c s LY LZ->qem c->qpn a->H h=some (.tup (v4 x))->LZ.length<64->(∀ b w,cellD c a=some (b,w)->[b,w]∈LZ)->(∀ H',RR C R H' ro c (qdw (cellD c) s a x) LY LZ->But2 c.dy c.dh H H'->Q .non H')->qpx C R vs H Q E_
structure qmu (cell:Int->Option (Int×Int)) (LY LZ Y Z:List (List Int)):Prop where
 y:∀ r∈Y,∃ t v m,r=[t,v,m]/\ROk (t,v,m)/\[t,v]∈LY/\∀ a w,cell t=some (a,w)->[a,w]∈LZ
 z:∀ r∈Z,∃ a w m t lo hi,r=[a,w,m,t,lo,hi]/\qpn a/\∀ b w,cell a=some (b,w)->[b,w]∈LZ
def qB8 (c d:qa2):Prop:=c.dy≠d.dy/\c.dy≠d.dh/\c.dh≠d.dy/\c.dh≠d.dh
inductive qit (C R:Addr) (vs:List V) (H:Hp) (Q:VK) (E_:XK):Prop
 | mk:∀ (ro r2:Addr) (c c2:qa2) (s s2:Abs) (LY LZ LY2 LZ2:List (List Int)),vs=[.ref ro,.ref r2]->RR C R H ro c s LY LZ->RR C R H r2 c2 s2 LY2 LZ2->qem c->qB8 c2 c->LY.length<64->LZ.length<64->LY2.length<64->LZ2.length<64->qmu (cellD c) LY LZ (qbg s2) (qa4 s2)->(∀ H',RR C R H' ro c (qfq (cellD c) s (qbg s2) (qa4 s2)) LY LZ->But2 c.dy c.dh H H'->Q .non H')->qit C R vs H Q E_
open PySem L2
theorem SKeys.nd {α:Type} {f:List Int->Option α} (h:SKeys f ms):ms.Nodup:=h.srt.imp fun {k l} hb e=>by rw[e,qfo] at hb;cases hb
open PySem L2
theorem qc6 {ge:Option Int} (hw:1<=ws.length) (he:1<=es.length) (t:Int):CellOf ws es ge t (qa1 ws es ge t):=by
 obtain ⟨o,h⟩:∃ o,CellOf ws es ge t o:=by
  by_cases c:es[0]<=t
  ·exact ⟨some (t,0),λe0 h0=>⟨λ_=>rfl,λz=>by rw[Ab (by ext)] at h0;have:=Ax h0;ext⟩⟩
  ·by_cases hg:qcf ge t
   ·exact ⟨none,λe0 h0=>⟨λz=>by rw[Ab (by ext)] at h0;have:=Ax h0;ext,λ_=>⟨λ_=>rfl,λz=>absurd hg z⟩⟩⟩
   ·have hn:=qzh (ws:=ws) (es:=es) (t:=t) (w0:=ws[0]) (e0:=es[0]) (Ab (by ext)) (Ab (by ext)) (by ext)
    refine ⟨some (t / (wl ws es t)[(wl ws es t).length-1]*(wl ws es t)[(wl ws es t).length-1],(wl ws es t)[(wl ws es t).length-1]),λe0 h0=>⟨λz=>by rw[Ab (by ext)] at h0;have:=Ax h0;ext,λ_=>⟨λz=>absurd z hg,λ_=>⟨_,Ab (by ext),rfl⟩⟩⟩⟩
 rw[qhy he h];exact h
theorem qpy {t w:Int} (hw:1<=w) (h:w ∣ e) (hl:e<=t):e<=t / w*w:=by
 obtain ⟨k,rfl⟩:=h;have:k<=t / w:=(Int.le_ediv_iff_mul_le (by ext)).mpr (by rw[Bf];exact hl);rw[Bf w k];exact AG this (by ext)
def qDf (W:Int) (cell:Int->Option (Int×Int)):Prop:=∀ t a w,cell t=some (a,w)->a<=t/\t-W<=a
theorem qtx {ge:Option Int} {W:Int} (hw:1<=ws.length) (he:1<=es.length) (hW:0<=W) (hb:∀ w∈ws,1<=w/\w<=W):qDf W (qa1 ws es ge):=λt a w e=>by
 have h:=qc6 (ge:=ge) hw he t;rw[e] at h;obtain ⟨h1,h2⟩:=h es[0] (Ab (by ext))
 by_cases c:es[0]<=t
 ·have:=h1 c
  cases this;ext
 ·obtain ⟨g1,g2⟩:=h2 (by ext)
  by_cases hg:qcf ge t
  ·cases g1 hg
  ·obtain ⟨w',hl,e2⟩:=g2 hg
   cases e2;have:=hb w (qpm (Am hl));have h1:=Int.ediv_mul_le t (b:=w) (by ext);have h2:=Int.lt_ediv_add_one_mul_self t (b:=w) (by ext);rw[DJ,FF] at h2;ext
open PySem L2
def qf3 (cell:Int->Option (Int×Int)) (r:Rd3):List Int:=match cell r.1 with
 | none=>[]
 | some (a,w)=>if w=0 then [0,r.1,r.2.1] else [1,a,w]
def Tags (cell:Int->Option (Int×Int)) (s:Abs) (L:List Rd3):Prop:=(∀ k,s.y k≠none->∃ r∈L,qf3 cell r=0 :: k)/\∀ k,s.z k≠none->∃ r∈L,qf3 cell r=1 :: k
theorem Tags.put {cell:Int->Option (Int×Int)} {s:Abs} {L:List Rd3} (h:Tags cell s L) (r:Rd3):Tags cell (qb4 cell s r) (L ++ [r]):=by
 have up:∀ {x:List Int},(∃ r∈L,qf3 cell r=x)->∃ q∈L ++ [r],qf3 cell q=x:=fun ⟨q,hq,e⟩=>⟨q,AE _ hq,e⟩
 have me:r∈L ++ [r]:=As _ Ae;unfold qb4
 rcases e:cell r.1 with _|⟨a,w⟩
 ·exact ⟨λk hk=>up (h.1 k hk),λk hk=>up (h.2 k hk)⟩
 ·dsimp only
  split
  ·rename_i hw
   refine ⟨λk hk=>?_,λk hk=>up (h.2 k hk)⟩
   by_cases ek:k=[r.1,r.2.1]
   ·exact ⟨r,me,by unfold qf3;rw[e];dsimp only;rw[Au hw,ek]⟩
   ·have hk:qcz s.y [r.1,r.2.1] _ k≠none:=hk
    rw[qaw _ _ ek] at hk;exact up (h.1 k hk)
  ·rename_i hw
   refine ⟨λk hk=>up (h.1 k hk),λk hk=>?_⟩
   by_cases ek:k=[a,w]
   ·exact ⟨r,me,by unfold qf3;rw[e];dsimp only;rw[Al hw,ek]⟩
   ·have hk:qcz s.z [a,w] _ k≠none:=hk
    rw[qaw _ _ ek] at hk;exact up (h.2 k hk)
theorem Tags.puts {cell:Int->Option (Int×Int)}:∀ (rs:List Rd3) {s:Abs} {L:List Rd3},Tags cell s L->Tags cell (rs.foldl (qb4 cell) s) (L ++ rs)
 | [],_,L,h=>by rw[Bl];exact h
 | r :: t,s,L,h=>by
  have:=Tags.puts t (h.put r);rw[B6] at this;exact this
theorem qty (cell:Int->Option (Int×Int)) (rs:List Rd3):Tags cell (qa8 cell rs) rs:=Tags.puts rs (L:=[]) ⟨λ_ h=>absurd rfl h,λ_ h=>absurd rfl h⟩
theorem qzl {cell:Int->Option (Int×Int)} {s:Abs} {rs:List Rd3} (tg:Tags cell s rs) (hy:SKeys s.y my) (hz:SKeys s.z mz):my.length+mz.length<=rs.length:=by
 have nd:(my.map (λk=>(0:Int) :: k) ++ mz.map (λk=>(1:Int) :: k)).Nodup:=by
  rw[DZ];refine ⟨?_,?_,λa ha b hb e=>?_⟩
  ·rw[BA,BF];exact hy.nd.imp λhne e=>hne (by injection e)
  ·rw[BA,BF];exact hz.nd.imp λhne e=>hne (by injection e)
  ·obtain ⟨k,_,rfl⟩:=Ah.mp ha
   obtain ⟨l,_,rfl⟩:=Ah.mp hb;injection e with e _
   ext
 have sub:(my.map (λk=>(0:Int) :: k) ++ mz.map (λk=>(1:Int) :: k)) ⊆ rs.map (qf3 cell):=λx hx=>by
  rcases AK.mp hx with h|h
  ·obtain ⟨k,hk,rfl⟩:=Ah.mp h
   obtain ⟨r,hr,e⟩:=tg.1 k ((hy.mem k).mp hk);exact Ah.mpr ⟨r,hr,e⟩
  ·obtain ⟨k,hk,rfl⟩:=Ah.mp h
   obtain ⟨r,hr,e⟩:=tg.2 k ((hz.mem k).mp hk);exact Ah.mpr ⟨r,hr,e⟩
 have:=Bq nd sub
 simpa using this
structure AbsB (B N:Int) (s:Abs):Prop where
 y:∀ k n,s.y k=some n->∃ t v,k=[t,v]/\(-B<=t/\t<=B)/\(-(10 ^ 45)<v/\v<10 ^ 45)/\1<=n/\n<=N
 z:∀ k x,s.z k=some x->∃ a w,k=[a,w] /\ -B<=a/\a<=B
theorem qEk {N:Int}:AbsB B N qmr:=⟨(λ_ _ h=>by cases h),(λ_ _ h=>by cases h)⟩
theorem AbsB.put {W N M:Int} {cell:Int->Option (Int×Int)} (cn:qDf W cell) {s:Abs} (h:AbsB B N s) (hN:0<=N) (hM:0<=M) (ht:-B<=r.1-W/\r.1<=B) (hW:0<=W) (hv:-(10 ^ 45)<r.2.1/\r.2.1<10 ^ 45) (hm:1<=r.2.2/\r.2.2<=M):AbsB B (N+M) (qb4 cell s r):=by
 have h':AbsB B (N+M) s:=⟨λk n e=>by obtain ⟨t,v,e1,e2,e3,e4,e5⟩:=h.y k n e;exact ⟨t,v,e1,e2,e3,e4,by ext⟩,h.z⟩;unfold qb4
 rcases e:cell r.1 with _|⟨a,w⟩
 ·exact h'
 ·dsimp only
  split
  ·refine ⟨λk n hk=>?_,h'.z⟩
   have hk:qcz s.y [r.1,r.2.1] _ k=some n:=hk
   by_cases ek:k=[r.1,r.2.1]
   ·rw[ek,qaq] at hk
    have hk:=Ax hk;exists r.1,r.2.1,ek,by ext,hv
    cases e2:s.y [r.1,r.2.1] with
    | none=>rw[e2] at hk;simp at hk;ext
    | some n0 =>
     obtain ⟨_,_,_,_,_,e4,e5⟩:=h.y _ _ e2;rw[e2] at hk
     simp at hk
     ext
   ·rw[qaw _ _ ek] at hk;exact h'.y k n hk
  ·refine ⟨h'.y,λk x hk=>?_⟩
   have hk:qcz s.z [a,w] _ k=some x:=hk
   by_cases ek:k=[a,w]
   ·have:=cn _ _ _ e
    exact ⟨a,w,ek,by ext,by ext⟩
   ·rw[qaw _ _ ek] at hk;exact h'.z k x hk
def RLt (r:Rd3):Prop:=(-(5*10 ^ 45)<=r.1/\r.1<=5*10 ^ 45)/\(-(10 ^ 45)<r.2.1/\r.2.1<10 ^ 45)/\1<=r.2.2/\r.2.2<=10 ^ 31
theorem qtz {cell:Int->Option (Int×Int)} (cn:qDf (10 ^ 36) cell):∀ (rs:List Rd3) {s:Abs} {N:Int},AbsB (5*10 ^ 45+10 ^ 36) N s->0<=N->(∀ r∈rs,RLt r)->AbsB (5*10 ^ 45+10 ^ 36) (N+10 ^ 31*rs.length) (rs.foldl (qb4 cell) s)
 | [],s,N,h,_,_=>by simpa using h
 | r :: t,s,N,h,hN,hr=>by
  obtain ⟨h1,h2,h3,h4⟩:=hr r Ae;have a:=h.put cn hN (M:=10 ^ 31) (by ext) (r:=r) (by ext) (by ext) h2 ⟨h3,h4⟩;have:=qtz cn t a (by ext) λq hq=>hr q (Ad _ hq)
  rw[DA];have e:N+10 ^ 31+10 ^ 31*(t.length:Int)=N+10 ^ 31*((r :: t).length:Int):=by
   rw[AF];push_cast;ext
  rw[<- e];exact this
theorem qey {α:Type} {f:List Int->Option α} (nd:ks.Nodup) (h:∀ k,k∈ks↔f k≠none):∃ ms,SKeys f ms/\ms.length=ks.length:=by
 have tot:∀ a b:List Int,(!blt b a || !blt a b)=true:=λa b=>by
  cases h1:blt b a<;>cases h2:blt a b<;>simp
  exact qhx h1 h2
 have tr:∀ a b c:List Int,(!blt b a)=true->(!blt c b)=true->(!blt c a)=true:=λa b c h1 h2=>by
  simp at h1 h2 ⊢
  by_cases e1:a=b
  ·subst e1;exact h2
  ·by_cases e2:b=c
   ·subst e2;exact h1
   ·have a1:=qfn b a (λz=>e1 z.symm) h1
    have a2:=qfn c b (λz=>e2 z.symm) h2;have a3:=qj6 _ _ _ a1 a2
    cases h3:blt c a with
    | false=>rfl
    | true=>exact (qhx a3 h3).elim
 have pm:=List.mergeSort_perm ks (λa b=>!blt b a);refine ⟨ks.mergeSort (λa b=>!blt b a),⟨?_,λk=>by rw[pm.mem_iff,h]⟩,pm.length_eq⟩;have srt:=List.pairwise_mergeSort tr tot ks;have nd':=pm.nodup_iff.mpr nd;rw[BA] at nd';refine (srt.and nd').imp fun {a b} hab=>?_
 obtain ⟨h1,h2⟩:=hab
 simp at h1
 exact qfn b a (λz=>h2 z.symm) h1
open PySem L2
structure Fall (ws es:List Int) (ge:Option Int):Prop where
 len:ws.length=es.length
 pos:∀ (i:Nat) w,ws[i]?=some w->1<=w
 dv:∀ (i j:Nat) a b,i<=j->ws[i]?=some a->ws[j]?=some b->a ∣ b
 ml:∀ (i:Nat) w e,ws[i]?=some w->es[i]?=some e->w ∣ e
 gl:∀ (i:Nat) w z,ws[i]?=some w->ge=some z->w ∣ z
 dn:∀ (i j:Nat) a b,i<=j->es[i]?=some a->es[j]?=some b->b<=a
structure StepAt (ws es:List Int) (t:Int) (i:Nat) (w e:Int):Prop where
 gw:ws[i]?=some w
 ge:es[i]?=some e
 lt:t<e
 nx:∀ e',es[i+1]?=some e'->e'<=t
theorem qB9 {t:Int} (h:∀ x∈es,x<=t):wl ws es t=[]:=by
 unfold wl;rw[Fd.mpr,D0];intro x hx;have:=h x.2 (CV hx).2
 simp;ext
theorem qmv:∀ {i:Nat} {ws es:List Int} {t w e:Int},(∀ (i j:Nat) a b,i<=j->es[i]?=some a->es[j]?=some b->b<=a)->StepAt ws es t i w e->(wl ws es t).getLast?=some w
 | 0,ws,es,t,w,e,F,S=>by
  cases ws with
  | nil=>have:=S.gw;simp at this
  | cons w1 wr =>
   cases es with
   | nil=>have:=S.ge;simp at this
   | cons e1 er =>
    have ew:=S.gw;have ee:=S.ge
    simp at ew ee
    subst ew;subst ee;have hr:∀ x∈er,x<=t:=λx hx=>by
     obtain ⟨k,hk,rfl⟩:=BD hx;have h0:0<er.length:=by ext
     have a:=S.nx er[0] (by simp[h0]);have b:=F 1 (k+1) er[0] er[k] (by ext) (by simp[h0]) (by simp[hk]);ext
    have e1:wl (w1 :: wr) (e1 :: er) t=w1 :: wl wr er t:=by
     unfold wl;rw[C3,Bz (by simpa using S.lt)];rfl
    rw[e1,qB9 hr];rfl
 | i+1,ws,es,t,w,e,F,S=>by
  cases ws with
  | nil=>have:=S.gw;simp at this
  | cons w1 wr =>
   cases es with
   | nil=>have:=S.ge;simp at this
   | cons e1 er =>
    have S':StepAt wr er t i w e:=⟨by simpa using S.gw,by simpa using S.ge,S.lt,λe' h=>S.nx e' (by simpa using h)⟩;have ih:=qmv (λa b x y h h1 h2=>F (a+1) (b+1) x y (by ext) (by simpa using h1) (by simpa using h2)) S';have hlt:t<e1:=by
     have:=F 0 (i+1) e1 e (by ext) (by simp) S.ge;have:=S.lt;ext
    have e2:wl (w1 :: wr) (e1 :: er) t=w1 :: wl wr er t:=by
     unfold wl;rw[C3,Bz (by simpa using hlt)];rfl
    rw[e2,List.getLast?_cons,ih];rfl
theorem qiu:∀ {es ws:List Int} {t e0:Int},ws.length=es.length->es[0]?=some e0->t<e0->∃ i w e,StepAt ws es t i w e
 | [],ws,t,e0,_,h,_=>by simp at h
 | e1 :: er,[],t,e0,hl,_,_=>by simp at hl
 | e1 :: er,w1 :: wr,t,e0,hl,h,hlt=>by
  simp at h
  subst h
  by_cases hc:∃ e2,er[0]?=some e2/\t<e2
  ·obtain ⟨e2,he2,h2⟩:=hc
   obtain ⟨i,w,e,S⟩:=qiu (es:=er) (ws:=wr) (by simpa using hl) he2 h2;exact ⟨i+1,w,e,by simpa using S.gw,by simpa using S.ge,S.lt,λe' h=>S.nx e' (by simpa using h)⟩
  ·refine ⟨0,w1,e1,by simp,by simp,hlt,λe' h=>?_⟩
   have h':er[0]?=some e':=by simpa using h
   by_cases z:t<e'
   ·exact absurd ⟨e',h',z⟩ hc
   ·ext
theorem qke {w t:Int} (hw:1<=w) (hd:w ∣ e) (h:t<e):t / w*w+w<=e:=by
 obtain ⟨k,rfl⟩:=hd;have h1:t / w<k:=Fy (by ext) (by rwa [Bf] at h);have h2:=Ap (show t / w+1<=k by ext) (show 0<=w by ext);rw[AQ,BU,Bf w (t / w)] at h2;exact h2
theorem qju {w:Int} (t:Int) (hw:1<=w):t / w*w<=t/\t<t / w*w+w:=by
 have a:=DE t w;have b:=Bh t (show w≠0 by ext);have c:=A7 t (show 0<w by ext);rw[Bf] at a;ext
theorem qg5 (t w:Int):w ∣ t / w*w:=⟨t / w,Bf _ _⟩
theorem qzm {w s x:Int} (hw:1<=w) (hd:w ∣ x) (h1:x<=s) (h2:s<x+w):s / w*w=x:=by
 have a:=qpy hw hd h1;have b:=qju s hw;obtain ⟨k,rfl⟩:=hd;have c:=qke hw (show w ∣ w*(k+1) from ⟨k+1,rfl⟩) (show s<w*(k+1) by rw[AQ,BU];exact h2);rw[AQ,BU] at c;ext
theorem StepAt.cell {ge:Option Int} {t s w:Int} (F:Fall ws es ge) (S:StepAt ws es t i w e) (h1:t / w*w<=s) (h2:s<t / w*w+w):StepAt ws es s i w e/\(qcf ge s↔qcf ge t)/\s / w*w=t / w*w:=by
 have hw:=F.pos i w S.gw;refine ⟨⟨S.gw,S.ge,?_,λe' he'=>?_⟩,?_,qzm hw (qg5 t w) h1 h2⟩
 ·have:=qke hw (F.ml i w e S.gw S.ge) S.lt
  ext
 ·have hl:i+1<ws.length:=by rw[F.len];exact (Aj.mp he').1
  have hd:w ∣ e':=Cv (F.dv i (i+1) w ws[i+1] (by ext) S.gw (Ab hl)) (F.ml (i+1) _ e' (Ab hl) he');have:=qpy hw hd (S.nx e' he');ext
 ·constructor
  ·rintro ⟨z,hz,h⟩
   have hd:=F.gl i w z S.gw hz;exists z,hz
   by_cases c:t<z
   ·exact c
   ·have:=qpy hw hd (show z<=t by ext);ext
  ·rintro ⟨z,hz,h⟩
   have hd:=F.gl i w z S.gw hz;exact ⟨z,hz,by have:=qke hw hd h;ext⟩
theorem StepAt.idx {ge:Option Int} {t:Int} {j:Nat} {w w' e':Int} (F:Fall ws es ge) (S:StepAt ws es t i w e) (h:es[j]?=some e') (hlt:t<e'):j<=i:=by
 by_cases c:j<=i
 ·exact c
 ·have hl:i+1<es.length:=by have:=(Aj.mp h).1;ext
  have a:=S.nx es[i+1] (Ab hl);have b:=F.dn (i+1) j _ e' (by ext) (Ab hl) h;ext
open PySem L2
theorem qiv {ge:Option Int} {t w:Int} (F:Fall ws es ge) (h0:es[0]?=some e0) (S:StepAt ws es t i w e) (hg:¬ qcf ge t):CellOf ws es ge t (some (t / w*w,w)):=by
 have hlt:t<e0:=by have:=F.dn 0 i e0 e (by ext) h0 S.ge;have:=S.lt;ext
 exact CellOf.c h0 hlt hg (by rw[<- C8];exact qmv F.dn S)
theorem qez {ge:Option Int} {t:Int} {o:Option (Int×Int)} (F:Fall ws es ge) (h0:es[0]?=some e0) (C:CellOf ws es ge t o) :
  (e0<=t/\o=some (t,0))\/(t<e0/\qcf ge t/\o=none)\/(t<e0/\¬ qcf ge t/\∃ i w e,StepAt ws es t i w e/\o=some (t / w*w,w)):=by
 by_cases hc:e0<=t
 ·exact .inl ⟨hc,C.uniq h0 (CellOf.a h0 hc)⟩
 ·have hlt:t<e0:=by ext
  by_cases hg:qcf ge t
  ·exact .inr (.inl ⟨hlt,hg,C.uniq h0 (CellOf.b h0 hlt hg)⟩)
  ·obtain ⟨i,w,e,S⟩:=qiu F.len h0 hlt
   exact .inr (.inr ⟨hlt,hg,i,w,e,S,C.uniq h0 (qiv F h0 S hg)⟩)
theorem behind {ge:Option Int} {t w:Int} {o:Option (Int×Int)} (F:Fall ws es ge) (h0:es[0]?=some e0) (S:StepAt ws es t i w e) (hg:¬ qcf ge t) (C:CellOf ws es ge (t / w*w+w) o):∃ p,o=some p/\p.1=t / w*w+w:=by
 have hw:=F.pos i w S.gw;have h1:=qju t hw
 rcases qez F h0 C with ⟨_,rfl⟩|⟨_,⟨z,hz,h⟩,rfl⟩|⟨_,_,j,w',e',S',rfl⟩
 ·exact ⟨_,rfl,rfl⟩
 ·exact absurd ⟨z,hz,by ext⟩ hg
 ·exists _,rfl
  have hji:j<=i:=StepAt.idx (w':=w') (e':=e') F S S'.ge (by have:=S'.lt;ext);have hd:w' ∣ w:=F.dv j i w' w hji S'.gw S.gw;have hw':=F.pos j w' S'.gw;exact qzm hw' (Int.dvd_add (Cv hd (qg5 t w)) hd) (by ext) (by ext)
structure Later (es es':List Int) (ge ge':Option Int):Prop where
 len:es'.length=es.length
 up:∀ (i:Nat) a b,es[i]?=some a->es'[i]?=some b->a<=b
 gn:∀ z,ge=some z->∃ z',ge'=some z'/\z<=z'
theorem Later.gone {es':List Int} {ge ge':Option Int} {t:Int} (L:Later es es' ge ge') (h:qcf ge t):qcf ge' t:=by
 obtain ⟨z,hz,h⟩:=h;obtain ⟨z',hz',h'⟩:=L.gn z hz;exact ⟨z',hz',by ext⟩
theorem qrf {es':List Int} {ge ge':Option Int} {t e0':Int} {o:Option (Int×Int)} (L:Later es es' ge ge') (h0:es[0]?=some e0) (h0':es'[0]?=some e0') (hlt:t<e0) (hg:qcf ge t) (C:CellOf ws es' ge' t o):o=none:=
 C.uniq h0' (CellOf.b h0' (by have:=L.up 0 e0 e0' h0 h0';ext) (L.gone hg))
theorem qrg {es':List Int} {ge ge':Option Int} {t w e0':Int} (F:Fall ws es ge) (F':Fall ws es' ge') (L:Later es es' ge ge') (h0':es'[0]?=some e0') (S:StepAt ws es t i w e) :
  ∃ o,(∀ s,t / w*w<=s->s<t / w*w+w->∀ o',CellOf ws es' ge' s o'->o'=o)/\∀ p,o=some p->p.1<=t / w*w/\t / w*w+w<=p.1+p.2:=by
 have hw:=F.pos i w S.gw;have h1:=qju t hw;have hle:i<es'.length:=by rw[L.len];exact (Aj.mp S.ge).1
 have hu:=L.up i e es'[i] S.ge (Ab hle);have hend:=qke hw (F.ml i w e S.gw S.ge) S.lt;have hlt0:t / w*w<e0':=by
  have:=F'.dn 0 i e0' es'[i] (by ext) h0' (Ab hle);ext
 obtain ⟨j,w',e',S'⟩:=qiu F'.len h0' hlt0;have hij:i<=j:=StepAt.idx (w':=w') (e':=es'[i]) F' S' (Ab hle) (by ext);have hd:w ∣ w':=F.dv i j w w' hij S.gw S'.gw;have hw':=F'.pos j w' S'.gw;have h2:=qju (t / w*w) hw';have h3:t / w*w+w<=t / w*w / w'*w'+w':=by
  have hdd:w ∣ t / w*w / w'*w'+w':=Int.dvd_add (Cv hd (qg5 _ w')) hd;have:=qke hw hdd (show t / w*w<t / w*w / w'*w'+w' by ext);have e:t / w*w / w*w=t / w*w:=qzm hw (qg5 t w) (by ext) (by ext);ext
 have all:∀ s,t / w*w<=s->s<t / w*w+w->StepAt ws es' s j w' e'/\(qcf ge' s↔qcf ge' (t / w*w))/\s / w'*w'=t / w*w / w'*w':=
  λs a b=>StepAt.cell F' S' (by ext) (by ext)
 by_cases hg:qcf ge' (t / w*w)
 ·refine ⟨none,λs a b o' C=>?_,λp h=>by cases h⟩
  obtain ⟨S2,g2,_⟩:=all s a b;have:s<e0':=by have:=F'.dn 0 j e0' e' (by ext) h0' S2.ge;have:=S2.lt;ext
  exact C.uniq h0' (CellOf.b h0' this (g2.mpr hg))
 ·refine ⟨some (t / w*w / w'*w',w'),λs a b o' C=>?_,λp h=>?_⟩
  ·obtain ⟨S2,g2,e2⟩:=all s a b
   have:=C.uniq h0' (qiv F' h0' S2 λg=>hg (g2.mp g));rw[this,e2]
  ·cases h
   exact ⟨h2.1,h3⟩
theorem qv4 {ge:Option Int} {t w s:Int} {o:Option (Int×Int)} (F:Fall ws es ge) (h0:es[0]?=some e0) (S:StepAt ws es t i w e) (hg:¬ qcf ge t) (h1:t / w*w<=s) (h2:s<t / w*w+w) (C:CellOf ws es ge s o):o=some (t / w*w,w):=by
 obtain ⟨S2,g2,e2⟩:=StepAt.cell F S h1 h2;have:=C.uniq h0 (qiv F h0 S2 λg=>hg (g2.mp g));rw[this,e2]
open PySem L2
theorem qiw {ps:List (Int×Int)} (G:Good ps):∀ (k i:Nat) p q,ps[i]?=some p->ps[i+k]?=some q->p.1<=q.1/\p.2 ∣ q.2
 | 0,i,p,q,hp,hq=>by rw[Nat.add_zero,hp] at hq;cases hq;exact ⟨Bi _,Int.dvd_refl _⟩
 | k+1,i,p,q,hp,hq=>by
  have hl:i+k<ps.length:=by have:=(Aj.mp hq).1;ext
  obtain ⟨a,b⟩:=qiw G k i p ps[i+k] hp (Ab hl);obtain ⟨c,d⟩:=G.next (i+k) ps[i+k] q (Ab hl) (by rw[Nat.add_assoc];exact hq);exact ⟨by ext,Cv b (Int.dvd_of_emod_eq_zero d)⟩
theorem Fall.of (P:Pr ps g) (d:Int):Fall (ps.map (·.2)) (ps.map λp=>cut d p.1 p.2) (g.map λz=>cut d z (lw ps)) where
 len:=by rw[Aa,Aa]
 pos:=λi w h=>by
  rw[An] at h;obtain ⟨p,hp,rfl⟩:=Ar.mp h;exact (P.good.each i p hp).2
 dv:=λi j a b hij ha hb=>by
  rw[An] at ha hb;obtain ⟨p,hp,rfl⟩:=Ar.mp ha;obtain ⟨q,hq,rfl⟩:=Ar.mp hb;exact (qiw P.good (j-i) i p q hp (by rw[show i+(j-i)=j by ext];exact hq)).2
 ml:=λi w e hw he=>by
  rw[An] at hw he;obtain ⟨p,hp,rfl⟩:=Ar.mp hw;rw[hp] at he;cases he;exact qg5 _ _
 gl:=λi w z hw hz=>by
  rw[An] at hw;obtain ⟨p,hp,rfl⟩:=Ar.mp hw;obtain ⟨y,rfl,rfl⟩:=Ar.mp hz;obtain ⟨q,hq,eq⟩:=P.last;have hi:=(Aj.mp hp).1;have:=(qiw P.good (ps.length-1-i) i p q hp (by rw[show i+(ps.length-1-i)=ps.length-1 by ext];exact hq)).2;rw[eq];exact Cv this (qg5 _ _)
 dn:=λi j a b hij ha hb=>by
  rw[An] at ha hb;obtain ⟨p,hp,rfl⟩:=Ar.mp ha;obtain ⟨q,hq,rfl⟩:=Ar.mp hb;obtain ⟨h1,h2⟩:=qiw P.good (j-i) i p q hp (by rw[show i+(j-i)=j by ext];exact hq);have wp:=(P.good.each i p hp).2;have wq:=(P.good.each j q hq).2;have a:=(qju (d-q.1) wq).1;exact qpy wp (Cv h2 (qg5 _ _)) (show (d-q.1) / q.2*q.2<=d-p.1 by ext)
def mx (i j:Int):Int:=if j>i then j else i
theorem qzn (i j:Int):i<=mx i j/\j<=mx i j/\(mx i j=i\/mx i j=j):=by unfold mx;split<;>ext
theorem qt0 {a b:List Int} {x:Int} (h:(List.zipWith mx a b)[i]?=some x):∃ u v,a[i]?=some u/\b[i]?=some v/\x=mx u v:=by
 rw[Ft] at h
 split at h
 ·rename_i u v hu hv;exact ⟨u,v,hu,hv,(Ax h).symm⟩
 ·cases h
theorem qt1 {g1 g2:Option Int} (h:qn2 g1 g2=some z):g1=some z\/g2=some z:=by
 cases g1 with
 | none=>exact .inr h
 | some i =>
  cases g2 with
  | none=>exact .inl h
  | some j =>
   simp only[qn2,Option.some.injEq] at h;rw[<- h]
   split
   ·exact .inr rfl
   ·exact .inl rfl
theorem Fall.max {a b:List Int} {g1 g2:Option Int} (F:Fall ws a g1) (G:Fall ws b g2):Fall ws (List.zipWith mx a b) (qn2 g1 g2) where
 len:=by rw[BP,<- F.len,<- G.len];ext
 pos:=F.pos
 dv:=F.dv
 ml:=λi w e hw he=>by
  obtain ⟨u,v,hu,hv,rfl⟩:=qt0 he
  rcases (qzn u v).2.2 with h|h
  ·rw[h];exact F.ml i w u hw hu
  ·rw[h];exact G.ml i w v hw hv
 gl:=λi w z hw hz=>by
  rcases qt1 hz with h|h
  ·exact F.gl i w z hw h
  ·exact G.gl i w z hw h
 dn:=λi j x y hij hx hy=>by
  obtain ⟨u,v,hu,hv,rfl⟩:=qt0 hx;obtain ⟨u',v',hu',hv',rfl⟩:=qt0 hy;have c:=F.dn i j u u' hij hu hu';have d:=G.dn i j v v' hij hv hv';have e:=qzn u v
  rcases (qzn u' v').2.2 with h|h<;>ext
open PySem L2
def qru (a:Option Int) (st:Int):Int:=match a with
 | none=>st
 | some x=>if st>x then st else x
def qmw (b:Option Int) (e:Int):Int:=match b with
 | none=>e
 | some y=>if e<y then e else y
def qgj (a b:Option Int) (st w:Int):Int:=if qmw b (st+w)-qru a st>0 then qmw b (st+w)-qru a st else 0
inductive qCa (vs:List V) (H:Hp) (Q:VK) (E_:XK):Prop
 | mk:∀ (a b:Option Int) (st w:Int),vs=[gv a,gv b,.int st,.int w]->Q (.int (qgj a b st w)) H->qCa vs H Q E_
inductive qpz (vs:List V) (H:Hp) (Q:VK) (E_:XK):Prop
 | mk:∀ (a b:Option Int) (st w:Int),vs=[gv a,gv b,.int st,.int w]->Q (.bl (decide (0<qgj a b st w) && decide (qgj a b st w<w))) H->qpz vs H Q E_
def qzo (e a:Option Int):Prop:=∃ z,e=some z/\∀ x,a=some x->x<z
structure St41 (i:Nat) (age w:Int) (ps:List (Int×Int)):Prop where
 len:ps.length=i
 a0:0<=age
 a1:age<=5*10 ^ 12+40*10 ^ 12*i
 w0:1<=w
 w1:w<=3*10 ^ 12*5 ^ i
 each:∀ (k:Nat) p,ps[k]?=some p->0<=p.1/\p.1<=age/\1<=p.2/\p.2<=w
 next:∀ (k:Nat) p q,ps[k]?=some p->ps[k+1]?=some q->p.1<=q.1/\q.2 % p.2=0
 last:∀ p,ps[ps.length-1]?=some p->w % p.2=0
theorem St41.zero {age w:Int} (h0:0<=age) (h1:age<=5*10 ^ 12) (w0:1<=w) (w1:w<=3*10 ^ 12):St41 0 age w []:=
 ⟨rfl,h0,by ext,w0,by ext,(λk p h=>by rw[D2] at h;cases h),(λk p q h=>by rw[D2] at h;cases h),(λp h=>by rw[D2] at h;cases h)⟩
theorem qoi {α:Type} {xs:List α} {x:α} {y:α} (h:(xs ++ [x])[k]?=some y):(k<xs.length/\xs[k]?=some y)\/(k=xs.length/\y=x):=by
 by_cases c:k<xs.length
 ·rw[Bn c] at h;exact .inl ⟨c,h⟩
 ·have hk:=(Aj.mp h).1
  rw[Ag,A9] at hk;have e:k=xs.length:=by ext
  rw[e,Ck (Ak _),Nat.sub_self] at h;cases h;exact .inr ⟨e,rfl⟩
theorem St41.step {age w:Int} (h:St41 i age w ps) (d0:0<=d) (d1:d<=40*10 ^ 12) (m1:1<=m) (m5:m<=5):St41 (i+1) (age+d) (w*m) (ps ++ [(age,w)]):=by
 have a0:=h.a0;have a1:=h.a1;have w0:=h.w0;have w1:=h.w1;have hw:w<=w*m:=by have:=Ap m1 (show 0<=w by ext);rwa [BU] at this
 refine ⟨by rw[Ag,h.len];rfl,by ext,(by have e:((i+1:Nat):Int)=(i:Int)+1:=(by ext);rw[e];ext),by ext,?_,?_,?_,?_⟩
 ·have:=Ap m5 (show 0<=w by ext)
  have e:(3*10 ^ 12*5 ^ (i+1):Int)=3*10 ^ 12*5 ^ i*5:=by rw[Int.pow_succ (5:Int) i,<- BK]
  rw[e];ext
 ·intro k p hk
  rcases qoi hk with ⟨_,hk'⟩|⟨_,rfl⟩
  ·have:=h.each k p hk'
   exact ⟨this.1,by ext,this.2.2.1,by ext⟩
  ·exact ⟨a0,by show age<=age+d;ext,w0,hw⟩
 ·intro k p q hp hq
  rcases qoi hq with ⟨c,hq'⟩|⟨c,rfl⟩
  ·rw[Bn (by ext)] at hp
   exact h.next k p q hp hq'
  ·rw[Bn (by ext)] at hp
   refine ⟨(h.each k p hp).2.1,h.last p ?_⟩;rw[<- c];exact hp
 ·intro p hp
  rcases qoi hp with ⟨c,_⟩|⟨_,rfl⟩
  ·rw[Ag,A9] at c;ext
  ·exact Int.mul_emod_right w m
structure qv5 (ps:List (Int×Int)) (g:Option Int):Prop where
 pr:Pr ps g
 each:∀ (k:Nat) p,ps[k]?=some p->p.1<=10 ^ 15/\p.2<=10 ^ 16
 gone:∀ z,g=some z->z<=10 ^ 15
theorem St41.dr {age w:Int} (h:St41 i age w ps) (h1:1<=i) (h5:i<=5) (hg:∀ z p,g=some z->ps[ps.length-1]?=some p->p.1<=z/\z<=10 ^ 15):qv5 ps g:=by
 have hl:=h.len;have a1:=h.a1;have w1:=h.w1;have w2:w<=10 ^ 16:=by
  have hc:i=1\/i=2\/i=3\/i=4\/i=5:=by ext
  rcases hc with rfl|rfl|rfl|rfl|rfl<;>ext
 obtain ⟨pl,hpl⟩:∃ pl,ps[ps.length-1]?=some pl:=⟨_,Ab (by ext)⟩;refine ⟨⟨⟨by ext,by ext,λk p hk=>⟨(h.each k p hk).1,(h.each k p hk).2.2.1⟩,h.next⟩,λk p hk=>?_,λp hp=>?_,λz hz=>?_⟩,λk p hk=>?_,λz hz=>(hg z pl hz hpl).2⟩
 ·have:=h.each k p hk
  exact ⟨this.1,by ext,this.2.2.1,by ext⟩
 ·intro z hz
  exact (hg z p hz hp).1
 ·have h1:=hg z pl hz hpl
  have h2:=h.each _ pl hpl;ext
 ·have:=h.each k p hk
  ext
def qt2:Sp:=λvs H Q _=>∃ c,vs=[.int c]/\∀ t l xs ps g H',Same H H'->H' t=some (.tup [.ref l,gv g])->H' l=some (.lst xs)->Pairs H' xs ps->qv5 ps g->Q (.ref t) H'
inductive qp0 (vs:List V) (H:Hp) (Q:VK) (E_:XK):Prop
 | mk:∀ (t l:Addr) (xs:List V) (ps:List (Int×Int)) (g:Option Int) (d:Int),vs=[.ref t,.int d]->H t=some (.tup [.ref l,gv g])->H l=some (.lst xs)->Pairs H xs ps->Pr ps g->Bd d->(∀ p H',New H H' p (.lst (eV ps g d))->Q (.ref p) H')->qp0 vs H Q E_
open PySem L2
def kZ (a b:Option Int) (r:List Int):Bool:=decide (qgj a b (r.getD 0 0) (r.getD 1 0)=r.getD 1 0)
def cZ (a b:Option Int) (r:List Int):Bool:=decide (0<qgj a b (r.getD 0 0) (r.getD 1 0)) && decide (qgj a b (r.getD 0 0) (r.getD 1 0)<r.getD 1 0)
def kY (a b:Option Int) (r:List Int):Bool:=decide (qgj a b (r.getD 0 0) 1=1)
def yH (r:List Int):List Int:=[r.getD 2 0,r.getD 1 0*r.getD 2 0,r.getD 1 0,r.getD 1 0]
def qmx (a b:Option Int) (Y Z:List (List Int)):List (List Int):=(Z.filter (kZ a b)).map (List.drop 2) ++ (Y.filter (kY a b)).map yH
def qix (a b:Option Int) (Z:List (List Int)):List (List Int):=Z.filter (cZ a b)
def ZSh (r:List Int):Prop:=∃ st w m t lo hi,r=[st,w,m,t,lo,hi]/\1<=w
def YSh (r:List Int):Prop:=∃ t v m,r=[t,v,m]/\qv0 (v,m)
theorem qEl {α:Type} {xs:List α} {p:α->Bool} {x:α} (h:xs[i]?=some x) (z:p x=true):(xs.take (i+1)).filter p=(xs.take i).filter p ++ [x]:=by
 rw[qbn xs i x h,Bm];simp[z]
theorem qEm {α:Type} {xs:List α} {p:α->Bool} {x:α} (h:xs[i]?=some x) (z:¬ p x=true):(xs.take (i+1)).filter p=(xs.take i).filter p:=by
 rw[qbn xs i x h,Bm];simp[z]
theorem qt3 {α:Type} (xs:List α) (p:α->Bool) (i:Nat):((xs.take i).filter p).length<=i:=AL (Bx _ _) (by rw[AU];ext)
def PartAt (H:Hp) (v:V) (r:List Int):Prop:=∃ p q,v=.ref p/\H p=some (.tup [.int (r.getD 0 0),.int (r.getD 1 0),.ref q])/\H q=some (.tup ((r.drop 2).map V.int))
def Parts (H:Hp) (xs:List V) (rs:List (List Int)):Prop:=Paired (PartAt H) xs rs
theorem PartAt.tupS (s:TupS H H') {v:V} {r:List Int}:PartAt H v r->PartAt H' v r:=fun ⟨p,q,e,h1,h2⟩=>⟨p,q,e,s _ _ h1,s _ _ h2⟩
theorem Parts.tupS {H H':Hp} (s:TupS H H'):∀ {xs:List V} {rs:List (List Int)},Parts H xs rs->Parts H' xs rs
 | _,_,.nil=>.nil
 | _,_,.cons r t=>.cons (r.tupS s) (Parts.tupS s t)
theorem Parts.same (s:Same H H') {rs:List (List Int)} (h:Parts H xs rs):Parts H' xs rs:=h.tupS λ_ _ e=>s _ _ e
theorem Parts.snoc {H:Hp} {v:V} {r:List Int} (h:PartAt H v r):∀ {xs:List V} {rs:List (List Int)},Parts H xs rs->Parts H (xs ++ [v]) (rs ++ [r])
 | _,_,.nil=>.cons h .nil
 | _,_,.cons q t=>.cons q (Parts.snoc h t)
theorem Parts.length {H:Hp}:∀ {xs:List V} {rs:List (List Int)},Parts H xs rs->xs.length=rs.length
 | _,_,.nil=>rfl
 | _,_,.cons _ t=>by simp[Parts.length t]
structure AOk (n:Nat) (s:Abs):Prop where
 y:∀ k x,s.y k=some x->∃ t v,k=[t,v]/\(-(10 ^ 40)<v/\v<10 ^ 40)/\1<=x/\x<=n*10 ^ 40
 z:∀ k x,s.z k=some x->∃ a w,k=[a,w]/\1<=w
theorem AOk.zero:AOk 0 qmr:=⟨λk x e=>(by cases e),λk x e=>(by cases e)⟩
theorem AOk.mono {n m:Nat} {s:Abs} (h:AOk n s) (e:n<=m):AOk m s:=⟨λk x ex=>by
 obtain ⟨t,v,e1,e2,e3,e4⟩:=h.y k x ex;exact ⟨t,v,e1,e2,e3,by ext⟩,h.z⟩
theorem AOk.put {n:Nat} {s:Abs} {cell:Int->Option (Int×Int)} (h:AOk n s) (hc:∀ a w,cell r.1=some (a,w)->w=0\/1<=w) (ok:qho r.2):AOk (n+1) (qb4 cell s r):=by
 have h':=h.mono (BE n);have ok1:(-(10 ^ 40)<r.2.1/\r.2.1<10 ^ 40)/\1<=r.2.2/\r.2.2<10 ^ 40:=ok;unfold qb4
 cases e:cell r.1 with
 | none=>exact h'
 | some p =>
  obtain ⟨a,w⟩:=p;dsimp only
  by_cases hw:w=0
  ·rw[Au hw]
   refine ⟨λk x ek=>?_,h'.z⟩;have ek:qcz s.y [r.1,r.2.1] _ k=some x:=ek
   by_cases hk:k=[r.1,r.2.1]
   ·rw[hk,qaq] at ek
    have ek:=Ax ek;exists r.1,r.2.1,hk,ok1.1
    cases e2:s.y [r.1,r.2.1] with
    | none=>rw[e2] at ek;simp at ek;ext
    | some y =>
     obtain ⟨_,_,_,_,h1,h2⟩:=h.y _ y e2;rw[e2] at ek
     simp at ek
     ext
   ·rw[qaw _ _ hk] at ek
    exact h'.y k x ek
  ·rw[Al hw]
   refine ⟨h'.y,λk x ek=>?_⟩;have ek:qcz s.z [a,w] _ k=some x:=ek
   by_cases hk:k=[a,w]
   ·exact ⟨a,w,hk,(hc a w e).resolve_left hw⟩
   ·rw[qaw _ _ hk] at ek
    exact h'.z k x ek
theorem AOk.of {cell:Int->Option (Int×Int)} (hc:∀ t a w,cell t=some (a,w)->w=0\/1<=w) (rs:List Rd3) (hr:∀ r∈rs,qho r.2):∀ n,n<=rs.length->AOk n (qa8 cell (rs.take n))
 | 0,_=>AOk.zero
 | n+1,h=>by
  have hn:n<rs.length:=by ext
  have e:rs[n]?=some rs[n]:=Ab hn;rw[qbn rs n _ e,qdv];exact (AOk.of hc rs hr n (by ext)).put (λa w=>hc _ a w) (hr _ (Cp hn))
theorem AOk.all {cell:Int->Option (Int×Int)} (hc:∀ t a w,cell t=some (a,w)->w=0\/1<=w) (rs:List Rd3) (hr:∀ r∈rs,qho r.2):AOk rs.length (qa8 cell rs):=by
 have:=AOk.of hc rs hr rs.length (Ak _)
 rwa [Aw] at this
theorem AOk.ysh {n:Nat} {s:Abs} (h:AOk n s) (hn:n<=1000):∀ r∈qbg s,YSh r:=by
 intro r hr;unfold qbg at hr
 split at hr
 ·rename_i hx
  obtain ⟨k,hk,rfl⟩:=Ah.mp hr;have hm:=(hx.choose_spec.mem k).mp hk
  cases e:s.y k with
  | none=>exact absurd e hm
  | some x =>
   obtain ⟨t,v,rfl,h1,h2,h3⟩:=h.y k x e;refine ⟨t,v,x,by unfold qf2;rw[e];rfl,?_⟩;unfold qv0;have h3':x<=1000*10 ^ 40:=by ext
   dsimp only;ext
 ·cases hr
theorem AOk.zsh {n:Nat} {s:Abs} (h:AOk n s):∀ r∈qa4 s,ZSh r:=by
 intro r hr;unfold qa4 at hr
 split at hr
 ·rename_i hx
  obtain ⟨k,hk,rfl⟩:=Ah.mp hr;have hm:=(hx.choose_spec.mem k).mp hk
  cases e:s.z k with
  | none=>exact absurd e hm
  | some x =>
   obtain ⟨a,w,rfl,h1⟩:=h.z k x e;exact ⟨a,w,x.1,x.2.1,x.2.2.1,x.2.2.2,by unfold qec;rw[e];rfl,h1⟩
 ·cases hr
open PySem L2
def j4 (h:HP4):List Int:=[h.1,h.2.1,h.2.2.1,h.2.2.2]
def mN (hs:List HP4):Int:=(hs.map λh=>h.1).sum
def mT (hs:List HP4):Int:=(hs.map λh=>h.2.1).sum
def HsOk (hs:List HP4):Prop:=hs.length<=60/\∀ h∈hs,1<=h.1/\h.1<10 ^ 42 /\ -(10 ^ 80)<h.2.1/\h.2.1<10 ^ 80
theorem qxs:∀ {hs:List HP4},(∀ h∈hs,1<=h.1/\h.1<10 ^ 42 /\ -(10 ^ 80)<h.2.1/\h.2.1<10 ^ 80)->(hs.length:Int)<=mN hs/\mN hs<=hs.length*10 ^ 42 /\ -(hs.length*10 ^ 80:Int)<=mT hs/\mT hs<=hs.length*10 ^ 80
 | [],_=>by simp[mN,mT]
 | h :: t,ok=>by
  have i:=qxs (hs:=t) λx hx=>ok x (Ad _ hx)
  have j:=ok h Ae;have e1:mN (h :: t)=h.1+mN t:=by simp[mN]
  have e2:mT (h :: t)=h.2.1+mT t:=by simp[mT]
  rw[e1,e2,AF];ext
theorem HsOk.b (h:HsOk hs):0<=mN hs/\mN hs<=10 ^ 44 /\ -(10 ^ 82)<=mT hs/\mT hs<=10 ^ 82/\(hs≠[]->1<=mN hs):=by
 have b:=qxs h.2;have l:=h.1;refine ⟨by ext,by ext,by ext,by ext,λz=>?_⟩;have:=Bp.mpr z;ext
def Low (a b t n:Int):Prop:=1<=b/\a*n=t*b/\Nat.gcd a.natAbs b.natAbs=1/\b<=n/\a.natAbs<=t.natAbs
theorem qCb {t n:Int} (hn:1<=n):Low (t / (Nat.gcd t.natAbs n.natAbs:Int)) (n / (Nat.gcd t.natAbs n.natAbs:Int)) t n/\1<=(Nat.gcd t.natAbs n.natAbs:Int)/\(Nat.gcd t.natAbs n.natAbs:Int)<=n:=by
 have hg:0<Nat.gcd t.natAbs n.natAbs:=Nat.gcd_pos_of_pos_right _ (by ext);have d1:(Nat.gcd t.natAbs n.natAbs:Int) ∣ t:=Int.ofNat_dvd_left.mpr (Nat.gcd_dvd_left _ _);have d2:(Nat.gcd t.natAbs n.natAbs:Int) ∣ n:=Int.ofNat_dvd_left.mpr (Nat.gcd_dvd_right _ _);have le:Nat.gcd t.natAbs n.natAbs<=n.natAbs:=Nat.le_of_dvd (by ext) (Nat.gcd_dvd_right _ _)
 generalize e:Nat.gcd t.natAbs n.natAbs=g at hg d1 d2 le ⊢
 obtain ⟨a,rfl⟩:=d1;obtain ⟨b,rfl⟩:=d2;have hg':(0:Int)<g:=by ext
 rw[ER _ (by ext),ER _ (by ext)];rw[Ez,Ez,Int.natAbs_natCast,Nat.gcd_mul_left] at e;have cop:Nat.gcd a.natAbs b.natAbs=1:=Nat.eq_of_mul_eq_mul_left hg (by rw[e,Nat.mul_one]);have bp:1<=b:=Cr λz=>by
  have:=Ap (show b<=0 by ext) (Int.le_of_lt hg');ext
 refine ⟨⟨bp,?_,cop,?_,?_⟩,by ext,by ext⟩
 ·rw[Int.mul_left_comm,BK]
 ·have:=AG (show (1:Int)<=g by ext) (show 0<=b by ext)
  rwa [FF] at this
 ·rw[Ez,Int.natAbs_natCast]
  have:=Nat.mul_le_mul_right a.natAbs hg
  rwa [Nat.succ_eq_add_one,Nat.zero_add,Nat.one_mul] at this
inductive qmy (vs:List V) (H:Hp) (Q:VK) (E_:XK):Prop
 | mk:∀ l xs hs,vs=[.ref l]->H l=some (.lst xs)->Tups H xs (hs.map j4)->hs.length<=200->(∀ H',Same H H'->Q (.int (mN hs)) H')->qmy vs H Q E_
inductive qkf (vs:List V) (H:Hp) (Q:VK) (E_:XK):Prop
 | mk:∀ l xs hs,vs=[.ref l]->H l=some (.lst xs)->Tups H xs (hs.map j4)->hs.length<=200->(∀ H',Same H H'->Q (.int (mT hs)) H')->qkf vs H Q E_
inductive qkg (vs:List V) (H:Hp) (Q:VK) (E_:XK):Prop
 | mk:∀ l xs hs,vs=[.ref l]->H l=some (.lst xs)->Tups H xs (hs.map j4)->hs.length<=200->hs≠[]->(∀ z H',Same H H'->z∈hs.map (λh=>h.2.2.1)->(∀ x∈hs.map (λh=>h.2.2.1),z<=x)->Q (.int z) H')->qkg vs H Q E_
inductive qkh (vs:List V) (H:Hp) (Q:VK) (E_:XK):Prop
 | mk:∀ l xs hs,vs=[.ref l]->H l=some (.lst xs)->Tups H xs (hs.map j4)->hs.length<=200->hs≠[]->(∀ z H',Same H H'->z∈hs.map (λh=>h.2.2.2)->(∀ x∈hs.map (λh=>h.2.2.2),x<=z)->Q (.int z) H')->qkh vs H Q E_
def qCc:Sp:=λvs H Q _=>∃ m n:Nat,vs=[.int m,.int n]/\Q (.int (Nat.gcd m n)) H
def qCd:Sp:=λvs H Q _=>∃ t n,vs=[.int t,.int n]/\1<=n/\n<10 ^ 45/\∀ p a b H',New H H' p (.tup [.int a,.int b])->Low a b t n->Q (.ref p) H'
def wd:Nat->Str
 | 0 => "many"
 | 1 => "sum"
 | 2 => "least"
 | 3 => "greatest"
 | _ => "mean"
def qFe (a b c d e:Addr):Nat->Addr
 | 0=>a
 | 1=>b
 | 2=>c
 | 3=>d
 | _=>e
open PySem L2
def wOf (h:HP4):List (Int×Int):=qlr h.1 h.2.1 h.2.2.1 h.2.2.2
def qeo (ps:List HP4):List (Int×Int):=ps.flatMap wOf
def PsOk (ps:List HP4):Prop:=(qeo ps).length<64/\HsOk ps/\∀ h∈ps,qjt h.1 h.2.1 h.2.2.1 h.2.2.2/\HBd h.1 h.2.2.1 h.2.2.2
def r2 (p:Int×Int):List Int:=[p.1,p.2]
def Rises (rs:List (Int×Int)):Prop:=(rs.map r2).Pairwise λk l=>blt l k=false
theorem qt4 {H:Hp}:∀ {xs:List V} {rs:List (Int×Int)},Pairs H xs rs->TupsH H xs (rs.map r2)
 | _,_,.nil=>.nil
 | _,_,.cons r t=>.cons r (qt4 t)
theorem qki {H:Hp}:∀ {xs:List V} {rs:List (Int×Int)},TupsH H xs (rs.map r2)->Pairs H xs rs
 | [],[],_=>.nil
 | _ :: _,_ :: _,.cons r t=>.cons r (qki t)
theorem qzp (h:ms.Perm (rs.map r2)):∃ qs:List (Int×Int),ms=qs.map r2/\qs.Perm rs:=by
 exists ms.map λm=>(m.getD 0 0,m.getD 1 0),?_
 ·rw[By]
  have:∀ m∈ms,(r2 ∘ λm=>(m.getD 0 0,m.getD 1 0)) m=m:=λm hm=>by
   obtain ⟨p,_,rfl⟩:=Ah.mp (h.mem_iff.mp hm)
   rfl
  exact (DH ms).symm.trans (Bc λm hm=>(this m hm).symm)
 ·have:=h.map λm=>(m.getD 0 0,m.getD 1 0)
  rw[By] at this;have e:rs.map ((λm:List Int=>(m.getD 0 0,m.getD 1 0)) ∘ r2)=rs:=by
   conv=>rhs;rw[<- DH rs]
   exact Bc λp _=>rfl
  rw[e] at this;exact this
inductive qp1 (vs:List V) (H:Hp) (Q:VK) (E_:XK):Prop
 | mk:∀ l xs ps,vs=[.ref l]->H l=some (.lst xs)->Tups H xs (ps.map j4)->PsOk ps->(∀ p ys rs H',Same H H'->H' p=some (.lst ys)->Pairs H' ys rs->rs.Perm (qeo ps)->Rises rs->Q (.ref p) H')->qp1 vs H Q E_
inductive qmz (vs:List V) (H:Hp) (Q:VK) (E_:XK):Prop
 | mk:∀ v n t b,vs=[.int v,.int n,.int t,.bl b]->CMulB v n->Q (.bl (if b=true then decide (t<v*n) else decide (v*n<t))) H->qmz vs H Q E_
def qco (b:Bool) (s:Int×Int) (r:Int×Int):Int×Int:=if s.1=0\/(if b=true then decide (s.2<r.1*s.1) else decide (r.1*s.1<s.2))=true then (s.1+r.2,s.2+r.1*r.2) else s
theorem qp2 (b:Bool) (s r:Int×Int):qco b s r=(s.1+r.2,s.2+r.1*r.2)\/(qco b s r=s/\s.1≠0):=by
 unfold qco
 by_cases h:s.1=0\/(if b=true then decide (s.2<r.1*s.1) else decide (r.1*s.1<s.2))=true
 ·exact .inl (Au h)
 ·exact .inr ⟨Al h,λz=>h (.inl z)⟩
def mE (b:Bool) (hs:List HP4) (rs:List (Int×Int)):Int×Int:=rs.foldl (qco b) (mN hs,mT hs)
def RB (p:Int×Int):Prop:=(-(10 ^ 45)<p.1/\p.1<10 ^ 45)/\1<=p.2/\p.2<10 ^ 43
inductive qkj (vs:List V) (H:Hp) (Q:VK) (E_:XK):Prop
 | mk:∀ l r xs ys hs rs b,vs=[.ref l,.ref r,.bl b]->H l=some (.lst xs)->Tups H xs (hs.map j4)->HsOk hs->H r=some (.lst ys)->Pairs H ys rs->rs.length<64->(∀ p∈rs,RB p)->(hs≠[]\/rs≠[])->(∀ p x y H',Same H H'->H' p=some (.tup [.int x,.int y])->Low x y (mE b hs rs).2 (mE b hs rs).1->Q (.ref p) H')->qkj vs H Q E_
theorem qCe {b:Bool} {hs:List HP4} (ok:HsOk hs) {rs:List (Int×Int)} (hr:∀ p∈rs,RB p):∀ i,i<=rs.length->0<=(mE b hs (rs.take i)).1/\(mE b hs (rs.take i)).1<=10 ^ 44+i*10 ^ 43/\(hs≠[]\/1<=i->1<=(mE b hs (rs.take i)).1)
 | 0,_=>by
  obtain ⟨b0,b1,_,_,b4⟩:=ok.b;refine ⟨b0,?_,λz=>b4 (z.resolve_right (by ext))⟩
  show mN hs<=_
  ext
 | i+1,h=>by
  obtain ⟨c0,c1,c2⟩:=qCe (b:=b) ok hr i (by ext);have e:rs[i]?=some (rs[i]'(by ext)):=Ab (by ext);have hp:=hr _ (Cp (show i<rs.length by ext));have es:mE b hs (rs.take (i+1))=qco b (mE b hs (rs.take i)) (rs[i]'(by ext)):=by
   unfold mE;rw[qbn rs i _ e,B5];rfl
  rw[es];unfold RB at hp;have e43:((i+1:Nat):Int)*10 ^ 43=(i:Int)*10 ^ 43+10 ^ 43:=by ext
  rcases qp2 b (mE b hs (rs.take i)) (rs[i]'(by ext)) with z|⟨z,z2⟩
  ·rw[z]
   refine ⟨?_,?_,λ_=>?_⟩
   ·show 0<=(mE b hs (rs.take i)).1+_;ext
   ·show (mE b hs (rs.take i)).1+_<=_;ext
   ·show 1<=(mE b hs (rs.take i)).1+_;ext
  ·rw[z]
   exact ⟨c0,by ext,λ_=>by ext⟩
open PySem L2
theorem qv6 {v:Int} (hB:1<=B):(B-A % B)*fA (A / B) v+(A % B)*fA (A / B+1) v=if A<B*v then B*v-A else 0:=by
 have e:=DE A B;have r0:=Bh A (show B≠0 by ext);have r1:=A7 A (show 0<B by ext)
 generalize A / B=q at e ⊢
 generalize A % B=r at e r0 r1 ⊢
 by_cases h:v<=q
 ·have f1:fA q v=0:=by unfold fA;rw[Al (by ext)]
  have f2:fA (q+1) v=0:=by unfold fA;rw[Al (by ext)]
  have:=Ap h (show 0<=B by ext);rw[f1,f2,Al (by ext)]
  simp
 ·have f1:fA q v=v-q:=by unfold fA;rw[Au (by ext)]
  have f2:fA (q+1) v=v-(q+1):=by
   unfold fA
   split
   ·rfl
   ·ext
  have hm:=Ap (show q+1<=v by ext) (show 0<=B by ext);rw[AQ,BU] at hm;have x1:(B-r)*(v-q)+r*(v-(q+1))=B*v-A:=by
   rw[<- e,Ba,A8,A8,A8,AQ,BU];ext
  rw[f1,f2,x1,Au (by ext)]
open PySem L2
def hg (A B v:Int):Int:=if A<B*v then B*v-A else 0
def sumH (A B:Int):List (Int×Int)->Int
 | []=>0
 | p :: r=>hg A B p.1*p.2+sumH A B r
def mF (b:Bool) (s:Int×Int) (rs:List (Int×Int)):Int×Int:=rs.foldl (qco b) s
theorem qli (s r:Int×Int):(qco true s r=(s.1+r.2,s.2+r.1*r.2)/\(s.1=0\/s.2<r.1*s.1))\/(qco true s r=s/\s.1≠0/\r.1*s.1<=s.2):=by
 unfold qco
 by_cases h:s.1=0\/(if true=true then decide (s.2<r.1*s.1) else decide (r.1*s.1<s.2))=true
 ·refine .inl ⟨Au h,h.imp id λz=>?_⟩
  simpa using z
 ·refine .inr ⟨Al h,λz=>h (.inl z),?_⟩
  have:¬ (if true=true then decide (s.2<r.1*s.1) else decide (r.1*s.1<s.2))=true:=λz=>h (.inr z)
  simp at this
  exact this
theorem qzq {v:Int}:∀ (rs:List (Int×Int)) (s:Int×Int),0<=s.1->s.2<=v*s.1->(∀ p∈rs,p.1<=v/\1<=p.2)->(mF true s rs).2<=v*(mF true s rs).1
 | [],s,_,h,_=>h
 | p :: r,s,h0,h,hr=>by
  have hp:=hr p Ae
  show (mF true (qco true s p) r).2<=v*(mF true (qco true s p) r).1
  rcases qli s p with ⟨e,_⟩|⟨e,_⟩
  ·rw[e]
   refine qzq r _ (by show 0<=s.1+p.2;ext) ?_ λq hq=>hr q (Ad _ hq)
   show s.2+p.1*p.2<=v*(s.1+p.2)
   have:=AG hp.1 (show 0<=p.2 by ext);rw[AQ];ext
  ·rw[e]
   exact qzq r s h0 h λq hq=>hr q (Ad _ hq)
theorem qzr:∀ (rs:List (Int×Int)) (s:Int×Int),1<=s.1->(∀ p∈rs,1<=p.2)->s.1<=(mF true s rs).1/\(mF true s rs).1*s.2<=(mF true s rs).2*s.1
 | [],s,_,_=>⟨Bi _,by show s.1*s.2<=s.2*s.1;rw[Bf];exact Bi _⟩
 | p :: r,s,h1,hr=>by
  have hp:=hr p Ae
  show s.1<=(mF true (qco true s p) r).1/\(mF true (qco true s p) r).1*s.2<=(mF true (qco true s p) r).2*s.1
  rcases qli s p with ⟨e,c⟩|⟨e,_⟩
  ·rw[e]
   obtain ⟨i1,i2⟩:=qzr r (s.1+p.2,s.2+p.1*p.2) (by show 1<=s.1+p.2;ext) λq hq=>hr q (Ad _ hq)
   generalize mF true (s.1+p.2,s.2+p.1*p.2) r=f at i1 i2 ⊢
   obtain ⟨B,A⟩:=f;have i1:s.1+p.2<=B:=i1;have i2:B*(s.2+p.1*p.2)<=A*(s.1+p.2):=i2;have c2:s.2<p.1*s.1:=c.resolve_left (by ext);refine ⟨by show s.1<=B;ext,?_⟩
   show B*s.2<=A*s.1
   have k1:p.2*s.2<=p.2*(p.1*s.1):=Ap (by ext) (by ext);have k2:s.2*(s.1+p.2)<=(s.2+p.1*p.2)*s.1:=by
    have e1:s.2*(s.1+p.2)=s.2*s.1+p.2*s.2:=by rw[AQ,Bf s.2 p.2]
    have e2:(s.2+p.1*p.2)*s.1=s.2*s.1+p.2*(p.1*s.1):=by rw[DJ,Bf p.1 p.2,BK]
    ext
   have k3:=Ap k2 (show 0<=B by ext);have k4:=AG i2 (show 0<=s.1 by ext);have hpos:0<s.1+p.2:=by ext
   refine EA ?_ hpos;have e3:B*s.2*(s.1+p.2)=B*(s.2*(s.1+p.2)):=BK _ _ _;have e4:A*s.1*(s.1+p.2)=A*(s.1+p.2)*s.1:=by rw[BK,Bf s.1,<- BK]
   have e5:B*((s.2+p.1*p.2)*s.1)=B*(s.2+p.1*p.2)*s.1:=(BK _ _ _).symm;rw[e3,e4];rw[e5] at k3;exact Dv k3 k4
  ·rw[e]
   exact qzr r s h1 λq hq=>hr q (Ad _ hq)
theorem qp3:∀ (rs:List (Int×Int)) (s:Int×Int),0<=s.1->(s.1=0->s.2=0)->(∀ p∈rs,1<=p.2)->rs.Pairwise (λp q=>q.1<=p.1)->1<=(mF true s rs).1->sumH (mF true s rs).2 (mF true s rs).1 rs=(mF true s rs).2*s.1-(mF true s rs).1*s.2
 | [],s,_,_,_,_,_=>by
  show (0:Int)=s.2*s.1-s.1*s.2
  rw[Bf];ext
 | p :: r,s,h0,hz,hr,pw,hB=>by
  have hp:=hr p Ae;rw[List.pairwise_cons] at pw;have hr':∀ q∈r,1<=q.2:=λq hq=>hr q (Ad _ hq)
  have eF:mF true s (p :: r)=mF true (qco true s p) r:=rfl;rw[eF] at hB ⊢
  rcases qli s p with ⟨e,c⟩|⟨e,c1,c2⟩
  ·rw[e] at hB ⊢
   have ih:=qp3 r (s.1+p.2,s.2+p.1*p.2) (by show 0<=s.1+p.2;ext) (λz=>by have z:s.1+p.2=0:=z;ext) hr' pw.2 hB;have le:=qzq (v:=p.1) r (s.1+p.2,s.2+p.1*p.2) (by show 0<=s.1+p.2;ext) (by
    show s.2+p.1*p.2<=p.1*(s.1+p.2)
    rw[AQ]
    rcases c with c|c
    ·have:=hz c
     rw[c,Int.mul_zero];ext
    ·ext) λq hq=>⟨pw.1 q hq,hr' q hq⟩
   generalize mF true (s.1+p.2,s.2+p.1*p.2) r=f at ih le hB ⊢
   obtain ⟨B,A⟩:=f;have ih:sumH A B r=A*(s.1+p.2)-B*(s.2+p.1*p.2):=ih;have le:A<=p.1*B:=le
   show hg A B p.1*p.2+sumH A B r=A*s.1-B*s.2
   have eh:hg A B p.1=B*p.1-A:=by
    unfold hg;rw[Bf p.1 B] at le
    split
    ·rfl
    ·ext
   rw[eh,ih,Ba,AQ,AQ,<- BK B p.1 p.2];ext
  ·rw[e] at hB ⊢
   have ih:=qp3 r s h0 hz hr' pw.2 hB;obtain ⟨u1,u2⟩:=qzr r s (by ext) hr'
   generalize mF true s r=f at ih u1 u2 hB ⊢
   obtain ⟨B,A⟩:=f;have ih:sumH A B r=A*s.1-B*s.2:=ih;have u2:B*s.2<=A*s.1:=u2;have hB:1<=B:=hB
   show hg A B p.1*p.2+sumH A B r=A*s.1-B*s.2
   have eh:hg A B p.1=0:=by
    unfold hg;rw[Al];intro z;have k1:=Ap c2 (show 0<=B by ext);have k2:A*s.1<B*p.1*s.1:=Es z (show 0<s.1 by ext);rw[<- BK] at k1;ext
   rw[eh,ih,Int.zero_mul];ext
open PySem L2
theorem qdx {A B:Int} (hB:1<=B):∀ rs:List (Int×Int),sumH A B rs=(B-A % B)*above (A / B) rs+(A % B)*above (A / B+1) rs
 | []=>by simp[sumH,above]
 | p :: r=>by
  have ih:=qdx (A:=A) hB r;have e:=qv6 (A:=A) (v:=p.1) hB
  show hg A B p.1*p.2+sumH A B r=(B-A % B)*(fA (A / B) p.1*p.2+above (A / B) r)+(A % B)*(fA (A / B+1) p.1*p.2+above (A / B+1) r)
  have e2:hg A B p.1=(B-A % B)*fA (A / B) p.1+(A % B)*fA (A / B+1) p.1:=e.symm;rw[e2,ih,DJ,AQ,AQ,<- BK,<- BK];ext
theorem HeapOf.sumH {t:Int} (hB:1<=B) (h:HeapOf rs m t lo hi) (ok:qbq rs):TB.sumH A B rs<=TB.sumH A B (qlr m t lo hi):=by
 rw[qdx hB,qdx hB];have a1:=h.above ok (A / B);have a2:=h.above ok (A / B+1);have r0:=Bh A (show B≠0 by ext);have r1:=A7 A (show 0<B by ext);have g1:=Ap a1 (show 0<=B-A % B by ext);have g2:=Ap a2 r0;ext
inductive SubR:List (Int×Int)->List (Int×Int)->Prop
 | nil:SubR [] []
 | skip {S G:List (Int×Int)} {p:Int×Int}:SubR S G->SubR S (p :: G)
 | take {S G:List (Int×Int)} {v c d:Int}:1<=d->d<=c->SubR S G->SubR ((v,d) :: S) ((v,c) :: G)
theorem qFf (A B v:Int):0<=hg A B v/\B*v-A<=hg A B v:=by unfold hg;split<;>ext
theorem SubR.le {A B:Int}:∀ {S G:List (Int×Int)},SubR S G->(∀ p∈G,1<=p.2)->B*rT S-A*rN S<=sumH A B G
 | _,_,.nil,_=>by simp[rT,rN,qml,qj9,sumH]
 | _,_,.skip (S:=S) (G:=G) (p:=p) h,ok=>by
  have ih:=h.le (A:=A) (B:=B) λq hq=>ok q (Ad _ hq)
  have hp:=ok p Ae;have:=DI (qFf A B p.1).1 (show 0<=p.2 by ext)
  show _<=hg A B p.1*p.2+sumH A B G
  ext
 | _,_,.take (S:=S) (G:=G) (v:=v) (c:=c) (d:=d) h1 h2 h,ok=>by
  have ih:=h.le (A:=A) (B:=B) λq hq=>ok q (Ad _ hq)
  have k0:=qFf A B v;have k1:=AG k0.2 (show 0<=d by ext);have k2:=Ap h2 k0.1
  show B*rT ((v,d) :: S)-A*rN ((v,d) :: S)<=hg A B v*c+sumH A B G
  rw[qbe,qbc]
  show B*(v*d+rT S)-A*(d+rN S)<=_
  rw[Ba] at k1;rw[AQ,AQ,<- BK];ext
theorem SubR.n (h:SubR S G) (ok:∀ p∈G,1<=p.2):0<=rN S/\rN S<=rN G:=by
 induction h with
 | nil=>simp[rN,qj9]
 | skip h ih =>
  have:=ih λq hq=>ok q (Ad _ hq)
  have hp:=ok _ Ae;rw[qbc];ext
 | take h1 h2 h ih =>
  have:=ih λq hq=>ok q (Ad _ hq)
  rw[qbc,qbc];dsimp only;ext
theorem SubR.v (h:SubR S G):∀ x∈qci S,x∈qci G:=by
 induction h with
 | nil=>exact λx hx=>hx
 | skip h ih=>exact λx hx=>Ad _ (ih x hx)
 | take h1 h2 h ih =>
  intro x hx
  rcases Av.mp hx with z|z
  ·exact Av.mpr (.inl z)
  ·exact Ad _ (ih x z)
open PySem L2
def ng (p:Int×Int):Int×Int:=(-p.1,p.2)
def sumL (A B:Int) (rs:List (Int×Int)):Int:=sumH (-A) B (rs.map ng)
theorem qf4 (c:Int):∀ rs:List (Int×Int),above c (rs.map ng)=below (-c) rs
 | []=>rfl
 | p :: r=>by
  show fA c (-p.1)*p.2+above c (r.map ng)=fB (-c) p.1*p.2+below (-c) r
  rw[qf4 c r];have:fA c (-p.1)=fB (-c) p.1:=by unfold fA fB;split<;>split<;>ext
  rw[this]
theorem HeapOf.sumL {t:Int} (hB:1<=B) (h:HeapOf rs m t lo hi) (ok:qbq rs):TB.sumL A B rs<=TB.sumL A B (qlr m t lo hi):=by
 unfold TB.sumL;rw[qdx hB,qdx hB,qf4,qf4,qf4,qf4];have a1:=h.below ok (-(-A / B));have a2:=h.below ok (-(-A / B+1));have r0:=Bh (-A) (show B≠0 by ext);have r1:=A7 (-A) (show 0<B by ext);have g1:=Ap a1 (show 0<=B - -A % B by ext);have g2:=Ap a2 r0;ext
theorem qCf:∀ rs:List (Int×Int),rN (rs.map ng)=rN rs
 | []=>rfl
 | p :: r=>by rw[AR,qbc,qbc,qCf r];rfl
theorem qCg:∀ rs:List (Int×Int),rT (rs.map ng) = -rT rs
 | []=>rfl
 | p :: r=>by
  rw[AR,qbe,qbe,qCg r]
  show -p.1*p.2+_=_
  rw[CD];ext
theorem SubR.ng (h:SubR S G):SubR (S.map ng) (G.map ng):=by
 induction h with
 | nil=>exact .nil
 | skip _ ih=>exact .skip ih
 | take h1 h2 _ ih=>exact .take h1 h2 ih
theorem qCh (ok:∀ p∈G,1<=p.2):∀ p∈G.map ng,1<=p.2:=λp hp=>by
 obtain ⟨q,hq,rfl⟩:=Ah.mp hp;exact ok q hq
theorem SubR.ge (h:SubR S G) (ok:∀ p∈G,1<=p.2):-(sumL A B G)<=B*rT S-A*rN S:=by
 have:=h.ng.le (A:=-A) (B:=B) (qCh ok);rw[qCf,qCg,Int.mul_neg,CD] at this;unfold sumL;ext
theorem qlj (A B:Int):∀ xs ys:List (Int×Int),sumH A B (xs ++ ys)=sumH A B xs+sumH A B ys
 | [],ys=>by simp[sumH]
 | p :: r,ys=>by
  show hg A B p.1*p.2+sumH A B (r ++ ys)=hg A B p.1*p.2+sumH A B r+sumH A B ys
  rw[qlj A B r ys];ext
theorem qf5 {xs ys:List (Int×Int)} (h:xs.Perm ys):sumH A B xs=sumH A B ys:=by
 induction h with
 | nil=>rfl
 | cons p _ ih=>show hg A B p.1*p.2+_=hg A B p.1*p.2+_;rw[ih]
 | swap p q r=>show hg A B q.1*q.2+(hg A B p.1*p.2+sumH A B r)=hg A B p.1*p.2+(hg A B q.1*q.2+sumH A B r);ext
 | trans _ _ i j=>exact i.trans j
theorem qiy {xs ys:List (Int×Int)} (h:xs.Perm ys):sumL A B xs=sumL A B ys:=qf5 (h.map ng)
theorem qv7 (A B:Int) (xs ys:List (Int×Int)):sumL A B (xs ++ ys)=sumL A B xs+sumL A B ys:=by
 unfold sumL;rw[Ao,qlj]
theorem qoj {xs ys:List (Int×Int)} (h:xs.Perm ys):rN xs=rN ys:=by
 induction h with
 | nil=>rfl
 | cons p _ ih=>rw[qbc,qbc,ih]
 | swap p q r=>rw[qbc,qbc,qbc,qbc];ext
 | trans _ _ i j=>exact i.trans j
theorem SubR.none:∀ {G:List (Int×Int)},SubR [] G
 | []=>.nil
 | _ :: _=>.skip SubR.none
theorem SubR.filter (c:Int×Int->Bool):∀ {G:List (Int×Int)},(∀ p∈G,1<=p.2)->SubR (G.filter c) G
 | [],_=>.nil
 | p :: r,ok=>by
  have ih:=SubR.filter c (G:=r) λq hq=>ok q (Ad _ hq)
  by_cases z:c p=true
  ·rw[Bz z]
   exact .take (ok p Ae) (Bi _) ih
  ·rw[CC z]
   exact .skip ih
def PsC (ps:List HP4):Prop:=∀ h∈ps,qjt h.1 h.2.1 h.2.2.1 h.2.2.2
theorem qzs {h:HP4} (c:qjt h.1 h.2.1 h.2.2.1 h.2.2.2):∀ p∈wOf h,1<=p.2:=λp hp=>by
 obtain ⟨i,hi⟩:=Fs.mp hp;exact ((WRow.of c).ok hi).1
theorem qiz {ps:List HP4} (c:PsC ps):∀ p∈qeo ps,1<=p.2:=λp hp=>by
 obtain ⟨h,hh,hw⟩:=CQ.mp hp;exact qzs (c h hh) p hw
theorem qm0 (h:HP4) (ps:List HP4):qeo (h :: ps)=wOf h ++ qeo ps:=rfl
theorem qp4 (ps qs:List HP4):qeo (ps ++ qs)=qeo ps ++ qeo qs:=by unfold qeo;rw[B7]
theorem qzt (h:HP4) (ps:List HP4):mN (h :: ps)=h.1+mN ps:=by simp[mN]
theorem qt5 (ps qs:List HP4):mN (ps ++ qs)=mN ps+mN qs:=by simp[mN]
theorem qxt (ps qs:List HP4):mT (ps ++ qs)=mT ps+mT qs:=by simp[mT]
theorem qt6:∀ {ps:List HP4},PsC ps->rN (qeo ps)=mN ps
 | [],_=>rfl
 | h :: ps,c=>by
  rw[qm0,qip,qt6 (ps:=ps) λx hx=>c x (Ad _ hx),qzt];have:=(WRow.of (c h Ae)).heap.m
  show rN (qlr _ _ _ _)+_=_
  ext
structure Sb (ps:List HP4) (n t:Int):Prop where
 n0:0<=n
 n1:n<=mN ps
 up:∀ A B,1<=B->B*t-A*n<=sumH A B (qeo ps)
 lo:∀ A B,1<=B -> -(sumL A B (qeo ps))<=B*t-A*n
theorem Sb.row {ps:List HP4} (c:PsC ps) (pm:G.Perm (qeo ps)) (h:SubR S G):Sb ps (rN S) (rT S):=by
 have ok:∀ p∈G,1<=p.2:=λp hp=>qiz c p (pm.mem_iff.mp hp)
 have hn:=h.n ok;refine ⟨hn.1,?_,λA B _=>?_,λA B _=>?_⟩
 ·rw[<- qt6 c,<- qoj pm];exact hn.2
 ·rw[<- qf5 pm];exact h.le ok
 ·rw[<- qiy pm];exact h.ge ok
theorem Sb.nil {ps:List HP4} (c:PsC ps):Sb ps 0 0:=Sb.row (S:=[]) c (List.Perm.refl _) SubR.none
theorem Sb.heap {h:HP4} (o:HeapOf rs h.1 h.2.1 h.2.2.1 h.2.2.2) (ok:qbq rs) (s:SubR S rs):Sb [h] (rN S) (rT S):=by
 have ok1:∀ p∈rs,1<=p.2:=λp hp=>(ok p hp).2.1
 have hn:=s.n ok1;have ew:qeo [h]=wOf h:=by unfold qeo;simp
 have em:mN [h]=h.1:=by simp[mN]
 refine ⟨hn.1,?_,λA B hB=>?_,λA B hB=>?_⟩
 ·rw[em,o.m];exact hn.2
 ·rw[ew];exact Dv (s.le ok1) (o.sumH hB ok)
 ·rw[ew]
  have h1:=s.ge (A:=A) (B:=B) ok1;have h2:=o.sumL (A:=A) hB ok;have h2:TB.sumL A B rs<=TB.sumL A B (wOf h):=h2;ext
theorem Sb.add {ps qs:List HP4} {n t n' t':Int} (a:Sb ps n t) (b:Sb qs n' t'):Sb (ps ++ qs) (n+n') (t+t'):=by
 have a0:=a.n0;have a1:=a.n1;have b0:=b.n0;have b1:=b.n1;refine ⟨by ext,by rw[qt5];ext,λA B hB=>?_,λA B hB=>?_⟩
 ·have h1:=a.up A B hB
  have h2:=b.up A B hB;rw[qp4,qlj,AQ,AQ];ext
 ·have h1:=a.lo A B hB
  have h2:=b.lo A B hB;rw[qp4,qv7,AQ,AQ];ext
theorem qp5 (b:Bool):∀ (rs:List (Int×Int)) (s:Int×Int),(∀ p∈rs,1<=p.2)->∃ S,SubR S rs/\mF b s rs=(s.1+rN S,s.2+rT S)
 | [],s,_=>⟨[],.nil,by show s=(s.1+0,s.2+0);rw[D5,D5]⟩
 | p :: r,s,ok=>by
  have ok':∀ q∈r,1<=q.2:=λq hq=>ok q (Ad _ hq)
  have e:mF b s (p :: r)=mF b (qco b s p) r:=rfl
  rcases qp2 b s p with z|⟨z,_⟩
  ·obtain ⟨S,h,e2⟩:=qp5 b r (s.1+p.2,s.2+p.1*p.2) ok'
   exists p :: S,.take (ok p Ae) (Bi _) h;rw[e,z,e2,qbc,qbe]
   show (s.1+p.2+rN S,s.2+p.1*p.2+rT S)=_
   rw[ES,ES]
  ·obtain ⟨S,h,e2⟩:=qp5 b r s ok'
   exact ⟨S,.skip h,by rw[e,z,e2]⟩
theorem qv8 (s p:Int×Int):qco false s p=((qco true (s.1,-s.2) (ng p)).1,-(qco true (s.1,-s.2) (ng p)).2):=by
 unfold qco ng;dsimp only;have e:(if (false=true) then decide (s.2<p.1*s.1) else decide (p.1*s.1<s.2))=(if (true=true) then decide (-s.2 < -p.1*s.1) else decide (-p.1*s.1 < -s.2)):=by
  rw[Al (by decide),Au rfl,B2,AV,AV,CD];ext
 rw[e]
 generalize (if (true=true) then decide (-s.2 < -p.1*s.1) else decide (-p.1*s.1 < -s.2))=c
 by_cases h:s.1=0\/c=true
 ·rw[Au h,Au h,CD]
  show (s.1+p.2,s.2+p.1*p.2)=(s.1+p.2,-(-s.2 + -(p.1*p.2)))
  rw[show -(-s.2 + -(p.1*p.2))=s.2+p.1*p.2 by ext]
 ·rw[Al h,Al h]
  show s=(s.1,- -s.2)
  rw[El]
theorem qCi:∀ (rs:List (Int×Int)) (s:Int×Int),mF false s rs=((mF true (s.1,-s.2) (rs.map ng)).1,-(mF true (s.1,-s.2) (rs.map ng)).2)
 | [],s=>by show s=(s.1,- -s.2);rw[El]
 | p :: r,s=>by
  have e:mF false s (p :: r)=mF false (qco false s p) r:=rfl;have e2:mF true (s.1,-s.2) ((p :: r).map ng)=mF true (qco true (s.1,-s.2) (ng p)) (r.map ng):=rfl;rw[e,e2,qCi r,qv8];dsimp only;rw[El]
theorem Rises.val (h:Rises rs):rs.Pairwise λp q=>p.1<=q.1:=by
 have:=BF.mp h;refine this.imp fun {p q} h=>?_
 have h:blt [q.1,q.2] [p.1,p.2]=false:=h;unfold blt at h
 split at h
 ·ext
 ·have:=of_decide_eq_false h
  ext
theorem qFg (b:Bool) (hs:List HP4) (rs:List (Int×Int)):mE b hs rs=mF b (mN hs,mT hs) rs:=rfl
theorem qv9 {ps:List HP4} {n t:Int} (pc:PsC ps) (pm:rs.Perm (qeo ps)) (rise:Rises rs) (h0:0<=mN hs) (hz:mN hs=0->mT hs=0) (h1:1<=(mE true hs rs.reverse).1) (s:Sb ps n t):(mT hs+t)*(mE true hs rs.reverse).1<=(mE true hs rs.reverse).2*(mN hs+n):=by
 rw[qFg] at h1 ⊢;have ok:∀ p∈rs.reverse,1<=p.2:=λp hp=>qiz pc p (pm.mem_iff.mp (Dp.mp hp))
 have e:=qp3 rs.reverse (mN hs,mT hs) h0 hz ok (List.pairwise_reverse.mpr rise.val) h1
 generalize mF true (mN hs,mT hs) rs.reverse=f at e h1 ⊢
 obtain ⟨B,A⟩:=f;have e:sumH A B rs.reverse=A*mN hs-B*mT hs:=e;rw[qf5 ((List.reverse_perm rs).trans pm)] at e;have u:=s.up A B h1
 show (mT hs+t)*B<=A*(mN hs+n)
 rw[DJ,AQ,Bf (mT hs),Bf t];ext
theorem qzu {ps:List HP4} {n t:Int} (pc:PsC ps) (pm:rs.Perm (qeo ps)) (rise:Rises rs) (h0:0<=mN hs) (hz:mN hs=0->mT hs=0) (h1:1<=(mE false hs rs).1) (s:Sb ps n t):(mE false hs rs).2*(mN hs+n)<=(mT hs+t)*(mE false hs rs).1:=by
 rw[qFg,qCi] at h1 ⊢;have ok:∀ p∈rs,1<=p.2:=λp hp=>qiz pc p (pm.mem_iff.mp hp)
 have e:=qp3 (rs.map ng) (mN hs,-mT hs) h0 (λz=>by have:=hz z;show -mT hs=0;ext) (qCh ok) (BF.mpr (rise.val.imp fun {p q} h=>by show -q.1 <= -p.1;ext)) h1;dsimp only at h1 e ⊢
 generalize mF true (mN hs,-mT hs) (rs.map ng)=f at e h1 ⊢
 obtain ⟨B,A⟩:=f;have e:sumH A B (rs.map ng)=A*mN hs-B*(-mT hs):=e;have u:=s.lo (-A) B h1;rw[<- qiy pm] at u;unfold sumL at u;rw[El,e] at u
 show -A*(mN hs+n)<=(mT hs+t)*B
 rw[CD] at u;rw[CD,DJ,AQ,Bf (mT hs),Bf t];rw[Int.mul_neg] at u;ext
def Can (k:Nat) (hs ps:List HP4) (z n:Int):Prop:=match k with
 | 0=>n=1/\mN hs<=z/\z<=mN hs+mN ps
 | 1=>n=1/\∃ m t,Sb ps m t/\z=mT hs+t
 | 2=>n=1/\(∃ h∈hs ++ ps,h.2.2.1<=z/\z<=h.2.2.2)/\∀ h∈hs,z<=h.2.2.1
 | 3=>n=1/\(∃ h∈hs ++ ps,h.2.2.1<=z/\z<=h.2.2.2)/\∀ h∈hs,h.2.2.2<=z
 | _=>1<=n/\∃ m t,Sb ps m t/\1<=mN hs+m/\z*(mN hs+m)=(mT hs+t)*n
theorem qCj {n N T c:Int} (hN:1<=N) (hn:1<=n) (hB:1<=B) (hd:1<=d) (e1:z*N=T*n) (e2:c*B=A*d) (h:T*B<=A*N):z*d<=c*n:=by
 have h1:=AG h (show 0<=n*d from DI (by ext) (by ext));have x1:T*B*(n*d)=z*d*(N*B):=by
  calc T*B*(n*d)=(T*n)*(B*d):=by ac_rfl
   _=(z*N)*(B*d):=by rw[e1]
   _=z*d*(N*B):=by ac_rfl
 have x2:A*N*(n*d)=c*n*(N*B):=by
  calc A*N*(n*d)=(A*d)*(N*n):=by ac_rfl
   _=(c*B)*(N*n):=by rw[e2]
   _=c*n*(N*B):=by ac_rfl
 rw[x1,x2] at h1;exact EA h1 (Int.mul_pos (by ext) (by ext))
theorem qEn {n N T c:Int} (hN:1<=N) (hn:1<=n) (hB:1<=B) (hd:1<=d) (e1:z*N=T*n) (e2:c*B=A*d) (h:A*N<=T*B):c*n<=z*d:=
 qCj hB hd hN hn e2 e1 h
open PySem L2
def qCk (cell:Int->Option (Int×Int)):Prop:=∀ t a w s,cell t=some (a,w)->w≠0->a<=s->s<a+w->cell s=some (a,w)
theorem Fall.whole {ge:Option Int} (F:Fall ws es ge) (hl:1<=es.length):qCk (qa1 ws es ge):=by
 intro t a w s e hw h1 h2;have h0:es[0]?=some es[0]:=Ab hl;have hlw:1<=ws.length:=by have:=F.len;ext
 have C:=qc6 (ge:=ge) hlw hl t;have C2:=qc6 (ge:=ge) hlw hl s;rw[e] at C
 rcases qez F h0 C with ⟨_,e2⟩|⟨_,_,e2⟩|⟨_,hg,i,w',e',S,e2⟩
 ·cases e2;exact absurd rfl hw
 ·cases e2
 ·cases e2
  exact qv4 F h0 S hg h1 h2 C2
structure HMade (n:Nat) (x:HP4):Prop where
 ex:∃ q:List (Int×Int),HeapOf q x.1 x.2.1 x.2.2.1 x.2.2.2/\RunsT q/\1<=q.length/\q.length<=n
theorem HMade.mono {n m:Nat} {x:HP4} (h:HMade n x) (e:n<=m):HMade m x:=⟨let ⟨q,a,b,c,d⟩:=h.ex;⟨q,a,b,c,by ext⟩⟩
theorem qp6 {v:Int} (h:RunT (v,m)):HMade 1 (qfp v m):=by
 refine ⟨[(v,m)],⟨?_,?_,Ae,(λa ha=>by rw[AI.mp ha];exact Bi _),Ae,λa ha=>by rw[AI.mp ha];exact Bi _⟩,λp hp=>by rw[AI.mp hp];exact h,by simp,by simp⟩
 ·show m=rN [(v,m)];simp[rN,qj9]
 ·show v*m=rT [(v,m)];simp[rT,qml]
theorem HMade.pour {n m:Nat} {x y:HP4} (a:HMade n x) (b:HMade m y):HMade (n+m) (mg4 x y):=by
 obtain ⟨q,o,t,l1,l2⟩:=a.ex;obtain ⟨q',o',t',l1',l2'⟩:=b.ex;exact ⟨q ++ q',o.app o',λp hp=>(AK.mp hp).elim (t p) (t' p),by rw[Ag];ext,by rw[Ag];ext⟩
structure Fit (cell:Int->Option (Int×Int)) (n:Nat) (s:Abs):Prop where
 y:∀ k x,s.y k=some x->∃ t v,k=[t,v]/\(-(10 ^ 31)<v/\v<10 ^ 31)/\1<=x/\x<=n*10 ^ 31
 z:∀ k x,s.z k=some x->HMade n x/\∃ t a w,cell t=some (a,w)/\w≠0/\k=[a,w]
theorem Fit.put {cell:Int->Option (Int×Int)} {n:Nat} {s:Abs} (h:Fit cell n s) (ok:RunT r.2):Fit cell (n+1) (qb4 cell s r):=by
 have h':Fit cell (n+1) s:=⟨λk x e=>by
  obtain ⟨t,v,e1,e2,e3,e4⟩:=h.y k x e;exact ⟨t,v,e1,e2,e3,by ext⟩,λk x e=>⟨(h.z k x e).1.mono (BE n),(h.z k x e).2⟩⟩
 have ok1:(-(10 ^ 31)<r.2.1/\r.2.1<10 ^ 31)/\1<=r.2.2/\r.2.2<10 ^ 31:=ok;unfold qb4
 cases e:cell r.1 with
 | none=>exact h'
 | some p =>
  obtain ⟨a,w⟩:=p;dsimp only
  by_cases hw:w=0
  ·rw[Au hw]
   refine ⟨λk x ek=>?_,h'.z⟩;have ek:qcz s.y [r.1,r.2.1] _ k=some x:=ek
   by_cases hk:k=[r.1,r.2.1]
   ·rw[hk,qaq] at ek
    have ek:=Ax ek;exists r.1,r.2.1,hk,ok1.1
    cases e2:s.y [r.1,r.2.1] with
    | none=>rw[e2] at ek;simp at ek;ext
    | some y =>
     obtain ⟨_,_,_,_,h1,h2⟩:=h.y _ y e2;rw[e2] at ek
     simp at ek
     ext
   ·rw[qaw _ _ hk] at ek
    exact h'.y k x ek
  ·rw[Al hw]
   refine ⟨h'.y,λk x ek=>?_⟩;have ek:qcz s.z [a,w] _ k=some x:=ek
   by_cases hk:k=[a,w]
   ·rw[hk,qaq] at ek
    have ek:=Ax ek;refine ⟨?_,r.1,a,w,e,hw,hk⟩;rw[<- ek]
    cases e2:s.z [a,w] with
    | none=>exact (qp6 ok).mono (by ext)
    | some y=>exact (h.z _ y e2).1.pour (qp6 ok)
   ·rw[qaw _ _ hk] at ek
    exact h'.z k x ek
theorem Fit.of (cell:Int->Option (Int×Int)) (rs:List Rd3) (hr:∀ r∈rs,RunT r.2):∀ n,n<=rs.length->Fit cell n (qa8 cell (rs.take n))
 | 0,_=>⟨λk x e=>(by cases e),λk x e=>(by cases e)⟩
 | n+1,h=>by
  have hn:n<rs.length:=by ext
  have e:rs[n]?=some rs[n]:=Ab hn;rw[qbn rs n _ e,qdv];exact (Fit.of cell rs hr n (by ext)).put (hr _ (Cp hn))
theorem Fit.all (cell:Int->Option (Int×Int)) (rs:List Rd3) (hr:∀ r∈rs,RunT r.2):Fit cell rs.length (qa8 cell rs):=by
 have:=Fit.of cell rs hr rs.length (Ak _)
 rwa [Aw] at this
theorem qt7 {s:Abs} {r:List Int} (h:r∈qbg s):∃ k x,s.y k=some x/\r=k ++ [x]:=by
 unfold qbg at h
 split at h
 ·rename_i hx
  obtain ⟨k,hk,rfl⟩:=Ah.mp h;have hm:=(hx.choose_spec.mem k).mp hk
  cases e:s.y k with
  | none=>exact absurd e hm
  | some x=>exact ⟨k,x,e,by unfold qf2;rw[e];rfl⟩
 ·cases h
theorem qm1 {s:Abs} {r:List Int} (h:r∈qa4 s):∃ k x,s.z k=some x/\r=k ++ i4 x:=by
 unfold qa4 at h
 split at h
 ·rename_i hx
  obtain ⟨k,hk,rfl⟩:=Ah.mp h;have hm:=(hx.choose_spec.mem k).mp hk
  cases e:s.z k with
  | none=>exact absurd e hm
  | some x=>exact ⟨k,x,e,by unfold qec;rw[e];rfl⟩
 ·cases h
theorem qCl:∀ L:List (List Int),∃ M:List (List Int),M.Nodup/\∀ k,k∈M↔k∈L
 | []=>⟨[],.nil,λ_=>Iff.rfl⟩
 | a :: t=>by
  obtain ⟨M,nd,hm⟩:=qCl t
  by_cases h:a∈M
  ·refine ⟨M,nd,λk=>⟨λhk=>Ad _ ((hm k).mp hk),λhk=>?_⟩⟩
   rcases Av.mp hk with e|e
   ·rw[e];exact h
   ·exact (hm k).mpr e
  ·refine ⟨a :: M,BN.mpr ⟨h,nd⟩,λk=>?_⟩
   rw[Av,Av,hm]
theorem qrh {cell:Int->Option (Int×Int)} {rs:List Rd3}:(qbg (qa8 cell rs)).length+(qa4 (qa8 cell rs)).length<=rs.length:=by
 have tg:=qty cell rs;have ex:∀ {α:Type} {f:List Int->Option α} {L:List (List Int)},(∀ k,f k≠none->k∈L)->∃ ms,SKeys f ms:=fun {α f L} h=>by
  classical
  obtain ⟨M,nd,hm⟩:=qCl (L.filter λk=>decide (f k≠none));obtain ⟨ms,h1,_⟩:=qey (f:=f) (ks:=M) nd λk=>by
   rw[hm,AX];simp only[AV];exact ⟨λh=>h.2,λhk=>⟨h k hk,hk⟩⟩
  exact ⟨ms,h1⟩
 obtain ⟨my,sy⟩:=ex (f:=(qa8 cell rs).y) (L:=rs.map λr=>(qf3 cell r).drop 1) λk hk=>by
  obtain ⟨r,hr',e⟩:=tg.1 k hk;exact Ah.mpr ⟨r,hr',by rw[e];rfl⟩
 obtain ⟨mz,sz⟩:=ex (f:=(qa8 cell rs).z) (L:=rs.map λr=>(qf3 cell r).drop 1) λk hk=>by
  obtain ⟨r,hr',e⟩:=tg.2 k hk;exact Ah.mpr ⟨r,hr',by rw[e];rfl⟩
 rw[<- qcg sy,<- qb1 sz,Aa,Aa];exact qzl tg sy sz
theorem qt8 {cell:Int->Option (Int×Int)} {n:Nat} {s:Abs} (wh:qCk cell) (ft:Fit cell n s) (a b:Option Int):(qix a b (qa4 s)).length<=2:=by
 unfold qa4
 split
 case isFalse=>simp[qix]
 case isTrue hx =>
  have sk:=hx.choose_spec
  generalize hx.choose=ms at sk
  unfold qix;rw[DB,Aa];have kf:∀ o:Option Int,∃ L:List (List Int),L.length<=1/\∀ z p w,o=some z->cell z=some (p,w)->[p,w]∈L:=λo=>by
   cases o with
   | none=>exact ⟨[],by simp,λz p w e=>by cases e⟩
   | some z =>
    cases e:cell z with
    | none=>exact ⟨[],by simp,λz' p w e1 e2=>by cases e1;rw[e] at e2;cases e2⟩
    | some p=>exact ⟨[[p.1,p.2]],by simp,λz' q w e1 e2=>by cases e1;rw[e] at e2;cases e2;exact Ae⟩
  obtain ⟨La,la,ha⟩:=kf a;obtain ⟨Lb,lb,hb⟩:=kf b;have nd:(ms.filter ((cZ a b) ∘ qec s)).Nodup:=(sk.nd).filter _;have sub:ms.filter ((cZ a b) ∘ qec s) ⊆ La ++ Lb:=λk hk=>by
   obtain ⟨hm,hc⟩:=AX.mp hk
   cases e:s.z k with
   | none=>exact absurd e ((sk.mem k).mp hm)
   | some x =>
    obtain ⟨_,t,p,w,ct,hw,rfl⟩:=ft.z k x e;have hc:cZ a b (qec s [p,w])=true:=hc;have e0:(qec s [p,w]).getD 0 0=p:=rfl;have e1:(qec s [p,w]).getD 1 0=w:=rfl;unfold cZ at hc;rw[e0,e1,Bu,AV,AV] at hc;obtain ⟨c1,c2⟩:=hc;have hw1:0<w:=by ext
    unfold qgj at c1 c2
    split at c1
    case isFalse=>ext
    case isTrue c3 =>
     rw[Au c3] at c2
     cases a with
     | some xa =>
      have ea:qru (some xa) p=if p>xa then p else xa:=rfl
      by_cases h1:p<xa/\xa<p+w
      ·exact AE _ (ha xa p w rfl (wh t p w xa ct hw (by ext) h1.2))
      ·cases b with
       | some yb =>
        have eb:qmw (some yb) (p+w)=if p+w<yb then p+w else yb:=rfl
        rw[ea,eb] at c2 c3;refine As _ (hb yb p w rfl (wh t p w yb ct hw ?_ ?_))
        ·split at c3<;>split at c3<;>ext
        ·split at c2<;>split at c2<;>ext
       | none =>
        have eb:qmw none (p+w)=p+w:=rfl;rw[ea,eb] at c2 c3
        split at c2<;>split at c3<;>ext
     | none =>
      have ea:qru none p=p:=rfl
      cases b with
      | some yb =>
       have eb:qmw (some yb) (p+w)=if p+w<yb then p+w else yb:=rfl
       rw[ea,eb] at c2 c3;refine As _ (hb yb p w rfl (wh t p w yb ct hw ?_ ?_))
       ·split at c3<;>ext
       ·split at c2<;>ext
      | none =>
       have eb:qmw none (p+w)=p+w:=rfl;rw[ea,eb] at c2;ext
  have:=Bq nd sub;rw[Ag] at this;ext
open PySem L2
theorem qlk (cell:Int->Option (Int×Int)) (s:Abs) (r:Rd3) (b:Int) (x:HP4):qdw cell (qb4 cell s r) b x=qb4 cell (qdw cell s b x) r:=by
 unfold qb4 qdw
 rcases e1:cell r.1 with _|⟨a,w⟩
 ·rcases e2:cell b with _|⟨c,u⟩<;>rfl
 ·rcases e2:cell b with _|⟨c,u⟩
  ·rfl
  ·dsimp only
   by_cases hw:w=0
   ·rw[Au hw,Au hw]
   ·rw[Al hw,Al hw]
    dsimp only
    by_cases hk:[a,w]=[c,u]
    ·rw[hk,qaq,qbs,qaq,qbs,qgo]
    ·rw[qaw _ _ (λz=>hk z.symm),qaw _ _ hk,qf0 _ _ _ hk]
theorem qt9 (cell:Int->Option (Int×Int)) (s:Abs) (r z:List Int):qb5 cell (qc2 cell s r) z=qc2 cell (qb5 cell s z) r:=by
 unfold qb5 qc2
 split<;>split<;>first|rfl|exact qlk _ _ _ _ _
theorem qm2 (cell:Int->Option (Int×Int)):∀ (Z:List (List Int)) (s:Abs) (r:List Int),Z.foldl (qb5 cell) (qc2 cell s r)=qc2 cell (Z.foldl (qb5 cell) s) r
 | [],_,_=>rfl
 | z :: t,s,r=>by rw[DA,DA,qt9,qm2 cell t]
open PySem L2
theorem qc7 {S A:Type} {op:S->A->S} (comm:∀ s r q,op (op s r) q=op (op s q) r) {l l':List A} (p:l.Perm l'):∀ s,l.foldl op s=l'.foldl op s:=by
 induction p with
 | nil=>intro s;rfl
 | cons x _ ih=>intro s;exact ih _
 | swap x y l=>intro s;simp only[DA];rw[comm]
 | trans _ _ ih1 ih2=>intro s;rw[ih1,ih2]
theorem qd5 {S A:Type} {op:S->A->S} (comm:∀ s r q,op (op s r) q=op (op s q) r) (x:A) (l:List A) (s:S):(x :: l).foldl op s=op (l.foldl op s) x:=by
 have h:=qc7 comm (Fq (l₁:=[x]) (l₂:=l)) s;have e:(l ++ [x]).foldl op s=op (l.foldl op s) x:=by rw[B5];rfl
 rw[<- e,<- h];rfl
theorem qm3 {S:Type} {op:S->List Int->S} (comm:∀ s r q,op (op s r) q=op (op s q) r) (nd:ms.Nodup) {f g:List Int->List Int} {k:List Int} (hk:k∈ms) (hfg:∀ j,j≠k->f j=g j) (s:S):∃ X,(ms.map f).foldl op s=op X (f k)/\(ms.map g).foldl op s=op X (g k):=by
 have p:=List.perm_cons_erase hk;have nd':=p.nodup_iff.mp nd;rw[BN] at nd';have e:(ms.erase k).map f=(ms.erase k).map g:=Bc λj hj=>hfg j λz=>nd'.1 (z ▸ hj)
 exists ((ms.erase k).map f).foldl op s,?_
 ·rw[qc7 comm (p.map f) s,AR,qd5 comm]
 ·rw[qc7 comm (p.map g) s,AR,qd5 comm,e]
theorem qfr (cell:Int->Option (Int×Int)) (s:Abs) (r q:List Int):qc2 cell (qc2 cell s r) q=qc2 cell (qc2 cell s q) r:=by
 unfold qc2
 split<;>split<;>first|rfl|exact qtt _ _ _ _
theorem qri (cell:Int->Option (Int×Int)) (s:Abs) (a b:Int) (x y:HP4):qdw cell (qdw cell s a x) b y=qdw cell (qdw cell s b y) a x:=by
 unfold qdw
 rcases e1:cell a with _|⟨c,u⟩
 ·rcases e2:cell b with _|⟨d,w⟩<;>rfl
 ·rcases e2:cell b with _|⟨d,w⟩
  ·rfl
  ·dsimp only
   by_cases hk:[c,u]=[d,w]
   ·rw[hk,qaq,qbs,qaq,qbs,qgo]
   ·rw[qaw _ _ (λz=>hk z.symm),qaw _ _ hk,qf0 _ _ _ hk]
theorem qep (cell:Int->Option (Int×Int)) (s:Abs) (r q:List Int):qb5 cell (qb5 cell s r) q=qb5 cell (qb5 cell s q) r:=by
 unfold qb5
 split<;>split<;>first|rfl|exact qri _ _ _ _ _ _
structure qm4 (cell cell':Int->Option (Int×Int)):Prop where
 n:∀ t,cell t=none->cell' t=none
 h:∀ t a w,cell t=some (a,w)->w≠0->cell' t=cell' a/\∀ b u,cell' a=some (b,u)->u≠0
structure KF (s:Abs):Prop where
 y:∃ my,SKeys s.y my/\∀ k∈my,k.length=2
 z:∃ mz,SKeys s.z mz/\∀ k∈mz,k.length=2
theorem qf6 {α:Type} {f:List Int->Option α} (h:SKeys f ms) (h2:∀ k∈ms,k.length=2) {k:List Int} (hk:k.length=2) (x:α):∃ ms',SKeys (qcz f k x) ms'/\(∀ j∈ms',j.length=2)/\((k∈ms->ms'=ms)/\(k ∉ ms->ms'.Perm (k :: ms))):=by
 by_cases c:k∈ms
 ·refine ⟨ms,⟨h.srt,λj=>?_⟩,h2,λ_=>rfl,λz=>absurd c z⟩
  by_cases e:j=k
  ·subst e;rw[qaq];simp[c]
  ·rw[qaw _ _ e];exact h.mem j
 ·have nd:(k :: ms).Nodup:=BN.mpr ⟨c,h.nd⟩
  have mem:∀ j,j∈k :: ms↔qcz f k x j≠none:=λj=>by
   by_cases e:j=k
   ·subst e;rw[qaq];simp
   ·rw[qaw _ _ e,Av]
    exact ⟨λz=>(h.mem j).mp (z.resolve_left e),λz=>.inr ((h.mem j).mpr z)⟩
  obtain ⟨ms',s',_⟩:=qey nd mem;have pm:ms'.Perm (k :: ms):=by
   rw[C4 s'.nd nd];intro j;rw[s'.mem,mem]
  refine ⟨ms',s',λj hj=>?_,λz=>absurd z c,λ_=>pm⟩
  rcases Av.mp (pm.mem_iff.mp hj) with e|e
  ·rw[e];exact hk
  ·exact h2 j e
theorem qrj {S0:Abs} {s:Abs} (sy:SKeys s.y my) (h2:∀ k∈my,k.length=2) (sz:SKeys s.z mz) (t v m:Int) :
  qfq cell' S0 (qbg { s with y:=qcz s.y [t,v] ((s.y [t,v]).getD 0+m) }) (qa4 { s with y:=qcz s.y [t,v] ((s.y [t,v]).getD 0+m) })=qb4 cell' (qfq cell' S0 (qbg s) (qa4 s)) (t,v,m):=by
 obtain ⟨my',sy',_,hin,hout⟩:=qf6 sy h2 (k:=[t,v]) rfl ((s.y [t,v]).getD 0+m)
 generalize es:({ s with y:=qcz s.y [t,v] ((s.y [t,v]).getD 0+m) }:Abs)=s'
 have ey':s'.y=qcz s.y [t,v] ((s.y [t,v]).getD 0+m):=by rw[<- es]
 have ez':s'.z=s.z:=by rw[<- es]
 have sy'':SKeys s'.y my':=by rw[ey'];exact sy'
 have ezr:qa4 s'=qa4 s:=by
  have:SKeys s'.z mz:=by rw[ez'];exact sz
  rw[<- qb1 this,<- qb1 sz];refine Bc λk _=>?_
  unfold qec;rw[ez']
 rw[ezr,<- qcg sy'',<- qcg sy];unfold qfq
 show _=qc2 cell' ((qa4 s).foldl (qb5 cell') ((my.map (qf2 s)).foldl (qc2 cell') S0)) [t,v,m]
 rw[<- qm2]
 congr 1
 have ne:∀ j,j≠[t,v]->qf2 s' j=qf2 s j:=λj hj=>by unfold qf2;rw[ey',qaw _ _ hj]
 have at_:qf2 s' [t,v]=[t,v,(s.y [t,v]).getD 0+m]:=by unfold qf2;rw[ey',qaq];rfl
 by_cases c:[t,v]∈my
 ·rw[hin c]
  obtain ⟨X,e1,e2⟩:=qm3 (qfr cell') sy.nd c ne S0;rw[e1,e2,at_]
  show qb4 cell' X (t,v,_)=qb4 cell' (qb4 cell' X (t,v,(s.y [t,v]).getD 0)) (t,v,m)
  rw[qre]
 ·rw[qc7 (qfr cell') ((hout c).map _) S0,AR,qd5 (qfr cell'),at_]
  have e:my.map (qf2 s')=my.map (qf2 s):=Bc λj hj=>ne j λz=>c (by rw[<- z];exact hj)
  have en:s.y [t,v]=none:=by
   cases q:s.y [t,v] with
   | none=>rfl
   | some n=>exact absurd ((sy.mem _).mpr (by rw[q];simp)) c
  rw[e,en]
  show qb4 cell' _ (t,v,0+m)=qb4 cell' _ (t,v,m)
  rw[D4]
theorem qua (a b c:HP4):mg4 (mg4 a b) c=mg4 a (mg4 b c):=by
 unfold mg4;refine qAi ?_ ?_ ?_ ?_<;>dsimp only
 ·ext
 ·ext
 ·repeat' split
  all_goals ext
 ·repeat' split
  all_goals ext
theorem qok (o:Option HP4) (b c:HP4):qb9 (some (qb9 o b)) c=qb9 o (mg4 b c):=by
 cases o with
 | none=>rfl
 | some a=>exact qua a b c
theorem qwa {t a:Int} (hc:cell' t=cell' a) (hu:∀ b u,cell' a=some (b,u)->u≠0) (X:Abs) (v m:Int):qdw cell' X a (qfp v m)=qb4 cell' X (t,v,m):=by
 unfold qdw qb4;dsimp only;rw[hc]
 rcases e:cell' a with _|⟨b,u⟩
 ·rfl
 ·dsimp only
  rw[Al (hu b u e)]
theorem qzv (cell':Int->Option (Int×Int)) (X:Abs) (a:Int) (x y:HP4):qdw cell' (qdw cell' X a x) a y=qdw cell' X a (mg4 x y):=by
 unfold qdw
 rcases e:cell' a with _|⟨b,u⟩
 ·rfl
 ·dsimp only
  rw[qaq,qbs,qok]
theorem take_heap {S0:Abs} {s:Abs} (sy:SKeys s.y my) (sz:SKeys s.z mz) (h2:∀ k∈mz,k.length=2) {t a:Int} (hc:cell' t=cell' a) (hu:∀ b u,cell' a=some (b,u)->u≠0) (w v m:Int) :
  qfq cell' S0 (qbg { s with z:=qcz s.z [a,w] (qb9 (s.z [a,w]) (qfp v m)) }) (qa4 { s with z:=qcz s.z [a,w] (qb9 (s.z [a,w]) (qfp v m)) })=qb4 cell' (qfq cell' S0 (qbg s) (qa4 s)) (t,v,m):=by
 obtain ⟨mz',sz',_,hin,hout⟩:=qf6 sz h2 (k:=[a,w]) rfl (qb9 (s.z [a,w]) (qfp v m))
 generalize es:({ s with z:=qcz s.z [a,w] (qb9 (s.z [a,w]) (qfp v m)) }:Abs)=s'
 have ez':s'.z=qcz s.z [a,w] (qb9 (s.z [a,w]) (qfp v m)):=by rw[<- es]
 have ey':s'.y=s.y:=by rw[<- es]
 have sz'':SKeys s'.z mz':=by rw[ez'];exact sz'
 have eyr:qbg s'=qbg s:=by
  have:SKeys s'.y my:=by rw[ey'];exact sy
  rw[<- qcg this,<- qcg sy];refine Bc λk _=>?_
  unfold qf2;rw[ey']
 rw[eyr,<- qb1 sz'',<- qb1 sz,<- qwa hc hu];unfold qfq
 generalize (qbg s).foldl (qc2 cell') S0=S1
 have ne:∀ j,j≠[a,w]->qec s' j=qec s j:=λj hj=>by unfold qec;rw[ez',qaw _ _ hj]
 have at_:qec s' [a,w]=[a,w] ++ i4 (qb9 (s.z [a,w]) (qfp v m)):=by unfold qec;rw[ez',qaq];rfl
 have pr:∀ (X:Abs) (x:HP4),qb5 cell' X ([a,w] ++ i4 x)=qdw cell' X a x:=λX x=>rfl
 by_cases c:[a,w]∈mz
 ·rw[hin c]
  obtain ⟨X,e1,e2⟩:=qm3 (qep cell') sz.nd c ne S1;rw[e1,e2,at_,pr]
  show _=qdw cell' (qb5 cell' X ([a,w] ++ i4 ((s.z [a,w]).getD (0,0,0,0)))) a (qfp v m)
  rw[pr]
  cases q:s.z [a,w] with
  | none=>exact absurd q ((sz.mem _).mp c)
  | some x=>rw[Dl,qzv];rfl
 ·rw[qc7 (qep cell') ((hout c).map _) S1,AR,qd5 (qep cell'),at_,pr]
  have e:mz.map (qec s')=mz.map (qec s):=Bc λj hj=>ne j λz=>c (by rw[<- z];exact hj)
  have en:s.z [a,w]=none:=by
   cases q:s.z [a,w] with
   | none=>rfl
   | some n=>exact absurd ((sz.mem _).mpr (by rw[q];simp)) c
  rw[e,en];rfl
theorem qwb {S0:Abs} {cell:Int->Option (Int×Int)} (co:qm4 cell cell') {s:Abs} (kf:KF s) (r:Rd3) :
  qfq cell' S0 (qbg (qb4 cell s r)) (qa4 (qb4 cell s r))=qb4 cell' (qfq cell' S0 (qbg s) (qa4 s)) r/\KF (qb4 cell s r):=by
 obtain ⟨my,sy,hy⟩:=kf.y;obtain ⟨mz,sz,hz⟩:=kf.z;obtain ⟨t,v,m⟩:=r
 rcases e:cell t with _|⟨a,w⟩
 ·have e1:qb4 cell s (t,v,m)=s:=by unfold qb4;dsimp only;rw[e]
  have e2:∀ X,qb4 cell' X (t,v,m)=X:=λX=>by unfold qb4;dsimp only;rw[co.n t e]
  rw[e1,e2];exact ⟨rfl,kf⟩
 ·by_cases hw:w=0
  ·have e1:qb4 cell s (t,v,m)={ s with y:=qcz s.y [t,v] ((s.y [t,v]).getD 0+m) }:=by unfold qb4;dsimp only;rw[e];dsimp only;rw[Au hw]
   rw[e1];refine ⟨qrj sy hy sz t v m,?_,⟨mz,sz,hz⟩⟩;obtain ⟨my',sy',h',_⟩:=qf6 sy hy (k:=[t,v]) rfl ((s.y [t,v]).getD 0+m);exact ⟨my',sy',h'⟩
  ·have e1:qb4 cell s (t,v,m)={ s with z:=qcz s.z [a,w] (qb9 (s.z [a,w]) (qfp v m)) }:=by unfold qb4;dsimp only;rw[e];dsimp only;rw[Al hw]
   rw[e1];obtain ⟨c1,c2⟩:=co.h t a w e hw;exists take_heap sy sz hz c1 c2 w v m,⟨my,sy,hy⟩;obtain ⟨mz',sz',h',_⟩:=qf6 sz hz (k:=[a,w]) rfl (qb9 (s.z [a,w]) (qfp v m));exact ⟨mz',sz',h'⟩
theorem kf0:KF qmr:=⟨⟨[],⟨.nil,λk=>⟨(λh=>by cases h),λh=>absurd rfl h⟩⟩,(λk h=>by cases h)⟩,⟨[],⟨.nil,λk=>⟨(λh=>by cases h),λh=>absurd rfl h⟩⟩,(λk h=>by cases h)⟩⟩
theorem qm5 {S0:Abs} {cell cell':Int->Option (Int×Int)} (co:qm4 cell cell'):∀ (rs:List Rd3) {s s':Abs},KF s->qfq cell' S0 (qbg s) (qa4 s)=s'->qfq cell' S0 (qbg (rs.foldl (qb4 cell) s)) (qa4 (rs.foldl (qb4 cell) s))=rs.foldl (qb4 cell') s'
 | [],_,_,_,e=>e
 | r :: t,s,s',kf,e=>by
  obtain ⟨h1,h2⟩:=qwb co kf r;exact qm5 co t h2 (by rw[h1,e])
theorem qzw {cell:Int->Option (Int×Int)} (co:qm4 cell cell') (rs:List Rd3) (S0:Abs):qfq cell' S0 (qbg (qa8 cell rs)) (qa4 (qa8 cell rs))=rs.foldl (qb4 cell') S0:=by
 refine qm5 co rs kf0 ?_;have hy:qbg qmr=[]:=(qcg (ms:=[]) ⟨.nil,λk=>⟨(λh=>by cases h),λh=>absurd rfl h⟩⟩).symm;have hz:qa4 qmr=[]:=(qb1 (ms:=[]) ⟨.nil,λk=>⟨(λh=>by cases h),λh=>absurd rfl h⟩⟩).symm;rw[hy,hz];rfl
theorem qub {cell:Int->Option (Int×Int)} (co:qm4 cell cell') (rs:List Rd3):qfq cell' qmr (qbg (qa8 cell rs)) (qa4 (qa8 cell rs))=qa8 cell' rs:=qzw co rs qmr
theorem qm6 {es':List Int} {ge ge':Option Int} (F:Fall ws es ge) (F':Fall ws es' ge') (L:Later es es' ge ge') (hl:1<=es.length):qm4 (qa1 ws es ge) (qa1 ws es' ge'):=by
 have hl':1<=es'.length:=by rw[L.len];exact hl
 have hw:1<=ws.length:=by rw[F.len];exact hl
 have h0:es[0]?=some es[0]:=Ab (by ext);have h0':es'[0]?=some es'[0]:=Ab (by ext);have up:=L.up 0 _ _ h0 h0';refine ⟨λt e=>?_,λt a w e hw0=>?_⟩
 ·have C:=qc6 (ge:=ge) hw hl t
  have C':=qc6 (ge:=ge') hw hl' t;rw[e] at C
  by_cases c:es[0]<=t
  ·cases (C es[0] h0).1 c
  ·by_cases hg:qcf ge t
   ·exact qrf L h0 h0' (by ext) hg C'
   ·obtain ⟨w,_,e2⟩:=((C es[0] h0).2 (by ext)).2 hg
    cases e2
 ·have C:=qc6 (ge:=ge) hw hl t
  rw[e] at C;have hlt:t<es[0]:=by
   by_cases c:es[0]<=t
   ·have:=(C es[0] h0).1 c
    cases this;exact absurd rfl hw0
   ·ext
  obtain ⟨i,w',e',S⟩:=qiu F.len h0 hlt;have hg:¬ qcf ge t:=λg=>by cases ((C es[0] h0).2 hlt).1 g
  have:=C.uniq h0 (qiv F h0 S hg);cases this;have hw1:=F.pos i w S.gw;have fl:=qju t hw1;obtain ⟨o,ho,_⟩:=qrg F F' L h0' S;have a1:=ho t fl.1 fl.2 _ (qc6 hw hl' t);have a2:=ho (t / w*w) (Bi _) (by ext) _ (qc6 hw hl' (t / w*w));refine ⟨a1.trans a2.symm,λb u eb hu=>?_⟩;have C2:=qc6 (ge:=ge') hw hl' (t / w*w);rw[eb] at C2;have lt2:t / w*w<es'[0]:=by ext
  obtain ⟨j,w2,e2,S2⟩:=qiu F'.len h0' lt2;have hg2:¬ qcf ge' (t / w*w):=λg=>by cases ((C2 es'[0] h0').2 lt2).1 g
  have:=C2.uniq h0' (qiv F' h0' S2 hg2);cases this;have:=F'.pos j _ S2.gw;ext
open PySem L2
def qu5 (cell:Int->Option (Int×Int)) (k:List Int) (l:List Rd3):List Rd3:=l.filter λr=>decide (qf3 cell r=k)
def grp (cell:Int->Option (Int×Int)) (k:List Int) (l:List Rd3):List (Int×Int):=(qu5 cell k l).map (·.2)
theorem qCm {cell:Int->Option (Int×Int)} {k:List Int} {l:List Rd3} (h:qf3 cell r=k):grp cell k (l ++ [r])=grp cell k l ++ [r.2]:=by
 unfold grp qu5;rw[Bm,Ao];simp[h]
theorem qll {cell:Int->Option (Int×Int)} {k:List Int} {l:List Rd3} (h:qf3 cell r≠k):grp cell k (l ++ [r])=grp cell k l:=by
 unfold grp qu5;rw[Bm];simp[h]
theorem qwc (v m:Int):HeapOf [(v,m)] m (v*m) v v:=by
 refine ⟨?_,?_,Ae,(λa ha=>by rw[AI.mp ha];exact Bi _),Ae,λa ha=>by rw[AI.mp ha];exact Bi _⟩
 ·simp[rN,qj9]
 ·simp[rT,qml]
structure GZ (cell:Int->Option (Int×Int)) (l:List Rd3) (s:Abs):Prop where
 zn:∀ k,s.z k=none->grp cell (1 :: k) l=[]
 zs:∀ k x,s.z k=some x->HeapOf (grp cell (1 :: k) l) x.1 x.2.1 x.2.2.1 x.2.2.2
 yn:∀ k,s.y k=none->grp cell (0 :: k) l=[]
 ys:∀ k x,s.y k=some x->∃ t v,k=[t,v]/\HeapOf (grp cell (0 :: k) l) x (v*x) v v
theorem GZ.put {cell:Int->Option (Int×Int)} {l:List Rd3} {s:Abs} (h:GZ cell l s) (r:Rd3):GZ cell (l ++ [r]) (qb4 cell s r):=by
 have n01:∀ {j k:List Int},(0:Int) :: j≠1 :: k:=λe=>by injection e with e _;cases e
 have n10:∀ {j k:List Int},(1:Int) :: j≠0 :: k:=λe=>by injection e with e _;cases e
 unfold qb4
 cases e:cell r.1 with
 | none =>
  have tg:qf3 cell r=[]:=by unfold qf3;rw[e]
  refine ⟨λk hk=>?_,λk x hk=>?_,λk hk=>?_,λk x hk=>?_⟩<;>rw[qll (by rw[tg];intro z;cases z)]
  ·exact h.zn k hk
  ·exact h.zs k x hk
  ·exact h.yn k hk
  ·exact h.ys k x hk
 | some p =>
  obtain ⟨a,w⟩:=p;dsimp only
  by_cases hw:w=0
  ·have tg:qf3 cell r=[0,r.1,r.2.1]:=by unfold qf3;rw[e];simp[hw]
   rw[Au hw];refine ⟨λk hk=>?_,λk x hk=>?_,λk hk=>?_,λk x hk=>?_⟩
   ·rw[qll (by rw[tg];exact n01)];exact h.zn k hk
   ·rw[qll (by rw[tg];exact n01)];exact h.zs k x hk
   ·have hk:qcz s.y [r.1,r.2.1] _ k=none:=hk
    by_cases c:k=[r.1,r.2.1]
    ·rw[c,qaq] at hk;cases hk
    ·rw[qaw _ _ c] at hk
     rw[qll (by rw[tg];intro z;injection z with _ z;exact c z.symm)];exact h.yn k hk
   ·have hk:qcz s.y [r.1,r.2.1] _ k=some x:=hk
    by_cases c:k=[r.1,r.2.1]
    ·rw[c,qaq] at hk
     have hk:=Ax hk;exists r.1,r.2.1,c;rw[c,qCm tg]
     cases e2:s.y [r.1,r.2.1] with
     | none =>
      rw[e2] at hk;rw[h.yn _ e2];have:x=r.2.2:=by simp at hk;exact hk.symm
      rw[this];exact qwc r.2.1 r.2.2
     | some x0 =>
      rw[e2] at hk;obtain ⟨t,v,ek,o⟩:=h.ys _ x0 e2;injection ek with _ ek
      injection ek with ek _
      subst ek;have:=o.app (qwc r.2.1 r.2.2);have ex:x=x0+r.2.2:=by simp at hk;exact hk.symm
      rw[ex,AQ]
      simpa using this
    ·rw[qaw _ _ c] at hk
     rw[qll (by rw[tg];intro z;injection z with _ z;exact c z.symm)];exact h.ys k x hk
  ·have tg:qf3 cell r=[1,a,w]:=by unfold qf3;rw[e];simp[hw]
   rw[Al hw];refine ⟨λk hk=>?_,λk x hk=>?_,λk hk=>?_,λk x hk=>?_⟩
   ·have hk:qcz s.z [a,w] _ k=none:=hk
    by_cases c:k=[a,w]
    ·rw[c,qaq] at hk;cases hk
    ·rw[qaw _ _ c] at hk
     rw[qll (by rw[tg];intro z;injection z with _ z;exact c z.symm)];exact h.zn k hk
   ·have hk:qcz s.z [a,w] _ k=some x:=hk
    by_cases c:k=[a,w]
    ·rw[c,qaq] at hk
     have hk:=Ax hk;rw[c,qCm tg,<- hk]
     cases e2:s.z [a,w] with
     | none =>
      rw[h.zn _ e2];exact qwc r.2.1 r.2.2
     | some x0=>exact (h.zs _ x0 e2).app (qwc r.2.1 r.2.2)
    ·rw[qaw _ _ c] at hk
     rw[qll (by rw[tg];intro z;injection z with _ z;exact c z.symm)];exact h.zs k x hk
   ·rw[qll (by rw[tg];exact n10)];exact h.yn k hk
   ·rw[qll (by rw[tg];exact n10)];exact h.ys k x hk
theorem GZ.of (cell:Int->Option (Int×Int)) (rs:List Rd3):∀ n,n<=rs.length->GZ cell (rs.take n) (qa8 cell (rs.take n))
 | 0,_=>⟨λ_ _=>rfl,λ_ _ e=>(by cases e),λ_ _=>rfl,λ_ _ e=>(by cases e)⟩
 | n+1,h=>by
  have hn:n<rs.length:=by ext
  have e:rs[n]?=some rs[n]:=Ab hn;rw[qbn rs n _ e,qdv];exact (GZ.of cell rs n (by ext)).put _
theorem GZ.all (cell:Int->Option (Int×Int)) (rs:List Rd3):GZ cell rs (qa8 cell rs):=by
 have:=GZ.of cell rs rs.length (Ak _)
 rwa [Aw] at this
theorem qf7 {α:Type} {p q:α->Bool} (hd:∀ x,p x=true->q x=false):∀ l:List α,(l.filter p ++ l.filter q).Perm (l.filter λx=>p x || q x)
 | []=>.nil
 | x :: t=>by
  have ih:=qf7 hd t
  cases hp:p x with
  | true =>
   have hq:=hd x hp;simp only[Eg,hp,hq,Fg,CY,Bb]
   simpa using ih.cons x
  | false =>
   cases hq:q x with
   | true =>
    simp only[Eg,hp,hq,DP,CY];exact List.perm_middle.trans (by simpa using ih.cons x)
   | false=>simpa [Eg,hp,hq] using ih
theorem qf8 {cell:Int->Option (Int×Int)} {rs:List Rd3}:∀ {ks:List (List Int)},ks.Nodup->(ks.flatMap λk=>qu5 cell k rs).Perm (rs.filter λr=>decide (qf3 cell r∈ks))
 | [],_=>by simp
 | k :: ks,nd=>by
  obtain ⟨n1,n2⟩:=BN.mp nd;rw[Cg];have h:=qf7 (p:=λr=>decide (qf3 cell r=k)) (q:=λr=>decide (qf3 cell r∈ks)) (λx hx=>by
   have hx:=AM hx;rw[hx];exact Az n1) rs
  refine ((Fw _ (qf8 n2)).trans h).trans (List.Perm.of_eq ?_);refine List.filter_congr λr _=>?_
  simp only[Av,Bool.decide_or]
theorem qi0 {p:Rd3->Bool}:∀ {l:List Rd3},(∀ r∈l,1<=r.2.2)->SubR ((l.filter p).map (·.2)) (l.map (·.2))
 | [],_=>.nil
 | r :: t,h=>by
  have ih:=qi0 (p:=p) (l:=t) λx hx=>h x (Ad _ hx)
  cases hp:p r with
  | true =>
   rw[Bz hp];exact .take (h r Ae) (Bi _) ih
  | false =>
   rw[CC (by rw[hp];decide)];exact .skip ih
end TB
local macro_rules | `(tactic| walk_at "same") => `(tactic| first | exact L2.Same.refl _ | assumption | exact L2.New.same (by assumption) | (refine L2.qy2 ?_ (by assumption); walk_at "same") | (refine L2.Same.trans ?_ (by assumption); walk_at "same"))
local macro_rules | `(tactic| walk_at "fact") => `(tactic| first | assumption | exact L2.New.at_ (by assumption) | (refine L2.qBi (by assumption) ?_; walk_at "fact") | (refine L2.qy1 (by assumption) ?_; walk_at "fact"))
local macro_rules | `(tactic| walk_at "sq") => `(tactic| first | assumption | exact L2.SqL.of (by walk_at "fact") | exact L2.SqT.of (by walk_at "fact") | exact Or.inl (L2.SqL.of (by walk_at "fact")) | exact Or.inr (L2.SqT.of (by walk_at "fact")) | exact Or.inl (by assumption) | walk_at "fact")
local macro_rules | `(tactic| walk_at "c") => `(tactic| first
 | ((with_reducible show _<=PySem.sizeLine);first|exact AB (L2.qai (Nat.le_of_ble_eq_true rfl))|exact AB (L2.qai (by ext))|exact AB (L2.qai (by simp only[Aa,Ag,AF,BZ];ext)))
 | ((with_reducible show _<PySem.sizeLine);first|exact L2.qai (by ext)|exact L2.qai (by simp only[Aa,Ag,AF,BZ];ext))
 | decide|ext|(dsimp only;first|decide|ext)|(simp only[Aa,Ag,AF,BZ];ext)
 | ((with_reducible refine And.intro ?_ ?_)<;>walk_at "c")
 | (refine And.intro ?_ ?_<;>walk_at "c")|(refine Or.inl ?_;walk_at "c")|(refine Or.inr ?_;walk_at "c"))
local macro_rules | `(tactic| walk_at "at") => `(tactic| first | rfl | assumption | exact L2.qc4 (by assumption) | exact TB.qek (by assumption))
local macro_rules | `(tactic| walk_at "ty") => `(tactic| first | exact L2.TyOf.int _ | exact L2.TyOf.bl _ | exact L2.TyOf.non | exact L2.TyOf.str _ | exact L2.TyOf.lst (by walk_at "fact") | exact L2.TyOf.tup (by walk_at "fact"))
local macro_rules | `(tactic| walk_at "kit") => `(tactic| first | exact L2.qie _ | exact L2.qgx _ | exact L2.qvl _ | exact L2.kit_tuple _ | rfl)
local macro_rules | `(tactic| walk_at "r1") => `(tactic| first
 | refine L2.tVarS.mk _ rfl ?_
 | refine L2.rI0S.mk _ _ rfl rfl ?_
 | refine L2.rIxLS.mk _ _ _ _ rfl rfl (by walk_at "sq") (by walk_at "at") ?_
 | refine L2.rIxTS.mk _ _ _ _ rfl rfl (by walk_at "sq") (by walk_at "at") ?_
 | refine L2.rIS.mk _ _ rfl rfl (by walk_at "c") ?_
 | refine L2.tBS.mk _ rfl ?_
 | refine L2.gConsS.mk _ _ rfl ?_
 | refine L2.gTupS.mk _ _ rfl (by walk_at "sq") rfl ?_
 | refine L2.tAndVS.mk _ rfl ?_
 | refine L2.tOrVS.mk _ rfl ?_
 | refine L2.tNotVS.mk _ rfl ?_
 | refine L2.rUS.mk _ rfl ?_
 | refine L2.tPartS.mk _ rfl ?_
 | refine L2.rSlLNS.mk _ _ rfl (by walk_at "sq") ?_
 | refine L2.rAppendNS.mk _ _ _ rfl rfl (by walk_at "fact") (by walk_at "c") ?_
 | refine Exists.intro _ (And.intro rfl ?_)
 | refine Exists.intro _ (Exists.intro _ (And.intro rfl (And.intro rfl ?_)))
 | refine And.intro rfl ?_
 | refine Exists.intro _ (Exists.intro _ (And.intro rfl (And.intro (by walk_at "sq") ?_)))
 | refine Exists.intro _ (Exists.intro _ (Exists.intro _ (Exists.intro _ (And.intro rfl (And.intro rfl (And.intro (by walk_at "sq") (And.intro (by walk_at "at") ?_)))))))
 | refine And.intro (Or.inl ⟨rfl,_,L2.SqL.of (by walk_at "fact")⟩) ?_
 | refine Exists.intro _ (Exists.intro _ (Exists.intro _ (And.intro rfl (And.intro rfl (And.intro (by walk_at "fact") (And.intro (by walk_at "c") ?_))))))
 | refine Exists.intro _ (Exists.intro _ (Exists.intro _ (Exists.intro _ (And.intro rfl (And.intro (by walk_at "ty") (And.intro (by walk_at "kit") ?_))))))
 | refine Exists.intro _ (Exists.intro _ (And.intro rfl ?_))
 | refine And.intro (by walk_at "c") ?_
 | refine L2.qdk ?_
 | refine L2.qd7 ?_)
local macro_rules | `(tactic| walk_at "n") => `(tactic| simp only [L2.tNil, List.cons_append, List.nil_append, List.append_nil])
local macro_rules | `(tactic| walk_at "r") => `(tactic| (walk_at "r1"; repeat walk_at "r1"))
namespace TB
open PySem L2
variable {x y:V}{B d e0 e m lo hi z A:Int}{ps rs S G:List (Int×Int)}{p:Int×Int}{H H':Hp}{xs ys:List V}{C l R ro:Addr}{g:Option Int}{o:HO}{i k:Nat}{σ:St}{te:TE}{Q:VK}{es ws:List Int}{r:Rd3}{ms ks LY LZ my mz:List (List Int)}{hs:List HP4}{cell':Int->Option (Int×Int)}{F:TS}{D:Ends}
abbrev FG (K:Frag) (mg:Str->Option Value) (n:Str) (s:Stmt):Prop:=∃ f fd,Fun K n n s f fd/\mg n=some (.ref f)
abbrev FGd (K:Frag) (mg:Str->Option Value) (n:Str) (s:Stmt) (vs:Array Value):Prop:=∃ f fd dT o m,FunD K n n s (.ref dT) f fd/\mg n=some (.ref f)/\fd.defaults=.ref dT/\K.lookup dT=some o/\o.data=.seq vs m
abbrev FM (K:Frag) (C:Addr) (n q:Str) (s:Stmt):Prop:=∃ f fd,Fun K n q s f fd/\qw4 K C n f
abbrev FMd (K:Frag) (C:Addr) (n q:Str) (s:Stmt) (i:Int):Prop:=∃ f fd dT o m t,FunD K n q s (.ref dT) f fd/\qw4 K C n f/\fd.defaults=.ref dT/\K.lookup dT=some o/\o.data=.seq #[.int i t] m
abbrev FI (K:Frag) (C:Addr) (q:Str) (s:Stmt):Prop:=∃ f fd,Fun K "__init__" q s f fd/\Mk K C f
abbrev FId (K:Frag) (C:Addr) (q:Str) (s:Stmt) (vs:Array Value):Prop:=∃ f fd dT o m,FunD K "__init__" q s (.ref dT) f fd/\Mk K C f/\fd.defaults=.ref dT/\K.lookup dT=some o/\o.data=.seq vs m
section
variable {K:Frag} {h:Heap} {mg:Str->Option Value} {n q:Str} {s:Stmt} {f dT C:Addr} {od an dd:Option Addr} {sl ds:Array (Option Value)} {oc kV dc pm cd ct dk:Value} {dn:Nat} {dt:Tok} {v:Int} {vs:Array Value}
theorem fnG (X:K.In h) (G:h.Ns mainGlobals mg) (a:nsIn K mainGlobals n=some (some (.ref f))) (l:K.lookup f=some ⟨oc,od,.func (fnOf n n (qc5 s) (qcd s) (qab s) .none kV dc pm an cd ct),sl⟩) (c:codeIn K cd n=true) (k:keepIn K (.ref f)=true):FG K mg n s:=⟨f,_,qsq l c k,mg_of X G a⟩
theorem qF9 (X:K.In h) (G:h.Ns mainGlobals mg) (a:nsIn K mainGlobals n=some (some (.ref f))) (l:K.lookup f=some ⟨oc,od,.func (fnOf n n (qc5 s) (qcd s) (qab s) (.ref dT) kV dc pm an cd ct),sl⟩) (c:codeIn K cd n=true) (k:keepIn K (.ref f)=true) (d:K.lookup dT=some ⟨dk,dd,.seq vs dn,ds⟩):FGd K mg n s vs:=⟨f,_,dT,_,_,⟨⟨_,_,_,_,_,_,_,_,_,rfl,l,c⟩,k⟩,mg_of X G a,rfl,d,rfl⟩
theorem fnM (a:PySem.W.findIn K (.ref C) n=some (some (.ref f))) (i:PySem.W.isFn K (.ref f)=true) (l:K.lookup f=some ⟨oc,od,.func (fnOf n q (qc5 s) (qcd s) (qab s) .none kV dc pm an cd ct),sl⟩) (c:codeIn K cd q=true) (k:keepIn K (.ref f)=true):FM K C n q s:=⟨f,_,qsq l c k,⟨a,i,k⟩⟩
theorem qGa (a:PySem.W.findIn K (.ref C) n=some (some (.ref f))) (i:PySem.W.isFn K (.ref f)=true) (l:K.lookup f=some ⟨oc,od,.func (fnOf n q (qc5 s) (qcd s) (qab s) (.ref dT) kV dc pm an cd ct),sl⟩) (c:codeIn K cd q=true) (k:keepIn K (.ref f)=true) (d:K.lookup dT=some ⟨dk,dd,.seq #[.int v dt] dn,ds⟩):FMd K C n q s v:=⟨f,_,dT,_,_,dt,⟨⟨_,_,_,_,_,_,_,_,_,rfl,l,c⟩,k⟩,⟨a,i,k⟩,rfl,d,rfl⟩
theorem fnI (m:PySem.W.makesIn K C=true) (kc:keepIn K (.ref C)=true) (a:PySem.W.findIn K (.ref C) "__init__" = some (some (.ref f))) (i:PySem.W.isFn K (.ref f)=true) (l:K.lookup f=some ⟨oc,od,.func (fnOf "__init__" q (qc5 s) (qcd s) (qab s) .none kV dc pm an cd ct),sl⟩) (c:codeIn K cd q=true) (k:keepIn K (.ref f)=true):FI K C q s:=⟨f,_,qsq l c k,⟨m,a,i,kc⟩⟩
theorem qGb (m:PySem.W.makesIn K C=true) (kc:keepIn K (.ref C)=true) (a:PySem.W.findIn K (.ref C) "__init__" = some (some (.ref f))) (i:PySem.W.isFn K (.ref f)=true) (l:K.lookup f=some ⟨oc,od,.func (fnOf "__init__" q (qc5 s) (qcd s) (qab s) (.ref dT) kV dc pm an cd ct),sl⟩) (c:codeIn K cd q=true) (k:keepIn K (.ref f)=true) (d:K.lookup dT=some ⟨dk,dd,.seq vs dn,ds⟩):FId K C q s vs:=⟨f,_,dT,_,_,⟨⟨_,_,_,_,_,_,_,_,_,rfl,l,c⟩,k⟩,⟨m,a,i,kc⟩,rfl,d,rfl⟩
theorem naI (h:PySem.W.findIn K (.ref C) n=some none):NoAttr K C n:=h
theorem exI (h:PySem.W.excIn K C qBg "ValueError.__new__" = true):qBh K C:=h
theorem cI (X:K.In h) (G:h.Ns mainGlobals mg) (a:nsIn K mainGlobals n=some (some (.int v dt))):∃ t,mg n=some (.int v t):=⟨_,mg_of X G a⟩
end
theorem scp {N P:List Str} {sc:Scope} (h1:sc.kind=.function:=by rfl) (h2:sc.isCoroutine=false:=by rfl) (h3:sc.isGenerator=false:=by rfl) (h4:N.Nodup:=by decide +kernel) (h5:N.take P.length=P:=by rfl) (h6:∀ x∈P,sc.names.lookup x=some .local\/sc.names.lookup x=some .cell:=by decide +kernel) (h7:∀ y∈sc.names,y.2≠.free:=by decide +kernel):qaf N P sc:=⟨h1,h2,h3,h4,h5,h6,h7⟩
def top (i:Nat):Stmt:=PySem.Challenge.pw_thinbook_k47_whole_the_true_answer_is_wi.main.body.getD i (.Pass ⟨0,0,0,0⟩)
abbrev qkk:Stmt:=(top 9)
abbrev qm7:Stmt:=(top 10)
abbrev qde:Stmt:=(top 11)
abbrev qe6:Stmt:=(top 12)
abbrev qkl:Stmt:=(top 14)
abbrev qkm:Stmt:=(top 15)
abbrev qe7:Stmt:=(top 16)
abbrev qm8:Stmt:=(top 17)
abbrev qm9:Stmt:=(top 18)
abbrev qkn:Stmt:=(top 19)
abbrev qna:Stmt:=(top 20)
abbrev qnb:Stmt:=(top 22)
abbrev qp7:Stmt:=(top 23)
abbrev qp8:Stmt:=(top 25)
abbrev qnc:Stmt:=(top 27)
abbrev qko:Stmt:=(top 28)
abbrev qe8:Stmt:=(top 29)
abbrev qdy:Stmt:=(top 30)
abbrev qf9:Stmt:=(top 31)
abbrev qi1:Stmt:=(top 32)
abbrev qkp:Stmt:=(top 33)
abbrev qe9:Stmt:=(inClass (top 35) 0)
abbrev qg6:Stmt:=(inClass (top 36) 0)
abbrev qg7:Stmt:=(inClass (top 37) 0)
abbrev qeq:Stmt:=(inClass (top 38) 0)
abbrev qi2:Stmt:=(inClass (top 39) 0)
abbrev qnd:Stmt:=(top 40)
abbrev qfa:Stmt:=(top 42)
abbrev qp9:Stmt:=(top 43)
abbrev qga:Stmt:=(top 44)
abbrev qqa:Stmt:=(top 45)
abbrev qer:Stmt:=(top 46)
abbrev qes:Stmt:=(top 47)
abbrev qgb:Stmt:=(top 48)
abbrev qg8:Stmt:=(top 49)
abbrev qol:Stmt:=(top 50)
abbrev qi3:Stmt:=(inClass (top 52) 0)
abbrev qgp:Stmt:=(inClass (top 52) 1)
abbrev qcu:Stmt:=(inClass (top 52) 2)
abbrev qd9:Stmt:=(inClass (top 52) 3)
abbrev qet:Stmt:=(inClass (top 52) 4)
abbrev qi4:Stmt:=(inClass (top 52) 5)
abbrev qkq:Stmt:=(inClass (top 52) 6)
abbrev qg9:Stmt:=(inClass (top 52) 7)
abbrev qha:Stmt:=(inClass (top 52) 8)
abbrev qhb:Stmt:=(inClass (top 52) 9)
abbrev quc:Stmt:=(top 53)
abbrev qne:Stmt:=(top 56)
abbrev qea:Stmt:=(top 57)
abbrev qdz:Stmt:=(top 58)
abbrev qgc:Stmt:=(top 59)
abbrev qhc:Stmt:=(top 60)
abbrev qfs:Stmt:=(inClass (top 61) 0)
abbrev qhd:Stmt:=(inClass (top 61) 1)
abbrev qi5:Stmt:=(inClass (top 61) 2)
abbrev qi6:Stmt:=(top 62)
abbrev qxu:Stmt:=(top 64)
abbrev qud:Stmt:=(top 65)
abbrev qfb:Stmt:=(top 67)
abbrev qgd:Stmt:=(top 68)
abbrev qi7:Stmt:=(top 69)
abbrev qkr:Stmt:=(top 70)
abbrev qi8:Stmt:=(top 71)
abbrev qhe:Stmt:=(top 72)
abbrev qhf:Stmt:=(top 73)
abbrev qi9:Stmt:=(top 74)
abbrev qhg:Stmt:=(top 75)
abbrev qja:Stmt:=(top 76)
abbrev qjb:Stmt:=(top 77)
abbrev qjc:Stmt:=(top 78)
abbrev qfc:Stmt:=(top 79)
abbrev qge:Stmt:=(top 80)
abbrev qjd:Stmt:=(top 81)
abbrev qks:Stmt:=(top 82)
abbrev qhh:Stmt:=(top 83)
abbrev qfd:Stmt:=(top 84)
abbrev qje:Stmt:=(top 85)
abbrev qjf:Stmt:=(top 86)
abbrev qfe:Stmt:=(top 87)
abbrev qff:Stmt:=(top 88)
abbrev qzx:Stmt:=(top 89)
theorem sc_is_whole:qaf ["thing"] ["thing"] (qab qkk):=scp
theorem sc_floored:qaf ["number", "width"] ["number", "width"] (qab qm7):=scp
theorem sc_greatest_divisor:qaf ["one", "other", "rest"] ["one", "other"] (qab qde):=scp
theorem sc_lowest_terms:qaf ["top", "bottom", "divisor"] ["top", "bottom"] (qab qe6):=scp
theorem sc_gone_cut:qaf ["rule", "day", "gone"] ["rule", "day"] (qab qkl):=scp
theorem sc_edges_at:qaf ["rule", "day", "cuts"] ["rule", "day"] (qab qkm):=scp
theorem sc_greater_edge:qaf ["one", "other"] ["one", "other"] (qab qe7):=scp
theorem sc_greater:qaf ["one", "other"] ["one", "other"] (qab qm8):=scp
theorem sc_is_gone:qaf ["edges", "time"] ["edges", "time"] (qab qm9):=scp
theorem sc_width_at:qaf ["rule", "edges", "time", "widths"] ["rule", "edges", "time"] (qab qkn):=scp
theorem sc_cell_at:qaf ["rule", "edges", "time", "width"] ["rule", "edges", "time"] (qab qna):=scp
theorem sc_heap_of:qaf ["runs", "values", "how_many", "total"] ["runs"] (qab qnb):=scp
theorem sc_poured:qaf ["one", "other"] ["one", "other"] (qab qp7):=scp
theorem sc_widest:qaf ["heap", "many", "least", "greatest", "beyond", "tops", "lift"] ["heap"] (qab qp8):=scp
theorem sc_many_of:qaf ["heaps"] ["heaps"] (qab qnc):=scp
theorem sc_total_of:qaf ["heaps"] ["heaps"] (qab qko):=scp
theorem sc_least_of_all:qaf ["heaps"] ["heaps"] (qab qe8):=scp
theorem sc_greatest_of_all:qaf ["heaps"] ["heaps"] (qab qdy):=scp
theorem sc_widest_runs:qaf ["parts", "runs", "part"] ["parts"] (qab qf9):=scp
theorem sc_is_beyond:qaf ["value", "many", "total", "high"] ["value", "many", "total", "high"] (qab qi1):=scp
theorem sc_mean_end:qaf ["known", "runs", "high", "many", "total", "value", "times"] ["known", "runs", "high"] (qab qkp):=scp
theorem sc_HowMany_told:qaf ["self", "known", "parts", "least"] ["self", "known", "parts"] (qab qe9):=scp
theorem sc_Total_told:qaf ["self", "known", "parts", "runs", "base", "below", "above"] ["self", "known", "parts"] (qab qg6):=scp
theorem sc_Least_told:qaf ["self", "known", "parts", "low", "high"] ["self", "known", "parts"] (qab qg7):=scp
theorem sc_Greatest_told:qaf ["self", "known", "parts", "low", "high"] ["self", "known", "parts"] (qab qeq):=scp
theorem sc_Mean_told:qaf ["self", "known", "parts", "runs"] ["self", "known", "parts"] (qab qi2):=scp
theorem sc_measure:qaf ["word"] ["word"] (qab qnd):=scp
theorem sc_times_within:qaf ["a", "b", "start", "width", "first", "end"] ["a", "b", "start", "width"] (qab qfa):=scp
theorem sc_is_cut:qaf ["a", "b", "start", "width", "within"] ["a", "b", "start", "width"] (qab qp9):=scp
theorem sc_check_begin:qaf ["edge", "a"] ["edge", "a"] (qab qga):=scp
theorem sc_pieces:qaf ["roll", "a", "b", "rows", "known", "time", "value", "many", "parts"] ["roll", "a", "b"] (qab qqa):=scp
theorem sc_greatest_gone:qaf ["rolls", "edge", "roll"] ["rolls"] (qab qer):=scp
theorem sc_pieces_of_all:qaf ["rolls", "a", "b"] ["rolls", "a", "b"] (qab qes):=scp
theorem sc_known_heaps:qaf ["laid", "heaps", "known", "parts"] ["laid"] (qab qgb):=scp
theorem sc_part_heaps:qaf ["laid", "heaps", "known", "parts"] ["laid"] (qab qg8):=scp
theorem sc_asked:qaf ["word", "rolls", "a", "b", "ask", "laid"] ["word", "rolls", "a", "b"] (qab qol):=scp
theorem sc_Roll_init:qaf ["self", "rule", "day"] ["self", "rule", "day"] (qab qi3):=scp
theorem sc_Roll_put:qaf ["self", "time", "value", "many", "cell"] ["self", "time", "value", "many"] (qab qgp):=scp
theorem sc_Roll_pour_into_cell:qaf ["self", "cell", "heap"] ["self", "cell", "heap"] (qab qcu):=scp
theorem sc_Roll_take_heap:qaf ["self", "start", "heap", "cell"] ["self", "start", "heap"] (qab qd9):=scp
theorem sc_Roll_take_all:qaf ["self", "roll", "time", "value", "many", "row"] ["self", "roll"] (qab qet):=scp
theorem sc_Roll_rule:qaf ["self"] ["self"] (qab qi4):=scp
theorem sc_Roll_day:qaf ["self"] ["self"] (qab qkq):=scp
theorem sc_Roll_edges:qaf ["self"] ["self"] (qab qg9):=scp
theorem sc_Roll_young:qaf ["self"] ["self"] (qab qha):=scp
theorem sc_Roll_heaps:qaf ["self"] ["self"] (qab qhb):=scp
theorem sc_begun:qaf ["rule", "day", "edges", "roll"] ["rule", "day", "edges"] (qab quc):=scp
theorem sc_is_step:qaf ["thing"] ["thing"] (qab qne):=scp
theorem sc_check_one_step:qaf ["step"] ["step"] (qab qea):=scp
theorem sc_check_next_step:qaf ["step", "behind"] ["step", "behind"] (qab qdz):=scp
theorem sc_check_steps:qaf ["steps", "step", "behind"] ["steps"] (qab qgc):=scp
theorem sc_check_gone:qaf ["gone", "last_age"] ["gone", "last_age"] (qab qhc):=scp
theorem sc_Rule_init:qaf ["self", "steps", "gone", "kept"] ["self", "steps", "gone"] (qab qfs):=scp
theorem sc_Rule_steps:qaf ["self"] ["self"] (qab qhd):=scp
theorem sc_Rule_gone:qaf ["self"] ["self"] (qab qi5):=scp
theorem sc_widths_of:qaf ["rule"] ["rule"] (qab qi6):=scp
theorem sc_aged:qaf ["roll", "day", "new"] ["roll", "day"] (qab qxu):=scp
theorem sc_under:qaf ["roll", "rule", "new"] ["roll", "rule"] (qab qud):=scp
theorem sc__law_cell_at:qaf ["_law_script", "_law_k"] ["_law_script", "_law_k"] (qab qfb):=scp
theorem sc__law_stream:qaf ["_law_cell_here", "_law_many", "_law_found", "_law_rest", "_law_k", "_law_number"] ["_law_cell_here", "_law_many"] (qab qgd):=scp
theorem sc__law_wide:qaf ["_law_cell_here", "_law_many", "_law_found", "_law_base", "_law_rest", "_law_k"] ["_law_cell_here", "_law_many"] (qab qi7):=scp
theorem sc__law_run:qaf ["_law_cell_here", "_law_kind", "_law_xs", "_law_value"] ["_law_cell_here", "_law_kind"] (qab qkr):=scp
theorem sc__law_heap:qaf ["_law_runs", "_law_many", "_law_total"] ["_law_runs"] (qab qi8):=scp
theorem sc__law_whole:qaf ["_law_found"] ["_law_found"] (qab qhe):=scp
theorem sc__law_tuple:qaf ["_law_found", "_law_most"] ["_law_found", "_law_most"] (qab qhf):=scp
theorem sc__law_rule:qaf ["_law_cell_here", "_law_xs", "_law_scale", "_law_age", "_law_width", "_law_steps", "_law_x"] ["_law_cell_here"] (qab qi9):=scp
theorem sc__law_edges:qaf ["_law_rule_here", "_law_day", "_law_edges_here"] ["_law_rule_here", "_law_day"] (qab qhg):=scp
theorem sc__law_cell:qaf ["_law_rule_here", "_law_edges_here", "_law_time_here", "_law_wide_here", "_law_step", "_law_edge"] ["_law_rule_here", "_law_edges_here", "_law_time_here"] (qab qja):=scp
theorem sc__law_rows:qaf ["_law_rule_here", "_law_edges_here", "_law_readings", "_law_young", "_law_heaps", "_law_time_here", "_law_value", "_law_many", "_law_here"] ["_law_rule_here", "_law_edges_here", "_law_readings"] (qab qjb):=scp
theorem sc__law_time:qaf ["_law_rule_here", "_law_day", "_law_x", "_law_edges_here", "_law_edge", "_law_wide_here", "_law_span"] ["_law_rule_here", "_law_day", "_law_x"] (qab qjc):=scp
theorem sc__law_reading:qaf ["_law_rule_here", "_law_day", "_law_cell_here", "_law_kind", "_law_x"] ["_law_rule_here", "_law_day", "_law_cell_here", "_law_kind"] (qab qfc):=scp
theorem sc__law_answer:qaf ["_law_word", "_law_runs", "_law_many", "_law_total"] ["_law_word", "_law_runs"] (qab qge):=scp
theorem sc__law_less:qaf ["_law_word", "_law_one", "_law_other_here"] ["_law_word", "_law_one", "_law_other_here"] (qab qjd):=scp
theorem sc__law_end:qaf ["_law_word", "_law_found", "_law_one", "_law_other_here"] ["_law_word", "_law_found"] (qab qks):=scp
theorem sc__law_other:qaf ["_law_rule_here", "_law_cell_here", "_law_ages", "_law_steps"] ["_law_rule_here", "_law_cell_here"] (qab qhh):=scp
theorem sc__law_greater:qaf ["_law_one", "_law_other_here", "_law_found", "_law_mine", "_law_yours"] ["_law_one", "_law_other_here"] (qab qfd):=scp
theorem sc__law_back:qaf ["_law_rule_here", "_law_roll_here", "_law_edges_here", "_law_cell_here", "_law_other_here", "_law_found"] ["_law_rule_here", "_law_roll_here", "_law_edges_here", "_law_cell_here"] (qab qje):=scp
theorem sc__law_roll:qaf ["_law_rule_here", "_law_cell_here", "_law_xs", "_law_day", "_law_later", "_law_roll_here", "_law_edges_here", "_law_readings", "_law_k", "_law_x", "_law_reading_here"] ["_law_rule_here", "_law_cell_here"] (qab qjf):=scp
theorem sc__law_aligned:qaf ["_law_rule_here", "_law_rows_here", "_law_a", "_law_b", "_law_start", "_law_width", "_law_many", "_law_total", "_law_least", "_law_greatest", "_law_first", "_law_last"] ["_law_rule_here", "_law_rows_here", "_law_a", "_law_b"] (qab qfe):=scp
theorem sc__law_stretch:qaf ["_law_rule_here", "_law_rolls", "_law_cell_here", "_law_ends", "_law_xs", "_law_roll_here", "_law_day", "_law_edges_here", "_law_readings", "_law_times", "_law_x", "_law_a"] ["_law_rule_here", "_law_rolls", "_law_cell_here"] (qab qff):=scp
theorem sc_law:qaf ["_law_script", "_law_rule_here", "_law_rolls", "_law_word", "_law_a", "_law_b", "_law_some", "_law_late", "_law_found", "_law_within", "_law_aligned_here", "_law_roll_here", "_law_day", "_law_edges_here", "_law_readings", "_law_rows_here", "_law_time_here", "_law_value", "_law_many", "_law_true"] ["_law_script"] (qab qzx):=scp
structure Txt (K:Frag) (mg:Str->Option Value) (C_HowMany C_Total C_Least C_Greatest C_Mean C_Roll C_Rule C_BookError C_NoNumber C_NoRule C_Backward C_Gone C_NoAsk:Addr):Prop where
 f_is_whole:FG K mg "is_whole" qkk
 f_floored:FG K mg "floored" qm7
 f_greatest_divisor:FG K mg "greatest_divisor" qde
 f_lowest_terms:FG K mg "lowest_terms" qe6
 f_gone_cut:FG K mg "gone_cut" qkl
 f_edges_at:FG K mg "edges_at" qkm
 f_greater_edge:FG K mg "greater_edge" qe7
 f_greater:FG K mg "greater" qm8
 f_is_gone:FG K mg "is_gone" qm9
 f_width_at:FG K mg "width_at" qkn
 f_cell_at:FG K mg "cell_at" qna
 f_heap_of:FG K mg "heap_of" qnb
 f_poured:FG K mg "poured" qp7
 f_widest:FG K mg "widest" qp8
 f_many_of:FG K mg "many_of" qnc
 f_total_of:FG K mg "total_of" qko
 f_least_of_all:FG K mg "least_of_all" qe8
 f_greatest_of_all:FG K mg "greatest_of_all" qdy
 f_widest_runs:FG K mg "widest_runs" qf9
 f_is_beyond:FG K mg "is_beyond" qi1
 f_mean_end:FG K mg "mean_end" qkp
 f_HowMany_told:FM K C_HowMany "told" "HowMany.told" qe9
 f_Total_told:FM K C_Total "told" "Total.told" qg6
 f_Least_told:FM K C_Least "told" "Least.told" qg7
 f_Greatest_told:FM K C_Greatest "told" "Greatest.told" qeq
 f_Mean_told:FM K C_Mean "told" "Mean.told" qi2
 f_measure:FG K mg "measure" qnd
 f_times_within:FG K mg "times_within" qfa
 f_is_cut:FG K mg "is_cut" qp9
 f_check_begin:FG K mg "check_begin" qga
 f_pieces:FG K mg "pieces" qqa
 f_greatest_gone:FG K mg "greatest_gone" qer
 f_pieces_of_all:FG K mg "pieces_of_all" qes
 f_known_heaps:FG K mg "known_heaps" qgb
 f_part_heaps:FG K mg "part_heaps" qg8
 f_asked:FGd K mg "asked" qol #[.none,.none]
 f_Roll_init:FI K C_Roll "Roll.__init__" qi3
 f_Roll_put:FMd K C_Roll "put" "Roll.put" qgp 1
 f_Roll_pour_into_cell:FM K C_Roll "pour_into_cell" "Roll.pour_into_cell" qcu
 f_Roll_take_heap:FM K C_Roll "take_heap" "Roll.take_heap" qd9
 f_Roll_take_all:FM K C_Roll "take_all" "Roll.take_all" qet
 f_Roll_rule:FM K C_Roll "rule" "Roll.rule" qi4
 f_Roll_day:FM K C_Roll "day" "Roll.day" qkq
 f_Roll_edges:FM K C_Roll "edges" "Roll.edges" qg9
 f_Roll_young:FM K C_Roll "young" "Roll.young" qha
 f_Roll_heaps:FM K C_Roll "heaps" "Roll.heaps" qhb
 f_begun:FG K mg "begun" quc
 f_is_step:FG K mg "is_step" qne
 f_check_one_step:FG K mg "check_one_step" qea
 f_check_next_step:FG K mg "check_next_step" qdz
 f_check_steps:FG K mg "check_steps" qgc
 f_check_gone:FG K mg "check_gone" qhc
 f_Rule_init:FId K C_Rule "Rule.__init__" qfs #[.none]
 f_Rule_steps:FM K C_Rule "steps" "Rule.steps" qhd
 f_Rule_gone:FM K C_Rule "gone" "Rule.gone" qi5
 f_widths_of:FG K mg "widths_of" qi6
 f_aged:FG K mg "aged" qxu
 f_under:FG K mg "under" qud
 f__law_cell_at:FG K mg "_law_cell_at" qfb
 f__law_stream:FG K mg "_law_stream" qgd
 f__law_wide:FG K mg "_law_wide" qi7
 f__law_run:FG K mg "_law_run" qkr
 f__law_heap:FG K mg "_law_heap" qi8
 f__law_whole:FG K mg "_law_whole" qhe
 f__law_tuple:FG K mg "_law_tuple" qhf
 f__law_rule:FG K mg "_law_rule" qi9
 f__law_edges:FG K mg "_law_edges" qhg
 f__law_cell:FG K mg "_law_cell" qja
 f__law_rows:FG K mg "_law_rows" qjb
 f__law_time:FG K mg "_law_time" qjc
 f__law_reading:FG K mg "_law_reading" qfc
 f__law_answer:FG K mg "_law_answer" qge
 f__law_less:FG K mg "_law_less" qjd
 f__law_end:FG K mg "_law_end" qks
 f__law_other:FG K mg "_law_other" qhh
 f__law_greater:FG K mg "_law_greater" qfd
 f__law_back:FG K mg "_law_back" qje
 f__law_roll:FG K mg "_law_roll" qjf
 f__law_aligned:FG K mg "_law_aligned" qfe
 f__law_stretch:FG K mg "_law_stretch" qff
 f_law:FG K mg "law" qzx
 cl_HowMany:Cls K C_HowMany
 mg_HowMany:mg "HowMany" = some (.ref C_HowMany)
 mk_HowMany:Mk0 K C_HowMany
 cl_Total:Cls K C_Total
 mg_Total:mg "Total" = some (.ref C_Total)
 mk_Total:Mk0 K C_Total
 cl_Least:Cls K C_Least
 mg_Least:mg "Least" = some (.ref C_Least)
 mk_Least:Mk0 K C_Least
 cl_Greatest:Cls K C_Greatest
 mg_Greatest:mg "Greatest" = some (.ref C_Greatest)
 mk_Greatest:Mk0 K C_Greatest
 cl_Mean:Cls K C_Mean
 mg_Mean:mg "Mean" = some (.ref C_Mean)
 mk_Mean:Mk0 K C_Mean
 cl_Roll:Cls K C_Roll
 mg_Roll:mg "Roll" = some (.ref C_Roll)
 na_Roll_kept_rule:NoAttr K C_Roll "kept_rule"
 na_Roll_kept_day:NoAttr K C_Roll "kept_day"
 na_Roll_kept_edges:NoAttr K C_Roll "kept_edges"
 na_Roll_whole_ones:NoAttr K C_Roll "whole_ones"
 na_Roll_cell_heaps:NoAttr K C_Roll "cell_heaps"
 cl_Rule:Cls K C_Rule
 mg_Rule:mg "Rule" = some (.ref C_Rule)
 na_Rule_kept_steps:NoAttr K C_Rule "kept_steps"
 na_Rule_gone_age:NoAttr K C_Rule "gone_age"
 mg_BookError:mg "BookError" = some (.ref C_BookError)
 mg_NoNumber:mg "NoNumber" = some (.ref C_NoNumber)
 mg_NoRule:mg "NoRule" = some (.ref C_NoRule)
 mg_Backward:mg "Backward" = some (.ref C_Backward)
 mg_Gone:mg "Gone" = some (.ref C_Gone)
 mg_NoAsk:mg "NoAsk" = some (.ref C_NoAsk)
 ex_BookError:qBh K C_BookError
 kx_BookError:qAh K C_BookError
 hit_BookError_BookError:PySem.W.mroIn K C_BookError (.ref C_BookError)=some true
 is_BookError_BookError:PySem.W.kitOne K (.ref C_BookError) (.ref C_BookError)=some true
 is_BookError_NoNumber:PySem.W.kitOne K (.ref C_BookError) (.ref C_NoNumber)=some false
 is_BookError_NoRule:PySem.W.kitOne K (.ref C_BookError) (.ref C_NoRule)=some false
 is_BookError_Backward:PySem.W.kitOne K (.ref C_BookError) (.ref C_Backward)=some false
 is_BookError_Gone:PySem.W.kitOne K (.ref C_BookError) (.ref C_Gone)=some false
 is_BookError_NoAsk:PySem.W.kitOne K (.ref C_BookError) (.ref C_NoAsk)=some false
 is_BookError_ValueError:PySem.W.kitOne K (.ref C_BookError) (.type "ValueError")=some true
 ex_NoNumber:qBh K C_NoNumber
 kx_NoNumber:qAh K C_NoNumber
 hit_NoNumber_BookError:PySem.W.mroIn K C_NoNumber (.ref C_BookError)=some true
 is_NoNumber_BookError:PySem.W.kitOne K (.ref C_NoNumber) (.ref C_BookError)=some true
 hit_NoNumber_NoNumber:PySem.W.mroIn K C_NoNumber (.ref C_NoNumber)=some true
 is_NoNumber_NoNumber:PySem.W.kitOne K (.ref C_NoNumber) (.ref C_NoNumber)=some true
 is_NoNumber_NoRule:PySem.W.kitOne K (.ref C_NoNumber) (.ref C_NoRule)=some false
 is_NoNumber_Backward:PySem.W.kitOne K (.ref C_NoNumber) (.ref C_Backward)=some false
 is_NoNumber_Gone:PySem.W.kitOne K (.ref C_NoNumber) (.ref C_Gone)=some false
 is_NoNumber_NoAsk:PySem.W.kitOne K (.ref C_NoNumber) (.ref C_NoAsk)=some false
 is_NoNumber_ValueError:PySem.W.kitOne K (.ref C_NoNumber) (.type "ValueError")=some true
 ex_NoRule:qBh K C_NoRule
 kx_NoRule:qAh K C_NoRule
 hit_NoRule_BookError:PySem.W.mroIn K C_NoRule (.ref C_BookError)=some true
 is_NoRule_BookError:PySem.W.kitOne K (.ref C_NoRule) (.ref C_BookError)=some true
 is_NoRule_NoNumber:PySem.W.kitOne K (.ref C_NoRule) (.ref C_NoNumber)=some false
 hit_NoRule_NoRule:PySem.W.mroIn K C_NoRule (.ref C_NoRule)=some true
 is_NoRule_NoRule:PySem.W.kitOne K (.ref C_NoRule) (.ref C_NoRule)=some true
 is_NoRule_Backward:PySem.W.kitOne K (.ref C_NoRule) (.ref C_Backward)=some false
 is_NoRule_Gone:PySem.W.kitOne K (.ref C_NoRule) (.ref C_Gone)=some false
 is_NoRule_NoAsk:PySem.W.kitOne K (.ref C_NoRule) (.ref C_NoAsk)=some false
 is_NoRule_ValueError:PySem.W.kitOne K (.ref C_NoRule) (.type "ValueError")=some true
 kx_Backward:qAh K C_Backward
 hit_Backward_BookError:PySem.W.mroIn K C_Backward (.ref C_BookError)=some true
 is_Backward_BookError:PySem.W.kitOne K (.ref C_Backward) (.ref C_BookError)=some true
 is_Backward_NoNumber:PySem.W.kitOne K (.ref C_Backward) (.ref C_NoNumber)=some false
 is_Backward_NoRule:PySem.W.kitOne K (.ref C_Backward) (.ref C_NoRule)=some false
 hit_Backward_Backward:PySem.W.mroIn K C_Backward (.ref C_Backward)=some true
 is_Backward_Backward:PySem.W.kitOne K (.ref C_Backward) (.ref C_Backward)=some true
 is_Backward_Gone:PySem.W.kitOne K (.ref C_Backward) (.ref C_Gone)=some false
 is_Backward_NoAsk:PySem.W.kitOne K (.ref C_Backward) (.ref C_NoAsk)=some false
 is_Backward_ValueError:PySem.W.kitOne K (.ref C_Backward) (.type "ValueError")=some true
 kx_Gone:qAh K C_Gone
 hit_Gone_BookError:PySem.W.mroIn K C_Gone (.ref C_BookError)=some true
 is_Gone_BookError:PySem.W.kitOne K (.ref C_Gone) (.ref C_BookError)=some true
 is_Gone_NoNumber:PySem.W.kitOne K (.ref C_Gone) (.ref C_NoNumber)=some false
 is_Gone_NoRule:PySem.W.kitOne K (.ref C_Gone) (.ref C_NoRule)=some false
 is_Gone_Backward:PySem.W.kitOne K (.ref C_Gone) (.ref C_Backward)=some false
 hit_Gone_Gone:PySem.W.mroIn K C_Gone (.ref C_Gone)=some true
 is_Gone_Gone:PySem.W.kitOne K (.ref C_Gone) (.ref C_Gone)=some true
 is_Gone_NoAsk:PySem.W.kitOne K (.ref C_Gone) (.ref C_NoAsk)=some false
 is_Gone_ValueError:PySem.W.kitOne K (.ref C_Gone) (.type "ValueError")=some true
 ex_NoAsk:qBh K C_NoAsk
 kx_NoAsk:qAh K C_NoAsk
 hit_NoAsk_BookError:PySem.W.mroIn K C_NoAsk (.ref C_BookError)=some true
 is_NoAsk_BookError:PySem.W.kitOne K (.ref C_NoAsk) (.ref C_BookError)=some true
 is_NoAsk_NoNumber:PySem.W.kitOne K (.ref C_NoAsk) (.ref C_NoNumber)=some false
 is_NoAsk_NoRule:PySem.W.kitOne K (.ref C_NoAsk) (.ref C_NoRule)=some false
 is_NoAsk_Backward:PySem.W.kitOne K (.ref C_NoAsk) (.ref C_Backward)=some false
 is_NoAsk_Gone:PySem.W.kitOne K (.ref C_NoAsk) (.ref C_Gone)=some false
 hit_NoAsk_NoAsk:PySem.W.mroIn K C_NoAsk (.ref C_NoAsk)=some true
 is_NoAsk_NoAsk:PySem.W.kitOne K (.ref C_NoAsk) (.ref C_NoAsk)=some true
 is_NoAsk_ValueError:PySem.W.kitOne K (.ref C_NoAsk) (.type "ValueError")=some true
 b_abs:mg "abs" = none
 b_all:mg "all" = none
 b_bool:mg "bool" = none
 b_enumerate:mg "enumerate" = none
 b_int:mg "int" = none
 b_isinstance:mg "isinstance" = none
 b_len:mg "len" = none
 b_list:mg "list" = none
 b_max:mg "max" = none
 b_min:mg "min" = none
 b_range:mg "range" = none
 b_reversed:mg "reversed" = none
 b_sorted:mg "sorted" = none
 b_sum:mg "sum" = none
 b_tuple:mg "tuple" = none
 b_zip:mg "zip" = none
 c_MOST_STEPS:∃ t,mg "MOST_STEPS" = some (.int 5 t)
theorem qCn {K:Frag} {mg:Str->Option Value} {C_HowMany C_Total C_Least C_Greatest C_Mean C_Roll C_Rule C_BookError C_NoNumber C_NoRule C_Backward C_Gone C_NoAsk:Addr} (_:nsIn K mainGlobals "HowMany" = some (some (.ref C_HowMany))) (_:nsIn K mainGlobals "Total" = some (some (.ref C_Total))) (_:nsIn K mainGlobals "Least" = some (some (.ref C_Least))) (_:nsIn K mainGlobals "Greatest" = some (some (.ref C_Greatest))) (_:nsIn K mainGlobals "Mean" = some (some (.ref C_Mean))) (_:nsIn K mainGlobals "Roll" = some (some (.ref C_Roll))) (_:nsIn K mainGlobals "Rule" = some (some (.ref C_Rule))) (_:nsIn K mainGlobals "BookError" = some (some (.ref C_BookError))) (_:nsIn K mainGlobals "NoNumber" = some (some (.ref C_NoNumber))) (_:nsIn K mainGlobals "NoRule" = some (some (.ref C_NoRule))) (_:nsIn K mainGlobals "Backward" = some (some (.ref C_Backward))) (_:nsIn K mainGlobals "Gone" = some (some (.ref C_Gone))) (_:nsIn K mainGlobals "NoAsk" = some (some (.ref C_NoAsk))) (T:Txt K mg C_HowMany C_Total C_Least C_Greatest C_Mean C_Roll C_Rule C_BookError C_NoNumber C_NoRule C_Backward C_Gone C_NoAsk):∃ C_HowMany C_Total C_Least C_Greatest C_Mean C_Roll C_Rule C_BookError C_NoNumber C_NoRule C_Backward C_Gone C_NoAsk,Txt K mg C_HowMany C_Total C_Least C_Greatest C_Mean C_Roll C_Rule C_BookError C_NoNumber C_NoRule C_Backward C_Gone C_NoAsk:=⟨C_HowMany,C_Total,C_Least,C_Greatest,C_Mean,C_Roll,C_Rule,C_BookError,C_NoNumber,C_NoRule,C_Backward,C_Gone,C_NoAsk,T⟩
section
variable {P:Program} {w:World} {K:Frag} {mg:Str->Option Value} {base:Heap} {C_HowMany C_Total C_Least C_Greatest C_Mean C_Roll C_Rule C_BookError C_NoNumber C_NoRule C_Backward C_Gone C_NoAsk:Addr} (T:Txt K mg C_HowMany C_Total C_Least C_Greatest C_Mean C_Roll C_Rule C_BookError C_NoNumber C_NoRule C_Backward C_Gone C_NoAsk)
include T in
theorem qgq:qax P w K mg base 1 "is_whole" ["thing"] qof:=by
 obtain ⟨f,fd,F,hm⟩:=T.f_is_whole;have nd:=sc_is_whole.nd;refine F.def_ hm (F.ok sc_is_whole (λvs H Q E h=>?_) (λcdv A outer s H vs Q E hr h=>?_)) (F.binds λ_ _ _ _ _ _ us hl=>by obtain ⟨_,rfl⟩:=L2.lq1 hl;rfl)
 ·obtain ⟨x,rfl,_⟩:=h;rfl
 ·obtain ⟨x,rfl,i,rfl,q⟩:=h
  exists _,(qac (qah (qe2 (qag qd2 rfl T.b_isinstance qbl (jA2 (pv 0) (qfk (v:=.ty "int") rfl T.b_int qw8 rfl))) (qfw (qlu (qag qd2 rfl T.b_isinstance qbl (jA2 (pv 0) (qfk (v:=.ty "bool") rfl T.b_bool qsr rfl))))))));refine ⟨_,rfl,_,_,_,true,rfl,.int i,qie _,_,rfl,qdk ?_⟩;exact ⟨_,rfl,_,_,_,false,rfl,.int i,qgx _,_,rfl,q⟩
include T in
theorem que:qax P w K mg base 2 "is_step" ["thing"] qrb:=by
 obtain ⟨f,fd,F,hm⟩:=T.f_is_step;have nd:=sc_is_step.nd;refine F.def_ hm (F.ok sc_is_step (λvs H Q E h=>?_) (λcdv A outer s H vs Q E hr h=>?_)) (F.binds λ_ _ _ _ _ _ us hl=>by obtain ⟨_,rfl⟩:=L2.lq1 hl;rfl)
 ·obtain ⟨x,p,rfl,_⟩:=h;rfl
 ·obtain ⟨x,p,rfl,⟨a,rfl,ha⟩,q⟩:=h
  exists _,(qac (qah (qe2 (qag qd2 rfl T.b_isinstance qbl (jA2 (pv 0) (qfk (v:=.ty "tuple") rfl T.b_tuple qk7 rfl))) (qe2 (jD qbh (qag qan rfl T.b_len qby (jA1 (pv 0))) qaa) (qe2 (jF (qgq T) hr (jA1 (jT (pv 0) qaa))) (qfw (jF (qgq T) hr (jA1 (jT (pv 0) qaa)))))))));refine ⟨_,rfl,_,_,_,true,rfl,.tup ha,kit_tuple _,_,rfl,qdk ?_⟩;refine ⟨_,rfl,a,_,rfl,.inr (SqT.of ha),rfl,_,rfl,qdk ?_⟩;refine ⟨_,rfl,a,_,0,_,rfl,rfl,SqT.of ha,rfl,_,rfl,_,rfl,_,rfl,qdk ?_⟩;exact ⟨_,rfl,a,_,1,_,rfl,rfl,SqT.of ha,rfl,_,rfl,_,rfl,q⟩
include T in
theorem qhp:qax P w K mg base 3 "check_one_step" ["step"] qgn:=by
 obtain ⟨f,fd,F,hm⟩:=T.f_check_one_step;have nd:=sc_check_one_step.nd;refine F.def_ hm (F.ok sc_check_one_step (λvs H Q E h=>?_) (λcdv A outer s H vs Q E hr h=>?_)) (F.binds λ_ _ _ _ _ _ us hl=>by obtain ⟨_,rfl⟩:=L2.lq1 hl;rfl)
 ·obtain ⟨x,p,rfl,_⟩:=h;rfl
 ·obtain ⟨x,p,rfl,hp,h1,h2,q⟩:=h
  obtain ⟨a,rfl,ha⟩:=id hp;exists _,(jB3 (qau (qlt (qdl (jF (que T) hr (jA1 (pv 0))))) (qac qbt) qak) (qau (jC qc8 (jT (pv 0) qaa) qaa) (qac qbt) qak) (qau (jC qc8 (jT (pv 0) qaa) qaa) (qac qbt) qak));refine ⟨_,rfl,_,p,rfl,hp,_,rfl,qd7 ?_⟩;refine ⟨_,rfl,a,_,0,_,rfl,rfl,SqT.of ha,rfl,_,_,rfl,rfl,_,rfl,qb3 (λz=>?_) λ_=>?_⟩
  ·exact absurd (AM z) (by ext)
  refine ⟨_,rfl,a,_,1,_,rfl,rfl,SqT.of ha,rfl,_,_,rfl,rfl,_,rfl,qb3 (λz=>?_) λ_=>q⟩;exact absurd (AM z) (by ext)
include T in
theorem qgr:qax P w K mg base 1 "check_next_step" ["step", "behind"] qdd:=by
 obtain ⟨f,fd,F,hm⟩:=T.f_check_next_step;have nd:=sc_check_next_step.nd;refine F.def_ hm (F.ok sc_check_next_step (λvs H Q E h=>?_) (λcdv A outer s H vs Q E hr h=>?_)) (F.binds λ_ _ _ _ _ _ us hl=>by obtain ⟨_,_,rfl⟩:=L2.lq2 hl;rfl)
 ·obtain ⟨x,y,p,p',rfl,_⟩:=h;rfl
 ·obtain ⟨x,y,p,p',rfl,⟨a,rfl,ha⟩,⟨b,rfl,hb⟩,h0,h1,h2,q⟩:=h
  exists _,(jB2 (qau (jC qc8 (jT (pv 1) qaa) (jT (pv 0) qaa)) (qac qbt) qak) (qau (jC qva (qad qar (jT (pv 1) qaa) (jT (pv 0) qaa)) qaa) (qac qbt) qak));refine ⟨_,rfl,b,_,0,_,rfl,rfl,SqT.of hb,rfl,_,rfl,a,_,0,_,rfl,rfl,SqT.of ha,rfl,_,_,rfl,rfl,_,rfl,qb3 (λz=>?_) λ_=>?_⟩
  ·exact absurd (AM z) (by ext)
  refine ⟨_,rfl,b,_,1,_,rfl,rfl,SqT.of hb,rfl,_,rfl,a,_,1,_,rfl,rfl,SqT.of ha,rfl,_,_,rfl,rfl,(by show 0<p.2;ext),rfl,_,rfl,?_⟩;refine qA7 ?_ q;exact congrArg V.int h2
include T in
theorem qlm:qax P w K mg base 4 "check_steps" ["steps"] qe4:=by
 obtain ⟨f,fd,F,hm⟩:=T.f_check_steps;have nd:=sc_check_steps.nd;refine F.def_ hm (F.ok sc_check_steps (λvs H Q E h=>?_) (λcdv A outer s H vs Q E hr h=>?_)) (F.binds λ_ _ _ _ _ _ us hl=>by obtain ⟨_,rfl⟩:=L2.lq1 hl;rfl)
 ·obtain ⟨l,xs,ps,rfl,_⟩:=h;rfl
 ·obtain ⟨l,xs,ps,rfl,hl,hp,G,q⟩:=h
  have hlen:=hp.length;have g1:=G.lo;have g2:=G.hi;exists _,(jB3 (qau (PW.pt (qls (jC qc8 (qag qan rfl T.b_len qby (jA1 (pv 0))) qaa) (qgv (jC qlx (qag qan rfl T.b_len qby (jA1 (pv 0))) (qyb (v:=.int 5) rfl T.c_MOST_STEPS.choose_spec ⟨_,rfl⟩))))) (qac qbt) qak) (qbv AS rfl (qap (pv 0)) (jN 1 nd) (qac (qaz (jF (qhp T) hr (jA1 (pv 1)))))) (qbv AS rfl (qj3 rfl T.b_zip (jA2 (pv 0) (qca qdc (pv 0) (qbw qaa) qgk))) (jG2 (jN 1 nd) (jN 2 nd)) (qac (qaz (jF (qgr T) hr (jA2 (pv 1) (pv 2)))))));refine ⟨_,rfl,l,xs,rfl,.inl (SqL.of hl),_,_,rfl,rfl,_,rfl,qb3 (λz=>?_) λ_=>?_⟩
  ·exact absurd (AM z) (by ext)
  refine ⟨_,rfl,l,xs,rfl,.inl (SqL.of hl),_,_,rfl,rfl,_,rfl,qb3 (λz=>?_) λ_=>?_⟩
  ·exact absurd (AM z) (by ext)
  refine ⟨_,rfl,l,rfl,⟨_,SqL.of hl⟩,qbk (xs:=xs) (λi σ H2=>H2=H/\∃ v,σ=[some (.ref l),v,none]) ⟨rfl,none,rfl⟩ (λi σ H2 _ h2=>by rw[h2.1];exact SqL.of hl) ?_ ?_⟩
  ·rintro i x σ H2 hi ⟨rfl,v,rfl⟩
   obtain ⟨p,hpi,hx⟩:=hp.get hi;obtain ⟨e1,e2⟩:=G.each i p hpi;exact ⟨_,rfl,_,p,rfl,hx,e1,e2,rfl,_,rfl⟩
  ·rintro σ H2 ⟨rfl,v,rfl⟩
   refine ⟨_,rfl,_,rfl,_,rfl,_,xs,rfl,SqL.of hl,λl2 H3 n3=>?_⟩;refine ⟨l,l2,xs,_,rfl,SqL.of (n3.same _ _ hl),SqL.of n3.at_,qk8 (xs:=xs) (ys:=qgw xs (some 1) none) (λi σ H4=>Same H3 H4/\∃ u v,σ=[some (.ref l),u,v]) ⟨Same.refl _,_,_,rfl⟩
    (λi σ H4 h4=>⟨SqL.of (h4.1 _ _ (n3.same _ _ hl)),SqL.of (h4.1 _ _ n3.at_)⟩) ?_ ?_⟩
   ·rintro i x y σ H4 p H5 hx hy n5 ⟨s4,u,v',rfl⟩
    obtain ⟨p1,hp1,hx1⟩:=hp.get hx;have hy':xs[i+1]?=some y:=by
     have:qgw xs (some 1) none=xs.drop 1:=qF7 xs;rw[this,List.getElem?_drop] at hy
     rwa [Nat.add_comm] at hy
    obtain ⟨p2,hp2,hx2⟩:=hp.get hy';obtain ⟨e1,e2⟩:=G.next i p1 p2 hp1 hp2;obtain ⟨_,e3⟩:=G.each i p1 hp1;have s5:Same H2 H5:=n3.same.trans (s4.trans n5.same);exists p,_,rfl,SqT.of n5.at_,rfl,_,_,rfl,_,_,rfl,rfl;exact ⟨_,rfl,_,rfl,x,y,p1,p2,rfl,hx1.same s5,hx2.same s5,e3,e1,e2,s4.trans n5.same,_,_,rfl⟩
   ·rintro i σ H4 _ ⟨s4,_,_,_⟩
    exact q H4 (n3.same.trans s4)
include T in
theorem qnf:qax P w K mg base 2 "check_gone" ["gone", "last_age"] qld:=by
 obtain ⟨f,fd,F,hm⟩:=T.f_check_gone;have nd:=sc_check_gone.nd;refine F.def_ hm (F.ok sc_check_gone (λvs H Q E h=>?_) (λcdv A outer s H vs Q E hr h=>?_)) (F.binds λ_ _ _ _ _ _ us hl=>by obtain ⟨_,_,rfl⟩:=L2.lq2 hl;rfl)
 ·obtain ⟨g,last,rfl,_⟩:=h;rfl
 ·obtain ⟨g,last,rfl,hg,q⟩:=h
  exists _,(jB2 (qau (jC qdo (pv 0) qay) (qac qyd) qak) (qau (PW.pt (qls (qlt (qdl (jF (qgq T) hr (jA1 (pv 0))))) (qgv (jC qc8 (pv 0) (pv 1))))) (qac qbt) qak))
  cases g with
  | none=>exact ⟨_,rfl,rfl,_,rfl,qdk q⟩
  | some z =>
   refine ⟨_,rfl,rfl,_,rfl,qd7 ?_⟩;refine ⟨_,rfl,_,rfl,z,rfl,_,rfl,qd7 ?_⟩;refine ⟨_,rfl,_,rfl,_,_,rfl,rfl,_,rfl,qb3 (λy=>?_) λ_=>q⟩;exact absurd (AM y) (by have:=hg z rfl;ext)
include T in
theorem qom:∃ f fd dT o n,qjr P w K mg base CX0 5 f fd ["self", "steps", "gone"] (qle C_Rule)/\FunD K "__init__" "Rule.__init__" qfs (.ref dT) f fd/\Mk K C_Rule f/\fd.defaults=.ref dT/\K.lookup dT=some o/\o.data=.seq #[.none] n:=by
 obtain ⟨f,fd,dT,o,n,F,M,h1,h2,h3⟩:=T.f_Rule_init;have nd:=sc_Rule_init.nd;refine ⟨f,fd,dT,o,n,(F.ok sc_Rule_init (λvs H Q E h=>?_) (λcdv A outer s H vs Q E hr h=>?_)),F,M,h1,h2,h3⟩
 ·obtain ⟨r,dx,l,xs,ps,g,rfl,_⟩:=h;rfl
 ·obtain ⟨r,dx,l,xs,ps,g,rfl,hro,hl,hp,G,hg,k⟩:=h
  have g1:=G.lo;exists _,(jB5 (jS 3 nd (qdq qc3 rfl T.b_list qfl (jA1 (pv 1)))) (qaz (jF (qlm T) hr (jA1 (pv 3)))) (qaz (jF (qnf T) hr (jA2 (pv 2) (jT (jI (pv 3) (qeb qck qaa)) qaa)))) (qeh (pv 0) (pv 3) rfl) (qeh (pv 0) (pv 2) rfl));refine ⟨_,rfl,l,xs,rfl,.inl (SqL.of hl),λl' H1 n1=>?_⟩;refine ⟨_,rfl,l',xs,ps,rfl,n1.at_,hp.same n1.same,G,λH2 s2=>?_⟩;have hl2:=s2 _ _ n1.at_;have hp2:=(hp.same n1.same).same s2;have hlen:=hp.length;obtain ⟨v,hv⟩:∃ v,xs[xs.length-1]?=some v:=⟨xs[xs.length-1]'(by ext),Ab _⟩;obtain ⟨p,hpv,a,rfl,ha⟩:=hp2.get hv;refine ⟨_,rfl,_,rfl,_,rfl,l',xs,-1,_,rfl,rfl,SqL.of hl2,qek hv,a,_,0,_,rfl,rfl,SqT.of ha,rfl,g,p.1,rfl,hg p (by rw[<- hlen];exact hpv),?_⟩;have hr2:=s2 _ _ (n1.same _ _ hro);have nrl:r≠l':=qae hro n1.fresh;refine ⟨_,rfl,_,rfl,r,C_Rule,dx,[],rfl,hr2,T.cl_Rule,T.na_Rule_kept_steps,(by show 0<1000;decide),λH3 b3 h3=>?_⟩;refine ⟨_,rfl,_,rfl,r,C_Rule,dx,_,rfl,h3,T.cl_Rule,T.na_Rule_gone_age,(by show 1<1000;decide),λH4 b4 h4=>?_⟩;refine k l' _ n1.fresh ⟨⟨dx,h4⟩,xs,b4 _ _ (b3 _ _ hl2 nrl.symm) nrl.symm,(hp2.but b3 hr2 qg3).but b4 h3 qg3⟩ λb o e hb=>?_
  exact b4 _ _ (b3 _ _ (s2 _ _ (n1.same _ _ e)) hb) hb
include T in
theorem qln:qDy P w K mg base C_Rule 5 "Rule" ["self", "steps", "gone"] [] (qle C_Rule):=by
 obtain ⟨f,fd,dT,o,n,hf,F,M,h1,h2,h3⟩:=qom (P:=P) (w:=w) (base:=base) T;refine ⟨f,fd,hf,T.mg_Rule,M,qn9 h1 h2 h3 λus hl=>?_⟩;obtain ⟨oc,od,kV,doc,pm,an,cdv,ct,osl,rfl,lk,hcd⟩:=F.ex;obtain ⟨_,_,_,rfl⟩:=L2.lq3 (us:=us) (by simpa using hl);exact ⟨_,rfl,rfl⟩
include T in
theorem qdf:qef P w K mg base C_Rule 1 "steps" ["self"] (qmi C_Rule):=by
 obtain ⟨f,fd,F,hm⟩:=T.f_Rule_steps;have nd:=sc_Rule_steps.nd;refine ⟨f,fd,(F.ok sc_Rule_steps (λvs H Q E h=>?_) (λcdv A outer s H vs Q E hr h=>?_)),hm,(F.binds λ_ _ _ _ _ _ us hl=>by obtain ⟨_,rfl⟩:=L2.lq1 hl;rfl)⟩
 ·obtain ⟨r,l,ps,g,xs,rfl,_⟩:=h;rfl
 ·obtain ⟨r,l,ps,g,xs,rfl,R,hl,k⟩:=h
  obtain ⟨dx,hob⟩:=R.ob;exists _,(qac (qah (qdq qc3 rfl T.b_list qfl (jA1 (qb7 (pv 0) rfl)))));exact ⟨_,rfl,r,C_Rule,dx,_,_,rfl,hob,T.cl_Rule,T.na_Rule_kept_steps,qze _ _,l,xs,rfl,.inl (SqL.of hl),k⟩
include T in
theorem qon:qef P w K mg base C_Rule 1 "gone" ["self"] (qtk C_Rule):=by
 obtain ⟨f,fd,F,hm⟩:=T.f_Rule_gone;have nd:=sc_Rule_gone.nd;refine ⟨f,fd,(F.ok sc_Rule_gone (λvs H Q E h=>?_) (λcdv A outer s H vs Q E hr h=>?_)),hm,(F.binds λ_ _ _ _ _ _ us hl=>by obtain ⟨_,rfl⟩:=L2.lq1 hl;rfl)⟩
 ·obtain ⟨r,l,ps,g,rfl,_⟩:=h;rfl
 ·obtain ⟨r,l,ps,g,rfl,R,q⟩:=h
  obtain ⟨dx,hob⟩:=R.ob;exists _,(qac (qah (qb7 (pv 0) rfl)));exact ⟨_,rfl,r,C_Rule,dx,_,_,rfl,hob,T.cl_Rule,T.na_Rule_gone_age,qEd _ _,q⟩
include T in
theorem qjg:qax P w K mg base 1 "floored" ["number", "width"] qrc:=by
 obtain ⟨f,fd,F,hm⟩:=T.f_floored;have nd:=sc_floored.nd;refine F.def_ hm (F.ok sc_floored (λvs H Q E h=>?_) (λcdv A outer s H vs Q E hr h=>?_)) (F.binds λ_ _ _ _ _ _ us hl=>by obtain ⟨_,_,rfl⟩:=L2.lq2 hl;rfl)
 ·obtain ⟨n,w',rfl,_⟩:=h;rfl
 ·obtain ⟨n,w',rfl,h1,h2,h3,h4,q⟩:=h
  have hb:=qvx h1 (by decide:(0:Int)<=10 ^ 46) h3 h4;exists _,(qac (qah (qad qbp (qad qdb (pv 0) (pv 1)) (pv 1))));exact ⟨_,rfl,_,rfl,_,_,rfl,rfl,⟨by ext,by ext⟩,_,rfl,_,_,rfl,rfl,⟨⟨by ext,by ext⟩,by ext,by ext⟩,q⟩
include T in
theorem qrk:qax P w K mg base 2 "gone_cut" ["rule", "day"] (qil C_Rule):=by
 obtain ⟨f,fd,F,hm⟩:=T.f_gone_cut;have nd:=sc_gone_cut.nd;refine F.def_ hm (F.ok sc_gone_cut (λvs H Q E h=>?_) (λcdv A outer s H vs Q E hr h=>?_)) (F.binds λ_ _ _ _ _ _ us hl=>by obtain ⟨_,_,rfl⟩:=L2.lq2 hl;rfl)
 ·obtain ⟨r,l,ps,g,d,rfl,_⟩:=h;rfl
 ·obtain ⟨r,l,ps,g,d,rfl,R,Pg,hd,q⟩:=h
  obtain ⟨dx,hob⟩:=R.ob;obtain ⟨xs,hl,hx⟩:=R.ls;have n1:(rf l (gv g)).lookup ("gone" : Str)=none:=qtj _ _ (by decide +kernel) (by decide +kernel);have n2:(rf l (gv g)).lookup ("steps" : Str)=none:=qtj _ _ (by decide +kernel) (by decide +kernel);obtain ⟨p,hp,ep⟩:=Pg.last;have hlen:=hx.length;exists _,(jB3 (jS 2 nd (qcm (pv 0) T.cl_Rule (qon T) (hr.mono (by decide)))) (qau (jC qdo (pv 2) qay) (qac (qah qay)) qak) (qah (jF (qjg T) hr (jA2 (qad qb6 (pv 1) (pv 2)) (jT (jI (qcm (pv 0) T.cl_Rule (qdf T) (hr.mono (by decide))) (qeb qck qaa)) qaa)))));exists _,rfl,r,dx,_,rfl,hob,n1,r,l,ps,g,rfl,R
  cases g with
  | none=>exact ⟨_,rfl,rfl,_,rfl,qdk (q H (Same.refl _))⟩
  | some z =>
   refine ⟨_,rfl,rfl,_,rfl,qd7 ?_⟩;exists _,rfl,_,rfl,_,_,rfl,rfl;refine ⟨_,rfl,r,dx,_,rfl,hob,n2,r,l,ps,_,xs,rfl,R,hl,λp1 H1 m1=>?_⟩;obtain ⟨v,hv,a,rfl,ha⟩:=hx.get' hp;have hz:=Pg.gb z rfl;have hs:=Pg.size _ p hp;unfold Bd at hd;refine ⟨_,rfl,p1,xs,-1,_,rfl,rfl,SqL.of m1.at_,qek (by rw[hlen];exact hv),a,_,1,_,rfl,rfl,SqT.of (m1.same _ _ ha),rfl,d-z,p.2,rfl,hs.2.2.1,hs.2.2.2,by ext,by ext,?_⟩;have:=q H1 m1.same;rw[ep] at this;exact this
include T in
theorem qrl:qax P w K mg base 3 "edges_at" ["rule", "day"] (qim C_Rule):=by
 obtain ⟨f,fd,F,hm⟩:=T.f_edges_at;have nd:=sc_edges_at.nd;refine F.def_ hm (F.ok sc_edges_at (λvs H Q E h=>?_) (λcdv A outer s H vs Q E hr h=>?_)) (F.binds λ_ _ _ _ _ _ us hl=>by obtain ⟨_,_,rfl⟩:=L2.lq2 hl;rfl)
 ·obtain ⟨r,l,ps,g,d,rfl,_⟩:=h;rfl
 ·obtain ⟨r,l,ps,g,d,rfl,R,Pg,hd,q⟩:=h
  obtain ⟨dx,hob⟩:=R.ob;obtain ⟨xs,hl,hx⟩:=R.ls;have n2:(rf l (gv g)).lookup ("steps" : Str)=none:=qtj _ _ (by decide +kernel) (by decide +kernel);have hlen:=hx.length;have h5:=Pg.good.hi;exists _,(jB2 (qce (i:=2) (vars:=[ "age", "width" ]) (frees:=[ "day" ]) (fv:=[1]) nd rfl (Or.inl rfl) rfl (jL1 rfl) ⟨⟨rfl,.inl rfl,rfl,.inl rfl⟩,trivial⟩ (qap (qcm (pv 0) T.cl_Rule (qdf T) (hr.mono (by decide)))) (qbf (by decide) (by decide)) (λ_ _ _ _=>(jG2 (jM 0 [ "age", "width", "day" ]) (jM 1 [ "age", "width", "day" ]))) (λ_ _ _ _=>qat) (λ_ _ _ _=>(jF (qjg T) hr (jA2 (qad qb6 (pv 2) (pv 0)) (pv 1))))) (qah (qad qd3 (pv 2) (qav (jA1 (jF (qrk T) hr (jA2 (pv 0) (pv 1))))))));refine ⟨_,rfl,r,dx,_,rfl,hob,n2,r,l,ps,g,xs,rfl,R,hl,λp1 H1 m1=>?_⟩;refine ⟨p1,rfl,⟨_,SqL.of m1.at_⟩,qst (xs:=xs) (λi ys H2=>Same H1 H2/\ys=(ps.take i).map λp=>V.int (cut d p.1 p.2)) (AB (qai (by ext))) ⟨Same.refl _,rfl⟩ (λi ys H2 h2=>⟨SqL.of (h2.1 _ _ m1.at_),by rw[h2.2];simp;ext⟩) ?_ ?_⟩
  ·rintro i x ys H2 hi ⟨s2,rfl⟩
   obtain ⟨p,hpi,a,rfl,ha⟩:=hx.get hi;have hs:=Pg.size i p hpi;unfold Bd at hd;refine ⟨a,_,rfl,SqT.of (s2 _ _ (m1.same _ _ ha)),rfl,_,_,rfl,_,_,rfl,rfl,ql6 (qdk ?_)⟩;exists _,rfl,_,rfl,_,_,rfl,rfl,_,rfl,d-p.1,p.2,rfl,hs.2.2.1,hs.2.2.2,by ext,by ext,s2;exact (qFb _ ps i p hpi).symm
  ·rintro ys H2 c1 ⟨s2,rfl⟩ hc
   have nc:=qa7 (o:=.lst ((ps.take xs.length).map λp=>V.int (cut d p.1 p.2))) hc
   generalize upd H2 c1 _=H3 at nc ⊢
   have s3:Same H H3:=m1.same.trans (s2.trans nc.same);rw[hlen,Aw] at nc;refine ⟨_,rfl,_,rfl,_,rfl,r,l,ps,g,d,rfl,R.same s3,Pg,hd,λH4 s4=>⟨by show 1<=sizeLine;decide,λc2 H5 n5=>?_⟩⟩;refine ⟨c1,c2,_,_,rfl,rfl,n5.same _ _ (s4 _ _ nc.at_),n5.at_,AB (qai (by simp;ext)),λz H6 n6=>?_⟩;exact q z H6 (New.after (s3.trans (s4.trans n5.same)) n6)
include T in
theorem quf:qax P w K mg base 1 "is_gone" ["edges", "time"] qj7:=by
 obtain ⟨f,fd,F,hm⟩:=T.f_is_gone;have nd:=sc_is_gone.nd;refine F.def_ hm (F.ok sc_is_gone (λvs H Q E h=>?_) (λcdv A outer s H vs Q E hr h=>?_)) (F.binds λ_ _ _ _ _ _ us hl=>by obtain ⟨_,_,rfl⟩:=L2.lq2 hl;rfl)
 ·obtain ⟨e,es,ge,t,rfl,_⟩:=h;rfl
 ·obtain ⟨e,es,ge,t,rfl,he,q1,q2⟩:=h
  have hlast:(es.map V.int ++ [gv ge])[(es.map V.int ++ [gv ge]).length-1]?=some (gv ge):=by simp
  exists _,(qac (qah (qe2 (jD qd1 (jI (pv 0) (qeb qck qaa)) qay) (qfw (jD qc8 (pv 1) (jI (pv 0) (qeb qck qaa)))))))
  cases ge with
  | none =>
   walk_at "r"
   exact q2 fun ⟨z,e,_⟩=>by cases e
  | some y =>
   walk_at "r"
   show Q (.bl (decide (t<y))) H
   by_cases h:t<y
   ·rw[AD h];exact q1 ⟨y,rfl,h⟩
   ·rw[Az h];exact q2 fun ⟨z,e,h'⟩=>by cases e;exact h h'
include T in
theorem qrm:qax P w K mg base 2 "width_at" ["rule", "edges", "time"] (qio C_Rule):=by
 obtain ⟨f,fd,F,hm⟩:=T.f_width_at;have nd:=sc_width_at.nd;refine F.def_ hm (F.ok sc_width_at (λvs H Q E h=>?_) (λcdv A outer s H vs Q E hr h=>?_)) (F.binds λ_ _ _ _ _ _ us hl=>by obtain ⟨_,_,_,rfl⟩:=L2.lq3 hl;rfl)
 ·obtain ⟨r,l,ps,g,e,es,ge,t,e0,rfl,_⟩:=h;rfl
 ·obtain ⟨r,l,ps,g,e,es,ge,t,e0,rfl,R,he,hl,h1,h5,h0,hlt,q⟩:=h
  obtain ⟨dx,hob⟩:=R.ob;obtain ⟨xs,hxl,hx⟩:=R.ls;have n2:(rf l (gv g)).lookup ("steps" : Str)=none:=qtj _ _ (by decide +kernel) (by decide +kernel);have hlen:=hx.length;exists _,(jB2 (qce (i:=3) (vars:=[ "step", "edge" ]) (frees:=[ "time" ]) (fv:=[2]) nd rfl (Or.inl rfl) rfl (jL1 rfl) ⟨⟨rfl,.inl rfl,rfl,.inl rfl⟩,trivial⟩ (qj3 rfl T.b_zip (jA2 (qcm (pv 0) T.cl_Rule (qdf T) (hr.mono (by decide))) (pv 1))) (qbf (by decide) (by decide)) (λ_ _ _ _=>(jG2 (jM 0 [ "step", "edge", "time" ]) (jM 1 [ "step", "edge", "time" ]))) (λ_ _ _ _=>(qfm (jC qlx (pv 1) (pv 2)))) (λ_ _ _ _=>(qc9 (show IxR _ (qk3 K) from qcl) (pv 0) qaa (λ_ _=>rfl)))) (qah (jI (pv 3) (qeb qck qaa))));refine ⟨_,rfl,r,dx,_,rfl,hob,n2,r,l,ps,g,xs,rfl,R,hxl,λp1 H1 m1=>?_⟩;have he1:=m1.same _ _ he;exists _,rfl,p1,e,xs,_,rfl,SqL.of m1.at_,SqL.of he1;refine qtm (xs:=xs) (λi zs H2=>Same H1 H2/\zs=((((((ps.map (·.2)).zip es).take i).filter λx=>decide (t<x.2)).map (·.1)).map V.int)) (AB (qai (by ext))) ⟨Same.refl _,rfl⟩ (λi zs H2 h2=>⟨SqL.of (h2.1 _ _ m1.at_),SqL.of (h2.1 _ _ he1),by rw[h2.2,Aa];exact qB0 _ _ _ _⟩) ?_ ?_
  ·rintro i x y zs H2 p H3 hxi hyi n3 ⟨s2,rfl⟩
   obtain ⟨pi,hpi,a,rfl,ha⟩:=hx.get hxi;have hi:i<es.length:=by have:=(Aj.mp hpi).1;ext
   have hy:y=V.int es[i]:=by
    rw[Bn (by simpa using hi),An,Ab hi] at hyi;exact (Ax hyi).symm
   subst hy;have hw:(ps.map (·.2))[i]?=some pi.2:=by rw[An,hpi];rfl
   have ha3:H3 a=some (.tup [.int pi.1,.int pi.2]):=n3.same _ _ (s2 _ _ (m1.same _ _ ha))
   walk_at "r"
   refine qb3 (λz=>?_) λz=>?_
   ·walk_at "r"
    exists s2.trans n3.same;have:=qFc hw (Ab hi) (by simpa using z:t<es[i]);rw[this,Ao];rfl
   ·exists s2.trans n3.same
    rw[qFd hw (Ab hi) (by simpa using z)]
  ·rintro i zs H2 p H3 hi ⟨s2,rfl⟩ n3
   have ez:((((ps.map (·.2)).zip es).take i).filter λx=>decide (t<x.2)).map (·.1)=wl (ps.map (·.2)) es t:=qxk (by rw[hi];simp only[Dz,Aa,Ag,A9];ext);rw[ez] at n3;have hne:1<=(wl (ps.map (·.2)) es t).length:=qzh (w0:=(ps[0]'(by ext)).2) (by rw[An,Ab (by omega:0<ps.length)];rfl) h0 hlt;obtain ⟨w',hw'⟩:∃ w',(wl (ps.map (·.2)) es t)[(wl (ps.map (·.2)) es t).length-1]?=some w':=⟨_,Ab (by ext)⟩;have hlast:((wl (ps.map (·.2)) es t).map V.int)[((wl (ps.map (·.2)) es t).map V.int).length-1]?=some (V.int w'):=by rw[Aa,An,hw'];rfl
   walk_at "r"
   exact q w' H3 hw' (m1.same.trans (s2.trans n3.same))
include T in
theorem qng:qax P w K mg base 3 "cell_at" ["rule", "edges", "time"] (qj8 C_Rule):=by
 obtain ⟨f,fd,F,hm⟩:=T.f_cell_at;have nd:=sc_cell_at.nd;refine F.def_ hm (F.ok sc_cell_at (λvs H Q E h=>?_) (λcdv A outer s H vs Q E hr h=>?_)) (F.binds λ_ _ _ _ _ _ us hl=>by obtain ⟨_,_,_,rfl⟩:=L2.lq3 hl;rfl)
 ·obtain ⟨r,l,ps,g,e,es,ge,t,rfl,_⟩:=h;rfl
 ·obtain ⟨r,l,ps,g,e,es,ge,t,rfl,R,he,hl,h1,h5,hsz,ht,q⟩:=h
  obtain ⟨e0,h0⟩:∃ e0,es[0]?=some e0:=⟨_,Ab (by ext)⟩;have hi0:atI (es.map V.int ++ [gv ge]) 0=some (.int e0):=qc4 (j:=0) (by rw[Bn (by simp;ext),An,h0];rfl);exists _,(jB4 (qau (jC qAt (pv 2) (jI (pv 1) qaa)) (qac (qah (qam (jA2 (pv 2) qaa)))) qak) (qau (qdl (jF (quf T) hr (jA2 (pv 1) (pv 2)))) (qac (qah qay)) qak) (jS 3 nd (jF (qrm T) hr (jA3 (pv 0) (pv 1) (pv 2)))) (qah (qam (jA2 (jF (qjg T) hr (jA2 (pv 2) (pv 3))) (pv 3)))))
  walk_at "r"
  refine qb3 (λz=>?_) λz=>?_
  ·simp at z
   walk_at "r";intro p H1 n1
   refine q (.ref p) (some (t,0)) H1 (λx hx=>?_) ⟨p,rfl,n1.at_⟩ n1.same;rw[h0] at hx;cases hx;exact ⟨λ_=>rfl,λh=>absurd z (by ext)⟩
  ·simp at z
   walk_at "r"
   refine ⟨e,es,ge,t,rfl,he,λhg=>?_,λhg=>?_⟩
   ·walk_at "r"
    refine q .non none H (λx hx=>?_) rfl (Same.refl _);rw[h0] at hx;cases hx;exact ⟨λh=>absurd z (by ext),λ_=>⟨λ_=>rfl,λn=>absurd hg n⟩⟩
   ·walk_at "r"
    refine ⟨r,l,ps,g,e,es,ge,t,e0,rfl,R,he,hl,h1,h5,h0,z,λw' H1 hw' s1=>?_⟩;have hwm:w'∈ps.map (·.2):=qpm (Am hw');obtain ⟨pi,hpi,rfl⟩:=Ah.mp hwm;obtain ⟨i,hi,ei⟩:=BD hpi;have hs:=hsz i pi (by rw[<- ei];exact Ab hi);exists _,rfl,_,rfl,t,pi.2,rfl,hs.2.2.1,hs.2.2.2,ht.1,ht.2
    walk_at "r";intro p H2 n2
    refine q (.ref p) (some (t / pi.2*pi.2,pi.2)) H2 (λx hx=>?_) ⟨p,rfl,n2.at_⟩ (s1.trans n2.same);rw[h0] at hx;cases hx;exact ⟨λh=>absurd z (by ext),λ_=>⟨λn=>absurd n hg,λ_=>⟨pi.2,hw',rfl⟩⟩⟩
include T in
theorem qnh:qax P w K mg base 1 "heap_of" ["runs"] qiq:=by
 obtain ⟨f,fd,F,hm⟩:=T.f_heap_of;have nd:=sc_heap_of.nd;refine F.def_ hm (F.ok sc_heap_of (λvs H Q E h=>?_) (λcdv A outer s H vs Q E hr h=>?_)) (F.binds λ_ _ _ _ _ _ us hl=>by obtain ⟨_,rfl⟩:=L2.lq1 hl;rfl)
 ·obtain ⟨l,xs,rs,rfl,_⟩:=h;rfl
 ·obtain ⟨l,xs,rs,rfl,hl,hp,ok,h2,q0,q⟩:=h
  have hlen:=hp.length;exists _,(jB5 (qau (jC qbh (qag qan rfl T.b_len qby (jA1 (pv 0))) qaa) (qac (qah qay)) qak) (qce (i:=1) (vars:=[ "value", "many" ]) (frees:=[]) (fv:=[]) nd rfl (Or.inl rfl) rfl (jL0 rfl) trivial (qap (pv 0)) (qbf (by decide) (by decide)) (λ_ _ _ _=>(jG2 (jM 0 [ "value", "many" ]) (jM 1 [ "value", "many" ]))) (λ_ _ _ _=>qat) (λ_ _ _ _=>(pv 0))) (jS 2 nd (qag (qcq rfl) rfl T.b_sum qe3 (jA1 (qcn (vars:=[ "value", "many" ]) (frees:=[]) (fv:=[]) rfl (jL0 rfl) trivial (qap (pv 0)) (qbf (by decide) (by decide)) (λ_ _ _ _=>(jG2 (jM 0 [ "value", "many" ]) (jM 1 [ "value", "many" ]))) (λ_ _ _ _=>qat) (λ_ _ _ _=>(pv 1)))))) (jS 3 nd (qag (qcq rfl) rfl T.b_sum qe3 (jA1 (qcn (vars:=[ "value", "many" ]) (frees:=[]) (fv:=[]) rfl (jL0 rfl) trivial (qap (pv 0)) (qbf (by decide) (by decide)) (λ_ _ _ _=>(jG2 (jM 0 [ "value", "many" ]) (jM 1 [ "value", "many" ]))) (λ_ _ _ _=>qat) (λ_ _ _ _=>(qad qbp (pv 0) (pv 1))))))) (qah (qam (jA4 (pv 2) (pv 3) (qag (qei rfl) rfl T.b_min qgy (jA1 (pv 1))) (qag (qdr rfl) rfl T.b_max qd8 (jA1 (pv 1)))))))
  walk_at "r"
  refine qb3 (λz=>?_) λz=>?_
  ·have z':xs.length=0:=by simpa using z
   exact q0 (Bg.mp (by ext))
  ·have z':¬ xs.length=0:=by simpa using z
   have hne:rs≠[]:=λe=>z' (by rw[hlen,e];rfl)
   have h1:1<=rs.length:=by ext
   have mulB:∀ p∈rs,CMulB p.1 p.2:=λp hp=>by
    have:=ok p hp;unfold qv0 at this;exact ⟨⟨by ext,by ext⟩,by ext,by ext⟩
   refine ⟨_,rfl,l,rfl,⟨_,SqL.of hl⟩,qb0 (λp=>p.1) hl hp h2 (λp hp Q' hq=>⟨_,rfl,hq⟩) λa1 H1 n1=>?_⟩;have hl1:=n1.same _ _ hl;have hp1:=hp.same n1.same;refine ⟨_,rfl,l,rfl,⟨_,SqL.of hl1⟩,qb0 (λp=>p.2) hl1 hp1 h2 (λp hp Q' hq=>⟨_,rfl,hq⟩) λa2 H2 n2=>⟨a2,_,rfl,SqL.of n2.at_,?_⟩⟩;have hl2:=n2.same _ _ hl1;have hp2:=hp1.same n2.same;refine ⟨_,rfl,l,rfl,⟨_,SqL.of hl2⟩,qb0 (λp=>p.1*p.2) hl2 hp2 h2 (λp hp Q' hq=>⟨_,rfl,_,rfl,_,_,rfl,rfl,mulB p hp,hq⟩) λa3 H3 n3=>⟨a3,_,rfl,SqL.of n3.at_,?_⟩⟩;have hv:=n3.same _ _ (n2.same _ _ n1.at_);refine ⟨_,rfl,_,rfl,_,rfl,a1,_,rfl,SqL.of hv,by simp;ext,λlo hlo hlo'=>?_⟩;refine ⟨_,rfl,a1,_,rfl,SqL.of hv,by simp;ext,λhi hhi hhi'=>?_⟩
   walk_at "r";intro a H5 n5
   exact q hne a _ _ lo hi H5 ⟨rfl,rfl,hlo,hlo',hhi,hhi'⟩ (New.after (n1.same.trans (n2.same.trans n3.same)) n5)
include T in
theorem qwd:qax P w K mg base 1 "poured" ["one", "other"] qmm:=by
 obtain ⟨f,fd,F,hm⟩:=T.f_poured;have nd:=sc_poured.nd;refine F.def_ hm (F.ok sc_poured (λvs H Q E h=>?_) (λcdv A outer s H vs Q E hr h=>?_)) (F.binds λ_ _ _ _ _ _ us hl=>by obtain ⟨_,_,rfl⟩:=L2.lq2 hl;rfl)
 ·obtain ⟨a,b,m,t,lo,hi,m',t',lo',hi',rfl,_⟩:=h;rfl
 ·obtain ⟨a,b,m,t,lo,hi,m',t',lo',hi',rfl,ha,hb,q⟩:=h
  exists _,(qac (qah (qam (jA4 (qad qa3 (jT (pv 0) qaa) (jT (pv 1) qaa)) (qad qa3 (jT (pv 0) qaa) (jT (pv 1) qaa)) (qag (qh5 rfl) rfl T.b_min qgy (jA2 (jT (pv 0) qaa) (jT (pv 1) qaa))) (qag (qdp rfl) rfl T.b_max qd8 (jA2 (jT (pv 0) qaa) (jT (pv 1) qaa)))))))
  walk_at "r";intro p H1 n1
  exact q p H1 n1
include T in
theorem qfg:qax P w K mg base 1 "greater_edge" ["one", "other"] qin:=by
 obtain ⟨f,fd,F,hm⟩:=T.f_greater_edge;have nd:=sc_greater_edge.nd;refine F.def_ hm (F.ok sc_greater_edge (λvs H Q E h=>?_) (λcdv A outer s H vs Q E hr h=>?_)) (F.binds λ_ _ _ _ _ _ us hl=>by obtain ⟨_,_,rfl⟩:=L2.lq2 hl;rfl)
 ·obtain ⟨x,y,rfl,_⟩:=h;rfl
 ·obtain ⟨x,y,rfl,hx,hy,q⟩:=h
  exists _,(jB3 (qau (jC qdo (pv 0) qay) (qac (qah (pv 1))) qak) (qau (jC qdo (pv 1) qay) (qac (qah (pv 0))) qak) (qah (qag (qdp rfl) rfl T.b_max qd8 (jA2 (pv 0) (pv 1)))))
  rcases hx with rfl|⟨i,rfl⟩
  ·exact ⟨_,rfl,rfl,_,rfl,qdk ⟨_,rfl,q⟩⟩
  ·refine ⟨_,rfl,rfl,_,rfl,qd7 ?_⟩
   rcases hy with rfl|⟨j,rfl⟩
   ·exact ⟨_,rfl,rfl,_,rfl,qdk ⟨_,rfl,q⟩⟩
   ·exact ⟨_,rfl,rfl,_,rfl,qd7 ⟨_,rfl,_,rfl,_,_,rfl,q⟩⟩
include T in
theorem qug:qax P w K mg base 2 "greater" ["one", "other"] qd4:=by
 obtain ⟨f,fd,F,hm⟩:=T.f_greater;have nd:=sc_greater.nd;refine F.def_ hm (F.ok sc_greater (λvs H Q E h=>?_) (λcdv A outer s H vs Q E hr h=>?_)) (F.binds λ_ _ _ _ _ _ us hl=>by obtain ⟨_,_,rfl⟩:=L2.lq2 hl;rfl)
 ·obtain ⟨a,b,xs,ys,rfl,_⟩:=h;rfl
 ·obtain ⟨a,b,xs,ys,rfl,ha,hb,hx,hy,he,hz,q⟩:=h
  exists _,(jB2 (qau (jC qva (qag qan rfl T.b_len qby (jA1 (pv 0))) (qag qan rfl T.b_len qby (jA1 (pv 1)))) (qac qbt) qak) (qah (qcn (vars:=[ "left", "right" ]) (frees:=[]) (fv:=[]) rfl (jL0 rfl) trivial (qj3 rfl T.b_zip (jA2 (pv 0) (pv 1))) (qbf (by decide) (by decide)) (λ_ _ _ _=>(jG2 (jM 0 [ "left", "right" ]) (jM 1 [ "left", "right" ]))) (λ_ _ _ _=>qat) (λ_ _ _ _=>(jF (qfg T) hr (jA2 (pv 0) (pv 1)))))));exists _,rfl,a,xs,rfl,.inl (SqL.of ha),_,rfl,b,ys,rfl,.inl (SqL.of hb),rfl,_,rfl;refine qA7 (by rw[he]) ?_;exists _,rfl,_,rfl,a,b,xs,ys,rfl,SqL.of ha,SqL.of hb;refine qxa (xs:=xs) (λi zs H2=>Same H H2/\zs=(List.zipWith gE xs ys).take i) (AB (qai hz)) ⟨Same.refl _,rfl⟩ (λi zs H2 h2=>⟨SqL.of (h2.1 _ _ ha),SqL.of (h2.1 _ _ hb),by rw[h2.2];simp;ext⟩) ?_ ?_
  ·rintro i x y zs H2 p h1 h2 hn ⟨s2,rfl⟩
   have n:=qa7 (o:=.tup [x,y]) hn
   generalize upd H2 p _=H3 at n ⊢
   refine ⟨p,_,rfl,SqT.of n.at_,rfl,_,_,rfl,_,_,rfl,rfl,ql6 (qdk ?_)⟩;exact ⟨_,rfl,_,rfl,x,y,rfl,hx x (Am h1),hy y (Am h2),s2.trans n.same,(qbn _ i _ (zip_get h1 h2)).symm⟩
  ·rintro i zs H2 p hi ⟨s2,rfl⟩ hn
   have n:=qa7 (o:=.lst ((List.zipWith gE xs ys).take i)) hn;have e:(List.zipWith gE xs ys).take i=List.zipWith gE xs ys:=BL (by rw[BP,hi];exact Ak _);rw[e] at n ⊢;exact q p _ (New.after s2 n)
include T in
theorem qqb:qDy P w K mg base C_Roll 4 "Roll" ["self", "rule", "day"] [] (qg4 C_Roll C_Rule):=by
 obtain ⟨f,fd,F,M⟩:=T.f_Roll_init;have nd:=sc_Roll_init.nd;refine ⟨f,fd,(F.ok sc_Roll_init (λvs H Q E h=>?_) (λcdv A outer s H vs Q E hr h=>?_)),T.mg_Roll,M,(F.binds λ_ _ _ _ _ _ us hl=>by obtain ⟨_,_,_,rfl⟩:=L2.lq3 hl;rfl)⟩
 ·obtain ⟨ro,dx,ru,rl,ps,g,day,rfl,_⟩:=h;rfl
 ·obtain ⟨ro,dx,ru,rl,ps,g,day,rfl,hro,R,Pg,hd,q⟩:=h
  obtain ⟨dx2,hru⟩:=R.ob;have nru:ru≠ro:=qa0 hru hro (by intro z;injection z with _ _ z;have:=qze rl (gv g);rw[z] at this;cases this);exists _,(jB5 (qeh (pv 0) (pv 1) rfl) (qeh (pv 0) (pv 2) rfl) (qeh (pv 0) (jF (qrl T) hr (jA2 (pv 1) (pv 2))) rfl) (qeh (pv 0) qhu rfl) (qeh (pv 0) qhu rfl));refine ⟨_,rfl,_,rfl,ro,C_Roll,dx,[],rfl,hro,T.cl_Roll,T.na_Roll_kept_rule,(by show 0<1000;decide),λH1 b1 h1=>?_⟩;refine ⟨_,rfl,_,rfl,ro,C_Roll,dx,_,rfl,h1,T.cl_Roll,T.na_Roll_kept_day,(by show 1<1000;decide),λH2 b2 h2=>?_⟩;have R2:=(R.but2 b1 hro qg3 (by intro xs z;cases z) nru).but2 b2 h1 qg3 (by intro xs z;cases z) nru;refine ⟨_,rfl,_,rfl,ru,rl,ps,g,day,rfl,R2,Pg,hd,λle H3 n3=>?_⟩;refine ⟨_,rfl,ro,C_Roll,dx,_,rfl,n3.same _ _ h2,T.cl_Roll,T.na_Roll_kept_edges,(by show 2<1000;decide),λH4 b4 h4=>?_⟩;intro dy H5 n5;refine ⟨_,rfl,ro,C_Roll,dx,_,rfl,n5.same _ _ h4,T.cl_Roll,T.na_Roll_whole_ones,(by show 3<1000;decide),λH6 b6 h6=>?_⟩;intro dh H7 n7;refine ⟨_,rfl,ro,C_Roll,dx,_,rfl,n7.same _ _ h6,T.cl_Roll,T.na_Roll_cell_heaps,(by show 4<1000;decide),λH8 b8 h8=>?_⟩;have R8:=((((R2.same n3.same).but2 b4 (n3.same _ _ h2) qg3 (by intro xs z;cases z) nru).same n5.same |>.but2 b6 (n5.same _ _ h4) qg3 (by intro xs z;cases z) nru).same n7.same).but2 b8 (n7.same _ _ h6) qg3 (by intro xs z;cases z) nru;have bb:But ro H H8:=λb o e hb=>b8 _ _ (n7.same _ _ (b6 _ _ (n5.same _ _ (b4 _ _ (n3.same _ _ (b2 _ _ (b1 _ _ e hb) hb)) hb)) hb)) hb
  have fr:∀ b,b≠ro->H8 b=none->H b=none:=λb hb h0=>by
   cases e:H b with
   | none=>rfl
   | some o=>rw[bb b o e hb] at h0;cases h0
  have e4:H4 le=some (.lst (eV ps g day)):=b4 _ _ n3.at_ (qa0 n3.at_ (n3.same _ _ h2) (by intro z;cases z));have e6:H6 dy=some (.dT []):=b6 _ _ n5.at_ (qa0 n5.at_ (n5.same _ _ h4) (by intro z;cases z));have up2:∀ b o,H b=some o->b≠ro->H2 b=some o:=λb o e hb=>b2 _ _ (b1 _ _ e hb) hb
  have fr2:∀ b,H2 b=none->H b=none:=λb h0=>by
   cases e:H b with
   | none=>rfl
   | some o =>
    by_cases hb:b=ro
    ·subst hb;rw[h2] at h0;cases h0
    ·rw[up2 b o e hb] at h0;cases h0
  have fr4:∀ b,H4 b=none->H2 b=none:=λb h0=>by
   cases e:H2 b with
   | none=>rfl
   | some o =>
    by_cases hb:b=ro
    ·subst hb;rw[h4] at h0;cases h0
    ·rw[b4 _ _ (n3.same _ _ e) hb] at h0;cases h0
  have fr6:∀ b,H6 b=none->H4 b=none:=λb h0=>by
   cases e:H4 b with
   | none=>rfl
   | some o =>
    by_cases hb:b=ro
    ·subst hb;rw[h6] at h0;cases h0
    ·rw[b6 _ _ (n5.same _ _ e) hb] at h0;cases h0
  refine q le dy dh H8 (fr2 _ n3.fresh) (fr2 _ (fr4 _ n5.fresh)) (fr2 _ (fr4 _ (fr6 _ n7.fresh))) ⟨⟨dx,h8⟩,R8,?_,?_,?_,qae e6 n7.fresh⟩ bb
  ·have e8:=b8 _ _ (n7.same _ _ (b6 _ _ (n5.same _ _ e4) (qa0 (n5.same _ _ e4) (n5.same _ _ h4) (by intro z;cases z)))) (qa0 (n7.same _ _ (b6 _ _ (n5.same _ _ e4) (qa0 (n5.same _ _ e4) (n5.same _ _ h4) (by intro z;cases z)))) (n7.same _ _ h6) (by intro z;cases z))
   show H8 le=some (.lst (((ps.map λp=>cut day p.1 p.2).map V.int) ++ [gv (g.map λz=>cut day z (lw ps))]))
   rw[<- (EdS.of Pg hd).eq];exact e8
  ·exact b8 _ _ (n7.same _ _ e6) (qa0 (n7.same _ _ e6) (n7.same _ _ h6) (by intro z;cases z))
  ·exact b8 _ _ n7.at_ (qa0 n7.at_ (n7.same _ _ h6) (by intro z;cases z))
include T in
theorem qcv:qef P w K mg base C_Roll 2 "pour_into_cell" ["self", "cell", "heap"] (qmt C_Roll C_Rule):=by
 obtain ⟨f,fd,F,hm⟩:=T.f_Roll_pour_into_cell;have nd:=sc_Roll_pour_into_cell.nd;refine ⟨f,fd,(F.ok sc_Roll_pour_into_cell (λvs H Q E h=>?_) (λcdv A outer s H vs Q E hr h=>?_)),hm,(F.binds λ_ _ _ _ _ _ us hl=>by obtain ⟨_,_,_,rfl⟩:=L2.lq3 hl;rfl)⟩
 ·obtain ⟨ro,D,c,h,s,w',x,rfl,_⟩:=h;rfl
 ·obtain ⟨ro,D,c,h,s',w',x,rfl,A',hc,hh,hZ,hl,q⟩:=h
  obtain ⟨dx,hob⟩:=A'.ob;exists _,(qac (qau (qAp (qA2 (qhn hr) (pv 1) (qb7 (pv 0) rfl))) (qac (qib (qhn hr) (qb7 (pv 0) rfl) (pv 1) (jF (qwd T) hr (jA2 (qn8 (qhn hr) (qb7 (pv 0) rfl) (pv 1) (λ_ _=>rfl)) (pv 2))) rfl)) (qac (qib (qhn hr) (qb7 (pv 0) rfl) (pv 1) (pv 2) rfl))));exists _,rfl,_,rfl,ro,C_Roll,dx,_,_,rfl,hob,T.cl_Roll,T.na_Roll_cell_heaps,qkd _ _ _ _ _,D.dh,_,rfl,DGet.t (k:=kk s' w') A'.he hc,_,rfl
  cases e:qb8 D.Z (kk s' w') with
  | none =>
   refine qd7 ?_;exists _,rfl,_,rfl,ro,C_Roll,dx,_,_,rfl,hob,T.cl_Roll,T.na_Roll_cell_heaps,qkd _ _ _ _ _,_,rfl,D.dh,_,rfl,DPut.t (k:=kk s' w') A'.he hc (qai (by ext));exact q h x _ (but_upd _ _ hh (qa0 hh A'.he (by intro z;cases z))) (.inl ⟨e,rfl⟩) (A'.putZ but_upd qa5) but_upd
  | some xx =>
   obtain ⟨h0,m0,t0,lo0,hi0,rfl,hh0⟩:=hZ _ _ e;refine qdk ?_;refine ⟨_,rfl,ro,C_Roll,dx,_,_,rfl,hob,T.cl_Roll,T.na_Roll_cell_heaps,qkd _ _ _ _ _,_,rfl,D.dh,_,rfl,(by have:=DGet.t (k:=kk s' w') A'.he hc;rwa [e] at this),_,rfl,?_⟩;refine ⟨h0,h,m0,t0,lo0,hi0,x.1,x.2.1,x.2.2.1,x.2.2.2,rfl,hh0,hh,λp H1 n1=>?_⟩;have A1:=A'.same n1.same;exists _,rfl,ro,C_Roll,dx,_,_,rfl,n1.same _ _ hob,T.cl_Roll,T.na_Roll_cell_heaps,qkd _ _ _ _ _,_,rfl,D.dh,_,rfl,DPut.t (k:=kk s' w') A1.he (n1.same _ _ hc) (qai (by ext));refine q p (mg4 (m0,t0,lo0,hi0) x) _ (but_upd _ _ n1.at_ (qa0 n1.at_ A1.he (by intro z;cases z))) (.inr ⟨h0,(m0,t0,lo0,hi0),e,hh0,rfl⟩) (A1.putZ but_upd qa5) λb o eo hb=>but_upd _ _ (n1.same _ _ eo) hb
include T in
theorem qrn:∃ f fd dT o n t,qjr P w K mg base CX0 4 f fd ["self", "time", "value", "many"] (qf1 C_Roll C_Rule)/\FunD K "put" "Roll.put" qgp (.ref dT) f fd/\qw4 K C_Roll "put" f/\fd.defaults=.ref dT/\K.lookup dT=some o/\o.data=.seq #[.int 1 t] n:=by
 obtain ⟨f,fd,dT,o,n,t,F,M,h1,h2,h3⟩:=T.f_Roll_put;have nd:=sc_Roll_put.nd;refine ⟨f,fd,dT,o,n,t,(F.ok sc_Roll_put (λvs H Q E h=>?_) (λcdv A outer s H vs Q E hr h=>?_)),F,M,h1,h2,h3⟩
 ·obtain ⟨ro,D,t,v,m,rfl,_⟩:=h;rfl
 ·obtain ⟨ro,D,t,v,m,rfl,A',ok,ht,z1,rok,hY,hZ,ly,lz,q⟩:=h
  obtain ⟨dx,hob⟩:=A'.ob;exists _,(jB5 (qau (jC qc8 (pv 3) qaa) (qac qbt) qak) (jS 4 nd (jF (qng T) hr (jA3 (qb7 (pv 0) rfl) (qb7 (pv 0) rfl) (pv 1)))) (qau (jC qdo (pv 4) qay) (qac (qah qh1)) qak) (qau (jC qbh (jT (pv 4) qaa) qaa) (qac (qib (qhn hr) (qb7 (pv 0) rfl) (qam (jA2 (pv 1) (pv 2))) (qad qa3 (qk6 (qhn hr) (qb7 (pv 0) rfl) (qam (jA2 (pv 1) (pv 2))) qaa ⟨rfl,rfl,rfl,rfl⟩) (pv 3)) rfl)) (qac (qaz (qjs (pv 0) T.cl_Roll (qcv T) (hr.mono (by decide)) (jA2 (pv 4) (jF (qnh T) hr (jA1 (qav (jA1 (qam (jA2 (pv 2) (pv 3)))))))))))) (qah qh1))
  walk_at "r"
  refine qb3 (λz=>?_) λz=>?_
  ·exact absurd (AM z) (by ext)
  have lo:=ok.pr.good.lo;refine ⟨_,rfl,ro,C_Roll,dx,_,_,rfl,hob,T.cl_Roll,T.na_Roll_kept_rule,qtq _ _ _ _ _,_,rfl,ro,C_Roll,dx,_,_,rfl,hob,T.cl_Roll,T.na_Roll_kept_edges,qps _ _ _ _ _,_,rfl,D.ru,D.rl,D.ps,D.g,D.le,D.es,D.ge,t,rfl,A'.rule,A'.ed,ok.es,lo,ok.pr.good.hi,ok.pr.size,ht,λcv o H1 hc cat s1=>?_⟩;have hob1:=s1 _ _ hob;have A1:=A'.same s1
  cases o with
  | none =>
   cases (show cv=.non from cat)
   walk_at "r"
   exact q none hc D H1 (.inl ⟨rfl,rfl⟩) A1 λc o e _ _=>s1 _ _ e
  | some p =>
   obtain ⟨c,rfl,hcv⟩:=cat;have hp:=CellOf.some_ hc (by rw[ok.es];exact lo) λw' hw'=>ok.pr.w1 hw'
   rcases hp with rfl|hp
   ·walk_at "r"
    exists ro,C_Roll,dx,_,_,rfl,hob1,T.cl_Roll,T.na_Roll_whole_ones,qpt _ _ _ _ _,D.dy,rfl,.inr ⟨_,.inl A1.yo⟩
    walk_at "r";intro p2 H2 n2
    have A2:=A1.same n2.same;exists _,DGet.t (k:=kk t v) A2.yo n2.at_;rw[qxo hY]
    walk_at "r"
    exists ro,C_Roll,dx,_,_,rfl,n2.same _ _ hob1,T.cl_Roll,T.na_Roll_whole_ones,qpt _ _ _ _ _
    walk_at "r";intro p3 H3 n3
    have A3:=A2.same n3.same;exists D.dy,_,rfl,DPut.t (k:=kk t v) A3.yo n3.at_ (qai (by ext))
    show Q _ _
    exact q (some (t,0)) hc _ _ (.inr (.inl ⟨rfl,rfl⟩)) (A3.putY but_upd qa5) λc o e hc1 _=>but_upd _ _ (n3.same _ _ (n2.same _ _ (s1 _ _ e))) hc1
   ·walk_at "r"
    refine qb3 (λz=>?_) λz=>?_
    ·exact absurd z (by simp;ext)
    exists _,rfl,ro,dx,_,rfl,hob1,qpu _ _ _ _ _,_,rfl
    walk_at "r";intro p2 H2 n2
    walk_at "r";intro p3 H3 n3
    refine ⟨p3,_,[(v,m)],rfl,n3.at_,.cons ⟨p2,rfl,n3.same _ _ n2.at_⟩ .nil,(λq hq=>by rw[AI.mp hq];exact rok),by simp,(λe=>by cases e),λ_ h4 a' b' lo' hi' H4 hof n4=>?_⟩;have s4:Same H1 H4:=n2.same.trans (n3.same.trans n4.same);refine ⟨ro,D,c,h4,p.1,p.2,(a',b',lo',hi'),rfl,A1.same s4,s4 _ _ hcv,n4.at_,hZ.same (s1.trans s4),lz,λh5 y H5 e5 po A5 b5=>?_⟩
    show Q _ _
    refine q (some p) hc _ H5 (.inr (.inr ⟨p.1,p.2,h5,y.1,y.2.1,y.2.2.1,y.2.2.2,rfl,hp,rfl,e5,?_⟩)) A5 λc o e _ hc2=>b5 _ _ (s4 _ _ (s1 _ _ e)) hc2
    rcases po with ⟨po1,rfl⟩|⟨h0,x0,e1,e2,rfl⟩
    ·exact .inl ⟨po1,hof⟩
    ·obtain ⟨h0',m0',t0',lo0',hi0',e4,e9⟩:=hZ _ _ e1
     cases e4;rw[s4 _ _ (s1 _ _ e9)] at e2;have e6:v4 (m0',t0',lo0',hi0')=v4 x0:=by injection e2 with e2;injection e2
     have e7:=qxr e6;subst e7;exact .inr ⟨h0,m0',t0',lo0',hi0',a',b',lo',hi',e1,e9,hof,rfl,rfl,rfl,rfl⟩
include T in
theorem qeu:qE9 P w K mg base C_Roll 4 "put" ["self", "time", "value", "many"] [] (qf1 C_Roll C_Rule):=by
 obtain ⟨f,fd,dT,o,n,t,hf,F,M,h1,h2,h3⟩:=qrn (P:=P) (w:=w) (base:=base) T;refine ⟨f,fd,hf,M,qn9 h1 h2 h3 λus hl=>?_⟩;obtain ⟨oc,od,kV,doc,pm,an,cdv,ct,osl,rfl,lk,hcd⟩:=F.ex;obtain ⟨_,_,_,_,rfl⟩:=L2.lq4 (us:=us) (by simpa using hl);exact ⟨_,rfl,rfl⟩
include T in
theorem qjh:qef P w K mg base C_Roll 1 "rule" ["self"] (qv1 C_Roll C_Rule):=by
 obtain ⟨f,fd,F,hm⟩:=T.f_Roll_rule;have nd:=sc_Roll_rule.nd;refine ⟨f,fd,(F.ok sc_Roll_rule (λvs H Q E h=>?_) (λcdv A outer s H vs Q E hr h=>?_)),hm,(F.binds λ_ _ _ _ _ _ us hl=>by obtain ⟨_,rfl⟩:=L2.lq1 hl;rfl)⟩
 ·obtain ⟨ro,D,rfl,_⟩:=h;rfl
 ·obtain ⟨ro,D,rfl,A',q⟩:=h
  obtain ⟨dx,hob⟩:=A'.ob;exists _,(qac (qah (qb7 (pv 0) rfl)));exact ⟨_,rfl,ro,C_Roll,dx,_,_,rfl,hob,T.cl_Roll,T.na_Roll_kept_rule,qtq _ _ _ _ _,q⟩
include T in
theorem qgs:qef P w K mg base C_Roll 1 "day" ["self"] (qzk C_Roll C_Rule):=by
 obtain ⟨f,fd,F,hm⟩:=T.f_Roll_day;have nd:=sc_Roll_day.nd;refine ⟨f,fd,(F.ok sc_Roll_day (λvs H Q E h=>?_) (λcdv A outer s H vs Q E hr h=>?_)),hm,(F.binds λ_ _ _ _ _ _ us hl=>by obtain ⟨_,rfl⟩:=L2.lq1 hl;rfl)⟩
 ·obtain ⟨ro,D,rfl,_⟩:=h;rfl
 ·obtain ⟨ro,D,rfl,A',q⟩:=h
  obtain ⟨dx,hob⟩:=A'.ob;exists _,(qac (qah (qb7 (pv 0) rfl)));exact ⟨_,rfl,ro,C_Roll,dx,_,_,rfl,hob,T.cl_Roll,T.na_Roll_kept_day,qB4 _ _ _ _ _,q⟩
include T in
theorem qdg:qef P w K mg base C_Roll 1 "edges" ["self"] (qtr C_Roll C_Rule):=by
 obtain ⟨f,fd,F,hm⟩:=T.f_Roll_edges;have nd:=sc_Roll_edges.nd;refine ⟨f,fd,(F.ok sc_Roll_edges (λvs H Q E h=>?_) (λcdv A outer s H vs Q E hr h=>?_)),hm,(F.binds λ_ _ _ _ _ _ us hl=>by obtain ⟨_,rfl⟩:=L2.lq1 hl;rfl)⟩
 ·obtain ⟨ro,D,rfl,_⟩:=h;rfl
 ·obtain ⟨ro,D,rfl,A',q⟩:=h
  obtain ⟨dx,hob⟩:=A'.ob;exists _,(qac (qah (qdq qc3 rfl T.b_list qfl (jA1 (qb7 (pv 0) rfl)))));exact ⟨_,rfl,ro,C_Roll,dx,_,_,rfl,hob,T.cl_Roll,T.na_Roll_kept_edges,qps _ _ _ _ _,D.le,_,rfl,.inl (SqL.of A'.ed),q⟩
theorem qxv {D:qa2} {s:Abs} (h:RAbs H D s LY LZ) (k:List Int):qb8 D.Z (kI k)≠none↔s.z k≠none:=by
 cases e:s.z k with
 | none=>simp[h.zn k e]
 | some p=>obtain ⟨a,e1,_⟩:=h.zs k p e;rw[e1];simp
include T in
theorem qhi:qef P w K mg base C_Roll 1 "young" ["self"] (qir C_Roll C_Rule):=by
 obtain ⟨f,fd,F,hm⟩:=T.f_Roll_young;have nd:=sc_Roll_young.nd;refine ⟨f,fd,(F.ok sc_Roll_young (λvs H Q E h=>?_) (λcdv A outer s H vs Q E hr h=>?_)),hm,(F.binds λ_ _ _ _ _ _ us hl=>by obtain ⟨_,rfl⟩:=L2.lq1 hl;rfl)⟩
 ·obtain ⟨ro,D,ab,LY,LZ,rfl,_⟩:=h;rfl
 ·obtain ⟨ro,D,ab,LY,LZ,rfl,A',RA,hL,q⟩:=h
  obtain ⟨dx,hob⟩:=A'.ob;obtain ⟨ks,dk,hks⟩:=RA.yk;have hkl:ks.length<64:=C1 (Bq dk.nd hks) hL;exists _,(qac (qah (qcn (vars:=[ "key" ]) (frees:=[ "self" ]) (fv:=[0]) rfl (jL1 rfl) ⟨⟨rfl,.inl rfl,rfl,.inl rfl⟩,trivial⟩ (qap (qag (qg1 rfl) rfl T.b_sorted qds (jA1 (qb7 (pv 0) rfl)))) (qbx (by decide)) (λ_ _ _ _=>(jM 0 [ "key", "self" ])) (λ_ _ _ _=>qat) (λ_ _ _ _=>(qad (show OpR _ _ (qj5 K) from qfy) (pv 0) (qam (jA1 (qn8 (by exact qhn hr) (show PE _ _ (qDp K _ _) from qb7 (pv 1) rfl) (pv 0) (λ_ _=>rfl)))))))));refine ⟨_,rfl,ro,C_Roll,dx,_,_,rfl,hob,T.cl_Roll,T.na_Roll_whole_ones,qpt _ _ _ _ _,D.dy,D.Y,ks,rfl,A'.yo,dk.eq,hkl,dk.nd,dk.ne',λms zs l1 H1 pm sm tz n1=>?_⟩;have sk:SKeys ab.y ms:=SKeys.ofD dk (λk=>by rw[RA.yv];cases ab.y k<;>simp) pm sm;have hml:ms.length=ks.length:=pm.length_eq;have tz1:Tups H1 zs ms:=Tups.same n1.same (show Tups H zs ms from tz);have hzl:=tz1.length;refine ⟨l1,rfl,⟨_,SqL.of n1.at_⟩,qbm (xs:=zs) (λi ys H2=>Same H1 H2/\Tups H2 ys ((ms.take i).map (qf2 ab))) (AB (qai (by ext))) ⟨Same.refl _,.nil⟩ (λi ys H2 h2=>⟨SqL.of (h2.1 _ _ n1.at_),by have:=h2.2.length;rw[this,Aa,AU];ext⟩) ?_ ?_⟩
  ·rintro i x ys H2 hi ⟨s2,ty⟩
   obtain ⟨k,hki,b,rfl,hb⟩:=tz1.get hi;have hkm:k∈ms:=Am hki;have hk2:=dk.ne k (pm.mem_iff.mp hkm);have s02:=n1.same.trans s2;have A2:=A'.same s02;have hb2:=s2 _ _ hb;obtain ⟨n,hn⟩:∃ n,ab.y k=some n:=by
    cases e:ab.y k with
    | none=>exact absurd e ((sk.mem k).mp hkm)
    | some n=>exact ⟨n,rfl⟩
   have hv:qb8 D.Y (kI k)=some (.int n):=by rw[RA.yv,hn];rfl
   refine qc1 (ql6 (qdk ?_));refine ⟨_,rfl,_,rfl,ro,C_Roll,dx,_,_,rfl,s02 _ _ hob,T.cl_Roll,T.na_Roll_whole_ones,qpt _ _ _ _ _,_,rfl,D.dy,.int n,rfl,?_,(by show 1<=sizeLine;decide),λp3 H3 n3=>?_⟩
   ·have:=DGet.t (k:=kI k) A2.yo (by rw[qv3];exact hb2)
    rw[hv] at this;exact this
   ·refine ⟨b,p3,_,_,rfl,rfl,SqT.of (n3.same _ _ hb2),SqT.of n3.at_,(by intro z;have:=congrArg List.length z;rw[Aa,hk2] at this;cases this),(by intro z;cases z),(by rw[Aa,hk2];show 2+1<=sizeLine;decide),λp4 H4 n4=>?_⟩
    have s4:=n3.same.trans n4.same;exists s2.trans s4;rw[qbn _ i _ hki,Ao];refine Tups.snoc ⟨p4,rfl,?_⟩ (ty.same s4);rw[n4.at_]
    show some (HO.tup (k.map V.int ++ [V.int n]))=some (.tup ((k ++ [(ab.y k).getD 0]).map V.int))
    rw[hn,Ao];rfl
  ·rintro ys H2 l3 H3 ⟨s2,ty⟩ n3
   rw[hzl,Aw] at ty;exact q l3 ys ms H3 (n1.same.trans (s2.trans n3.same)) ((n1.same.trans s2).free n3.fresh) n3.at_ sk (by ext) (ty.same n3.same)
include T in
theorem qhj:qef P w K mg base C_Roll 1 "heaps" ["self"] (qis C_Roll C_Rule):=by
 obtain ⟨f,fd,F,hm⟩:=T.f_Roll_heaps;have nd:=sc_Roll_heaps.nd;refine ⟨f,fd,(F.ok sc_Roll_heaps (λvs H Q E h=>?_) (λcdv A outer s H vs Q E hr h=>?_)),hm,(F.binds λ_ _ _ _ _ _ us hl=>by obtain ⟨_,rfl⟩:=L2.lq1 hl;rfl)⟩
 ·obtain ⟨ro,D,ab,LY,LZ,rfl,_⟩:=h;rfl
 ·obtain ⟨ro,D,ab,LY,LZ,rfl,A',RA,hL,q⟩:=h
  obtain ⟨dx,hob⟩:=A'.ob;obtain ⟨ks,dk,hks⟩:=RA.zk;have hkl:ks.length<64:=C1 (Bq dk.nd hks) hL;exists _,(qac (qah (qcn (vars:=[ "cell" ]) (frees:=[ "self" ]) (fv:=[0]) rfl (jL1 rfl) ⟨⟨rfl,.inl rfl,rfl,.inl rfl⟩,trivial⟩ (qap (qag (qg1 rfl) rfl T.b_sorted qds (jA1 (qb7 (pv 0) rfl)))) (qbx (by decide)) (λ_ _ _ _=>(jM 0 [ "cell", "self" ])) (λ_ _ _ _=>qat) (λ_ _ _ _=>(qad (show OpR _ _ (qj5 K) from qfy) (pv 0) (qn8 (by exact qhn hr) (show PE _ _ (qDp K _ _) from qb7 (pv 1) rfl) (pv 0) (λ_ _=>rfl)))))));refine ⟨_,rfl,ro,C_Roll,dx,_,_,rfl,hob,T.cl_Roll,T.na_Roll_cell_heaps,qkd _ _ _ _ _,D.dh,D.Z,ks,rfl,A'.he,dk.eq,hkl,dk.nd,dk.ne',λms zs l1 H1 pm sm tz n1=>?_⟩;have sk:SKeys ab.z ms:=SKeys.ofD dk (λk=>qxv RA k) pm sm;have hml:ms.length=ks.length:=pm.length_eq;have tz1:Tups H1 zs ms:=Tups.same n1.same (show Tups H zs ms from tz);have hzl:=tz1.length;refine ⟨l1,rfl,⟨_,SqL.of n1.at_⟩,qbm (xs:=zs) (λi ys H2=>Same H1 H2/\Tups H2 ys ((ms.take i).map (qec ab))) (AB (qai (by ext))) ⟨Same.refl _,.nil⟩ (λi ys H2 h2=>⟨SqL.of (h2.1 _ _ n1.at_),by have:=h2.2.length;rw[this,Aa,AU];ext⟩) ?_ ?_⟩
  ·rintro i x ys H2 hi ⟨s2,ty⟩
   obtain ⟨k,hki,b,rfl,hb⟩:=tz1.get hi;have hkm:k∈ms:=Am hki;have hk2:=dk.ne k (pm.mem_iff.mp hkm);have s02:=n1.same.trans s2;have A2:=A'.same s02;have hb2:=s2 _ _ hb;obtain ⟨n,hn⟩:∃ n,ab.z k=some n:=by
    cases e:ab.z k with
    | none=>exact absurd e ((sk.mem k).mp hkm)
    | some n=>exact ⟨n,rfl⟩
   obtain ⟨hh,hv,hht⟩:=RA.zs k n hn;refine qc1 (ql6 (qdk ?_));exists _,rfl,_,rfl,ro,C_Roll,dx,_,_,rfl,s02 _ _ hob,T.cl_Roll,T.na_Roll_cell_heaps,qkd _ _ _ _ _;exists _,rfl,D.dh,.ref hh,rfl,?_
   ·have:=DGet.t (k:=kI k) A2.he (by rw[qv3];exact hb2)
    rw[hv] at this;exact this
   ·refine ⟨b,hh,_,_,rfl,rfl,SqT.of hb2,SqT.of (s02 _ _ hht),(by intro z;have:=congrArg List.length z;rw[Aa,hk2] at this;cases this),(by intro z;cases z),(by rw[Aa,hk2];show 2+4<=sizeLine;decide),λp4 H4 n4=>?_⟩
    exists s2.trans n4.same;rw[qbn _ i _ hki,Ao];refine Tups.snoc ⟨p4,rfl,?_⟩ (ty.same n4.same);rw[n4.at_]
    show some (HO.tup (k.map V.int ++ v4 n))=some (.tup ((k ++ i4 ((ab.z k).getD (0,0,0,0))).map V.int))
    rw[hn,Ao];rfl
  ·rintro ys H2 l3 H3 ⟨s2,ty⟩ n3
   rw[hzl,Aw] at ty;exact q l3 ys ms H3 (n1.same.trans (s2.trans n3.same)) ((n1.same.trans s2).free n3.fresh) n3.at_ sk (by ext) (ty.same n3.same)
include T in
theorem qhq:qef P w K mg base C_Roll 4 "take_heap" ["self", "start", "heap"] (qpx C_Roll C_Rule):=by
 obtain ⟨f,fd,F,hm⟩:=T.f_Roll_take_heap;have nd:=sc_Roll_take_heap.nd;refine ⟨f,fd,(F.ok sc_Roll_take_heap (λvs H Q E h=>?_) (λcdv A outer s H vs Q E hr h=>?_)),hm,(F.binds λ_ _ _ _ _ _ us hl=>by obtain ⟨_,_,_,rfl⟩:=L2.lq3 hl;rfl)⟩
 ·obtain ⟨ro,c,s,LY,LZ,a,h,x,rfl,_⟩:=h;rfl
 ·obtain ⟨ro,c,s',LY,LZ,a,h,x,rfl,⟨Y,Z,A',B'⟩,ok,ha,hh,lz,hz,q⟩:=h
  obtain ⟨dx,hob⟩:=A'.ob;exists _,(jB2 (jS 3 nd (jF (qng T) hr (jA3 (qb7 (pv 0) rfl) (qb7 (pv 0) rfl) (pv 1)))) (qau (jC qd1 (pv 3) qay) (qac (qaz (qjs (pv 0) T.cl_Roll (qcv T) (hr.mono (by decide)) (jA2 (pv 3) (pv 2))))) qak));have lo:=ok.pr.good.lo;refine ⟨_,rfl,ro,C_Roll,dx,_,_,rfl,hob,T.cl_Roll,T.na_Roll_kept_rule,qtq _ _ _ _ _,_,rfl,ro,C_Roll,dx,_,_,rfl,hob,T.cl_Roll,T.na_Roll_kept_edges,qps _ _ _ _ _,_,rfl,c.ru,c.rl,c.ps,c.g,c.le,c.es,c.ge,a,rfl,A'.rule,A'.ed,ok.es,lo,ok.pr.good.hi,ok.pr.size,ha,λcv o H1 hc cat s1=>?_⟩;have hob1:=s1 _ _ hob;have A1:=A'.same s1;have eo:cellD c a=o:=qhy (by rw[ok.es];exact lo) hc
  cases o with
  | none =>
   cases (show cv=.non from cat)
   walk_at "r"
   refine q H1 ?_ λb o e _ _=>s1 _ _ e
   unfold qdw;rw[eo];exact ⟨Y,Z,A1,B'.same s1⟩
  | some p =>
   obtain ⟨cc,rfl,hcv⟩:=cat;obtain ⟨b,w'⟩:=p;have B1:=B'.same s1
   walk_at "r"
   exists ro,dx,_,rfl,hob1,qpu _ _ _ _ _,_,rfl,_,rfl;simp only[qj0,Bb,Bs,Bl];refine ⟨ro,_,cc,h,b,w',x,rfl,A1,hcv,s1 _ _ hh,B1.ZOk,AL B1.zlen (by ext),λh2 y H2 hh2 po A2 b2=>?_⟩
   show Q _ _
   have bb:But2 c.dy c.dh H H2:=λz o e _ n2=>b2 _ _ (s1 _ _ e) n2
   refine q H2 ?_ bb;unfold qdw;rw[eo];exact ⟨Y,_,A2,B1.pour po hh2 (λz xs e=>b2 _ _ e (qa0 e A1.he (by intro z;cases z))) (hz b w' eo)⟩
abbrev IvT (C_Roll C_Rule:Addr) (H1:Hp) (ro r2:Addr) (c:qa2) (s2 s':Abs) (LY LZ:List (List Int)) (i:Nat) (σ:St) (H3:Hp):Prop:=But2 c.dy c.dh H1 H3/\RR C_Roll C_Rule H3 ro c (((qbg s2).take i).foldl (qc2 (cellD c)) s') LY LZ/\∃ v3 v4 v5:Option V,σ=[some (.ref ro),some (.ref r2),v3,v4,v5,none]
abbrev IvU (C_Roll C_Rule:Addr) (H4:Hp) (ro r2:Addr) (c:qa2) (s2 s':Abs) (LY LZ:List (List Int)) (v3 v4 v5:Option V) (i:Nat) (σ:St) (H5:Hp):Prop:=But2 c.dy c.dh H4 H5/\RR C_Roll C_Rule H5 ro c (((qa4 s2).take i).foldl (qb5 (cellD c)) ((qbg s2).foldl (qc2 (cellD c)) s')) LY LZ/\∃ v6:Option V,σ=[some (.ref ro),some (.ref r2),v3,v4,v5,v6]
include T in
theorem qev:qef P w K mg base C_Roll 5 "take_all" ["self", "roll"] (qit C_Roll C_Rule):=by
 obtain ⟨f,fd,F,hm⟩:=T.f_Roll_take_all;have nd:=sc_Roll_take_all.nd;refine ⟨f,fd,(F.ok sc_Roll_take_all (λvs H Q E h=>?_) (λcdv A outer s H vs Q E hr h=>?_)),hm,(F.binds λ_ _ _ _ _ _ us hl=>by obtain ⟨_,_,rfl⟩:=L2.lq2 hl;rfl)⟩
 ·obtain ⟨ro,r2,c,c2,s,s2,LY,LZ,LY2,LZ2,rfl,_⟩:=h;rfl
 ·obtain ⟨ro,r2,c,c2,s',s2,LY,LZ,LY2,LZ2,rfl,R1,R2,ok,ap,ly,lz,ly2,lz2,tk,q⟩:=h
  obtain ⟨dx,hob⟩:=R1.obj;obtain ⟨dx2,hob2⟩:=R2.obj;exists _,(jB2 (qbv AS rfl (qap (qcm (pv 1) T.cl_Roll (qhi T) (hr.mono (by decide)))) (jG3 (jN 2 nd) (jN 3 nd) (jN 4 nd)) (qac (qaz (qs9 (pv 0) T.cl_Roll (qeu T) (hr.mono (by decide)) .nil (jA3 (pv 2) (pv 3) (pv 4)))))) (qbv AS rfl (qap (qcm (pv 1) T.cl_Roll (qhj T) (hr.mono (by decide)))) (jN 5 nd) (qac (qaz (qjs (pv 0) T.cl_Roll (qhq T) (hr.mono (by decide)) (jA2 (jT (pv 5) qaa) (qca qsh (pv 5) (qbw qaa) qgk)))))));exists _,rfl,r2,dx2,_,rfl,hob2,qmp _ _ _ _ _;simp only[qj0,Bb,Bs,Bl];refine R2.young ly2 λl xs H1 s1 f1 hl tl kl=>?_
  have R1a:=R1.same s1;obtain ⟨⟨Y1,hY1⟩,⟨Z1,hZ1⟩⟩:=R1a.dicts;refine ⟨l,rfl,⟨_,SqL.of hl⟩,qbk (D:={ nx:=_,rt:=Q }) (xs:=xs) (λi σ H3=>IvT C_Roll C_Rule H1 ro r2 c s2 s' LY LZ i σ H3) ⟨But2.refl _ _ _,R1a,none,none,none,rfl⟩ (λi σ H3 _ h3=>SqL.of (h3.1.keep hY1 hZ1 hl (by intro K z;cases z))) ?_ ?_⟩
  ·rintro i x σ H3 hxi ⟨b3,R3,v3,v4,v5,rfl⟩
   obtain ⟨r',hr',ta,rfl,hta⟩:=tl.get hxi;obtain ⟨t,v,m,rfl,rok,hy,hz⟩:=tk.y r' (Am hr');have hta3:=b3.keep hY1 hZ1 hta (by intro K z;cases z);obtain ⟨dx3,hob3⟩:=R3.obj;exists ta,_,rfl,SqT.of hta3,rfl,_,_,rfl,_,_,rfl,_,_,rfl,rfl;exists _,rfl,ro,dx3,_,rfl,hob3,qog _ _ _ _ _,_,rfl,_,rfl,_,rfl;simp only[qj0,Bb,Bs,Bl];refine R3.put ok rok.1 rok.2.2.1 rok.2 ly lz hy hz λH4 R4 b4=>?_
   refine ⟨b3.trans b4,?_,_,_,_,rfl⟩;rw[qbn _ i _ hr',B5];exact R4
  ·rintro σ H3 ⟨b3,R3,v3,v4,v5,rfl⟩
   rw[tl.length,Aw] at R3;have R2':=(R2.same s1).frame b3 hY1 hZ1 ap.1 ap.2.1 ap.2.2.1 ap.2.2.2;obtain ⟨dx4,hob4⟩:=R2'.obj;exists _,rfl,r2,dx4,_,rfl,hob4,qmq _ _ _ _ _;simp only[qj0,Bb,Bs,Bl];refine R2'.heaps lz2 λl4 xs4 H4 s4 f4 hl4 tl4 kl4=>?_
   have R4:=R3.same s4;obtain ⟨⟨Y4,hY4⟩,⟨Z4,hZ4⟩⟩:=R4.dicts;have b04:But2 c.dy c.dh H H4:=λz o e n1 n2=>s4 _ _ (b3 _ _ (s1 _ _ e) n1 n2)
   refine ⟨l4,rfl,⟨_,SqL.of hl4⟩,qbk (D:={ nx:=_,rt:=Q }) (xs:=xs4) (λi σ H5=>IvU C_Roll C_Rule H4 ro r2 c s2 s' LY LZ v3 v4 v5 i σ H5) ⟨But2.refl _ _ _,R4,none,rfl⟩ (λi σ H5 _ h5=>SqL.of (h5.1.keep hY4 hZ4 hl4 (by intro K z;cases z))) ?_ ?_⟩
   ·rintro i x σ H5 hxi ⟨b5,R5,v6,rfl⟩
    obtain ⟨r',hr',ta,rfl,hta⟩:=tl4.get hxi;obtain ⟨a,w',m,t,lo,hi,rfl,ha,hz⟩:=tk.z r' (Am hr');have hta5:=b5.keep hY4 hZ4 hta (by intro K z;cases z);obtain ⟨dx5,hob5⟩:=R5.obj
    walk_at "r"
    exists ro,dx5,_,rfl,hob5,qe5 _ _ _ _ _ (by decide +kernel) (by decide +kernel) (by decide +kernel) (by decide +kernel) (by decide +kernel)
    walk_at "r"
    refine ⟨λz=>by have z1:HT.sIx 6 0 (some 2)=0:=z.1;revert z1;decide,λp hp=>?_⟩;have n6:New H5 (upd H5 p (.tup (qgw (List.map V.int [a,w',m,t,lo,hi]) (some 2) none))) p (.tup (TB.v4 (m,t,lo,hi))):=qa7 hp;simp only[qj0,Bb,Bs,Bl];refine ⟨ro,c,_,LY,LZ,a,p,(m,t,lo,hi),rfl,R5.same n6.same,ok,ha,n6.at_,lz,hz,λH7 R7 b7=>?_⟩;refine ⟨λz o e n1 n2=>b7 _ _ (n6.same _ _ (b5 _ _ e n1 n2)) n1 n2,?_,_,rfl⟩;rw[qbn _ i _ hr',B5];exact R7
   ·rintro σ H5 ⟨b5,R5,v6,rfl⟩
    rw[tl4.length,Aw] at R5;exact q H5 R5 (b04.trans b5)
theorem qzy (ru:Addr) (day:Int) (le dy dh p:Addr):qhs "kept_edges" (.ref p) (rof ru day le dy dh)=rof ru day p dy dh:=by rfl
inductive qni (C R:Addr) (vs:List V) (H:Hp) (Q:VK) (E_:XK):Prop
 | mk:∀ (ru rl e:Addr) (ps:List (Int×Int)) (g:Option Int) (day:Int) (EV:List V) (es:List Int) (ge:Option Int),vs=[.ref ru,.int day,.ref e]->RuleAt R H ru rl ps g->Pr ps g->Bd day->H e=some (.lst EV)->(∀ v∈EV,Ed v)->EV.length<=10->EV.length=ps.length+1->EdS EV es ge->es.length=ps.length->(∀ ro c H',RollAt C R H' ro c->c.ps=ps->c.g=g->c.day=day->c.Y=[]->c.Z=[]->EdS (List.zipWith gE (eV ps g day) EV) c.es c.ge->c.es.length=ps.length->Same H H'->H c.dy=none->H c.dh=none->(c.ru=ru/\c.rl=rl/\H c.le=none)->Q (.ref ro) H')->qni C R vs H Q E_
include T in
theorem quh:qax P w K mg base 6 "begun" ["rule", "day", "edges"] (qni C_Roll C_Rule):=by
 obtain ⟨f,fd,F,hm⟩:=T.f_begun;have nd:=sc_begun.nd;refine F.def_ hm (F.ok sc_begun (λvs H Q E h=>?_) (λcdv A outer s H vs Q E hr h=>?_)) (F.binds λ_ _ _ _ _ _ us hl=>by obtain ⟨_,_,_,rfl⟩:=L2.lq3 hl;rfl)
 ·obtain ⟨ru,rl,e,ps,g,day,EV,es,ge,rfl,_⟩:=h;rfl
 ·obtain ⟨ru,rl,e,ps,g,day,EV,es,ge,rfl,R,Pg,hd,he,hEd,h10,hEl,Ee,hln,q⟩:=h
  exists _,(jB3 (jS 3 nd (ql7 (qqb T) (hr.mono (by decide)) rfl .nil (jA2 (pv 0) (pv 1)))) (qeh (pv 3) (jF (qug T) hr (jA2 (qb7 (pv 3) rfl) (pv 2))) rfl) (qah (pv 3)));refine ⟨_,rfl,_,rfl,λro dx H1 s1 f1 d1=>?_⟩;refine ⟨ro,dx,ru,rl,ps,g,day,rfl,d1,R.same s1,Pg,hd,λle dy dh H2 z1 z2 z3 A2 b2=>⟨rfl,?_⟩⟩;have s2:Same H H2:=b2.same s1 f1;obtain ⟨dx2,hob⟩:=A2.ob;have E0':=EdS.of Pg hd;have hob':H2 ro=some (.ins C_Roll dx2 (rof ru day le dy dh)):=hob;have hed:H2 le=some (.lst (eV ps g day)):=by rw[E0'.eq];exact A2.ed
  have l0:(eV ps g day).length=ps.length+1:=by rw[E0'.eq];simp
  have g5:=Pg.good.hi;refine ⟨_,rfl,ro,C_Roll,dx2,_,_,rfl,hob',T.cl_Roll,T.na_Roll_kept_edges,qps _ _ _ _ _,_,rfl,le,e,_,EV,rfl,hed,s2 _ _ he,E0'.ed,hEd,by rw[l0,hEl],by ext,λp H3 n3=>?_⟩;refine ⟨_,rfl,ro,C_Roll,dx2,_,rfl,n3.same _ _ hob',T.cl_Roll,T.na_Roll_kept_edges,(by show 5<1000;decide),λH4 b4 h4=>?_⟩;rw[qzy] at h4;have A3:=A2.same n3.same;have M:=E0'.max Ee (by rw[Aa];exact hln.symm);have hro3:=n3.same _ _ hob';have hp4:H4 p=some (.lst (List.zipWith gE (eV ps g day) EV)):=b4 _ _ n3.at_ (qa0 n3.at_ hro3 (by intro z;cases z));obtain ⟨dxr,hru⟩:=A3.rule.ob;have nru:ru≠ro:=qa0 hru hro3 (by intro z;injection z with _ _ z;have:=qze rl (gv g);have z':rf rl (gv g)=rof ru day le dy dh:=z;rw[z'] at this;cases this);have s04:Same H H4:=b4.same (s2.trans n3.same) f1;refine ⟨_,rfl,q ro { qB6 ru rl p dy dh ps g day with es:=_,ge:=_ } H4 ⟨⟨dx2,h4⟩,A3.rule.but2 b4 hro3 qg3 (by intro xs z;cases z) nru,?_,b4 _ _ A3.yo (qa0 A3.yo hro3 (by intro z;cases z)),b4 _ _ A3.he (qa0 A3.he hro3 (by intro z;cases z)),A3.ne⟩ rfl rfl rfl rfl rfl M ?_ s04 (s1.free z2) (s1.free z3) ⟨rfl,rfl,s2.free n3.fresh⟩⟩
  ·rw[M.eq] at hp4;exact hp4
  ·show (List.zipWith _ _ _).length=ps.length
   rw[BP,Aa];ext
theorem ints_rep {F:Frag} {ns:List Int} (h:H l=some (.lst (ns.map V.int))):Rep F H (.ref l) (.list (ns.map PyData.int)):=.lst (SqL.of h) (qmf ns)
theorem qqc (ns:List Int):(PyData.list (ns.map PyData.int)).canLay0=true:=by simp only[PyData.canLay0,qmg]
theorem qwe (ns:List Int):(PyData.list (ns.map PyData.int)).depth<=20:=by simp[PyData.depth,qmh]
theorem qqd:∀ ns ms:List Int,PyData.eqvAll (ns.map PyData.int) (ms.map PyData.int)=decide (ns=ms)
 | [],[]=>by simp[PyData.eqvAll]
 | [],_ :: _=>by simp[PyData.eqvAll]
 | _ :: _,[]=>by simp[PyData.eqvAll]
 | n :: ns,m :: ms=>by
  rw[AR,AR,PyData.eqvAll,qqd ns ms]
  by_cases h1:n=m<;>by_cases h2:ns=ms<;>simp[h1,h2,PyData.eqv]
theorem qwf (ns ms:List Int):PyData.eqv (.list (ns.map PyData.int)) (.list (ms.map PyData.int))=decide (ns=ms):=by
 rw[PyData.eqv,qqd]
theorem EdS.uniq {E:List V} {a b:List Int} {h:Option Int} (x:EdS E a g) (y:EdS E b h):a=b/\g=h:=by
 have e:=x.eq.symm.trans y.eq;have hl:(a.map V.int).length=(b.map V.int).length:=by have:=congrArg List.length e;simp only[Ag,A9] at this;ext
 obtain ⟨e1,e2⟩:=List.append_inj e hl;exists ?_
 ·have:∀ {a b:List Int},a.map V.int=b.map V.int->a=b:=fun {a b} e=>by
   induction a generalizing b with
   | nil=>cases b with
    | nil=>rfl
    | cons _ _=>cases e
   | cons x t ih=>cases b with
    | nil=>cases e
    | cons y u=>injection e with h1 h2;injection h1 with h1;rw[h1,ih h2]
  exact this e1
 ·injection e2 with h1 _
  cases g<;>cases h<;>first|rfl|(injection h1 with h1;rw[h1])|cases h1
inductive qji (R:Addr) (vs:List V) (H:Hp) (Q:VK) (E_:XK):Prop
 | mk:∀ (ru rl:Addr) (ps:List (Int×Int)) (g:Option Int),vs=[.ref ru]->RuleAt R H ru rl ps g->ps.length<=5->(∀ p H',Same H H'->H' p=some (.lst ((ps.map (·.2)).map V.int))->Q (.ref p) H')->qji R vs H Q E_
include T in
theorem qjj:qax P w K mg base 3 "widths_of" ["rule"] (qji C_Rule):=by
 obtain ⟨f,fd,F,hm⟩:=T.f_widths_of;have nd:=sc_widths_of.nd;refine F.def_ hm (F.ok sc_widths_of (λvs H Q E h=>?_) (λcdv A outer s H vs Q E hr h=>?_)) (F.binds λ_ _ _ _ _ _ us hl=>by obtain ⟨_,rfl⟩:=L2.lq1 hl;rfl)
 ·obtain ⟨ru,rl,ps,g,rfl,_⟩:=h;rfl
 ·obtain ⟨ru,rl,ps,g,rfl,R,h5,q⟩:=h
  obtain ⟨dxr,hru⟩:=R.ob;obtain ⟨xr,hxl,hxr⟩:=R.ls;have nst:(rf rl (gv g)).lookup ("steps" : Str)=none:=TB.qtj _ _ (by decide +kernel) (by decide +kernel);exists _,(qac (qah (qcn (vars:=[ "age", "width" ]) (frees:=[]) (fv:=[]) rfl (jL0 rfl) trivial (qap (qcm (pv 0) T.cl_Rule (qdf T) (hr.mono (by decide)))) (qbf (by decide) (by decide)) (λ_ _ _ _=>(jG2 (jM 0 [ "age", "width" ]) (jM 1 [ "age", "width" ]))) (λ_ _ _ _=>qat) (λ_ _ _ _=>(pv 1)))));refine ⟨_,rfl,ru,dxr,_,rfl,hru,nst,ru,rl,ps,g,xr,rfl,R,hxl,λl1 H1 n1=>?_⟩;refine ⟨l1,rfl,⟨_,SqL.of n1.at_⟩,qb0 (λp=>p.2) n1.at_ (hxr.same n1.same) (by ext) (λp _ Q' q'=>⟨_,rfl,q'⟩) λa H2 n2=>?_⟩;exact q a H2 (n1.same.trans n2.same) (by rw[n2.at_])
inductive qgt (C R:Addr) (vs:List V) (H:Hp) (Q:VK) (E_:XK):Prop
 | mk:∀ (ro ru rl:Addr) (c:qa2) (s:Abs) (LY LZ:List (List Int)) (ps:List (Int×Int)) (g:Option Int) (fs:List Int) (fg:Option Int) (LY' LZ':List (List Int)),vs=[.ref ro,.ref ru]->RR C R H ro c s LY LZ->qem c->EdS (c.es.map V.int ++ [gv c.ge]) c.es c.ge->RuleAt R H ru rl ps g->Pr ps g->Bd c.day->LY.length<64->LZ.length<64->c.ps.map (·.2)=ps.map (·.2)->EdS (List.zipWith gE (eV ps g c.day) (c.es.map V.int ++ [gv c.ge])) fs fg->LY'.length<64->LZ'.length<64->qmu (qa1 (ps.map (·.2)) fs fg) LY' LZ' (qbg s) (qa4 s)->(∀ r' c' H',c'.ps=ps->c'.g=g->c'.day=c.day->c'.es=fs->c'.ge=fg->qem c'->RR C R H' r' c' (qfq (qa1 (ps.map (·.2)) fs fg) qmr (qbg s) (qa4 s)) LY' LZ'->Same H H'->(H c'.dy=none/\H c'.dh=none)->(c'.ru=ru/\c'.rl=rl/\H c'.le=none)->Q (.ref r') H')->qgt C R vs H Q E_
include T in
theorem qui:qax P w K mg base 7 "under" ["roll", "rule"] (qgt C_Roll C_Rule):=by
 obtain ⟨f,fd,F,hm⟩:=T.f_under;have nd:=sc_under.nd;refine F.def_ hm (F.ok sc_under (λvs H Q E h=>?_) (λcdv A outer s H vs Q E hr h=>?_)) (F.binds λ_ _ _ _ _ _ us hl=>by obtain ⟨_,_,rfl⟩:=L2.lq2 hl;rfl)
 ·obtain ⟨ro,ru,rl,c,s',LY,LZ,ps,g,fs,fg,LY',LZ',rfl,_⟩:=h;rfl
 ·obtain ⟨ro,ru,rl,c,s',LY,LZ,ps,g,fs,fg,LY',LZ',rfl,R0,ok,E0',Ru,Pg,hd,ly,lz,hw,Ef,ly',lz',tk,q⟩:=h
  obtain ⟨dx,hob⟩:=R0.obj;obtain ⟨Y0,Z0,A0,B0⟩:=id R0;exists _,(jB4 (qau (jC (qBa hr.units) (jF (qjj T) hr (jA1 (qcm (pv 0) T.cl_Roll (qjh T) (hr.mono (by decide))))) (jF (qjj T) hr (jA1 (pv 1)))) (qac qbt) qak) (jS 2 nd (jF (quh T) hr (jA3 (pv 1) (qcm (pv 0) T.cl_Roll (qgs T) (hr.mono (by decide))) (qcm (pv 0) T.cl_Roll (qdg T) (hr.mono (by decide)))))) (qaz (qjs (pv 2) T.cl_Roll (qev T) (hr.mono (by decide)) (jA1 (pv 0)))) (qah (pv 2)));exists _,rfl,ro,dx,_,rfl,hob,qpv _ _ _ _ _,ro,_,rfl,A0;refine ⟨c.ru,c.rl,c.ps,c.g,rfl,A0.rule,ok.pr.good.hi,λp1 H1 s1 hp1=>?_⟩;refine ⟨_,rfl,ru,rl,ps,g,rfl,Ru.same s1,Pg.good.hi,λp2 H2 s2 hp2=>?_⟩;exists _,_,ints_rep (s2 _ _ hp1),ints_rep hp2,qqc _,qqc _,qwe _,_,rfl
  show if (!PyData.eqv _ _)=true then _ else _
  rw[qwf];have s02:=s1.trans s2;rw[AD hw];refine qd7 ?_;have A2:=A0.same s02;have hlp:c.ps.length=ps.length:=by have:=congrArg List.length hw;simpa using this
  have hEl:(c.es.map V.int ++ [gv c.ge]).length=ps.length+1:=by simp[ok.es,hlp]
  have g5:=Pg.good.hi
  walk_at "r"
  exists ro,dx,_,rfl,s02 _ _ hob,qoh _ _ _ _ _,ro,_,rfl,A2;refine ⟨_,rfl,ro,dx,_,rfl,s02 _ _ hob,qfz _ _ _ _ _,ro,_,rfl,A2,λle H3 n3=>?_⟩;have s03:=s02.trans n3.same;refine ⟨ru,rl,le,ps,g,c.day,_,c.es,c.ge,rfl,Ru.same s03,Pg,hd,n3.at_,E0'.ed,AL (DX hEl) (by ext),hEl,E0',by rw[ok.es,hlp],λr' c' H4 A4 e1 e2 e3 eY eZ Ec hcl s4 f1 f2 w1=>?_⟩;obtain ⟨z1,z2⟩:=EdS.uniq Ec Ef;have okc:qem c':=⟨by rw[e1,e2];exact Pg,by rw[hcl,e1]⟩;have ec:{ c' with Y:=[],Z:=[] }=c':=by
   cases c'
   simp only at eY eZ;rw[eY,eZ]
  have R4:RR C_Roll C_Rule H4 r' c' qmr LY' LZ':=⟨[],[],by rw[ec];exact A4,RAbs.zero rfl rfl⟩;have s04:=s03.trans s4;have ecell:cellD c'=qa1 (ps.map (·.2)) fs fg:=by unfold cellD;rw[e1,z1,z2]
  obtain ⟨dx4,hob4⟩:=R4.obj;obtain ⟨⟨Yr,hYr⟩,⟨Zr,hZr⟩⟩:=(R0.same s03).dicts
  walk_at "r"
  exists r',dx4,_,rfl,hob4,qe5 _ _ _ _ _ (by decide +kernel) (by decide +kernel) (by decide +kernel) (by decide +kernel) (by decide +kernel)
  walk_at "r"
  refine ⟨r',ro,c',c,qmr,s',LY',LZ',LY,LZ,rfl,R4,R0.same s04,okc,⟨qae hYr f1,qae hYr f2,qae hZr f1,qae hZr f2⟩,ly',lz',ly,lz,by rw[ecell];exact tk,λH5 R5 b5=>?_⟩;rw[ecell] at R5
  walk_at "r"
  exact q r' c' H5 e1 e2 e3 z1 z2 okc R5 (λb o e=>b5 _ _ (s04 _ _ e) (qae (s03 _ _ e) f1) (qae (s03 _ _ e) f2)) ⟨s03.free f1,s03.free f2⟩ ⟨w1.1,w1.2.1,s03.free w1.2.2⟩
theorem qFh (x:Int) {k:Int} (hk:0<k):∃ n:Nat,(n:Int)<k/\x % k=(n:Int):=⟨(x % k).toNat,by rw[CW (Bh _ (Int.ne_of_gt hk))];exact A7 _ hk,(CW (Bh _ (Int.ne_of_gt hk))).symm⟩
theorem qFi:∀ n:Nat,(n:Int)<4->(n:Int)=0\/(n:Int)=1\/(n:Int)=2\/(n:Int)=3
 | 0,_=>.inl rfl
 | 1,_=>.inr (.inl rfl)
 | 2,_=>.inr (.inr (.inl rfl))
 | 3,_=>.inr (.inr (.inr rfl))
 | n+4,h=>by ext
theorem mod4' (x:Int):x % 4=0\/x % 4=1\/x % 4=2\/x % 4=3:=by
 obtain ⟨n,h,e⟩:=qFh x (k:=4) (by decide);rw[e];exact qFi n h
theorem qGc:∀ n:Nat,(n:Int)<3->(n:Int)=0\/(n:Int)=1\/(n:Int)=2
 | 0,_=>.inl rfl
 | 1,_=>.inr (.inl rfl)
 | 2,_=>.inr (.inr rfl)
 | n+3,h=>by ext
theorem mod3' (x:Int):x % 3=0\/x % 3=1\/x % 3=2:=by
 obtain ⟨n,h,e⟩:=qFh x (k:=3) (by decide);rw[e];exact qGc n h
theorem qGd {k:Int} (h0:0<=k) (h4:k<4):k=0\/k=1\/k=2\/k=3:=by
 obtain ⟨n,rfl⟩:=CF h0;exact qFi n h4
include T in
theorem qbo:qax P w K mg base 1 "_law_cell_at" ["_law_script", "_law_k"] (qpo K):=by
 obtain ⟨f,fd,F,hm⟩:=T.f__law_cell_at;have nd:=sc__law_cell_at.nd;refine F.def_ hm (F.ok sc__law_cell_at (λvs H Q E h=>?_) (λcdv A outer s H vs Q E hr h=>?_)) (F.binds λ_ _ _ _ _ _ us hl=>by obtain ⟨_,_,rfl⟩:=L2.lq2 hl;rfl)
 ·obtain ⟨a,ns,k,rfl,_⟩:=h;rfl
 ·obtain ⟨a,ns,k,rfl,hS,h0,q⟩:=h
  exists _,(jB2 (qau (jC qc8 (pv 1) (qag qan rfl T.b_len qby (jA1 (pv 0)))) (qac (qah (jI (pv 0) (pv 1)))) qak) (qah qaa))
  walk_at "r"
  refine qb3 (λz=>?_) λz=>?_
  ·have z':k<ns.length:=by simpa using z
   have hk:k.toNat<ns.length:=by ext
   have hi:atI (ns.map V.int) k=some (.int ns[k.toNat]):=by
    have:=qc4 (xs:=ns.map V.int) (j:=k.toNat) (v:=V.int ns[k.toNat]) (by simp[hk])
    rwa [CW h0] at this
   walk_at "r";exact q _
  ·exact q 0
def qoo:Sp:=λvs H Q _=>∃ (c:Int) (k:Nat),vs=[.int c,.int (k:Int)]/\k<=30/\∀ l (xs:List Int) H',New H H' l (.lst (xs.map V.int))->xs.length=k->(∀ x∈xs,XB x)->Q (.ref l) H'
include T in
theorem qbu:qax P w K mg base 1 "_law_stream" ["_law_cell_here", "_law_many"] qoo:=by
 obtain ⟨f,fd,F,hm⟩:=T.f__law_stream;have nd:=sc__law_stream.nd;refine F.def_ hm (F.ok sc__law_stream (λvs H Q E h=>?_) (λcdv A outer s H vs Q E hr h=>?_)) (F.binds λ_ _ _ _ _ _ us hl=>by obtain ⟨_,_,rfl⟩:=L2.lq2 hl;rfl)
 ·obtain ⟨c,k,rfl,_⟩:=h;rfl
 ·obtain ⟨c,k,rfl,hk,q⟩:=h
  exists _,(jB5 (jS 2 nd (qav qct)) (qau (jC qbh (qad qar (pv 0) qaa) qaa) (jB3 (jS 3 nd (qad qa6 (pv 0) qaa)) (qbv AS rfl (qh3 rfl T.b_range (jA1 (pv 1))) (jN 4 nd) (jB2 (qaz (qe1 AO A6 AZ qbb (pv 2) (jA1 (qad qar (pv 3) (qad qcs qaa qaa))))) (jS 3 nd (qad qdb (pv 3) (qad qcs qaa qaa))))) (qah (pv 2))) qak) (jS 5 nd (qad qa3 (qad qar (pv 0) (qad qa3 (qad qcs qaa qaa) qaa)) qaa)) (qbv AS rfl (qh3 rfl T.b_range (jA1 (qad qa3 (pv 1) qaa))) (jN 4 nd) (jB2 (jS 5 nd (qad qar (qad qa3 (qad qa3 (qad qbp (pv 5) (pv 5)) (qad qbp qaa (pv 5))) (pv 4)) (qad qa3 (qad qcs qaa qaa) qaa))) (qaz (qe1 AO A6 AZ qbb (pv 2) (jA1 (pv 5)))))) (qah (qca qdc (pv 2) (qbw qaa) qgk)))
  walk_at "r";intro l H1 n1
  walk_at "r"
  refine qb3 (λz=>?_) λz=>?_
  ·walk_at "r"
   refine qh4 (n:=k) (λi σ H2=>Same H H2/\∃ (xs:List Int) (r:Int) (v4:Option V),H2 l=some (.lst (xs.map V.int))/\xs.length=i/\(∀ x∈xs,XB x)/\σ=[some (.int c),some (.int (k:Int)),some (.ref l),some (.int r),v4,none]) ⟨n1.same,[],_,none,n1.at_,rfl,(λx hx=>by cases hx),rfl⟩ ?_ ?_
   ·rintro i σ H2 hi ⟨s2,xs,r,v4,hl2,hx,hb,rfl⟩
    rw[D4]
    walk_at "r"
    intro H3 b3 h3;have hm:XB (r % 10 ^ 40):=⟨Bh _ (by decide),DT (A7 _ (by decide)) (by decide)⟩
    walk_at "r"
    refine ⟨b3.same s2 n1.fresh,xs ++ [r % 10 ^ 40],_,_,by rw[Ao];exact h3,by simp[hx],λx hx'=>?_,rfl⟩
    rcases AK.mp hx' with z|z
    ·exact hb x z
    ·rw[AI.mp z];exact hm
   ·rintro σ H2 ⟨s2,xs,r,v4,hl2,hx,hb,rfl⟩
    exists _,rfl;exact q l xs H2 ⟨s2,n1.fresh,hl2⟩ hx hb
  walk_at "r"
  refine qh4 (n:=k+4) (λi σ H2=>Same H H2/\∃ (xs:List Int) (n:Int) (v4:Option V),H2 l=some (.lst (xs.map V.int))/\xs.length=i/\(∀ x∈xs,XB x)/\XB n/\σ=[some (.int c),some (.int (k:Int)),some (.ref l),none,v4,some (.int n)]) ⟨n1.same,[],_,none,n1.at_,rfl,(λx hx=>by cases hx),(by show XB (c % (10 ^ 40+121)+48271);unfold XB;ext),rfl⟩ ?_ ?_
  ·rintro i σ H2 hi ⟨s2,xs,n,v4,hl2,hx,hb,hn,rfl⟩
   unfold XB at hn;rw[D4]
   walk_at "r"
   intro H3 b3 h3;have hm:XB ((n*n+48271*n+(i:Int)) % (10 ^ 40+121)):=⟨Bh _ (by decide),DT (A7 _ (by decide)) (by decide)⟩;refine ⟨b3.same s2 n1.fresh,xs ++ [(n*n+48271*n+(i:Int)) % (10 ^ 40+121)],_,_,by rw[Ao];exact h3,by simp[hx],λx hx'=>?_,hm,rfl⟩
   rcases AK.mp hx' with z|z
   ·exact hb x z
   ·rw[AI.mp z];exact hm
  ·rintro σ H2 ⟨s2,xs,n,v4,hl2,hx,hb,hn,rfl⟩
   walk_at "r";intro l3 H3 n3
   have ec:qgw (xs.map V.int) (some 4) none=(xs.drop 4).map V.int:=by
    have:=qzj (xs.map V.int) 4 (by simp;ext);rw[Dj];exact this
   rw[ec] at n3;exact q l3 (xs.drop 4) H3 (New.after s2 n3) (by rw[Co];ext) λx hx=>hb x (List.mem_of_mem_drop hx)
def WB (x:Int):Prop:=0<=x/\x<10 ^ 240
theorem XB.wb {x:Int} (h:XB x):WB x:=by unfold XB at h;unfold WB;ext
def quj:Sp:=λvs H Q _=>∃ (c:Int) (k:Nat),vs=[.int c,.int (k:Int)]/\k<=30/\∀ l (xs:List Int) H',New H H' l (.lst (xs.map V.int))->xs.length=k->(∀ x∈xs,WB x)->Q (.ref l) H'
include T in
theorem qop:qax P w K mg base 2 "_law_wide" ["_law_cell_here", "_law_many"] quj:=by
 obtain ⟨f,fd,F,hm⟩:=T.f__law_wide;have nd:=sc__law_wide.nd;refine F.def_ hm (F.ok sc__law_wide (λvs H Q E h=>?_) (λcdv A outer s H vs Q E hr h=>?_)) (F.binds λ_ _ _ _ _ _ us hl=>by obtain ⟨_,_,rfl⟩:=L2.lq2 hl;rfl)
 ·obtain ⟨c,k,rfl,_⟩:=h;rfl
 ·obtain ⟨c,k,rfl,hk,q⟩:=h
  exists _,(jB6 (qau (jC qbh (qad qar (pv 0) qaa) qaa) (qac (qah (jF (qbu T) hr (jA2 (pv 0) (pv 1))))) qak) (jS 2 nd (qav qct)) (jS 3 nd (qad qtf (qad qtf (qad qbp (qad qcs qaa qaa) (qad qcs qaa qaa)) (qad qcs qaa qaa)) (qad qcs qaa qaa))) (jS 4 nd (qad qa6 (pv 0) qaa)) (qbv AS rfl (qh3 rfl T.b_range (jA1 (pv 1))) (jN 5 nd) (jB2 (qaz (qe1 AO A6 AZ qbb (pv 2) (jA1 (qad qar (pv 4) (pv 3))))) (jS 4 nd (qad qvu (pv 4) (pv 3))))) (qah (pv 2)))
  walk_at "r"
  refine qb3 (λz=>?_) λz=>?_
  ·refine ⟨_,rfl,_,rfl,c,k,rfl,hk,λl xs H1 n1 hx hb=>?_⟩
   exact q l xs H1 n1 hx λx h=>(hb x h).wb
  walk_at "r";intro l H1 n1
  walk_at "r"
  refine qh4 (n:=k) (λi σ H2=>Same H H2/\∃ (xs:List Int) (r:Int) (v4:Option V),H2 l=some (.lst (xs.map V.int))/\xs.length=i/\(∀ x∈xs,WB x)/\σ=[some (.int c),some (.int (k:Int)),some (.ref l),some (.int (10 ^ 240)),some (.int r),v4]) ⟨n1.same,[],_,none,n1.at_,rfl,(λx hx=>by cases hx),rfl⟩ ?_ ?_
  ·rintro i σ H2 hi ⟨s2,xs,r,v4,hl2,hx,hb,rfl⟩
   rw[D4]
   walk_at "r"
   intro H3 b3 h3;have hm:WB (r % 10 ^ 240):=⟨Bh _ (by decide),DT (A7 _ (by decide)) (by decide)⟩
   walk_at "r"
   refine ⟨b3.same s2 n1.fresh,xs ++ [r % 10 ^ 240],_,_,by rw[Ao];exact h3,by simp[hx],λx hx'=>?_,rfl⟩
   rcases AK.mp hx' with z|z
   ·exact hb x z
   ·rw[AI.mp z];exact hm
  ·rintro σ H2 ⟨s2,xs,r,v4,hl2,hx,hb,rfl⟩
   exists _,rfl;exact q l xs H2 ⟨s2,n1.fresh,hl2⟩ hx hb
include T in
theorem qro:qax P w K mg base 2 "_law_run" ["_law_cell_here", "_law_kind"] qB3:=by
 obtain ⟨f,fd,F,hm⟩:=T.f__law_run;have nd:=sc__law_run.nd;refine F.def_ hm (F.ok sc__law_run (λvs H Q E h=>?_) (λcdv A outer s H vs Q E hr h=>?_)) (F.binds λ_ _ _ _ _ _ us hl=>by obtain ⟨_,_,rfl⟩:=L2.lq2 hl;rfl)
 ·obtain ⟨c,k,rfl,_⟩:=h;rfl
 ·obtain ⟨c,k,rfl,h0,h6,q⟩:=h
  obtain ⟨J,eJ⟩:∃ J:St->Hp->Prop,J=λσ H'=>∃ (k:Int) (l:Addr) (x0 x1 x2:Int),0<=k/\k<4/\XB x0/\XB x1/\XB x2/\Same H H'/\H' l=some (.lst [.int x0,.int x1,.int x2])/\σ=[some (.int c),some (.int k),some (.ref l),none]:=⟨_,rfl⟩
  exists _,(qaj (jS 2 nd (jF (qbu T) hr (jA2 (pv 0) qaa))) (qsv J (qau (jC qlx (pv 1) qaa) (qac (jS 1 nd (qad qar (qad qa6 (jI (pv 2) qaa) qaa) qaa))) qak) (jB2 (jS 3 nd (jI (qav (jA4 (qad qb6 (qad qar (jI (pv 2) qaa) qaa) qaa) (qad qar (jI (pv 2) qaa) qaa) (qad qb6 (qad qar (jI (pv 2) qaa) (qad qed qaa (qad qcs qaa qaa))) (qad qcs qaa qaa)) (qad qb6 (qad qar (jI (pv 2) qaa) (qad qed qaa (qad qcs qaa qaa))) (qad qcs qaa qaa)))) (pv 1))) (qah (qam (jA2 (pv 3) (jI (qav (jA4 qaa qaa (qad qa3 qaa (qad qar (jI (pv 2) qaa) qaa)) (qad qa3 qaa (qad qar (jI (pv 2) qaa) (qad qcs qaa qaa))))) (qad qar (jI (pv 2) qaa) qaa))))))))
  walk_at "r"
  intro l xs H1 n1 hx hb;obtain ⟨x0,x1,x2,rfl⟩:=qF8 hx;have b0:=hb x0 (by simp);have b1:=hb x1 (by simp);have b2:=hb x2 (by simp);have hl:H1 l=some (.lst [.int x0,.int x1,.int x2]):=n1.at_;refine And.intro ?_ ?_
  ·walk_at "r"
   refine qb3 (λz=>?_) λz=>?_
   ·walk_at "r"
    show J _ _
    rw[eJ];exact ⟨_,l,x0,x1,x2,by ext,by ext,b0,b1,b2,n1.same,hl,rfl⟩
   ·have z':¬ (3<k):=by simpa using z
    show J _ _
    rw[eJ];exact ⟨_,l,x0,x1,x2,h0,by ext,b0,b1,b2,n1.same,hl,rfl⟩
  clear hl n1 b0 b1 b2 hb hx h0 h6;intro σ' H' j;rw[eJ] at j;clear eJ;obtain ⟨k,l,x0,x1,x2,k0,k4,b0,b1,b2,s',hl,rfl⟩:=j;unfold XB at b0 b1 b2
  walk_at "r";intro p1 H2 n2
  obtain ⟨v,hv,v1,v2⟩:∃ v,atI [V.int (x0 % 9-4),V.int (x0 % 3),V.int (x0 % (2*10 ^ 9)-10 ^ 9),V.int (x0 % (2*10 ^ 30)-10 ^ 30)] k=some (V.int v) /\ -(10 ^ 31)<v/\v<10 ^ 31:=by
   have hk:=qGd k0 k4
   rcases hk with rfl|rfl|rfl|rfl
   ·exact ⟨_,rfl,by ext,by ext⟩
   ·exact ⟨_,rfl,by ext,by ext⟩
   ·exact ⟨_,rfl,by ext,by ext⟩
   ·exact ⟨_,rfl,by ext,by ext⟩
  walk_at "r";intro p3 H3 n3
  obtain ⟨m,hm,m1,m2⟩:∃ m,atI [V.int 1,V.int 1,V.int (1+x2 % 5),V.int (1+x2 % 10 ^ 12)] (x1 % 4)=some (V.int m)/\1<=m/\m<10 ^ 31:=by
   have hk:=mod4' x1
   rcases hk with e|e|e|e<;>rw[e]
   ·exact ⟨_,rfl,by ext,by ext⟩
   ·exact ⟨_,rfl,by ext,by ext⟩
   ·exact ⟨_,rfl,by ext,by ext⟩
   ·exact ⟨_,rfl,by ext,by ext⟩
  walk_at "r";intro a H4 n4
  exact q a (v,m) H4 (New.after (s'.trans (n2.same.trans n3.same)) n4) ⟨⟨v1,v2⟩,m1,m2⟩
include T in
theorem qdh:qax P w K mg base 1 "times_within" ["a", "b", "start", "width"] qCa:=by
 obtain ⟨f,fd,F,hm⟩:=T.f_times_within;have nd:=sc_times_within.nd;refine F.def_ hm (F.ok sc_times_within (λvs H Q E h=>?_) (λcdv A outer s H vs Q E hr h=>?_)) (F.binds λ_ _ _ _ _ _ us hl=>by obtain ⟨_,_,_,_,rfl⟩:=L2.lq4 hl;rfl)
 ·obtain ⟨a,b,st,w,rfl,_⟩:=h;rfl
 ·obtain ⟨a,b,st,w,rfl,q⟩:=h
  exists _,(jB3 (jS 4 nd (qhr (jC qdo (pv 0) qay) (pv 2) (qag (qdp rfl) rfl T.b_max qd8 (jA2 (pv 0) (pv 2))))) (jS 5 nd (qhr (jC qdo (pv 1) qay) (qad qa3 (pv 2) (pv 3)) (qag (qh5 rfl) rfl T.b_min qgy (jA2 (pv 1) (qad qa3 (pv 2) (pv 3)))))) (qah (qag (qdp rfl) rfl T.b_max qd8 (jA2 qaa (qad qb6 (pv 5) (pv 4))))))
  cases a with
  | none =>
   cases b with
   | none=>walk_at "r";exact q
   | some y=>walk_at "r";exact q
  | some x =>
   cases b with
   | none=>walk_at "r";exact q
   | some y=>walk_at "r";exact q
include T in
theorem qwg:qax P w K mg base 2 "is_cut" ["a", "b", "start", "width"] qpz:=by
 obtain ⟨f,fd,F,hm⟩:=T.f_is_cut;have nd:=sc_is_cut.nd;refine F.def_ hm (F.ok sc_is_cut (λvs H Q E h=>?_) (λcdv A outer s H vs Q E hr h=>?_)) (F.binds λ_ _ _ _ _ _ us hl=>by obtain ⟨_,_,_,_,rfl⟩:=L2.lq4 hl;rfl)
 ·obtain ⟨a,b,st,w,rfl,_⟩:=h;rfl
 ·obtain ⟨a,b,st,w,rfl,q⟩:=h
  exists _,(jB2 (jS 4 nd (jF (qdh T) hr (jA4 (pv 0) (pv 1) (pv 2) (pv 3)))) (qah (qe2 (jD qc8 qaa (pv 4)) (qfw (jD qc8 (pv 4) (pv 3))))))
  walk_at "r"
  exists a,b,st,w,rfl
  generalize qgj a b st w=n at q
  walk_at "r"
  refine qb3 (λz=>?_) λz=>?_
  ·rw[z,Dk] at q
   walk_at "r";exact q
  ·have z':decide (0<n)=false:=by simpa using z
   rw[z',B9] at q;exact q
def qCo:Sp:=λvs H Q _=>∃ (e a:Option Int),vs=[gv e,gv a]/\¬ qzo e a/\Q .non H
include T in
theorem qgf:qax P w K mg base 3 "check_begin" ["edge", "a"] qCo:=by
 obtain ⟨f,fd,F,hm⟩:=T.f_check_begin;have nd:=sc_check_begin.nd;refine F.def_ hm (F.ok sc_check_begin (λvs H Q E h=>?_) (λcdv A outer s H vs Q E hr h=>?_)) (F.binds λ_ _ _ _ _ _ us hl=>by obtain ⟨_,_,rfl⟩:=L2.lq2 hl;rfl)
 ·obtain ⟨e,a,rfl,_⟩:=h;rfl
 ·obtain ⟨e,a,rfl,nb,q⟩:=h
  exists _,(qac (qau (PW.pt (qfv (jC qd1 (pv 0) qay) (qd0 (PW.pt (qls (jC qdo (pv 1) qay) (qgv (jC qc8 (pv 1) (pv 0)))))))) (qac qbt) qak))
  cases e with
  | none =>
   walk_at "r"
   exact q
  | some z =>
   cases a with
   | none=>exact absurd ⟨z,rfl,λx e=>by cases e⟩ nb
   | some x =>
    walk_at "r"
    refine qb3 (λy=>?_) λy=>?_
    ·exact absurd ⟨z,rfl,λx' e=>by cases e;simpa using y⟩ nb
    ·exact q
include T in
theorem qcw:qax P w K mg base 1 "_law_edges" ["_law_rule_here", "_law_day"] qp0:=by
 obtain ⟨f,fd,F,hm⟩:=T.f__law_edges;have nd:=sc__law_edges.nd;refine F.def_ hm (F.ok sc__law_edges (λvs H Q E h=>?_) (λcdv A outer s H vs Q E hr h=>?_)) (F.binds λ_ _ _ _ _ _ us hl=>by obtain ⟨_,_,rfl⟩:=L2.lq2 hl;rfl)
 ·obtain ⟨t,l,xs,ps,g,d,rfl,_⟩:=h;rfl
 ·obtain ⟨t,l,xs,ps,g,d,rfl,ht,hl,hx,Pg,hd,q⟩:=h
  have hlen:=hx.length;have h5:=Pg.good.hi;obtain ⟨p,hp,ep⟩:=Pg.last;exists _,(jB3 (qce (i:=2) (vars:=[ "_law_age", "_law_width" ]) (frees:=[ "_law_day" ]) (fv:=[1]) nd rfl (Or.inl rfl) rfl (jL1 rfl) ⟨⟨rfl,.inl rfl,rfl,.inl rfl⟩,trivial⟩ (qap (jT (pv 0) qaa)) (qbf (by decide) (by decide)) (λ_ _ _ _=>(jG2 (jM 0 [ "_law_age", "_law_width", "_law_day" ]) (jM 1 [ "_law_age", "_law_width", "_law_day" ]))) (λ_ _ _ _=>qat) (λ_ _ _ _=>(qad qbp (qad qdb (qad qb6 (pv 2) (pv 0)) (pv 1)) (pv 1)))) (qau (jC qdo (jT (pv 0) qaa) qay) (qac (qah (qad qd3 (pv 2) (qav (jA1 qay))))) qak) (qah (qad qd3 (pv 2) (qav (jA1 (qad qbp (qad qdb (qad qb6 (pv 1) (jT (pv 0) qaa)) (jT (jI (jT (pv 0) qaa) (qeb qck qaa)) qaa)) (jT (jI (jT (pv 0) qaa) (qeb qck qaa)) qaa)))))))
  walk_at "r"
  refine ⟨⟨_,SqL.of hl⟩,qbm (xs:=xs) (λi ys H2=>Same H H2/\ys=(ps.take i).map λp=>V.int (cut d p.1 p.2)) (AB (qai (by ext))) ⟨Same.refl _,rfl⟩ (λi ys H2 h2=>⟨SqL.of (h2.1 _ _ hl),by rw[h2.2];simp;ext⟩) ?_ ?_⟩
  ·rintro i x ys H2 hi ⟨s2,rfl⟩
   obtain ⟨p,hpi,a,rfl,ha⟩:=hx.get hi;have hs:=Pg.size i p hpi;unfold Bd at hd;have hb:=qvx (x:=d-p.1) (B:=10 ^ 46) hs.2.2.1 (by decide) (by ext) (by ext);refine ⟨a,_,rfl,SqT.of (s2 _ _ ha),rfl,_,_,rfl,_,_,rfl,rfl,ql6 (qdk ?_)⟩;refine ⟨_,rfl,_,rfl,_,_,rfl,rfl,_,rfl,_,_,rfl,rfl,⟨by show 0<p.2;ext,by show p.2<_;ext⟩,_,rfl,_,_,rfl,rfl,⟨⟨by ext,by ext⟩,by ext,by ext⟩,s2,?_⟩;exact (qFb _ ps i p hpi).symm
  ·rintro ys H2 c1 H3 ⟨s2,rfl⟩ n3
   rw[hlen,Aw] at n3;have s3:Same H H3:=s2.trans n3.same;have ht3:=s3 _ _ ht;have hl3:=s3 _ _ hl
   cases g with
   | none =>
    walk_at "r";intro c2 H4 n4
    refine ⟨c1,c2,_,_,rfl,rfl,n4.same _ _ n3.at_,n4.at_,AB (qai (by simp;ext)),λz H6 n6=>?_⟩;exact q z H6 (New.after (s3.trans n4.same) n6)
   | some z =>
    obtain ⟨v,hv,a,rfl,ha⟩:=hx.get' hp;have hz:=Pg.gb z rfl;have hs:=Pg.size _ p hp;unfold Bd at hd;have hb:=qvx (x:=d-z) (B:=10 ^ 46) hs.2.2.1 (by decide) (by ext) (by ext);have hat:atI xs (-1)=some (.ref a):=qek (by rw[hlen];exact hv);have ha3:=s3 _ _ ha
    walk_at "r";intro c2 H4 n4
    refine ⟨c1,c2,_,_,rfl,rfl,n4.same _ _ n3.at_,n4.at_,AB (qai (by simp;ext)),λy H6 n6=>?_⟩;have e:eV ps (some z) d=(ps.map λp=>V.int (cut d p.1 p.2)) ++ [V.int ((d-z) / p.2*p.2)]:=by
     show (ps.map λp=>V.int (cut d p.1 p.2)) ++ [V.int (cut d z (lw ps))]=_
     rw[ep];rfl
    refine q y H6 ?_;rw[e];exact New.after (s3.trans n4.same) n6
def T5 (t:Int):Prop:=-(5*10 ^ 45)<=t/\t<=5*10 ^ 45
inductive qnj (vs:List V) (H:Hp) (Q:VK) (E_:XK):Prop
 | mk:∀ (t l:Addr) (xs:List V) (ps:List (Int×Int)) (g:Option Int) (d x:Int),vs=[.ref t,.int d,.int x]->H t=some (.tup [.ref l,gv g])->H l=some (.lst xs)->Pairs H xs ps->qv5 ps g->Bd d->(∀ tm H',T5 tm->Same H H'->Q (.int tm) H')->qnj vs H Q E_
include T in
theorem qjk:qax P w K mg base 2 "_law_time" ["_law_rule_here", "_law_day", "_law_x"] qnj:=by
 obtain ⟨f,fd,F,hm⟩:=T.f__law_time;have nd:=sc__law_time.nd;refine F.def_ hm (F.ok sc__law_time (λvs H Q E h=>?_) (λcdv A outer s H vs Q E hr h=>?_)) (F.binds λ_ _ _ _ _ _ us hl=>by obtain ⟨_,_,_,rfl⟩:=L2.lq3 hl;rfl)
 ·obtain ⟨t,l,xs,ps,g,d,x,rfl,_⟩:=h;rfl
 ·obtain ⟨t,l,xs,ps,g,d,x,rfl,ht,hl,hx,D,hd,q⟩:=h
  have P:=D.pr;obtain ⟨p,hp,ep⟩:=P.last;obtain ⟨v,hv,a,rfl,ha⟩:=hx.get' hp;have hlen:=hx.length;have lo:=P.good.lo;have h5:=P.good.hi;have hat:atI xs (-1)=some (.ref a):=qek (by rw[hlen];exact hv);have E0:=EdS.of P hd;have hs:=P.size _ p hp;have hb:=D.each _ p hp;have hel:(ps.map λp=>cut d p.1 p.2).length=ps.length:=by rw[Aa]
  have hEl:(eV ps g d).length=ps.length+1:=by rw[E0.eq];simp
  exists _,(jB7 (qce (i:=3) (vars:=[ "_law_edge" ]) (frees:=[]) (fv:=[]) nd rfl (Or.inl rfl) rfl (jL0 rfl) trivial (qap (jF (qcw T) hr (jA2 (pv 0) (pv 1)))) (qbx (by decide)) (λ_ _ _ _=>(jM 0 [ "_law_edge" ])) (λ_ _ _ _=>(qfm (jC qd1 (pv 0) qay))) (λ_ _ _ _=>(pv 0))) (jS 4 nd (jI (pv 3) (qad qar (qad qa6 (pv 2) qaa) (qag qan rfl T.b_len qby (jA1 (pv 3)))))) (jS 5 nd (jT (jI (jT (pv 0) qaa) (qeb qck qaa)) qaa)) (jS 6 nd (qad qa3 (qad qa3 (jT (jI (jT (pv 0) qaa) (qeb qck qaa)) qaa) (qad qed qaa (pv 5))) qaa)) (qau (jC qbh (qad qar (pv 2) qaa) qaa) (qac (qah (qad qb6 (qad qa3 (pv 4) (qad qar (qad qa6 (pv 2) qaa) qaa)) qaa))) qak) (qau (jC qbh (qad qar (pv 2) qaa) qaa) (qac (qah (qad qa3 (qad qb6 (pv 4) (qad qar (qad qa6 (pv 2) qaa) (qad qed qaa (pv 5)))) qaa))) qak) (qah (qad qb6 (qad qa3 (pv 1) qaa) (qad qar (qad qa6 (pv 2) qaa) (pv 6)))))
  walk_at "r"
  refine ⟨t,l,xs,ps,g,d,rfl,ht,hl,hx,P,hd,λle H1 n1=>?_⟩;refine ⟨le,rfl,⟨_,SqL.of n1.at_⟩,qbm (xs:=eV ps g d) (λi ys H3=>Same H1 H3/\ys=((eV ps g d).take i).filter qu4) (AB (qai (by ext))) ⟨Same.refl _,rfl⟩ (λi ys H3 h3=>⟨SqL.of (h3.1 _ _ n1.at_),by rw[h3.2];exact qvz _ _⟩) ?_ ?_⟩
  ·rintro i x ys H3 hi ⟨s3,rfl⟩
   refine ⟨_,rfl,rfl,_,rfl,qb3 (λz=>?_) λz=>?_⟩
   ·exact ⟨_,rfl,s3,(qBx hi z).symm⟩
   ·exact ⟨s3,(qBy hi z).symm⟩
  ·rintro ys H3 kl H4 ⟨s3,rfl⟩ n4
   rw[Aw] at n4;rw[E0.eq,known] at n4;have kb:=qzi E0
   generalize (ps.map λp=>cut d p.1 p.2)=es at n4 kb hel
   generalize (g.map λz=>cut d z (lw ps))=ge at n4 kb
   obtain ⟨ed,hed,hat2⟩:=qEg (es ++ ge.toList) (by rw[Ag];ext) (x / 4);have hb2:=kb ed hed;unfold EB at hb2;have hkl:0<((es ++ ge.toList).map V.int).length:=by rw[Aa,Ag];ext
   have s4:Same H H4:=n1.same.trans (s3.trans n4.same);have ht4:=s4 _ _ ht;have hl4:=s4 _ _ hl;have ha4:=s4 _ _ ha;have hk4:=n4.at_;clear n1 s3 n4;unfold Bd at hd;have m0:=Bh (x / 64) (show 3*p.2≠0 by ext);have m1:=A7 (x / 64) (show 0<3*p.2 by ext);have k0:=Bh (x / 64) (show p.1+3*p.2+9≠0 by ext);have k1:=A7 (x / 64) (show 0<p.1+3*p.2+9 by ext)
   walk_at "r"
   refine qb3 (λz=>?_) λz=>?_
   ·walk_at "r"
    exact q _ H4 (by unfold T5;ext) s4
   walk_at "r"
   refine qb3 (λz=>?_) λz=>?_
   ·walk_at "r"
    exact q _ H4 (by unfold T5;ext) s4
   walk_at "r"
   exact q _ H4 (by unfold T5;ext) s4
inductive qnk (vs:List V) (H:Hp) (Q:VK) (E_:XK):Prop
 | mk:∀ (t l:Addr) (xs:List V) (ps:List (Int×Int)) (g:Option Int) (d c k:Int),vs=[.ref t,.int d,.int c,.int k]->H t=some (.tup [.ref l,gv g])->H l=some (.lst xs)->Pairs H xs ps->qv5 ps g->Bd d->0<=k->k<6->(∀ a (r:Rd3) H',T5 r.1->RunT r.2->Same H H'->H' a=some (.tup [.int r.1,.int r.2.1,.int r.2.2])->Q (.ref a) H')->qnk vs H Q E_
include T in
theorem qfh:qax P w K mg base 3 "_law_reading" ["_law_rule_here", "_law_day", "_law_cell_here", "_law_kind"] qnk:=by
 obtain ⟨f,fd,F,hm⟩:=T.f__law_reading;have nd:=sc__law_reading.nd;refine F.def_ hm (F.ok sc__law_reading (λvs H Q E h=>?_) (λcdv A outer s H vs Q E hr h=>?_)) (F.binds λ_ _ _ _ _ _ us hl=>by obtain ⟨_,_,_,_,rfl⟩:=L2.lq4 hl;rfl)
 ·obtain ⟨t,l,xs,ps,g,d,c,k,rfl,_⟩:=h;rfl
 ·obtain ⟨t,l,xs,ps,g,d,c,k,rfl,ht,hl,hx,D,hd,k0,k6,q⟩:=h
  exists _,(jB2 (jS 4 nd (jI (jF (qbu T) hr (jA2 (pv 2) qaa)) qaa)) (qah (qad (show OpR _ _ (qj5 K) from qfy) (qam (jA1 (jF (qjk T) hr (jA3 (pv 0) (pv 1) (pv 4))))) (jF (qro T) hr (jA2 (pv 2) (pv 3))))))
  walk_at "r";intro ls ys H1 n1 hy hb
  have hy:ys.length=4:=hy;obtain ⟨x,hx3⟩:∃ x,ys[3]?=some x:=⟨_,Ab (by ext)⟩;have at3:atI (ys.map V.int) 3=some (.int x):=qc4 (j:=3) (by rw[An,hx3];rfl);have hls:=n1.at_
  walk_at "r"
  refine ⟨t,l,xs,ps,g,d,x,rfl,n1.same _ _ ht,n1.same _ _ hl,hx.same n1.same,D,hd,λtm H2 htm s2=>?_⟩;have s02:=n1.same.trans s2
  walk_at "r";intro p3 H3 n3
  refine ⟨_,rfl,_,rfl,c,k,rfl,k0,k6,λb r H4 n4 hr4=>?_⟩;refine ⟨p3,b,_,_,rfl,rfl,SqT.of (n4.same _ _ n3.at_),SqT.of n4.at_,(by intro z;cases z),(by intro z;cases z),(by show 1+2<=sizeLine;decide),λa H5 n5=>?_⟩;exact q a (tm,r) H5 htm hr4 (s02.trans (n3.same.trans (n4.same.trans n5.same))) n5.at_
theorem qwh {xs:List Int} (h:xs.length=12) {n:Int} (h0:0<=n) (h5:n<5):∃ ms:List Int,qgw (xs.map V.int) (some 4) (some (5+n))=ms.map V.int/\1<=ms.length/\ms.length<=5:=by
 obtain ⟨m,rfl⟩:=CF h0;have h6:m<5:=Int.ofNat_lt.mp h5;unfold qgw;rw[show (some (4:Int))=some ((4:Nat):Int) from rfl,show (some (5+(m:Int)))=some (((5+m:Nat)):Int) from rfl,HT.sIx_nat,HT.sIx_nat];simp only[<- DO,<- Dj];exists _,rfl;simp only[AU,Co,Aa,h];clear h h0 h5 xs
 revert m;decide
abbrev IvQ (H:Hp) (ms xs:List Int) (lz l ls:Addr) (c sc:Int) (i:Nat) (σ:St) (H':Hp):Prop:=Same H H'/\H' lz=some (.lst (ms.map V.int))/\H' l=some (.lst (xs.map V.int))/\∃ (age w:Int) (ys:List V) (ps:List (Int×Int)) (v6:Option V),H' ls=some (.lst ys)/\Pairs H' ys ps/\St41 i age w ps/\σ=[some (.int c),some (.ref l),some (.int sc),some (.int age),some (.int w),some (.ref ls),v6]
include T in
theorem qoq:qax P w K mg base 2 "_law_rule" ["_law_cell_here"] qt2:=by
 obtain ⟨f,fd,F,hm⟩:=T.f__law_rule;have nd:=sc__law_rule.nd;refine F.def_ hm (F.ok sc__law_rule (λvs H Q E h=>?_) (λcdv A outer s H vs Q E hr h=>?_)) (F.binds λ_ _ _ _ _ _ us hl=>by obtain ⟨_,rfl⟩:=L2.lq1 hl;rfl)
 ·obtain ⟨c,rfl,_⟩:=h;rfl
 ·obtain ⟨c,rfl,q⟩:=h
  exists _,(jB8 (jS 1 nd (jF (qbu T) hr (jA2 (pv 0) qaa))) (jS 2 nd (jI (qav (jA4 qaa qaa qaa (qad qcs qaa qaa))) (qad qar (jI (pv 1) qaa) qaa))) (jS 3 nd (qad qed (qad qar (jI (pv 1) qaa) qaa) (pv 2))) (jS 4 nd (jI (qav (jA2 qaa (qad qed (pv 2) (qad qa3 qaa (qad qar (jI (pv 1) qaa) qaa))))) (qad qa6 (qad qar (qad qa6 (jI (pv 1) qaa) qaa) qaa) qaa))) (jS 5 nd (qav qct)) (qbv AS rfl (qap (qca qdc (pv 1) (qbw qaa) (qbw (qad qa3 qaa (qad qar (jI (pv 1) qaa) qaa))))) (jN 6 nd) (jB3 (qaz (qe1 AO A6 AZ qbb (pv 5) (jA1 (qam (jA2 (pv 3) (pv 4)))))) (jS 3 nd (qad qa3 (pv 3) (jI (qav (jA4 qaa (qad qed (qad qar (qad qa6 (pv 6) qaa) qaa) (pv 2)) (qad qed (qad qar (qad qa6 (pv 6) qaa) qaa) (pv 2)) (qad qa3 qaa (qad qar (qad qa6 (pv 6) qaa) qaa)))) (qad qar (pv 6) qaa)))) (jS 4 nd (qad qed (pv 4) (jI (qav (jA4 qaa qaa qaa qaa)) (qad qar (qad qa6 (pv 6) qaa) qaa)))))) (qau (jC qbh (qad qar (jI (pv 1) qaa) qaa) qaa) (qac (qah (qam (jA2 (pv 5) qay)))) qak) (qah (qam (jA2 (pv 5) (qad qa3 (jT (jI (pv 5) (qeb qck qaa)) qaa) (jI (qav (jA3 qaa (qad qed (qad qar (jI (pv 1) qaa) qaa) (pv 2)) qaa)) (qad qar (qad qa6 (jI (pv 1) qaa) qaa) qaa)))))));refine ⟨_,rfl,_,12,rfl,by decide,λl xs H1 n1 hx hb=>?_⟩;have hx:xs.length=12:=hx;have g:∀ k:Nat,k<12->∃ x,atI (xs.map V.int) (k:Int)=some (.int x)/\0<=x:=λk hk=>by
   have e:xs[k]?=some (xs[k]'(by ext)):=Ab (by ext);exact ⟨_,qc4 (by rw[An,e];rfl),(hb _ (Am e)).1⟩
  obtain ⟨x0,at0,_⟩:=g 0 (by ext);obtain ⟨x1,at1,_⟩:=g 1 (by ext);obtain ⟨x2,at2,_⟩:=g 2 (by ext);obtain ⟨x3,at3,_⟩:=g 3 (by ext);obtain ⟨x9,at9,_⟩:=g 9 (by ext);obtain ⟨x10,at10,_⟩:=g 10 (by ext);have hl:=n1.at_;have at0':atI (xs.map V.int) 0=some (.int x0):=at0;have at1':atI (xs.map V.int) 1=some (.int x1):=at1;have at2':atI (xs.map V.int) 2=some (.int x2):=at2;have at3':atI (xs.map V.int) 3=some (.int x3):=at3;have at9':atI (xs.map V.int) 9=some (.int x9):=at9;have at10':atI (xs.map V.int) 10=some (.int x10):=at10;refine ⟨_,_,rfl,rfl,⟨by decide,by decide,by decide⟩,(by show 4<=sizeLine;decide),λp2 H2 n2=>?_⟩;obtain ⟨sc,hsc,sc1,sc2⟩:∃ sc,atI [V.int 1,V.int 1,V.int 60,V.int (10 ^ 12)] (x0 % 4)=some (V.int sc)/\1<=sc/\sc<=10 ^ 12:=by
   have hk:=mod4' (x0)
   rcases hk with e|e|e|e<;>rw[e]
   ·exact ⟨_,rfl,by ext,by ext⟩
   ·exact ⟨_,rfl,by ext,by ext⟩
   ·exact ⟨_,rfl,by ext,by ext⟩
   ·exact ⟨_,rfl,by ext,by ext⟩
  have hl2:=n2.same _ _ hl;have h2:=n2.at_;have mB:∀ {x n:Int},0<=x->x<=n->n<=1000->0<=x*sc/\x*sc<=n*10 ^ 12:=fun {x n} h0 h1 hn=>⟨DI h0 (by ext),Dv (AG h1 (by ext)) (Ap sc2 (by ext))⟩
  have m6:=mB (x:=x1 % 6) (n:=5) (by ext) (by ext) (by ext);have m3:=mB (x:=1+x2 % 3) (n:=3) (by ext) (by ext) (by ext);rw[Bf] at m3;refine ⟨_,rfl,l,_,_,_,rfl,rfl,SqL.of hl2,at0',_,_,rfl,rfl,(by first|decide|(dsimp only;decide)),p2,_,_,_,rfl,rfl,SqL.of h2,hsc,_,rfl,l,_,_,_,rfl,rfl,SqL.of hl2,at1',_,_,rfl,rfl,(by first|decide|(dsimp only;decide)),_,rfl,_,_,rfl,rfl,(.inl ⟨by ext,by ext⟩),_,rfl,_,rfl,l,_,_,_,rfl,rfl,SqL.of hl2,at2',_,_,rfl,rfl,(by first|decide|(dsimp only;decide)),_,_,rfl,rfl,_,_,rfl,rfl,(.inl ⟨by ext,by ext⟩),(by show 2<=sizeLine;decide),λp3 H3 n3=>?_⟩;obtain ⟨w,hw,w1,w2⟩:∃ w,atI [V.int 1,V.int (sc*(1+x2 % 3))] (x2 / 3 % 3 / 2)=some (V.int w)/\1<=w/\w<=3*10 ^ 12:=by
   have hk:x2 / 3 % 3 / 2=0\/x2 / 3 % 3 / 2=1:=by ext
   have h1:sc<=sc*(1+x2 % 3):=by have:=Ap (show 1<=1+x2 % 3 by ext) (show 0<=sc by ext);rwa [BU] at this
   rcases hk with e|e<;>rw[e]
   ·exact ⟨_,rfl,by ext,by ext⟩
   ·exact ⟨_,rfl,by ext,by ext⟩
  have hl3:=n3.same _ _ hl2;refine ⟨_,rfl,l,_,_,_,rfl,rfl,SqL.of hl3,at2',_,_,rfl,rfl,⟨by decide,by decide⟩,_,_,rfl,rfl,(by first|decide|(dsimp only;decide)),_,_,rfl,rfl,⟨by decide,by decide⟩,p3,_,_,_,rfl,rfl,SqL.of n3.at_,hw,(by show 0<=sizeLine;decide),λls H4 n4=>?_⟩;have s14:=n2.same.trans (n3.same.trans n4.same);have hl4:=s14 _ _ hl;obtain ⟨ms,ec,ms1,ms5⟩:=qwh hx (n:=x3 % 5) (by ext) (by ext);have fls:H ls=none:=(n1.same.trans (n2.same.trans n3.same)).free n4.fresh;have nl:l≠ls:=qae hl3 n4.fresh;refine ⟨_,rfl,_,rfl,_,rfl,l,_,_,_,rfl,rfl,SqL.of hl4,at3',_,_,rfl,rfl,(by first|decide|(dsimp only;decide)),_,_,rfl,rfl,_,rfl,l,_,rfl,SqL.of hl4,λlz H5 n5=>?_⟩;have nlz:lz≠ls:=(qae n4.at_ n5.fresh).symm;rw[ec] at n5;have s15:=s14.trans n5.same;refine ⟨lz,rfl,⟨_,SqL.of n5.at_⟩,qbk (xs:=ms.map V.int) (λi σ H'=>IvQ H ms xs lz l ls c sc i σ H') ⟨n1.same.trans s15,n5.at_,s15 _ _ hl,_,w,[],[],none,n5.same _ _ n4.at_,.nil,St41.zero m6.1 m6.2 w1 w2,rfl⟩ (λi σ H' _ h=>SqL.of h.2.1) ?_ ?_⟩
  ·rintro i v σ H' hvi ⟨s',hz,hl',age,w,ys,ps,v6,hls,hp,St,rfl⟩
   rw[An] at hvi;obtain ⟨x,hxi,rfl⟩:=Ar.mp hvi;have hi5:i<5:=by have:=(Aj.mp hxi).1;ext
   have hlen:=hp.length;have hSl:=St.len;have hw0:=St.w0;have hwb:w<=10 ^ 16:=by
    have w1:=St.w1;have hc:i=0\/i=1\/i=2\/i=3\/i=4:=by ext
    rcases hc with rfl|rfl|rfl|rfl|rfl<;>ext
   have mA:=mB (x:=x / 8 % 7) (n:=6) (by ext) (by ext) (by ext);have mC:=mB (x:=x / 8 % 40) (n:=39) (by ext) (by ext) (by ext);refine qc1 ⟨_,rfl,.inl ⟨rfl,_,SqL.of hls⟩,_,rfl,_,rfl,(by show 2<=sizeLine;decide),λt1 G1 k1=>?_⟩;have hls1:=k1.same _ _ hls;refine ⟨ls,_,_,rfl,rfl,hls1,qai (by ext),λG2 b2 h2'=>?_⟩;have sG:Same H G2:=b2.same (s'.trans k1.same) fls;have hzG:=b2 _ _ (k1.same _ _ hz) nlz;have hlG:=b2 _ _ (k1.same _ _ hl') nl;have hpG:=Pairs.but (Pairs.snoc (show PairAt G1 (.ref t1) (age,w) from ⟨t1,rfl,k1.at_⟩) (hp.same k1.same)) b2 hls1 qtl;clear b2 hls1 k1 hls hp hz hl' s';refine ⟨_,rfl,_,rfl,_,_,rfl,rfl,⟨by decide,by decide⟩,_,_,rfl,rfl,(by first|decide|(dsimp only;decide)),_,rfl,_,_,rfl,rfl,(.inl ⟨by ext,by ext⟩),_,rfl,_,_,rfl,rfl,⟨by decide,by decide⟩,_,_,rfl,rfl,(by first|decide|(dsimp only;decide)),_,rfl,_,_,rfl,rfl,(.inl ⟨by ext,by ext⟩),_,rfl,_,_,rfl,rfl,⟨by decide,by decide⟩,_,_,rfl,rfl,(by first|decide|(dsimp only;decide)),_,_,rfl,rfl,(by show 4<=sizeLine;decide),λp3 G3 k3=>?_⟩;obtain ⟨dd,hdd,d0,d1⟩:∃ dd,atI [V.int 0,V.int (x / 8 % 7*sc),V.int (x / 8 % 40*sc),V.int (1+x / 8 % 9)] (x % 4)=some (V.int dd)/\0<=dd/\dd<=40*10 ^ 12:=by
    have hk:=mod4' (x)
    rcases hk with e|e|e|e<;>rw[e]
    ·exact ⟨_,rfl,by ext,by ext⟩
    ·exact ⟨_,rfl,by ext,by ext⟩
    ·exact ⟨_,rfl,by ext,by ext⟩
    ·exact ⟨_,rfl,by ext,by ext⟩
   refine ⟨_,rfl,_,_,rfl,rfl,(by first|decide|(dsimp only;decide)),p3,_,_,_,rfl,rfl,SqL.of k3.at_,hdd,_,_,rfl,rfl,_,rfl,(by show 4<=sizeLine;decide),λp4 G4 k4=>?_⟩;obtain ⟨m,hm,mm1,mm5⟩:∃ m,atI [V.int 1,V.int 2,V.int 3,V.int 5] (x / 1000 % 4)=some (V.int m)/\1<=m/\m<=5:=by
    have hk:=mod4' (x / 1000)
    rcases hk with e|e|e|e<;>rw[e]
    ·exact ⟨_,rfl,by ext,by ext⟩
    ·exact ⟨_,rfl,by ext,by ext⟩
    ·exact ⟨_,rfl,by ext,by ext⟩
    ·exact ⟨_,rfl,by ext,by ext⟩
   refine ⟨_,rfl,_,_,rfl,rfl,⟨by decide,by decide⟩,_,_,rfl,rfl,(by first|decide|(dsimp only;decide)),p4,_,_,_,rfl,rfl,SqL.of k4.at_,hm,_,_,rfl,rfl,(.inl ⟨by ext,by ext⟩),?_⟩;have s24:=k3.same.trans k4.same;exact ⟨sG.trans s24,s24 _ _ hzG,s24 _ _ hlG,_,_,_,_,_,s24 _ _ h2',hpG.same s24,St.step d0 d1 mm1 mm5,rfl⟩
  ·rintro σ H' ⟨s',hz,hl',age,w,ys,ps,v6,hls,hp,St,rfl⟩
   rw[Aa] at St;have hlen:=hp.length;have hSl:=St.len;refine ⟨_,rfl,l,_,_,_,rfl,rfl,SqL.of hl',at9',_,_,rfl,rfl,(by first|decide|(dsimp only;decide)),rfl,_,rfl,?_⟩;refine qb3 (λz=>?_) λz=>?_
   ·refine ⟨_,rfl,(by show 2<=sizeLine;decide),λt Ht nt=>?_⟩
    exact q t ls ys ps none Ht (s'.trans nt.same) nt.at_ (nt.same _ _ hls) (hp.same nt.same) (St.dr ms1 ms5 λz p e=>by cases e)
   ·obtain ⟨pl,hpl⟩:∃ pl,ps[ps.length-1]?=some pl:=⟨_,Ab (by ext)⟩
    obtain ⟨v,hv,ap,rfl,hap⟩:=hp.get' hpl;have hat:atI ys (-1)=some (.ref ap):=qek (by rw[hlen];exact hv);have mE:=mB (x:=x10 % 50) (n:=49) (by ext) (by ext) (by ext);refine ⟨_,rfl,_,rfl,_,rfl,ls,_,_,_,rfl,rfl,SqL.of hls,hat,ap,_,_,_,rfl,rfl,SqT.of hap,rfl,_,rfl,l,_,_,_,rfl,rfl,SqL.of hl',at10',_,_,rfl,rfl,(by first|decide|(dsimp only;decide)),_,rfl,_,_,rfl,rfl,(.inl ⟨by ext,by ext⟩),(by show 3<=sizeLine;decide),λp3 G3 k3=>?_⟩;obtain ⟨e,he,e0,e1⟩:∃ e,atI [V.int 0,V.int (x10 % 50*sc),V.int 1] (x9 / 3 % 3)=some (V.int e)/\0<=e/\e<=50*10 ^ 12:=by
     have hk:=mod3' (x9 / 3)
     rcases hk with e|e|e<;>rw[e]
     ·exact ⟨_,rfl,by ext,by ext⟩
     ·exact ⟨_,rfl,by ext,by ext⟩
     ·exact ⟨_,rfl,by ext,by ext⟩
    have hl3':=k3.same _ _ hl';refine ⟨_,rfl,l,_,_,_,rfl,rfl,SqL.of hl3',at9',_,_,rfl,rfl,⟨by decide,by decide⟩,_,_,rfl,rfl,(by first|decide|(dsimp only;decide)),p3,_,_,_,rfl,rfl,SqL.of k3.at_,he,_,_,rfl,rfl,(by show 2<=sizeLine;decide),λt Ht nt=>?_⟩;have s2:=k3.same.trans nt.same;have hb1:=St.each _ pl hpl;have ha1:=St.a1;exact q t ls ys ps (some (pl.1+e)) Ht (s'.trans s2) nt.at_ (s2 _ _ hls) (hp.same s2) (St.dr ms1 ms5 λz p ez hp'=>by cases ez;rw[hpl] at hp';cases hp';ext)
theorem qzz {K:List V->Hp->Prop} (h:K [] H):qj0 σ H K:=h
theorem qxw {a b c f:Int} {p:Addr} (hp:H p=none):New H (upd H p (.tup (qgw [V.int a,.int b,.int c,.int d,.int e,.int f] (some 2) none))) p (.tup [V.int c,.int d,.int e,.int f]):=qa7 hp
theorem qqe (h:HT.sIx 6 0 (some 2)=0/\HT.sIx 6 6 none=6):False:=by
 have z1:HT.sIx 6 0 (some 2)=0:=h.1
 revert z1;decide
abbrev IvP (s':Abs) (H5:Hp) (ro l2 lk:Addr) (a b:Option Int) (i:Nat) (σ:St) (H6:Hp):Prop:=But lk H5 H6/\∃ (ks:List V) (v5 v6 v7:Option V),H6 lk=some (.lst ks)/\Tups H6 ks (((qa4 s').filter (kZ a b)).map (List.drop 2) ++ (((qbg s').take i).filter (kY a b)).map yH)/\σ=[some (.ref ro),some (gv a),some (gv b),some (.ref l2),some (.ref lk),v5,v6,v7,none]
inductive qkt (C R:Addr) (vs:List V) (H:Hp) (Q:VK) (E_:XK):Prop
 | mk:∀ (ro:Addr) (c:qa2) (s:Abs) (LY LZ:List (List Int)) (n:Nat) (a b:Option Int),vs=[.ref ro,gv a,gv b]->RR C R H ro c s LY LZ->LY.length<64->LZ.length<64->AOk n s->n<=1000->¬ qzo c.ge a->(∀ t l1 l2 xs ys H',Same H H'->H l1=none->H l2=none->l1≠l2->H' t=some (.tup [.ref l1,.ref l2])->H' l1=some (.lst xs)->Tups H' xs (qmx a b (qbg s) (qa4 s))->H' l2=some (.lst ys)->Parts H' ys (qix a b (qa4 s))->Q (.ref t) H')->qkt C R vs H Q E_
include T in
theorem qwi:qax P w K mg base 4 "pieces" ["roll", "a", "b"] (qkt C_Roll C_Rule):=by
 obtain ⟨f,fd,F,hm⟩:=T.f_pieces;have nd:=sc_pieces.nd;refine F.def_ hm (F.ok sc_pieces (λvs H Q E h=>?_) (λcdv A outer s H vs Q E hr h=>?_)) (F.binds λ_ _ _ _ _ _ us hl=>by obtain ⟨_,_,_,rfl⟩:=L2.lq3 hl;rfl)
 ·obtain ⟨ro,c,s',LY,LZ,n,a,b,rfl,_⟩:=h;rfl
 ·obtain ⟨ro,c,s',LY,LZ,n,a,b,rfl,R0,ly,lz,ao,hn,nb,q⟩:=h
  obtain ⟨dx,hob⟩:=R0.obj;obtain ⟨Y0,Z0,A0,B0⟩:=id R0;have ysh:=ao.ysh hn;have zsh:=ao.zsh;exists _,(jB6 (qaz (jF (qgf T) hr (jA2 (jI (qcm (pv 0) T.cl_Roll (qdg T) (hr.mono (by decide))) (qeb qck qaa)) (pv 1)))) (jS 3 nd (qcm (pv 0) T.cl_Roll (qhj T) (hr.mono (by decide)))) (qce (i:=4) (vars:=[ "row" ]) (frees:=[ "a", "b" ]) (fv:=[1,2]) nd rfl (Or.inl rfl) rfl (jL2 rfl) ⟨⟨rfl,.inl rfl,rfl,.inl rfl⟩,⟨⟨rfl,.inl rfl,rfl,.inl rfl⟩,trivial⟩⟩ (qap (pv 3)) (qbx (by decide)) (λ_ _ _ _=>(jM 0 [ "row", "a", "b" ])) (λ_ _ _ _=>(qfm (jC qbh (jF (qdh T) hr (jA4 (pv 1) (pv 2) (qc9 (show IxR _ (qk3 K) from qcl) (pv 0) qaa (λ_ _=>rfl)) (qc9 (show IxR _ (qk3 K) from qcl) (pv 0) qaa (λ_ _=>rfl)))) (qc9 (show IxR _ (qk3 K) from qcl) (pv 0) qaa (λ_ _=>rfl))))) (λ_ _ _ _=>(qca (show SlR _ (qDr K) from qsh) (pv 0) (qbw qaa) qgk))) (qbv AS rfl (qap (qcm (pv 0) T.cl_Roll (qhi T) (hr.mono (by decide)))) (jG3 (jN 5 nd) (jN 6 nd) (jN 7 nd)) (qac (qau (jC qbh (jF (qdh T) hr (jA4 (pv 1) (pv 2) (pv 5) qaa)) qaa) (qac (qaz (qe1 AO A6 AZ qbb (pv 4) (jA1 (jF (qnh T) hr (jA1 (qav (jA1 (qam (jA2 (pv 6) (pv 7))))))))))) qak))) (qce (i:=8) (vars:=[ "row" ]) (frees:=[ "a", "b" ]) (fv:=[1,2]) nd rfl (Or.inl rfl) rfl (jL2 rfl) ⟨⟨rfl,.inl rfl,rfl,.inl rfl⟩,⟨⟨rfl,.inl rfl,rfl,.inl rfl⟩,trivial⟩⟩ (qap (pv 3)) (qbx (by decide)) (λ_ _ _ _=>(jM 0 [ "row", "a", "b" ])) (λ_ _ _ _=>(qfm (qdl (jF (qwg T) hr (jA4 (pv 1) (pv 2) (qc9 (show IxR _ (qk3 K) from qcl) (pv 0) qaa (λ_ _=>rfl)) (qc9 (show IxR _ (qk3 K) from qcl) (pv 0) qaa (λ_ _=>rfl))))))) (λ_ _ _ _=>(qam (jA3 (qc9 (show IxR _ (qk3 K) from qcl) (pv 0) qaa (λ_ _=>rfl)) (qc9 (show IxR _ (qk3 K) from qcl) (pv 0) qaa (λ_ _=>rfl)) (qca (show SlR _ (qDr K) from qsh) (pv 0) (qbw qaa) qgk))))) (qah (qam (jA2 (pv 4) (pv 8)))))
  walk_at "r"
  refine ⟨ro,dx,_,rfl,hob,qfz _ _ _ _ _,ro,_,rfl,A0,λle H1 n1=>?_⟩;have hat:atI (c.es.map V.int ++ [gv c.ge]) (-1)=some (gv c.ge):=qek (by simp);have hle:H1 le=some (.lst (c.es.map V.int ++ [gv c.ge])):=n1.at_;exists _,rfl,le,_,_,_,rfl,rfl,SqL.of hle,hat,_,rfl;exists c.ge,a,rfl,nb;clear hat hle;have s01:=n1.same;clear n1
  walk_at "r"
  refine ⟨ro,dx,_,rfl,s01 _ _ hob,qmq _ _ _ _ _,qzz ?_⟩;refine (R0.same s01).heaps lz λl2 xs2 H2 s2 f2 h2 t2 ok2=>?_
  have hzl:=t2.length;obtain ⟨o1,o2⟩:=ok2;have s02:=s01.trans s2;have fl2:H l2=none:=s01.free f2;clear s01 s2 f2;refine ⟨_,rfl,l2,rfl,⟨_,SqL.of h2⟩,qbm (xs:=xs2) (λi ys H3=>Same H2 H3/\Tups H3 ys ((((qa4 s').take i).filter (kZ a b)).map (List.drop 2))) (AB (qai (by ext))) ⟨Same.refl _,.nil⟩ (λi ys H3 h3=>⟨SqL.of (h3.1 _ _ h2),by rw[h3.2.length,Aa];exact qt3 _ _ _⟩) ?_ ?_⟩
  ·rintro i x ys H3 hi ⟨s3,ty⟩
   obtain ⟨r,hri,p,rfl,hp⟩:=t2.get hi;obtain ⟨st,w,m,t,lo,hi',rfl,hw⟩:=zsh r (Am hri);have hp3:H3 p=some (.tup [.int st,.int w,.int m,.int t,.int lo,.int hi']):=s3 _ _ hp;refine qc1 ?_
   walk_at "r"
   exists a,b,st,w,rfl
   walk_at "r"
   refine qb3 (λz=>?_) λz=>?_
   ·have z2:kZ a b [st,w,m,t,lo,hi']=true:=by unfold kZ;simpa using z
    walk_at "r"
    refine ⟨λy=>qqe y,λp5 hp5=>?_⟩;have n5:=qxw (a:=st) (b:=w) (c:=m) (d:=t) (e:=lo) (f:=hi') hp5;exists s3.trans n5.same;rw[qEl hri z2,Ao];exact Tups.snoc ⟨p5,rfl,n5.at_⟩ (ty.same n5.same)
   ·have z2:¬ kZ a b [st,w,m,t,lo,hi']=true:=by unfold kZ;simpa using z
    rw[qEm hri z2];exact ⟨s3,ty⟩
  rintro ys H3 lk H4 ⟨s3,ty⟩ n4;rw[hzl,Aw] at ty;have s04:=s02.trans (s3.trans n4.same);have flk:H lk=none:=(s02.trans s3).free n4.fresh;have h24:=n4.same _ _ (s3 _ _ h2);have t24:=t2.same (s3.trans n4.same);have hk4:=n4.at_;have ty4:=ty.same n4.same;have nk2:l2≠lk:=qae (s3 _ _ h2) n4.fresh;clear s3 n4 ty h2 t2 s02
  walk_at "r"
  refine ⟨ro,dx,_,rfl,s04 _ _ hob,qmp _ _ _ _ _,qzz ?_⟩;refine (R0.same s04).young ly λl5 xs5 H5 s5 f5 h5 t5 ok5=>?_
  have hyl:=t5.length;obtain ⟨o3,o4⟩:=ok5;have nk5:l5≠lk:=(qae hk4 f5).symm;have hk5:=s5 _ _ hk4;have h25:=s5 _ _ h24;have t25:=t24.same s5;have ty5:=ty4.same s5;have s05:=s04.trans s5;clear s5 f5 hk4 h24 t24 ty4 s04;refine ⟨l5,rfl,⟨_,SqL.of h5⟩,qbk (xs:=xs5) (λi σ H6=>IvP s' H5 ro l2 lk a b i σ H6) ⟨λ_ _ e _=>e,ys,none,none,none,hk5,by simpa using ty5,rfl⟩ (λi σ H6 _ h6=>SqL.of (h6.1 _ _ h5 nk5)) ?_ ?_⟩
  ·rintro i x σ H6 hi ⟨b6,ks,v5,v6,v7,hk6,tk6,rfl⟩
   obtain ⟨r,hri,p,rfl,hp⟩:=t5.get hi;obtain ⟨t,v,m,rfl,rb⟩:=ysh r (Am hri);have hp6:H6 p=some (.tup [.int t,.int v,.int m]):=b6 _ _ hp (qa0 hp hk5 (by intro z;cases z));have lk6:=tk6.length;have lfl:=qt3 (qbg s') (kY a b) i;have lfz:=Bx (kZ a b) (qa4 s');have li:i<xs5.length:=(Aj.mp hi).1;rw[Ag,Aa,Aa] at lk6;exists p,_,rfl,SqT.of hp6,rfl,_,_,rfl,_,_,rfl,_,_,rfl,rfl
   walk_at "r"
   exists a,b,t,1,rfl
   walk_at "r"
   refine qb3 (λz=>?_) λz=>?_
   ·have z2:kY a b [t,v,m]=true:=by unfold kY;simpa using z
    walk_at "r";intro p7 H7 n7
    walk_at "r";intro p8 H8 n8
    refine ⟨p8,_,[(v,m)],rfl,n8.at_,.cons ⟨p7,rfl,n8.same _ _ n7.at_⟩ .nil,(λq hq=>by rw[AI.mp hq];exact rb),by simp,(λz=>by cases z),λ_ h9 a1 b1 lo hi' H9 ho n9=>?_⟩;obtain ⟨e1,e2,e3,e4⟩:=qlh ho;rw[e1,e2,e3,e4] at n9;have s69:=n7.same.trans (n8.same.trans n9.same);have hk9:=s69 _ _ hk6;refine ⟨lk,_,_,rfl,rfl,hk9,(by rw[Bv];ext),λH10 b10 hk10=>?_⟩;refine ⟨λx o e hx=>b10 _ _ (s69 _ _ (b6 _ _ e hx)) hx,_,_,_,_,hk10,?_,rfl⟩;rw[qEl hri z2,Ao,<- B6];have ts:TupS H9 H10:=λx xs e=>b10 _ _ e (qa0 e hk9 (by intro z;cases z))
    exact Tups.snoc ⟨h9,rfl,ts _ _ (show H9 h9=some (.tup ((yH [t,v,m]).map V.int)) from n9.at_)⟩ ((tk6.same s69).tupS ts)
   ·have z2:¬ kY a b [t,v,m]=true:=by unfold kY;simpa using z
    exact ⟨b6,ks,_,_,_,hk6,by rw[qEm hri z2];exact tk6,rfl⟩
  rintro σ H6 ⟨b6,ks,v5,v6,v7,hk6,tk6,rfl⟩;rw[hyl,Aw] at tk6;have h26:=b6 _ _ h25 nk2;have t26:Tups H6 xs2 (qa4 s'):=t25.tupS λx xs e=>b6 _ _ e (qa0 e hk5 (by intro z;cases z))
  have s06:Same H H6:=b6.same s05 flk;clear b6 t25 h25 ty5 hk5 s05 h5 t5;refine ⟨_,rfl,l2,rfl,⟨_,SqL.of h26⟩,qbm (xs:=xs2) (λi ys H3=>Same H6 H3/\Parts H3 ys (((qa4 s').take i).filter (cZ a b))) (AB (qai (by ext))) ⟨Same.refl _,.nil⟩ (λi ys H3 h3=>⟨SqL.of (h3.1 _ _ h26),by rw[h3.2.length];exact qt3 _ _ _⟩) ?_ ?_⟩
  ·rintro i x ys H7 hi ⟨s7,ty⟩
   obtain ⟨r,hri,p,rfl,hp⟩:=t26.get hi;obtain ⟨st,w,m,t,lo,hi',rfl,hw⟩:=zsh r (Am hri);have hp7:H7 p=some (.tup [.int st,.int w,.int m,.int t,.int lo,.int hi']):=s7 _ _ hp;refine qc1 ?_
   walk_at "r"
   exists a,b,st,w,rfl;have ec:(decide (0<qgj a b st w) && decide (qgj a b st w<w))=cZ a b [st,w,m,t,lo,hi']:=rfl;rw[ec];refine ⟨_,rfl,qb3 (λz=>?_) λz=>?_⟩
   ·walk_at "r"
    refine ⟨λy=>qqe y,λp8 hp8=>?_⟩;have n8:=qxw (a:=st) (b:=w) (c:=m) (d:=t) (e:=lo) (f:=hi') hp8
    generalize upd H7 p8 (.tup (qgw [V.int st,.int w,.int m,.int t,.int lo,.int hi'] (some 2) none))=H8 at n8 ⊢
    walk_at "r";intro p9 H9 n9
    have s79:=n8.same.trans n9.same;exists s7.trans s79;rw[qEl hri z];exact Parts.snoc (r:=[st,w,m,t,lo,hi']) ⟨p9,p8,rfl,n9.at_,n9.same _ _ n8.at_⟩ (ty.same s79)
   ·rw[qEm hri z]
    exact ⟨s7,ty⟩
  rintro zs H7 lp H8 ⟨s7,ty⟩ n8;rw[hzl,Aw] at ty
  walk_at "r";intro tt H9 n9
  have s69:=s7.trans (n8.same.trans n9.same);have hk9:=s69 _ _ hk6;exact q tt lk lp ks zs H9 (s06.trans s69) flk ((s06.trans s7).free n8.fresh) (qae (s7 _ _ hk6) n8.fresh) n9.at_ hk9 (tk6.same s69) (n9.same _ _ n8.at_) (ty.same (n8.same.trans n9.same))
include T in
theorem qwj:qax P w K mg base 1 "widest" ["heap"] qmo:=by
 obtain ⟨f,fd,F,hm⟩:=T.f_widest;have nd:=sc_widest.nd;refine F.def_ hm (F.ok sc_widest (λvs H Q E h=>?_) (λcdv A outer s H vs Q E hr h=>?_)) (F.binds λ_ _ _ _ _ _ us hl=>by obtain ⟨_,rfl⟩:=L2.lq1 hl;rfl)
 ·obtain ⟨a,m,t,lo,hi,rfl,_⟩:=h;rfl
 ·obtain ⟨a,m,t,lo,hi,rfl,ha,cb,hb,q⟩:=h
  have h2:=cb.le;unfold HBd at hb;exists _,(jB9 (jS 1 nd (jT (pv 0) qaa)) (jS 2 nd (jT (pv 0) qaa)) (jS 3 nd (jT (pv 0) qaa)) (qau (jC qbh (pv 2) (pv 3)) (qac (qah (qav (jA1 (qam (jA2 (pv 2) (pv 1))))))) qak) (jS 4 nd (qad qb6 (jT (pv 0) qaa) (qad qbp (pv 1) (pv 2)))) (jS 5 nd (qad qdb (pv 4) (qad qb6 (pv 3) (pv 2)))) (jS 6 nd (qad qar (pv 4) (qad qb6 (pv 3) (pv 2)))) (qau (jC qbh (pv 6) qaa) (qac (qah (qav (jA2 (qam (jA2 (pv 2) (qad qb6 (pv 1) (pv 5)))) (qam (jA2 (pv 3) (pv 5))))))) qak) (qah (qav (jA3 (qam (jA2 (pv 2) (qad qb6 (qad qb6 (pv 1) (pv 5)) qaa))) (qam (jA2 (qad qa3 (pv 2) (pv 6)) qaa)) (qam (jA2 (pv 3) (pv 5)))))))
  walk_at "r"
  refine qb3 (λz=>?_) λz=>?_
  ·have z':lo=hi:=by simpa using z
   walk_at "r";intro p1 H1 n1
   walk_at "r";intro l H2 n2
   refine q l _ H1 H2 n1.same n2 ?_;have e:qlr m t lo hi=[(lo,m)]:=by unfold qlr;rw[Au z']
   rw[e];exact .cons ⟨p1,rfl,n2.same _ _ n1.at_⟩ .nil
  ·have z':¬ lo=hi:=by simpa using z
   walk_at "r"
   refine qb3 (λy=>?_) λy=>?_
   ·have y':(t-m*lo) % (hi-lo)=0:=by simpa using y
    walk_at "r";intro p1 H1 n1
    walk_at "r";intro p2 H2 n2
    walk_at "r";intro l H3 n3
    refine q l _ H2 H3 (n1.same.trans n2.same) n3 ?_;have e:qlr m t lo hi=[(lo,m-(t-m*lo) / (hi-lo)),(hi,(t-m*lo) / (hi-lo))]:=by unfold qlr;rw[Al z',Au y']
    rw[e];exact .cons ⟨p1,rfl,n3.same _ _ (n2.same _ _ n1.at_)⟩ (.cons ⟨p2,rfl,n3.same _ _ n2.at_⟩ .nil)
   ·have y':¬ (t-m*lo) % (hi-lo)=0:=by simpa using y
    walk_at "r";intro p1 H1 n1
    walk_at "r";intro p2 H2 n2
    walk_at "r";intro p3 H3 n3
    walk_at "r";intro l H4 n4
    refine q l _ H3 H4 (n1.same.trans (n2.same.trans n3.same)) n4 ?_;have e:qlr m t lo hi=[(lo,m-(t-m*lo) / (hi-lo)-1),(lo+(t-m*lo) % (hi-lo),1),(hi,(t-m*lo) / (hi-lo))]:=by unfold qlr;rw[Al z',Al y']
    rw[e];exact .cons ⟨p1,rfl,n4.same _ _ (n3.same _ _ (n2.same _ _ n1.at_))⟩ (.cons ⟨p2,rfl,n4.same _ _ (n3.same _ _ n2.at_)⟩ (.cons ⟨p3,rfl,n4.same _ _ n3.at_⟩ .nil))
theorem qhz {K:Frag} (f:HP4->Int) (hl:H l=some (.lst xs)) (hp:Tups H xs (hs.map j4)) (hz:hs.length<=200)
  (hs':∀ p h,H p=some (.tup [.int h.1,.int h.2.1,.int h.2.2.1,.int h.2.2.2])->∀ Q':VK,Q' (.int (f h)) H->te (σ.set 0 (some (.ref p))) H Q')
  (hd:∀ a H',New H H' a (.lst ((hs.map f).map V.int))->Q (.ref a) H'):qeg (Itl K l) Q (qdm 0) qDe te σ H:=by
 have hlen:xs.length=hs.length:=by rw[hp.length,Aa]
 refine qbm (xs:=xs) (λi ys H2=>H2=H/\ys=((hs.take i).map f).map V.int) (AB (qai (by ext))) ⟨rfl,rfl⟩ (λi ys H2 h2=>⟨SqL.of (by rw[h2.1];exact hl),by rw[h2.2];simp;ext⟩) ?_ ?_
 ·rintro i x ys H2 hi ⟨rfl,rfl⟩
  obtain ⟨r,hri,a,rfl,ha⟩:=hp.get hi;rw[An] at hri;obtain ⟨h,hh,rfl⟩:=Ar.mp hri;refine qc1 (ql6 (qdk (hs' a h ha _ ⟨rfl,?_⟩)));rw[qbn hs i h hh,Ao,Ao];rfl
 ·rintro ys H2 a H' ⟨rfl,rfl⟩ n
  rw[hlen,Aw] at n;exact hd a H' n
include T in
theorem qgg:qax P w K mg base 1 "greatest_divisor" ["one", "other"] qCc:=by
 obtain ⟨f,fd,F,hm⟩:=T.f_greatest_divisor;have nd:=sc_greatest_divisor.nd;refine F.def_ hm (F.ok sc_greatest_divisor (λvs H Q E h=>?_) (λcdv A outer s H vs Q E hr h=>?_)) (F.binds λ_ _ _ _ _ _ us hl=>by obtain ⟨_,_,rfl⟩:=L2.lq2 hl;rfl)
 ·obtain ⟨m,n,rfl,_⟩:=h;rfl
 ·obtain ⟨m,n,rfl,q⟩:=h
  exists _,(jB2 (qo6 AS (jC qlx (pv 1) qaa) (jB3 (jS 2 nd (qad qar (pv 0) (pv 1))) (jS 0 nd (pv 1)) (jS 1 nd (pv 2)))) (qah (pv 0)));refine qo7 (λσ H'=>H'=H/\∃ (a b:Nat) (v:Option V),Nat.gcd a b=Nat.gcd m n/\σ=[some (.int a),some (.int b),v]) (λσ _=>match σ with|_ :: some (.int b) :: _=>b.toNat|_=>0) ⟨rfl,m,n,none,rfl,rfl⟩ ?_ ?_
  ·rintro σ H' ⟨rfl,a,b,v,e,rfl⟩
   walk_at "r"
   refine qb3 (λz=>?_) λz=>?_
   ·have hb:0<b:=by simpa using z
    have em:(a:Int) % (b:Int)=((a % b:Nat):Int):=(Int.natCast_emod a b).symm;refine ⟨_,rfl,_,rfl,_,_,rfl,rfl,(by show (0:Int)<(b:Int);ext),?_⟩;exists _,rfl;exists _,rfl;refine ⟨⟨rfl,b,a % b,_,by rw[<- e,DY a b,Nat.gcd_rec b a,DY],by show _=_;rw[<- em];rfl⟩,?_⟩
    show ((a:Int) % (b:Int)).toNat<(b:Int).toNat
    rw[em];have:=Nat.mod_lt a hb;ext
   ·have hb:b=0:=by
     have:¬ 0<b:=by simpa using z
     ext
    subst hb;rw[Nat.gcd_zero_right] at e;exists _,rfl;rw[e];exact q
  ·exact λσ H Q Q' hq ⟨v,e,i,j,e1,e2,b,e3,h⟩=>⟨v,e,i,j,e1,e2,b,e3,hq _ _ h⟩
include T in
theorem qjv:qax P w K mg base 2 "lowest_terms" ["top", "bottom"] qCd:=by
 obtain ⟨f,fd,F,hm⟩:=T.f_lowest_terms;have nd:=sc_lowest_terms.nd;refine F.def_ hm (F.ok sc_lowest_terms (λvs H Q E h=>?_) (λcdv A outer s H vs Q E hr h=>?_)) (F.binds λ_ _ _ _ _ _ us hl=>by obtain ⟨_,_,rfl⟩:=L2.lq2 hl;rfl)
 ·obtain ⟨t,n,rfl,_⟩:=h;rfl
 ·obtain ⟨t,n,rfl,h1,h2,q⟩:=h
  obtain ⟨lo,g1,g2⟩:=qCb (t:=t) h1;exists _,(jB2 (jS 2 nd (jF (qgg T) hr (jA2 (qag qo8 rfl T.b_abs qw7 (jA1 (pv 0))) (pv 1)))) (qah (qam (jA2 (qad qdb (pv 0) (pv 2)) (qad qdb (pv 1) (pv 2))))));have e1:(if t<0 then -t else t)=(t.natAbs:Int):=by split<;>ext
  have e2:n=(n.natAbs:Int):=by ext
  refine ⟨_,rfl,_,rfl,_,rfl,t.natAbs,n.natAbs,(by rw[e1,<- e2];rfl),?_⟩
  generalize (Nat.gcd t.natAbs n.natAbs:Int)=g at lo g1 g2 ⊢
  refine ⟨_,rfl,_,rfl,_,_,rfl,rfl,⟨by show 0<g;ext,by show g<_;ext⟩,_,rfl,_,rfl,_,_,rfl,rfl,⟨by show 0<g;ext,by show g<_;ext⟩,by show 2<=sizeLine;decide,λp H1 n1=>?_⟩;exact q p _ _ H1 n1 lo
include T in
theorem qjl:qax P w K mg base 1 "many_of" ["heaps"] qmy:=by
 obtain ⟨f,fd,F,hm⟩:=T.f_many_of;have nd:=sc_many_of.nd;refine F.def_ hm (F.ok sc_many_of (λvs H Q E h=>?_) (λcdv A outer s H vs Q E hr h=>?_)) (F.binds λ_ _ _ _ _ _ us hl=>by obtain ⟨_,rfl⟩:=L2.lq1 hl;rfl)
 ·obtain ⟨l,xs,hs,rfl,_⟩:=h;rfl
 ·obtain ⟨l,xs,hs,rfl,hl,hp,hn,q⟩:=h
  exists _,(qac (qah (qag (qcq rfl) rfl T.b_sum qe3 (jA1 (qcn (vars:=[ "heap" ]) (frees:=[]) (fv:=[]) rfl (jL0 rfl) trivial (qap (pv 0)) (qbx (by decide)) (λ_ _ _ _=>(jM 0 [ "heap" ])) (λ_ _ _ _=>qat) (λ_ _ _ _=>(qc9 (show IxR _ (qk3 K) from qcl) (pv 0) qaa (λ_ _=>rfl))))))));exact ⟨_,rfl,l,rfl,⟨_,SqL.of hl⟩,qhz (λh=>h.1) hl hp hn (λp h e Q' q=>⟨_,rfl,p,_,_,_,rfl,rfl,SqT.of e,rfl,q⟩) λa H1 n1=>⟨a,_,rfl,SqL.of n1.at_,q H1 n1.same⟩⟩
include T in
theorem qku:qax P w K mg base 1 "total_of" ["heaps"] qkf:=by
 obtain ⟨f,fd,F,hm⟩:=T.f_total_of;have nd:=sc_total_of.nd;refine F.def_ hm (F.ok sc_total_of (λvs H Q E h=>?_) (λcdv A outer s H vs Q E hr h=>?_)) (F.binds λ_ _ _ _ _ _ us hl=>by obtain ⟨_,rfl⟩:=L2.lq1 hl;rfl)
 ·obtain ⟨l,xs,hs,rfl,_⟩:=h;rfl
 ·obtain ⟨l,xs,hs,rfl,hl,hp,hn,q⟩:=h
  exists _,(qac (qah (qag (qcq rfl) rfl T.b_sum qe3 (jA1 (qcn (vars:=[ "heap" ]) (frees:=[]) (fv:=[]) rfl (jL0 rfl) trivial (qap (pv 0)) (qbx (by decide)) (λ_ _ _ _=>(jM 0 [ "heap" ])) (λ_ _ _ _=>qat) (λ_ _ _ _=>(qc9 (show IxR _ (qk3 K) from qcl) (pv 0) qaa (λ_ _=>rfl))))))));exact ⟨_,rfl,l,rfl,⟨_,SqL.of hl⟩,qhz (λh=>h.2.1) hl hp hn (λp h e Q' q=>⟨_,rfl,p,_,_,_,rfl,rfl,SqT.of e,rfl,q⟩) λa H1 n1=>⟨a,_,rfl,SqL.of n1.at_,q H1 n1.same⟩⟩
include T in
theorem qdi:qax P w K mg base 1 "least_of_all" ["heaps"] qkg:=by
 obtain ⟨f,fd,F,hm⟩:=T.f_least_of_all;have nd:=sc_least_of_all.nd;refine F.def_ hm (F.ok sc_least_of_all (λvs H Q E h=>?_) (λcdv A outer s H vs Q E hr h=>?_)) (F.binds λ_ _ _ _ _ _ us hl=>by obtain ⟨_,rfl⟩:=L2.lq1 hl;rfl)
 ·obtain ⟨l,xs,hs,rfl,_⟩:=h;rfl
 ·obtain ⟨l,xs,hs,rfl,hl,hp,hn,hne,q⟩:=h
  exists _,(qac (qah (qag (qei rfl) rfl T.b_min qgy (jA1 (qcn (vars:=[ "heap" ]) (frees:=[]) (fv:=[]) rfl (jL0 rfl) trivial (qap (pv 0)) (qbx (by decide)) (λ_ _ _ _=>(jM 0 [ "heap" ])) (λ_ _ _ _=>qat) (λ_ _ _ _=>(qc9 (show IxR _ (qk3 K) from qcl) (pv 0) qaa (λ_ _=>rfl))))))));exact ⟨_,rfl,l,rfl,⟨_,SqL.of hl⟩,qhz (λh=>h.2.2.1) hl hp hn (λp h e Q' q=>⟨_,rfl,p,_,_,_,rfl,rfl,SqT.of e,rfl,q⟩) λa H1 n1=>⟨a,_,rfl,SqL.of n1.at_,by rw[Aa];exact Bp.mpr hne,λm h1 h2=>q m H1 n1.same h1 h2⟩⟩
include T in
theorem qcp:qax P w K mg base 1 "greatest_of_all" ["heaps"] qkh:=by
 obtain ⟨f,fd,F,hm⟩:=T.f_greatest_of_all;have nd:=sc_greatest_of_all.nd;refine F.def_ hm (F.ok sc_greatest_of_all (λvs H Q E h=>?_) (λcdv A outer s H vs Q E hr h=>?_)) (F.binds λ_ _ _ _ _ _ us hl=>by obtain ⟨_,rfl⟩:=L2.lq1 hl;rfl)
 ·obtain ⟨l,xs,hs,rfl,_⟩:=h;rfl
 ·obtain ⟨l,xs,hs,rfl,hl,hp,hn,hne,q⟩:=h
  exists _,(qac (qah (qag (qdr rfl) rfl T.b_max qd8 (jA1 (qcn (vars:=[ "heap" ]) (frees:=[]) (fv:=[]) rfl (jL0 rfl) trivial (qap (pv 0)) (qbx (by decide)) (λ_ _ _ _=>(jM 0 [ "heap" ])) (λ_ _ _ _=>qat) (λ_ _ _ _=>(qc9 (show IxR _ (qk3 K) from qcl) (pv 0) qaa (λ_ _=>rfl))))))));exact ⟨_,rfl,l,rfl,⟨_,SqL.of hl⟩,qhz (λh=>h.2.2.2) hl hp hn (λp h e Q' q=>⟨_,rfl,p,_,_,_,rfl,rfl,SqT.of e,rfl,q⟩) λa H1 n1=>⟨a,_,rfl,SqL.of n1.at_,by rw[Aa];exact Bp.mpr hne,λm h1 h2=>q m H1 n1.same h1 h2⟩⟩
theorem qGe {a b c d e:Addr} {m:Str} {sp:Nat->Sp} {dvs:List V} {E:XK} {ta:TE} {t:TA} (k:Nat) (hk:k<5) (h:qh8 (qFe a b c d e k) m (sp k) dvs E ta t σ H Q) :
  qBs (qh8 a m (sp 0) dvs E ta t) (qBs (qh8 b m (sp 1) dvs E ta t) (qBs (qh8 c m (sp 2) dvs E ta t) (qBs (qh8 d m (sp 3) dvs E ta t) (qh8 e m (sp 4) dvs E ta t)))) σ H Q:=
 match k,hk,h with
 | 0,_,h=>.inl h
 | 1,_,h=>.inr (.inl h)
 | 2,_,h=>.inr (.inr (.inl h))
 | 3,_,h=>.inr (.inr (.inr (.inl h)))
 | 4,_,h=>.inr (.inr (.inr (.inr h)))
def qor (C:Nat->Addr):Sp:=λvs H Q _=>∃ k:Nat,vs=[.str (wd k)]/\k<5/\∀ x dx H',Same H H'->H' x=some (.ins (C k) dx [])->Q (.ref x) H'
include T in
theorem quk:qax P w K mg base 1 "measure" ["word"] (qor (qFe C_HowMany C_Total C_Least C_Greatest C_Mean)):=by
 obtain ⟨f,fd,F,hm⟩:=T.f_measure;have nd:=sc_measure.nd;refine F.def_ hm (F.ok sc_measure (λvs H Q E h=>?_) (λcdv A outer s H vs Q E hr h=>?_)) (F.binds λ_ _ _ _ _ _ us hl=>by obtain ⟨_,rfl⟩:=L2.lq1 hl;rfl)
 ·obtain ⟨k,rfl,_⟩:=h;rfl
 ·obtain ⟨k,rfl,hk,q⟩:=h
  exists _,(jB6 (qau (jC qbh (pv 0) qc0) (qac (qah (qii T.mk_HowMany rfl T.mg_HowMany))) qak) (qau (jC qbh (pv 0) qc0) (qac (qah (qii T.mk_Total rfl T.mg_Total))) qak) (qau (jC qbh (pv 0) qc0) (qac (qah (qii T.mk_Least rfl T.mg_Least))) qak) (qau (jC qbh (pv 0) qc0) (qac (qah (qii T.mk_Greatest rfl T.mg_Greatest))) qak) (qau (jC qbh (pv 0) qc0) (qac (qah (qii T.mk_Mean rfl T.mg_Mean))) qak) qbt)
  match k,hk,q with
  | 0,_,q=>exact ⟨_,rfl,rfl,_,rfl,qdk λx dx H1 s1 f1 h1=>q x dx H1 s1 h1⟩
  | 1,_,q=>exact ⟨_,rfl,rfl,_,rfl,qd7 ⟨_,rfl,rfl,_,rfl,qdk λx dx H1 s1 f1 h1=>q x dx H1 s1 h1⟩⟩
  | 2,_,q=>exact ⟨_,rfl,rfl,_,rfl,qd7 ⟨_,rfl,rfl,_,rfl,qd7 ⟨_,rfl,rfl,_,rfl,qdk λx dx H1 s1 f1 h1=>q x dx H1 s1 h1⟩⟩⟩
  | 3,_,q=>exact ⟨_,rfl,rfl,_,rfl,qd7 ⟨_,rfl,rfl,_,rfl,qd7 ⟨_,rfl,rfl,_,rfl,qd7 ⟨_,rfl,rfl,_,rfl,qdk λx dx H1 s1 f1 h1=>q x dx H1 s1 h1⟩⟩⟩⟩
  | 4,_,q=>exact ⟨_,rfl,rfl,_,rfl,qd7 ⟨_,rfl,rfl,_,rfl,qd7 ⟨_,rfl,rfl,_,rfl,qd7 ⟨_,rfl,rfl,_,rfl,qd7 ⟨_,rfl,rfl,_,rfl,qdk λx dx H1 s1 f1 h1=>q x dx H1 s1 h1⟩⟩⟩⟩⟩
theorem qCp {C:TT} (c:Bool) (hC:∀ Q:Bool->Hp->Prop,Q c H->C σ H Q) (h1:c=true->F D σ H) (h2:¬ c=true->D.nx σ H):qwv C F qlv D σ H:=hC _ (qb3 h1 h2)
include T in
theorem qgh:qax P w K mg base 2 "widest_runs" ["parts"] qp1:=by
 obtain ⟨f,fd,F,hm⟩:=T.f_widest_runs;have nd:=sc_widest_runs.nd;refine F.def_ hm (F.ok sc_widest_runs (λvs H Q E h=>?_) (λcdv A outer s H vs Q E hr h=>?_)) (F.binds λ_ _ _ _ _ _ us hl=>by obtain ⟨_,rfl⟩:=L2.lq1 hl;rfl)
 ·obtain ⟨l,xs,ps,rfl,_⟩:=h;rfl
 ·obtain ⟨l,xs,ps,rfl,hl,hp,ok,q⟩:=h
  obtain ⟨ok1,ok2,ok3⟩:=ok;have hxl:xs.length=ps.length:=by rw[hp.length,Aa]
  exists _,(jB3 (jS 1 nd (qav qct)) (qbv AS rfl (qap (pv 0)) (jN 2 nd) (qac (qaz (qe1 AO Di Dh qgm (pv 1) (jA1 (jF (qwj T) hr (jA1 (pv 2)))))))) (qah (qag qmc rfl T.b_sorted qds (jA1 (pv 1)))));refine ⟨by show 0<=sizeLine;decide,λr H1 n1=>?_⟩;have fr:H r=none:=n1.fresh;have nl:l≠r:=qae hl fr;refine ⟨_,rfl,l,rfl,⟨_,SqL.of (n1.same _ _ hl)⟩,qbk (xs:=xs) (λi σ H'=>Same H H'/\∃ (ys:List V) (v:Option V),H' r=some (.lst ys)/\Pairs H' ys (qeo (ps.take i))/\σ=[some (.ref l),some (.ref r),v]) ⟨n1.same,[],none,n1.at_,.nil,rfl⟩ (λi σ H' _ h'=>SqL.of (h'.1 _ _ hl)) ?_ ?_⟩
  ·rintro i x σ H2 hi ⟨s2,ys,v,hr2,py,rfl⟩
   obtain ⟨j,hji,a,rfl,ha⟩:=hp.get hi;rw[An] at hji;obtain ⟨h,hh,rfl⟩:=Ar.mp hji;obtain ⟨cb,hb⟩:=ok3 h (Am hh);have ha2:H2 a=some (.tup [.int h.1,.int h.2.1,.int h.2.2.1,.int h.2.2.2]):=s2 _ _ ha;have ew:qeo (ps.take (i+1))=qeo (ps.take i) ++ wOf h:=by
    unfold qeo;rw[qbn ps i h hh,B7];simp
   have lw:(qeo (ps.take (i+1))).length<=(qeo ps).length:=by
    have e:=Fo (i+1) ps;have:qeo ps=qeo (ps.take (i+1)) ++ qeo (ps.drop (i+1)):=by
     unfold qeo;rw[<- B7,e]
    rw[this,Ag];ext
   rw[ew,Ag] at lw;refine qc1 ?_;refine ⟨_,rfl,.inl ⟨rfl,_,SqL.of hr2⟩,_,rfl,a,h.1,h.2.1,h.2.2.1,h.2.2.2,rfl,ha2,cb,hb,λl3 xs3 H3 H4 s3 n4 p4=>?_⟩;have s24:=s3.trans n4.same;have l1:=py.length;have l2:=p4.length;have hr4:=s24 _ _ hr2;have e3:(qlr h.1 h.2.1 h.2.2.1 h.2.2.2).length=(wOf h).length:=rfl;refine ⟨r,l3,ys,xs3,rfl,rfl,hr4,n4.at_,AB (qai (by ext)),λH5 b5 hr5=>?_⟩;have ts:TupS H4 H5:=λx xs e=>b5 _ _ e (qa0 e hr4 (by intro z;cases z))
   refine ⟨b5.same (s2.trans s24) fr,_,_,hr5,?_,rfl⟩;rw[ew];exact Pairs.app ((py.same s24).tupS ts) (p4.tupS ts)
  ·rintro σ H2 ⟨s2,ys,v,hr2,py,rfl⟩
   rw[hxl,Aw] at py;refine ⟨_,rfl,r,ys,(qeo ps).map r2,rfl,SqL.of hr2,qt4 py,by rw[Aa];exact ok1,(λk hk=>by obtain ⟨p,_,rfl⟩:=Ah.mp hk;exact List.cons_ne_nil _ _),λms zs l3 H3 pm sm tz n3=>?_⟩;obtain ⟨qs,rfl,pq⟩:=qzp pm;exact q l3 zs qs H3 (s2.trans n3.same) n3.at_ ((qki tz).same n3.same) pq sm
include T in
theorem qos:qax P w K mg base 1 "is_beyond" ["value", "many", "total", "high"] qmz:=by
 obtain ⟨f,fd,F,hm⟩:=T.f_is_beyond;have nd:=sc_is_beyond.nd;refine F.def_ hm (F.ok sc_is_beyond (λvs H Q E h=>?_) (λcdv A outer s H vs Q E hr h=>?_)) (F.binds λ_ _ _ _ _ _ us hl=>by obtain ⟨_,_,_,_,rfl⟩:=L2.lq4 hl;rfl)
 ·obtain ⟨v,n,t,b,rfl,_⟩:=h;rfl
 ·obtain ⟨v,n,t,b,rfl,cm,q⟩:=h
  exists _,(jB2 (qau (qdl (pv 3)) (qac (qah (jD qlx (qad qbp (pv 0) (pv 1)) (pv 2)))) qak) (qah (jD qc8 (qad qbp (pv 0) (pv 1)) (pv 2))))
  cases b with
  | true=>exact ⟨_,rfl,_,rfl,qdk ⟨_,rfl,_,rfl,_,_,rfl,rfl,cm,_,rfl,_,_,rfl,rfl,q⟩⟩
  | false=>exact ⟨_,rfl,_,rfl,qd7 ⟨_,rfl,_,rfl,_,_,rfl,rfl,cm,_,rfl,_,_,rfl,rfl,q⟩⟩
include T in
theorem qkv:qax P w K mg base 3 "mean_end" ["known", "runs", "high"] qkj:=by
 obtain ⟨f,fd,F,hm⟩:=T.f_mean_end;have nd:=sc_mean_end.nd;refine F.def_ hm (F.ok sc_mean_end (λvs H Q E h=>?_) (λcdv A outer s H vs Q E hr h=>?_)) (F.binds λ_ _ _ _ _ _ us hl=>by obtain ⟨_,_,_,rfl⟩:=L2.lq3 hl;rfl)
 ·obtain ⟨l,r,xs,ys,hs,rs,b,rfl,_⟩:=h;rfl
 ·obtain ⟨l,r,xs,ys,hs,rs,b,rfl,hl,hp,ok,hr0,py,lr,hrb,hne,q⟩:=h
  have hn:=ok.1;have hyl:=py.length;exists _,(jB4 (jS 3 nd (jF (qjl T) hr (jA1 (pv 0)))) (jS 4 nd (jF (qku T) hr (jA1 (pv 0)))) (qbv AS rfl (qap (pv 1)) (jG2 (jN 5 nd) (jN 6 nd)) (qac (qau (PW.pt (qls (jC qbh (pv 3) qaa) (qgv (qdl (jF (qos T) hr (jA4 (pv 5) (pv 3) (pv 4) (pv 2))))))) (jB2 (qwz (i:=3) nd rfl (Or.inl rfl) (pv 6) qr4) (qwz (i:=4) nd rfl (Or.inl rfl) (qad qbp (pv 5) (pv 6)) qr4)) qak))) (qah (jF (qjv T) hr (jA2 (pv 4) (pv 3)))));refine ⟨_,rfl,l,xs,hs,rfl,hl,hp,by ext,λH1 s1=>?_⟩;refine ⟨_,rfl,l,xs,hs,rfl,s1 _ _ hl,hp.same s1,by ext,λH2 s2=>?_⟩;have s12:=s1.trans s2;have hr2:=s12 _ _ hr0;have py2:=py.same s12;refine ⟨_,rfl,r,rfl,⟨_,SqL.of hr2⟩,qbk (xs:=ys) (λi σ H'=>H'=H2/\∃ v w,σ=[some (.ref l),some (.ref r),some (.bl b),some (.int (mE b hs (rs.take i)).1),some (.int (mE b hs (rs.take i)).2),v,w]) ⟨rfl,none,none,rfl⟩ (λi σ H' _ h'=>by rw[h'.1];exact SqL.of hr2) ?_ ?_⟩
  ·rintro i x σ H' hi ⟨rfl,v,w,rfl⟩
   obtain ⟨p,hpi,a,rfl,ha⟩:=py2.get hi;have hil:i<rs.length:=(Aj.mp hpi).1;obtain ⟨c0,c1,c2⟩:=qCe (b:=b) ok hrb i (by ext);have rb:=hrb p (Am hpi);have es:mE b hs (rs.take (i+1))=qco b (mE b hs (rs.take i)) p:=by
    unfold mE;rw[qbn rs i _ hpi,B5];rfl
   unfold RB at rb;rw[es]
   generalize mE b hs (rs.take i)=s at c0 c1 c2 ⊢
   have cm:CMulB p.1 s.1:=by unfold CMulB;ext
   have cm2:CMulB p.1 p.2:=by unfold CMulB;ext
   exists a,_,rfl,SqT.of ha,rfl,_,_,rfl,_,_,rfl,rfl;refine qCp (decide (s.1=0) || (if b=true then decide (s.2<p.1*s.1) else decide (p.1*s.1<s.2))) (λQ hQ=>?_) (λz=>?_) λz=>?_
   ·refine ⟨_,rfl,rfl,_,rfl,qb3 (λz=>?_) λz=>?_⟩
    ·have z2:s.1=0:=V.int.inj (AM z)
     rw[AD z2,Fg] at hQ;exact hQ
    ·have z2:¬ s.1=0:=λe=>z (AD (congrArg V.int e))
     rw[Az z2,DP] at hQ;exact ⟨_,rfl,_,rfl,_,rfl,_,rfl,p.1,s.1,s.2,b,rfl,cm,_,rfl,hQ⟩
   ·have em:qco b s p=(s.1+p.2,s.2+p.1*p.2):=by
     unfold qco;rw[Au]
     rcases Bool.or_eq_true_iff.mp z with z1|z1
     ·exact .inl (AM z1)
     ·exact .inr z1
    rw[em];exists _,rfl,_,rfl,_,_,rfl,rfl;exists _,rfl,_,rfl,_,rfl,_,_,rfl,rfl,cm2,_,_,rfl,rfl;exact ⟨rfl,_,_,rfl⟩
   ·have em:qco b s p=s:=by
     unfold qco;rw[Al];intro y
     apply z
     rcases y with y|y
     ·rw[AD y];rfl
     ·rw[y,Bool.or_true]
    rw[em];exact ⟨rfl,_,_,rfl⟩
  ·rintro σ H' ⟨rfl,v,w,rfl⟩
   rw[hyl,Aw];obtain ⟨c0,c1,c2⟩:=qCe (b:=b) ok hrb rs.length (Ak _);rw[Aw] at c0 c1 c2;have c2:=c2 (hne.imp id λz=>Bp.mpr z);refine ⟨_,rfl,_,rfl,(mE b hs rs).2,(mE b hs rs).1,rfl,c2,by ext,λp x y H3 n3 lo=>?_⟩;exact q p x y H3 (s12.trans n3.same) n3.at_ lo
theorem qz0 {C:TT} {REST:TS} (c:Bool) (hC:∀ Q:Bool->Hp->Prop,Q c H->C σ H Q) (h1:c=true->F { D with nx:=REST D } σ H) (h2:¬ c=true->REST D σ H):qcj (qwv C F qlv) REST D σ H:=hC _ (qb3 h1 h2)
theorem qnl {K:Frag} {tc:TT} (c:Int×Int->Bool) (f:Int×Int->Int) (hl:H l=some (.lst xs)) (hp:Pairs H xs rs) (hz:rs.length<=200)
  (ht:∀ p∈rs,∀ Q':Bool->Hp->Prop,Q' (c p) H->tc ((σ.set 0 (some (.int p.1))).set 1 (some (.int p.2))) H Q')
  (hs:∀ p∈rs,∀ Q':VK,Q' (.int (f p)) H->te ((σ.set 0 (some (.int p.1))).set 1 (some (.int p.2))) H Q')
  (hd:∀ a H',New H H' a (.lst (((rs.filter c).map f).map V.int))->Q (.ref a) H'):qeg (Itl K l) Q (qwx K 2 (qdn (qdm 0) (qdn (qdm 1) qww))) tc te σ H:=by
 have hlen:=hp.length;refine qbm (xs:=xs) (λi ys H2=>H2=H/\ys=(((rs.take i).filter c).map f).map V.int) (AB (qai (by ext))) ⟨rfl,rfl⟩ (λi ys H2 h2=>⟨SqL.of (by rw[h2.1];exact hl),?_⟩) ?_ ?_
 ·rw[h2.2,Aa,Aa]
  exact AL (Bx _ _) (by rw[AU];ext)
 ·rintro i x ys H2 hi ⟨rfl,rfl⟩
  obtain ⟨p,hpi,a,rfl,ha⟩:=hp.get hi;have hm:=Am hpi;refine ⟨a,_,rfl,SqT.of ha,rfl,_,_,rfl,_,_,rfl,rfl,ht p hm _ (qb3 (λz=>?_) λz=>?_)⟩
  ·refine hs p hm _ ⟨rfl,?_⟩
   rw[qbn rs i p hpi,Bm,Ao,Ao]
   simp[z]
  ·exists rfl
   rw[qbn rs i p hpi,Bm,Ao,Ao]
   simp[z]
 ·rintro ys H2 a H' ⟨rfl,rfl⟩ n
  rw[hlen,Aw] at n;exact hd a H' n
def sN (c:Int×Int->Bool) (rs:List (Int×Int)):Int:=((rs.filter c).map λp=>p.1*p.2).sum
def qxx (p:Int×Int):Bool:=decide (p.1<0)
def qxy (p:Int×Int):Bool:=decide (0<p.1)
def qEo (hs:List HP4) (z:Int):Prop:=z∈hs.map (λh=>h.2.2.1)/\∀ x∈hs.map (λh=>h.2.2.1),z<=x
def qEp (hs:List HP4) (z:Int):Prop:=z∈hs.map (λh=>h.2.2.2)/\∀ x∈hs.map (λh=>h.2.2.2),x<=z
def qkw (H:Hp) (k:Nat) (hs ps:List HP4) (x y:V):Prop:=match k with
 | 0=>x=.int (mN hs)/\y=.int (mN hs+mN ps)
 | 1=>∃ rs:List (Int×Int),rs.Perm (qeo ps)/\x=.int (mT hs+sN qxx rs)/\y=.int (mT hs+sN qxy rs)
 | 2=>(hs=[]/\ps=[]/\x=.non/\y=.non)\/∃ a b,x=.int a/\y=.int b/\qEo (hs ++ ps) a/\(hs=[]->qEp ps b)/\(hs≠[]->qEo hs b)
 | 3=>(hs=[]/\ps=[]/\x=.non/\y=.non)\/∃ a b,x=.int a/\y=.int b/\qEp (hs ++ ps) b/\(hs=[]->qEo ps a)/\(hs≠[]->qEp hs a)
 | _=>(hs=[]/\ps=[]/\x=.non/\y=.non)\/∃ (p q:Addr) (rs:List (Int×Int)) (a b c d:Int),x=.ref p/\y=.ref q/\H p=some (.tup [.int a,.int b])/\H q=some (.tup [.int c,.int d])/\rs.Perm (qeo ps)/\Rises rs/\(hs≠[]\/rs≠[])/\Low a b (mE false hs rs).2 (mE false hs rs).1/\Low c d (mE true hs rs.reverse).2 (mE true hs rs.reverse).1
inductive qd6 (k:Nat) (vs:List V) (H:Hp) (Q:VK) (E_:XK):Prop
 | mk:∀ (me l p:Addr) (xs ys:List V) (hs ps:List HP4),vs=[.ref me,.ref l,.ref p]->H l=some (.lst xs)->Tups H xs (hs.map j4)->HsOk hs->H p=some (.lst ys)->Tups H ys (ps.map j4)->PsOk ps->(∀ t x y H',Same H H'->H' t=some (.tup [x,y])->qkw H' k hs ps x y->Q (.ref t) H')->qd6 k vs H Q E_
theorem Tups.app {H:Hp}:∀ {xs ys:List V} {as bs:List (List Int)},Tups H xs as->Tups H ys bs->Tups H (xs ++ ys) (as ++ bs)
 | _,_,_,_,.nil,h=>h
 | _,_,_,_,.cons r t,h=>.cons r (Tups.app t h)
theorem PsOk.rb {ps:List HP4} (ok:PsOk ps):∀ p∈qeo ps,RB p:=by
 intro p hp;obtain ⟨h,hh,hw⟩:=CQ.mp hp;obtain ⟨cb,hb⟩:=ok.2.2 h hh;have hm:=ok.2.1.2 h hh;have W:=WRow.of cb;obtain ⟨i,hi⟩:=Fs.mp hw;have:=W.ok hi;unfold HBd at hb;unfold RB;ext
include T in
theorem qjw:qef P w K mg base C_HowMany 2 "told" ["self", "known", "parts"] (qd6 0):=by
 obtain ⟨f,fd,F,hm⟩:=T.f_HowMany_told;have nd:=sc_HowMany_told.nd;refine ⟨f,fd,(F.ok sc_HowMany_told (λvs H Q E h=>?_) (λcdv A outer s H vs Q E hr h=>?_)),hm,(F.binds λ_ _ _ _ _ _ us hl=>by obtain ⟨_,_,_,rfl⟩:=L2.lq3 hl;rfl)⟩
 ·obtain ⟨me,l,p,xs,ys,hs,ps,rfl,_⟩:=h;rfl
 ·obtain ⟨me,l,p,xs,ys,hs,ps,rfl,hl,hp,ok,hp0,tp,pok,q⟩:=h
  have hn:=ok.1;have hm:=pok.2.1.1;exists _,(jB2 (jS 3 nd (jF (qjl T) hr (jA1 (pv 1)))) (qah (qam (jA2 (pv 3) (qad qa3 (pv 3) (jF (qjl T) hr (jA1 (pv 2))))))));refine ⟨_,rfl,l,xs,hs,rfl,hl,hp,by ext,λH1 s1=>?_⟩;refine ⟨_,rfl,_,rfl,_,rfl,p,ys,ps,rfl,s1 _ _ hp0,tp.same s1,by ext,λH2 s2=>?_⟩;refine ⟨_,_,rfl,rfl,by show 2<=sizeLine;decide,λt H3 n3=>?_⟩;exact q t _ _ H3 (s1.trans (s2.trans n3.same)) n3.at_ ⟨rfl,rfl⟩
include T in
theorem qnm:qef P w K mg base C_Total 3 "told" ["self", "known", "parts"] (qd6 1):=by
 obtain ⟨f,fd,F,hm⟩:=T.f_Total_told;have nd:=sc_Total_told.nd;refine ⟨f,fd,(F.ok sc_Total_told (λvs H Q E h=>?_) (λcdv A outer s H vs Q E hr h=>?_)),hm,(F.binds λ_ _ _ _ _ _ us hl=>by obtain ⟨_,_,_,rfl⟩:=L2.lq3 hl;rfl)⟩
 ·obtain ⟨me,l,p,xs,ys,hs,ps,rfl,_⟩:=h;rfl
 ·obtain ⟨me,l,p,xs,ys,hs,ps,rfl,hl,hp,ok,hp0,tp,pok,q⟩:=h
  have hn:=ok.1;exists _,(jB5 (jS 3 nd (jF (qgh T) hr (jA1 (pv 2)))) (jS 4 nd (jF (qku T) hr (jA1 (pv 1)))) (jS 5 nd (qag (qcq rfl) rfl T.b_sum qe3 (jA1 (qcn (vars:=[ "value", "many" ]) (frees:=[]) (fv:=[]) rfl (jL0 rfl) trivial (qap (pv 3)) (qbf (by decide) (by decide)) (λ_ _ _ _=>(jG2 (jM 0 [ "value", "many" ]) (jM 1 [ "value", "many" ]))) (λ_ _ _ _=>(qfm (jC qc8 (pv 0) qaa))) (λ_ _ _ _=>(qad qbp (pv 0) (pv 1))))))) (jS 6 nd (qag (qcq rfl) rfl T.b_sum qe3 (jA1 (qcn (vars:=[ "value", "many" ]) (frees:=[]) (fv:=[]) rfl (jL0 rfl) trivial (qap (pv 3)) (qbf (by decide) (by decide)) (λ_ _ _ _=>(jG2 (jM 0 [ "value", "many" ]) (jM 1 [ "value", "many" ]))) (λ_ _ _ _=>(qfm (jC qlx (pv 0) qaa))) (λ_ _ _ _=>(qad qbp (pv 0) (pv 1))))))) (qah (qam (jA2 (qad qa3 (pv 4) (pv 5)) (qad qa3 (pv 4) (pv 6))))));refine ⟨_,rfl,p,ys,ps,rfl,hp0,tp,pok,λr zs rs H1 s1 hr1 pr pm _=>?_⟩;have lrs:rs.length<64:=by rw[pm.length_eq];exact pok.1
  have mulB:∀ p∈rs,CMulB p.1 p.2:=λp hp=>by
   have:=pok.rb p (pm.mem_iff.mp hp);unfold RB at this;unfold CMulB;ext
  refine ⟨_,rfl,l,xs,hs,rfl,s1 _ _ hl,hp.same s1,by ext,λH2 s2=>?_⟩;have hr2:=s2 _ _ hr1;have pr2:=pr.same s2;refine ⟨_,rfl,r,rfl,⟨_,SqL.of hr2⟩,qnl qxx (λp=>p.1*p.2) hr2 pr2 (by ext) (λp _ Q' hq=>⟨_,rfl,_,_,rfl,rfl,_,rfl,hq⟩) (λp hp Q' hq=>⟨_,rfl,_,rfl,_,_,rfl,rfl,mulB p hp,hq⟩) λa3 H3 n3=>⟨a3,_,rfl,SqL.of n3.at_,?_⟩⟩;have hr3:=n3.same _ _ hr2;have pr3:=pr2.same n3.same;refine ⟨_,rfl,r,rfl,⟨_,SqL.of hr3⟩,qnl qxy (λp=>p.1*p.2) hr3 pr3 (by ext) (λp _ Q' hq=>⟨_,rfl,_,_,rfl,rfl,_,rfl,hq⟩) (λp hp Q' hq=>⟨_,rfl,_,rfl,_,_,rfl,rfl,mulB p hp,hq⟩) λa4 H4 n4=>⟨a4,_,rfl,SqL.of n4.at_,?_⟩⟩;refine ⟨_,rfl,_,rfl,_,_,rfl,rfl,_,rfl,_,rfl,_,_,rfl,rfl,by show 2<=sizeLine;decide,λt H5 n5=>?_⟩;exact q t _ _ H5 (s1.trans (s2.trans (n3.same.trans (n4.same.trans n5.same)))) n5.at_ ⟨rs,pm,rfl,rfl⟩
include T in
theorem qnn:qef P w K mg base C_Least 2 "told" ["self", "known", "parts"] (qd6 2):=by
 obtain ⟨f,fd,F,hm⟩:=T.f_Least_told;have nd:=sc_Least_told.nd;refine ⟨f,fd,(F.ok sc_Least_told (λvs H Q E h=>?_) (λcdv A outer s H vs Q E hr h=>?_)),hm,(F.binds λ_ _ _ _ _ _ us hl=>by obtain ⟨_,_,_,rfl⟩:=L2.lq3 hl;rfl)⟩
 ·obtain ⟨me,l,p,xs,ys,hs,ps,rfl,_⟩:=h;rfl
 ·obtain ⟨me,l,p,xs,ys,hs,ps,rfl,hl,hp,ok,hp0,tp,pok,q⟩:=h
  have hn:=ok.1;have hm:=pok.2.1.1;have hxl:xs.length=hs.length:=by rw[hp.length,Aa]
  have hyl:ys.length=ps.length:=by rw[tp.length,Aa]
  exists _,(jB4 (qau (PW.pt (qfv (jC qbh (qag qan rfl T.b_len qby (jA1 (pv 1))) qaa) (qd0 (jC qbh (qag qan rfl T.b_len qby (jA1 (pv 2))) qaa)))) (qac (qah (qam (jA2 qay qay)))) qak) (jS 3 nd (jF (qdi T) hr (jA1 (qad qd3 (pv 1) (pv 2))))) (jS 4 nd (qhr (jC qbh (qag qan rfl T.b_len qby (jA1 (pv 1))) qaa) (jF (qcp T) hr (jA1 (pv 2))) (jF (qdi T) hr (jA1 (pv 1))))) (qah (qam (jA2 (pv 3) (pv 4)))));refine qz0 (decide (xs.length=0) && decide (ys.length=0)) (λQ hQ=>?_) (λz=>?_) λz=>?_
  ·refine ⟨_,rfl,l,xs,rfl,.inl (SqL.of hl),rfl,_,rfl,qb3 (λz=>?_) λz=>?_⟩
   ·have z2:xs.length=0:=by simpa using z
    rw[AD z2,Dk] at hQ;exists _,rfl,p,ys,rfl,.inl (SqL.of hp0),rfl,_,rfl;have e:decide (V.int (ys.length:Int)=V.int 0)=decide (ys.length=0):=by
     rw[B2];simp
    rw[e];exact hQ
   ·have z2:¬ xs.length=0:=by simpa using z
    rw[Az z2,B9] at hQ;exact hQ
  ·rw[Bu,AV,AV] at z
   have e1:hs=[]:=Bg.mp (by ext);have e2:ps=[]:=Bg.mp (by ext);exact ⟨by show 2<=sizeLine;decide,λt H1 n1=>q t _ _ H1 n1.same n1.at_ (.inl ⟨e1,e2,rfl,rfl⟩)⟩
  have zz:¬ (xs.length=0/\ys.length=0):=λy=>z (by rw[AD y.1,AD y.2];rfl)
  have hne:hs ++ ps≠[]:=λe=>by
   have:=congrArg List.length e;rw[Ag,BZ] at this;ext
  refine ⟨_,rfl,_,rfl,l,p,xs,ys,rfl,rfl,hl,hp0,AB (qai (by ext)),λc H1 n1=>?_⟩;refine ⟨c,xs ++ ys,hs ++ ps,rfl,n1.at_,by rw[Ao];exact (Tups.app hp tp).same n1.same,by rw[Ag];ext,hne,λa H2 s2 a1 a2=>?_⟩;have s12:=n1.same.trans s2;refine ⟨_,rfl,l,xs,rfl,.inl (SqL.of (s12 _ _ hl)),rfl,_,rfl,qb3 (λy=>?_) λy=>?_⟩
  ·have y2:xs.length=0:=by simpa using y
   have e1:hs=[]:=Bg.mp (by ext);have e2:ps≠[]:=λe=>zz ⟨y2,by rw[hyl,e];rfl⟩
   refine ⟨_,rfl,p,ys,ps,rfl,s12 _ _ hp0,tp.same s12,by ext,e2,λb H3 s3 b1 b2=>?_⟩;exact ⟨_,rfl,_,rfl,by show 2<=sizeLine;decide,λt H4 n4=>q t _ _ H4 (s12.trans (s3.trans n4.same)) n4.at_ (.inr ⟨a,b,rfl,rfl,⟨a1,a2⟩,λ_=>⟨b1,b2⟩,λz=>absurd e1 z⟩)⟩
  ·have y2:¬ xs.length=0:=by simpa using y
   have e1:hs≠[]:=λe=>y2 (by rw[hxl,e];rfl)
   refine ⟨_,rfl,l,xs,hs,rfl,s12 _ _ hl,hp.same s12,by ext,e1,λb H3 s3 b1 b2=>?_⟩;exact ⟨_,rfl,_,rfl,by show 2<=sizeLine;decide,λt H4 n4=>q t _ _ H4 (s12.trans (s3.trans n4.same)) n4.at_ (.inr ⟨a,b,rfl,rfl,⟨a1,a2⟩,λz=>absurd z e1,λ_=>⟨b1,b2⟩⟩)⟩
include T in
theorem qjm:qef P w K mg base C_Greatest 2 "told" ["self", "known", "parts"] (qd6 3):=by
 obtain ⟨f,fd,F,hm⟩:=T.f_Greatest_told;have nd:=sc_Greatest_told.nd;refine ⟨f,fd,(F.ok sc_Greatest_told (λvs H Q E h=>?_) (λcdv A outer s H vs Q E hr h=>?_)),hm,(F.binds λ_ _ _ _ _ _ us hl=>by obtain ⟨_,_,_,rfl⟩:=L2.lq3 hl;rfl)⟩
 ·obtain ⟨me,l,p,xs,ys,hs,ps,rfl,_⟩:=h;rfl
 ·obtain ⟨me,l,p,xs,ys,hs,ps,rfl,hl,hp,ok,hp0,tp,pok,q⟩:=h
  have hn:=ok.1;have hm:=pok.2.1.1;have hxl:xs.length=hs.length:=by rw[hp.length,Aa]
  have hyl:ys.length=ps.length:=by rw[tp.length,Aa]
  exists _,(jB4 (qau (PW.pt (qfv (jC qbh (qag qan rfl T.b_len qby (jA1 (pv 1))) qaa) (qd0 (jC qbh (qag qan rfl T.b_len qby (jA1 (pv 2))) qaa)))) (qac (qah (qam (jA2 qay qay)))) qak) (jS 3 nd (qhr (jC qbh (qag qan rfl T.b_len qby (jA1 (pv 1))) qaa) (jF (qdi T) hr (jA1 (pv 2))) (jF (qcp T) hr (jA1 (pv 1))))) (jS 4 nd (jF (qcp T) hr (jA1 (qad qd3 (pv 1) (pv 2))))) (qah (qam (jA2 (pv 3) (pv 4)))));refine qz0 (decide (xs.length=0) && decide (ys.length=0)) (λQ hQ=>?_) (λz=>?_) λz=>?_
  ·refine ⟨_,rfl,l,xs,rfl,.inl (SqL.of hl),rfl,_,rfl,qb3 (λz=>?_) λz=>?_⟩
   ·have z2:xs.length=0:=by simpa using z
    rw[AD z2,Dk] at hQ;exists _,rfl,p,ys,rfl,.inl (SqL.of hp0),rfl,_,rfl;have e:decide (V.int (ys.length:Int)=V.int 0)=decide (ys.length=0):=by
     rw[B2];simp
    rw[e];exact hQ
   ·have z2:¬ xs.length=0:=by simpa using z
    rw[Az z2,B9] at hQ;exact hQ
  ·rw[Bu,AV,AV] at z
   have e1:hs=[]:=Bg.mp (by ext);have e2:ps=[]:=Bg.mp (by ext);exact ⟨by show 2<=sizeLine;decide,λt H1 n1=>q t _ _ H1 n1.same n1.at_ (.inl ⟨e1,e2,rfl,rfl⟩)⟩
  have zz:¬ (xs.length=0/\ys.length=0):=λy=>z (by rw[AD y.1,AD y.2];rfl)
  have hne:hs ++ ps≠[]:=λe=>by
   have:=congrArg List.length e;rw[Ag,BZ] at this;ext
  refine ⟨_,rfl,l,xs,rfl,.inl (SqL.of hl),rfl,_,rfl,qb3 (λy=>?_) λy=>?_⟩
  ·have y2:xs.length=0:=by simpa using y
   have e1:hs=[]:=Bg.mp (by ext);have e2:ps≠[]:=λe=>zz ⟨y2,by rw[hyl,e];rfl⟩
   refine ⟨_,rfl,p,ys,ps,rfl,hp0,tp,by ext,e2,λa H1 s1 a1 a2=>?_⟩;refine ⟨_,rfl,_,rfl,l,p,xs,ys,rfl,rfl,s1 _ _ hl,s1 _ _ hp0,AB (qai (by ext)),λc H2 n2=>?_⟩;refine ⟨c,xs ++ ys,hs ++ ps,rfl,n2.at_,by rw[Ao];exact (Tups.app hp tp).same (s1.trans n2.same),by rw[Ag];ext,hne,λb H3 s3 b1 b2=>?_⟩;exact ⟨_,rfl,_,rfl,by show 2<=sizeLine;decide,λt H4 n4=>q t _ _ H4 (s1.trans (n2.same.trans (s3.trans n4.same))) n4.at_ (.inr ⟨a,b,rfl,rfl,⟨b1,b2⟩,λ_=>⟨a1,a2⟩,λz=>absurd e1 z⟩)⟩
  ·have y2:¬ xs.length=0:=by simpa using y
   have e1:hs≠[]:=λe=>y2 (by rw[hxl,e];rfl)
   refine ⟨_,rfl,l,xs,hs,rfl,hl,hp,by ext,e1,λa H1 s1 a1 a2=>?_⟩;refine ⟨_,rfl,_,rfl,l,p,xs,ys,rfl,rfl,s1 _ _ hl,s1 _ _ hp0,AB (qai (by ext)),λc H2 n2=>?_⟩;refine ⟨c,xs ++ ys,hs ++ ps,rfl,n2.at_,by rw[Ao];exact (Tups.app hp tp).same (s1.trans n2.same),by rw[Ag];ext,hne,λb H3 s3 b1 b2=>?_⟩;exact ⟨_,rfl,_,rfl,by show 2<=sizeLine;decide,λt H4 n4=>q t _ _ H4 (s1.trans (n2.same.trans (s3.trans n4.same))) n4.at_ (.inr ⟨a,b,rfl,rfl,⟨b1,b2⟩,λz=>absurd z e1,λ_=>⟨a1,a2⟩⟩)⟩
include T in
theorem qot:qef P w K mg base C_Mean 4 "told" ["self", "known", "parts"] (qd6 4):=by
 obtain ⟨f,fd,F,hm⟩:=T.f_Mean_told;have nd:=sc_Mean_told.nd;refine ⟨f,fd,(F.ok sc_Mean_told (λvs H Q E h=>?_) (λcdv A outer s H vs Q E hr h=>?_)),hm,(F.binds λ_ _ _ _ _ _ us hl=>by obtain ⟨_,_,_,rfl⟩:=L2.lq3 hl;rfl)⟩
 ·obtain ⟨me,l,p,xs,ys,hs,ps,rfl,_⟩:=h;rfl
 ·obtain ⟨me,l,p,xs,ys,hs,ps,rfl,hl,hp,ok,hp0,tp,pok,q⟩:=h
  have hn:=ok.1;have hm:=pok.2.1.1;have hxl:xs.length=hs.length:=by rw[hp.length,Aa]
  have hyl:ys.length=ps.length:=by rw[tp.length,Aa]
  exists _,(jB3 (qau (PW.pt (qfv (jC qbh (qag qan rfl T.b_len qby (jA1 (pv 1))) qaa) (qd0 (jC qbh (qag qan rfl T.b_len qby (jA1 (pv 2))) qaa)))) (qac (qah (qam (jA2 qay qay)))) qak) (jS 3 nd (jF (qgh T) hr (jA1 (pv 2)))) (qah (qam (jA2 (jF (qkv T) hr (jA3 (pv 1) (pv 3) qh1)) (jF (qkv T) hr (jA3 (pv 1) (qq8 rfl rfl T.b_list rfl T.b_reversed (pv 3)) qh1))))));refine qz0 (decide (xs.length=0) && decide (ys.length=0)) (λQ hQ=>?_) (λz=>?_) λz=>?_
  ·refine ⟨_,rfl,l,xs,rfl,.inl (SqL.of hl),rfl,_,rfl,qb3 (λz=>?_) λz=>?_⟩
   ·have z2:xs.length=0:=by simpa using z
    rw[AD z2,Dk] at hQ;exists _,rfl,p,ys,rfl,.inl (SqL.of hp0),rfl,_,rfl;have e:decide (V.int (ys.length:Int)=V.int 0)=decide (ys.length=0):=by
     rw[B2];simp
    rw[e];exact hQ
   ·have z2:¬ xs.length=0:=by simpa using z
    rw[Az z2,B9] at hQ;exact hQ
  ·rw[Bu,AV,AV] at z
   have e1:hs=[]:=Bg.mp (by ext);have e2:ps=[]:=Bg.mp (by ext);exact ⟨by show 2<=sizeLine;decide,λt H1 n1=>q t _ _ H1 n1.same n1.at_ (.inl ⟨e1,e2,rfl,rfl⟩)⟩
  have zz:¬ (xs.length=0/\ys.length=0):=λy=>z (by rw[AD y.1,AD y.2];rfl)
  have hne:hs ++ ps≠[]:=λe=>by
   have:=congrArg List.length e;rw[Ag,BZ] at this;ext
  refine ⟨_,rfl,p,ys,ps,rfl,hp0,tp,pok,λr zs rs H1 s1 hr1 pr pm rise=>?_⟩;have lrs:rs.length<64:=by rw[pm.length_eq];exact pok.1
  have rb:∀ p∈rs,RB p:=λp hp=>pok.rb p (pm.mem_iff.mp hp)
  have hor:hs≠[]\/rs≠[]:=by
   by_cases e:hs=[]
   ·refine .inr λer=>?_
    rw[er] at pm;have ew:qeo ps=[]:=pm.symm.eq_nil
    cases ps with
    | nil=>exact hne (by rw[e];rfl)
    | cons h t =>
     have hw:wOf h≠[]:=by
      have W:=WRow.of (pok.2.2 h Ae).1
      show qlr _ _ _ _≠[]
      intro z;rw[z] at W;cases W
     have:qeo (h :: t)=wOf h ++ qeo t:=rfl;rw[this] at ew;exact hw (Fe.mp ew).1
   ·exact .inl e
  refine ⟨_,rfl,_,rfl,l,r,xs,zs,hs,rs,false,rfl,s1 _ _ hl,hp.same s1,ok,hr1,pr,lrs,rb,hor,λp1 x1 y1 H2 s2 h2 lo2=>?_⟩;have s12:=s1.trans s2;refine ⟨_,rfl,_,rfl,r,zs,rfl,SqL.of (s2 _ _ hr1),λr2 H3 n3=>?_⟩;have s13:=s12.trans n3.same;refine ⟨l,r2,xs,zs.reverse,hs,rs.reverse,true,rfl,s13 _ _ hl,hp.same s13,ok,n3.at_,(pr.same (s2.trans n3.same)).rev,by rw[DL];exact lrs,(λp hp=>rb p (Dp.mp hp)),hor.imp id (λz e=>z (List.reverse_eq_nil_iff.mp e)),λp2 x2 y2 H4 s4 h4 lo4=>?_⟩;exact ⟨by show 2<=sizeLine;decide,λt H5 n5=>q t _ _ H5 (s13.trans (s4.trans n5.same)) n5.at_ (.inr ⟨p1,p2,rs,x1,y1,x2,y2,rfl,rfl,n5.same _ _ (s4 _ _ (n3.same _ _ h2)),n5.same _ _ h4,pm,rise,hor,lo2,lo4⟩)⟩
theorem qEq (h:k<5):k=0\/k=1\/k=2\/k=3\/k=4:=by ext
theorem SubR.tb (h:SubR S G) (rb:∀ p∈G,RB p):-(G.length*10 ^ 88:Int)<=rT S/\rT S<=G.length*10 ^ 88:=by
 induction h with
 | nil=>simp[rT,qml]
 | skip _ ih =>
  have:=ih λq hq=>rb q (Ad _ hq)
  rw[AF];ext
 | @take S G v c d h1 h2 _ ih =>
  have:=ih λq hq=>rb q (Ad _ hq)
  have hb:=rb (v,c) Ae;have hb:(-(10 ^ 45)<v/\v<10 ^ 45)/\1<=c/\c<10 ^ 43:=hb;have m1:v*d<=10 ^ 45*d:=AG (by ext) (by ext);have m2:-(10 ^ 45)*d<=v*d:=AG (by ext) (by ext);rw[AF,qbe];dsimp only;ext
def FrAt (H:Hp) (k:Nat) (v:V) (z n:Int):Prop:=(k<4/\v=.int z/\n=1)\/(k=4/\∃ p,v=.ref p/\H p=some (.tup [.int z,.int n])/\1<=n/\n<10 ^ 100 /\ -(10 ^ 100)<z/\z<10 ^ 100)
theorem FrAt.same (s:Same H H') {v:V} {n:Int} (h:FrAt H k v z n):FrAt H' k v z n:=
 h.imp id fun ⟨e,p,ev,hp,b⟩=>⟨e,p,ev,s _ _ hp,b⟩
theorem FrAt.pos {v:V} {n:Int} (h:FrAt H k v z n):1<=n:=by
 rcases h with ⟨_,_,e⟩|⟨_,p,_,_,e,_⟩<;>ext
def qDg (k:Nat) (z n:Int):Prop:=k=4->Nat.gcd z.natAbs n.natAbs=1
structure TF (H:Hp) (k:Nat) (hs ps:List HP4) (x y:V) (z1 n1 z2 n2:Int):Prop where
 x:FrAt H k x z1 n1
 y:FrAt H k y z2 n2
 lx:qDg k z1 n1
 ly:qDg k z2 n2
 cx:Can k hs ps z1 n1
 cy:Can k hs ps z2 n2
 w:∀ z n,1<=n->Can k hs ps z n->z1*n<=z*n1/\z*n2<=z2*n
theorem TF.same (s:Same H H') {ps:List HP4} {z1 n1 z2 n2:Int} (h:TF H k hs ps x y z1 n1 z2 n2):TF H' k hs ps x y z1 n1 z2 n2:=⟨h.x.same s,h.y.same s,h.lx,h.ly,h.cx,h.cy,h.w⟩
theorem qxz:∀ rs:List (Int×Int),sumH 0 1 rs=rT (rs.filter qxy)
 | []=>rfl
 | p :: r=>by
  show hg 0 1 p.1*p.2+sumH 0 1 r=_
  rw[qxz r]
  by_cases z:0<p.1
  ·rw[Bz (show qxy p=true from AD z),qbe]
   have:hg 0 1 p.1=p.1:=by unfold hg;rw[Au (by ext)];ext
   rw[this]
  ·rw[CC (show ¬ qxy p=true from λe=>z (AM e))]
   have:hg 0 1 p.1=0:=by unfold hg;rw[Al (by ext)]
   rw[this];ext
theorem qx0:∀ rs:List (Int×Int),sumL 0 1 rs = -rT (rs.filter qxx)
 | []=>rfl
 | p :: r=>by
  have ih:=qx0 r;unfold sumL at ih ⊢
  show hg (-0) 1 (-p.1)*p.2+sumH (-0) 1 (r.map ng)=_
  rw[ih]
  by_cases z:p.1<0
  ·rw[Bz (show qxx p=true from AD z),qbe]
   have:hg (-0) 1 (-p.1) = -p.1:=by unfold hg;rw[Au (by ext)];ext
   rw[this,CD];ext
  ·rw[CC (show ¬ qxx p=true from λe=>z (AM e))]
   have:hg (-0) 1 (-p.1)=0:=by unfold hg;rw[Al (by ext)]
   rw[this];ext
theorem qwk {ps:List HP4} (hk:k<5) (ok:HsOk hs) (hl:∀ h∈hs,h.2.2.1<=h.2.2.2) (pok:PsOk ps) (ne:hs≠[]\/ps≠[]) (t:qkw H k hs ps x y):∃ z1 n1 z2 n2,TF H k hs ps x y z1 n1 z2 n2:=by
 have pc:PsC ps:=λh hh=>(pok.2.2 h hh).1
 obtain ⟨b0,b1,b2,b3,b4⟩:=ok.b;have p0:=pok.2.1.b.1;have hle:∀ h∈hs ++ ps,h.2.2.1<=h.2.2.2:=λh hh=>(AK.mp hh).elim (hl h) λz=>(pc h z).le
 rcases qEq hk with rfl|rfl|rfl|rfl|rfl
 ·obtain ⟨ex,ey⟩:=t
  exists _,1,_,1,.inl ⟨by ext,ex,rfl⟩,.inl ⟨by ext,ey,rfl⟩,(λz=>by ext),(λz=>by ext),⟨rfl,by ext,by ext⟩,⟨rfl,by ext,by ext⟩;rintro z n _ ⟨rfl,a1,a2⟩;ext
 ·obtain ⟨rs,pm,ex,ey⟩:=t
  have wok:∀ p∈rs,1<=p.2:=λp hp=>qiz pc p (pm.mem_iff.mp hp)
  exists _,1,_,1,.inl ⟨by ext,ex,rfl⟩,.inl ⟨by ext,ey,rfl⟩,(λz=>by ext),(λz=>by ext),⟨rfl,_,_,Sb.row pc pm (SubR.filter qxx wok),rfl⟩,⟨rfl,_,_,Sb.row pc pm (SubR.filter qxy wok),rfl⟩;rintro z n _ ⟨rfl,m,t,s,rfl⟩;have u:=s.up 0 1 (by ext);have l:=s.lo 0 1 (by ext);rw[<- qf5 pm,qxz] at u;rw[<- qiy pm,qx0] at l;have e1:sN qxy rs=rT (rs.filter qxy):=rfl;have e2:sN qxx rs=rT (rs.filter qxx):=rfl;rw[e1,e2];ext
 ·skip
  rcases t with ⟨e1,e2,_⟩|⟨a,b,ex,ey,ma,mb,mc⟩
  ·exact absurd ne (by simp[e1,e2])
  obtain ⟨ha,hha,ea⟩:=Ah.mp ma.1;have ea:ha.2.2.1=a:=ea;have lea:=hle ha hha;have cy:Can 2 hs ps b 1:=by
   by_cases z:hs=[]
   ·obtain ⟨g,hg,eg⟩:=Ah.mp (mb z).1
    have eg:g.2.2.2=b:=eg;have:=(pc g hg).le;exact ⟨rfl,⟨g,As _ hg,by ext,by ext⟩,λh hh=>by rw[z] at hh;cases hh⟩
   ·obtain ⟨g,hg,eg⟩:=Ah.mp (mc z).1
    have eg:g.2.2.1=b:=eg;have:=hl g hg;exact ⟨rfl,⟨g,AE _ hg,by ext,by ext⟩,λh hh=>(mc z).2 _ (Ah.mpr ⟨h,hh,rfl⟩)⟩
  exists a,1,b,1,.inl ⟨by ext,ex,rfl⟩,.inl ⟨by ext,ey,rfl⟩,(λz=>by ext),(λz=>by ext),⟨rfl,⟨ha,hha,by ext,by ext⟩,λh hh=>ma.2 _ (Ah.mpr ⟨h,AE _ hh,rfl⟩)⟩,cy;rintro z n _ ⟨rfl,⟨h,hh,c1,c2⟩,c3⟩;have d1:=ma.2 _ (Ah.mpr ⟨h,hh,rfl⟩);have d1:a<=h.2.2.1:=d1;have d2:z<=b:=by
   by_cases y:hs=[]
   ·have hp:h∈ps:=by rw[y] at hh;exact hh
    have:=(mb y).2 _ (Ah.mpr ⟨h,hp,rfl⟩);have this:h.2.2.2<=b:=this;ext
   ·obtain ⟨g,hg,eg⟩:=Ah.mp (mc y).1
    have eg:g.2.2.1=b:=eg;have:=c3 g hg;ext
  ext
 ·skip
  rcases t with ⟨e1,e2,_⟩|⟨a,b,ex,ey,ma,mb,mc⟩
  ·exact absurd ne (by simp[e1,e2])
  obtain ⟨ha,hha,ea⟩:=Ah.mp ma.1;have ea:ha.2.2.2=b:=ea;have lea:=hle ha hha;have cx:Can 3 hs ps a 1:=by
   by_cases z:hs=[]
   ·obtain ⟨g,hg,eg⟩:=Ah.mp (mb z).1
    have eg:g.2.2.1=a:=eg;have:=(pc g hg).le;exact ⟨rfl,⟨g,As _ hg,by ext,by ext⟩,λh hh=>by rw[z] at hh;cases hh⟩
   ·obtain ⟨g,hg,eg⟩:=Ah.mp (mc z).1
    have eg:g.2.2.2=a:=eg;have:=hl g hg;exact ⟨rfl,⟨g,AE _ hg,by ext,by ext⟩,λh hh=>(mc z).2 _ (Ah.mpr ⟨h,hh,rfl⟩)⟩
  exists a,1,b,1,.inl ⟨by ext,ex,rfl⟩,.inl ⟨by ext,ey,rfl⟩,(λz=>by ext),(λz=>by ext),cx,⟨rfl,⟨ha,hha,by ext,by ext⟩,λh hh=>ma.2 _ (Ah.mpr ⟨h,AE _ hh,rfl⟩)⟩;rintro z n _ ⟨rfl,⟨h,hh,c1,c2⟩,c3⟩;have d1:=ma.2 _ (Ah.mpr ⟨h,hh,rfl⟩);have d1:h.2.2.2<=b:=d1;have d2:a<=z:=by
   by_cases y:hs=[]
   ·have hp:h∈ps:=by rw[y] at hh;exact hh
    have:=(mb y).2 _ (Ah.mpr ⟨h,hp,rfl⟩);have this:a<=h.2.2.1:=this;ext
   ·obtain ⟨g,hg,eg⟩:=Ah.mp (mc y).1
    have eg:g.2.2.2=a:=eg;have:=c3 g hg;ext
  ext
 ·skip
  rcases t with ⟨e1,e2,_⟩|⟨p,q,rs,a,b,c,d,ex,ey,hp,hq,pm,rise,hor,lo,up⟩
  ·exact absurd ne (by simp[e1,e2])
  have rb:∀ p∈rs,RB p:=λp hp=>pok.rb p (pm.mem_iff.mp hp)
  have rb':∀ p∈rs.reverse,RB p:=λp hp=>rb p (Dp.mp hp)
  have wok:∀ p∈rs,1<=p.2:=λp hp=>qiz pc p (pm.mem_iff.mp hp)
  have wok':∀ p∈rs.reverse,1<=p.2:=λp hp=>wok p (Dp.mp hp)
  have ln:rs.length<64:=by rw[pm.length_eq];exact pok.1
  have hz:mN hs=0->mT hs=0:=λz=>by
   by_cases y:hs=[]
   ·rw[y];rfl
   ·have:=b4 y;ext
  obtain ⟨S1,s1,e1⟩:=qp5 false rs (mN hs,mT hs) wok;obtain ⟨S2,s2,e2⟩:=qp5 true rs.reverse (mN hs,mT hs) wok';have q1:=Sb.row pc pm s1;have q2:=Sb.row pc ((List.reverse_perm rs).trans pm) s2;have t1:=s1.tb rb;have t2:=s2.tb rb';obtain ⟨_,c1,d1⟩:=qCe (b:=false) ok rb rs.length (Ak _);obtain ⟨_,c2,d2⟩:=qCe (b:=true) ok rb' rs.reverse.length (Ak _);rw[Aw] at c1 d1 c2 d2;rw[DL] at c2 d2 t2;have d1:=d1 (hor.imp id λz=>Bp.mpr z);have d2:=d2 (hor.imp id λz=>Bp.mpr z);have hi:=fun {n t:Int} (s:Sb ps n t)=>qv9 pc pm rise b0 hz d2 s
  have lw:=fun {n t:Int} (s:Sb ps n t)=>qzu pc pm rise b0 hz d1 s
  have e1:mE false hs rs=(mN hs+rN S1,mT hs+rT S1):=e1;have e2:mE true hs rs.reverse=(mN hs+rN S2,mT hs+rT S2):=e2;rw[e1] at lo lw c1 d1;rw[e2] at up hi c2 d2;dsimp only at lo lw c1 d1 up hi c2 d2;obtain ⟨l1,l2,l3,l4,l5⟩:=lo;obtain ⟨u1,u2,u3,u4,u5⟩:=up;exists a,b,c,d,.inr ⟨rfl,p,ex,hp,l1,by ext,by ext,by ext⟩,.inr ⟨rfl,q,ey,hq,u1,by ext,by ext,by ext⟩,(λ_=>l3),(λ_=>u3),⟨l1,_,_,q1,d1,l2⟩,⟨u1,_,_,q2,d2,u2⟩;rintro z n hn ⟨_,m,t,s,m1,em⟩;exact ⟨qEn m1 hn d1 l1 em l2 (lw s),qCj m1 hn d2 u1 em u2 (hi s)⟩
structure Lk (hs:List HP4) (rs:List (Int×Int)):Prop where
 n:mN hs=rN rs
 t:mT hs=rT rs
 v:∀ h∈hs,h.2.2.1∈qci rs/\h.2.2.2∈qci rs
 w:∀ x∈qci rs,∃ h∈hs,h.2.2.1<=x/\x<=h.2.2.2
theorem Lk.nil:Lk [] []:=⟨rfl,rfl,λh hh=>(by cases hh),λx hx=>(by cases hx)⟩
theorem Lk.snoc {q:List (Int×Int)} {g:HP4} (h:Lk hs rs) (o:HeapOf q g.1 g.2.1 g.2.2.1 g.2.2.2):Lk (hs ++ [g]) (rs ++ q):=by
 refine ⟨?_,?_,λx hx=>?_,λx hx=>?_⟩
 ·have:mN [g]=g.1:=by simp[mN]
  rw[qt5,this,qip,h.n,o.m]
 ·have:mT [g]=g.2.1:=by simp[mT]
  rw[qxt,this,qka,h.t,o.t]
 ·rw[qbz]
  rcases AK.mp hx with z|z
  ·exact ⟨AE _ (h.v x z).1,AE _ (h.v x z).2⟩
  ·rw[AI.mp z]
   exact ⟨As _ o.lo,As _ o.hi⟩
 ·rw[qbz] at hx
  rcases AK.mp hx with z|z
  ·obtain ⟨y,hy,e⟩:=h.w x z
   exact ⟨y,AE _ hy,e⟩
  ·exact ⟨_,As _ (AI.mpr rfl),o.lo' x z,o.hi' x z⟩
structure Lp (ps:List HP4) (P:List (Int×Int)):Prop where
 s:Sb ps (rN P) (rT P)
 w:∀ x∈qci P,∃ h∈ps,h.2.2.1<=x/\x<=h.2.2.2
theorem Lp.nil:Lp [] []:=⟨Sb.nil λh hh=>(by cases hh),λx hx=>(by cases hx)⟩
theorem Lp.snoc {ps:List HP4} {P q:List (Int×Int)} {g:HP4} (h:Lp ps P) (o:HeapOf q g.1 g.2.1 g.2.2.1 g.2.2.2) (ok:qbq q) (s:SubR S q):Lp (ps ++ [g]) (P ++ S):=by
 refine ⟨by rw[qip,qka];exact h.s.add (Sb.heap o ok s),λx hx=>?_⟩;rw[qbz] at hx
 rcases AK.mp hx with z|z
 ·obtain ⟨y,hy,e⟩:=h.w x z
  exact ⟨y,AE _ hy,e⟩
 ·exact ⟨_,As _ (AI.mpr rfl),o.lo' x (s.v x z),o.hi' x (s.v x z)⟩
def AnsAt (H:Hp) (k:Nat) (rs:List (Int×Int)) (v:V):Prop:=match k with
 | 0=>v=.int (rN rs)
 | 1=>v=.int (rT rs)
 | 2=>∃ z,v=.int z/\z∈qci rs/\∀ x∈qci rs,z<=x
 | 3=>∃ z,v=.int z/\z∈qci rs/\∀ x∈qci rs,x<=z
 | _=>∃ p,v=.ref p/\H p=some (.tup [.int (rT rs),.int (rN rs)])
theorem qCq (h:RunsT rs):-(rs.length*10 ^ 62:Int)<=rT rs/\rT rs<=rs.length*10 ^ 62:=by
 induction rs with
 | nil=>simp[rT,qml]
 | cons p r ih =>
  have h1:=ih λq hq=>h q (Ad _ hq)
  have h2:=h p Ae;unfold RunT at h2;have m1:p.1*p.2<=10 ^ 31*p.2:=AG (by ext) (by ext);have m2:-(10 ^ 31)*p.2<=p.1*p.2:=AG (by ext) (by ext);rw[qbe];simp only[AF];ext
theorem qz1 {ps:List HP4} {K P:List (Int×Int)} {v:V} (hk:k<5) (lk:Lk hs K) (lp:Lp ps P) (ok:RunsT (K ++ P)) (ln:(K ++ P).length<=200) (ne:2<=k->K ++ P≠[]) (a:AnsAt H k (K ++ P) v):∃ z n,FrAt H k v z n/\Can k hs ps z n:=by
 have eN:rN (K ++ P)=mN hs+rN P:=by rw[qip,lk.n]
 have eT:rT (K ++ P)=mT hs+rT P:=by rw[qka,lk.t]
 have s0:=lp.s.n0;have s1:=lp.s.n1;have wi:∀ x∈qci (K ++ P),∃ h∈hs ++ ps,h.2.2.1<=x/\x<=h.2.2.2:=λx hx=>by
  rw[qbz] at hx
  rcases AK.mp hx with z|z
  ·obtain ⟨h,hh,e⟩:=lk.w x z
   exact ⟨h,AE _ hh,e⟩
  ·obtain ⟨h,hh,e⟩:=lp.w x z
   exact ⟨h,As _ hh,e⟩
 have vi:∀ h∈hs,h.2.2.1∈qci (K ++ P)/\h.2.2.2∈qci (K ++ P):=λh hh=>by
  rw[qbz];exact ⟨AE _ (lk.v h hh).1,AE _ (lk.v h hh).2⟩
 match k,hk,a with
 | 0,_,a=>exact ⟨_,1,.inl ⟨by ext,a,rfl⟩,rfl,by ext,by ext⟩
 | 1,_,a=>exact ⟨_,1,.inl ⟨by ext,a,rfl⟩,rfl,_,_,lp.s,eT⟩
 | 2,_,⟨z,ev,m1,m2⟩=>exact ⟨z,1,.inl ⟨by ext,ev,rfl⟩,rfl,wi z m1,λh hh=>m2 _ (vi h hh).1⟩
 | 3,_,⟨z,ev,m1,m2⟩=>exact ⟨z,1,.inl ⟨by ext,ev,rfl⟩,rfl,wi z m1,λh hh=>m2 _ (vi h hh).2⟩
 | 4,_,⟨p,ev,hp⟩ =>
  have n1:=Bp.mpr (ne (by ext));have n2:=(qB1 ok.ok).1;have n3:=qB2 ok;have n4:=qCq ok;refine ⟨_,_,.inr ⟨rfl,p,ev,hp,by ext,by ext,by ext,by ext⟩,by ext,_,_,lp.s,by ext,by rw[eT,eN]⟩
structure RD where
 ro:Addr
 c:qa2
 s:Abs
 LY:List (List Int)
 LZ:List (List Int)
 n:Nat
def qEr (C R:Addr) (H:Hp) (v:V) (r:RD):Prop:=v=.ref r.ro/\RR C R H r.ro r.c r.s r.LY r.LZ/\r.LY.length<64/\r.LZ.length<64/\AOk r.n r.s/\r.n<=1000
def Rds (C R:Addr) (H:Hp) (xs:List V) (rs:List RD):Prop:=Paired (qEr C R H) xs rs
theorem Rds.same {C R:Addr} {H H':Hp} (s:Same H H'):∀ {xs:List V} {rs:List RD},Rds C R H xs rs->Rds C R H' xs rs
 | _,_,.nil=>.nil
 | _,_,.cons ⟨e,h,r⟩ t=>.cons ⟨e,h.same s,r⟩ (Rds.same s t)
theorem Rds.length {C R:Addr} {H:Hp}:∀ {xs:List V} {rs:List RD},Rds C R H xs rs->xs.length=rs.length
 | _,_,.nil=>rfl
 | _,_,.cons _ t=>by rw[AF,AF,Rds.length t]
theorem Rds.get {C R:Addr} {H:Hp}:∀ {xs:List V} {rs:List RD} {i:Nat} {x:V},Rds C R H xs rs->xs[i]?=some x->∃ r,rs[i]?=some r/\qEr C R H x r
 | _,_,0,_,.cons h _,e=>by cases e;exact ⟨_,rfl,h⟩
 | _,_,i+1,_,.cons _ t,e=>Rds.get (i:=i) t e
def gMx (rs:List RD):Option Int:=rs.foldl (λe r=>qn2 e r.c.ge) none
theorem qCr (x:Option Int):Ed (gv x):=by cases x with|none=>exact .inl rfl|some i=>exact .inr ⟨i,rfl⟩
theorem qwl (x y:Option Int):(∀ z,x=some z->∃ w,qn2 x y=some w/\z<=w)/\∀ z,y=some z->∃ w,qn2 x y=some w/\z<=w:=by
 cases x with
 | none=>exact ⟨λz e=>(by cases e),λz e=>⟨z,e,Bi _⟩⟩
 | some i =>
  cases y with
  | none=>exact ⟨λz e=>⟨z,e,Bi _⟩,λz e=>(by cases e)⟩
  | some j =>
   refine ⟨λz e=>⟨_,rfl,?_⟩,λz e=>⟨_,rfl,?_⟩⟩
   ·cases e;split<;>ext
   ·cases e;split<;>ext
theorem qul:∀ (rs:List RD) (x:Option Int),(∀ z,x=some z->∃ w,rs.foldl (λe r=>qn2 e r.c.ge) x=some w/\z<=w)/\∀ r∈rs,∀ z,r.c.ge=some z->∃ w,rs.foldl (λe r=>qn2 e r.c.ge) x=some w/\z<=w
 | [],x=>⟨λz e=>⟨z,e,Bi _⟩,λr hr'=>by cases hr'⟩
 | q :: t,x=>by
  obtain ⟨i1,i2⟩:=qul t (qn2 x q.c.ge);obtain ⟨m1,m2⟩:=qwl x q.c.ge;refine ⟨λz e=>?_,λr hr' z e=>?_⟩
  ·obtain ⟨w,ew,lw⟩:=m1 z e
   obtain ⟨w',ew',lw'⟩:=i1 w ew;exact ⟨w',ew',by ext⟩
  ·rcases Av.mp hr' with y|y
   ·obtain ⟨w,ew,lw⟩:=m2 z (by rw[<- y];exact e)
    obtain ⟨w',ew',lw'⟩:=i1 w ew;exact ⟨w',ew',by ext⟩
   ·exact i2 r y z e
theorem qz2 {rs:List RD} {a:Option Int} (h:¬ qzo (gMx rs) a) {r:RD} (hr':r∈rs):¬ qzo r.c.ge a:=by
 rintro ⟨z,e,lt⟩;obtain ⟨w,ew,lw⟩:=(qul rs none).2 r hr' z e;exact h ⟨w,ew,λx ex=>by have:=lt x ex;ext⟩
inductive qCs (C R:Addr) (vs:List V) (H:Hp) (Q:VK) (E_:XK):Prop
 | mk:∀ (l:Addr) (xs:List V) (rs:List RD),vs=[.ref l]->H l=some (.lst xs)->Rds C R H xs rs->rs.length<=900->(∀ H',Same H H'->Q (gv (gMx rs)) H')->qCs C R vs H Q E_
include T in
theorem qjn:qax P w K mg base 3 "greatest_gone" ["rolls"] (qCs C_Roll C_Rule):=by
 obtain ⟨f,fd,F,hm⟩:=T.f_greatest_gone;have nd:=sc_greatest_gone.nd;refine F.def_ hm (F.ok sc_greatest_gone (λvs H Q E h=>?_) (λcdv A outer s H vs Q E hr h=>?_)) (F.binds λ_ _ _ _ _ _ us hl=>by obtain ⟨_,rfl⟩:=L2.lq1 hl;rfl)
 ·obtain ⟨l,xs,rs,rfl,_⟩:=h;rfl
 ·obtain ⟨l,xs,rs,rfl,hl,rd,ln,q⟩:=h
  have lx:=rd.length;exists _,(jB3 (jS 1 nd qay) (qbv AS rfl (qap (pv 0)) (jN 2 nd) (qac (jS 1 nd (jF (qfg T) hr (jA2 (pv 1) (jI (qcm (pv 2) T.cl_Roll (qdg T) (hr.mono (by decide))) (qeb qck qaa))))))) (qah (pv 1)));refine ⟨_,rfl,l,rfl,⟨_,SqL.of hl⟩,qbk (xs:=xs) (λi σ H'=>Same H H'/\∃ v,σ=[some (.ref l),some (gv (gMx (rs.take i))),v]) ⟨Same.refl _,none,rfl⟩ (λi σ H' _ h'=>SqL.of (h'.1 _ _ hl)) ?_ ?_⟩
  ·rintro i x σ H2 hi ⟨s2,v,rfl⟩
   obtain ⟨r,hri,rfl,R0,ly,lz,ao,hn⟩:=rd.get hi;have R2:=R0.same s2;obtain ⟨dx,hob⟩:=R2.obj;obtain ⟨Y0,Z0,A0,B0⟩:=id R2;refine qc1 ?_;refine ⟨_,rfl,_,rfl,r.ro,dx,_,rfl,hob,qfz _ _ _ _ _,qzz ⟨r.ro,_,rfl,A0,λle H3 n3=>?_⟩⟩;have hat:atI (r.c.es.map V.int ++ [gv r.c.ge]) (-1)=some (gv r.c.ge):=qek (by simp);have hle:H3 le=some (.lst (r.c.es.map V.int ++ [gv r.c.ge])):=n3.at_;exists _,rfl,le,_,_,_,rfl,rfl,SqL.of hle,hat;exists _,_,rfl,qCr _,qCr _;rw[qBz];have:gMx (rs.take (i+1))=qn2 (gMx (rs.take i)) r.c.ge:=by
    unfold gMx;rw[qbn rs i r hri,B5];rfl
   exists s2.trans n3.same,some (.ref r.ro);rw[this]
   rfl
  ·rintro σ H2 ⟨s2,v,rfl⟩
   rw[lx,Aw];exact ⟨_,rfl,q H2 s2⟩
noncomputable def kOf (a b:Option Int) (r:RD):List (List Int):=qmx a b (qbg r.s) (qa4 r.s)
noncomputable def pOf (a b:Option Int) (r:RD):List (List Int):=qix a b (qa4 r.s)
def LdAt (H:Hp) (a b:Option Int) (v:V) (r:RD):Prop:=∃ (t l1 l2:Addr) (xs ys:List V),v=.ref t/\H t=some (.tup [.ref l1,.ref l2])/\H l1=some (.lst xs)/\Tups H xs (kOf a b r)/\H l2=some (.lst ys)/\Parts H ys (pOf a b r)
def Lds (H:Hp) (a b:Option Int) (xs:List V) (rs:List RD):Prop:=Paired (LdAt H a b) xs rs
theorem LdAt.same {H H':Hp} (s:Same H H') {a b:Option Int} {v:V} {r:RD}:LdAt H a b v r->LdAt H' a b v r
 | ⟨t,l1,l2,xs,ys,e,ht,h1,t1,h2,t2⟩=>⟨t,l1,l2,xs,ys,e,s _ _ ht,s _ _ h1,t1.same s,s _ _ h2,t2.same s⟩
theorem Lds.same {H H':Hp} (s:Same H H') {a b:Option Int}:∀ {xs:List V} {rs:List RD},Lds H a b xs rs->Lds H' a b xs rs
 | _,_,.nil=>.nil
 | _,_,.cons h t=>.cons (h.same s) (Lds.same s t)
theorem Lds.length {H:Hp} {a b:Option Int}:∀ {xs:List V} {rs:List RD},Lds H a b xs rs->xs.length=rs.length
 | _,_,.nil=>rfl
 | _,_,.cons _ t=>by rw[AF,AF,Lds.length t]
theorem Lds.get {H:Hp} {a b:Option Int}:∀ {xs:List V} {rs:List RD} {i:Nat} {x:V},Lds H a b xs rs->xs[i]?=some x->∃ r,rs[i]?=some r/\LdAt H a b x r
 | _,_,0,_,.cons h _,e=>by cases e;exact ⟨_,rfl,h⟩
 | _,_,i+1,_,.cons _ t,e=>Lds.get (i:=i) t e
theorem Lds.snoc {H:Hp} {a b:Option Int} {v:V} {r:RD} (h:LdAt H a b v r):∀ {xs:List V} {rs:List RD},Lds H a b xs rs->Lds H a b (xs ++ [v]) (rs ++ [r])
 | _,_,.nil=>.cons h .nil
 | _,_,.cons q t=>.cons q (Lds.snoc h t)
inductive qum (C R:Addr) (vs:List V) (H:Hp) (Q:VK) (E_:XK):Prop
 | mk:∀ (l:Addr) (xs:List V) (rs:List RD) (a b:Option Int),vs=[.ref l,gv a,gv b]->H l=some (.lst xs)->Rds C R H xs rs->rs.length<=900->¬ qzo (gMx rs) a->(∀ t zs H',Same H H'->H t=none->H' t=some (.lst zs)->Lds H' a b zs rs->Q (.ref t) H')->qum C R vs H Q E_
include T in
theorem qjo:qax P w K mg base 5 "pieces_of_all" ["rolls", "a", "b"] (qum C_Roll C_Rule):=by
 obtain ⟨f,fd,F,hm⟩:=T.f_pieces_of_all;have nd:=sc_pieces_of_all.nd;refine F.def_ hm (F.ok sc_pieces_of_all (λvs H Q E h=>?_) (λcdv A outer s H vs Q E hr h=>?_)) (F.binds λ_ _ _ _ _ _ us hl=>by obtain ⟨_,_,_,rfl⟩:=L2.lq3 hl;rfl)
 ·obtain ⟨l,xs,rs,a,b,rfl,_⟩:=h;rfl
 ·obtain ⟨l,xs,rs,a,b,rfl,hl,rd,ln,nb,q⟩:=h
  have lx:=rd.length;exists _,(jB2 (qaz (jF (qgf T) hr (jA2 (jF (qjn T) hr (jA1 (pv 0))) (pv 1)))) (qah (qcn (vars:=[ "roll" ]) (frees:=[ "a", "b" ]) (fv:=[1,2]) rfl (jL2 rfl) ⟨⟨rfl,.inl rfl,rfl,.inl rfl⟩,⟨⟨rfl,.inl rfl,rfl,.inl rfl⟩,trivial⟩⟩ (qap (pv 0)) (qbx (by decide)) (λ_ _ _ _=>(jM 0 [ "roll", "a", "b" ])) (λ_ _ _ _=>qat) (λ_ _ _ _=>(jF (qwi T) hr (jA3 (pv 0) (pv 1) (pv 2)))))));refine ⟨_,rfl,l,xs,rs,rfl,hl,rd,ln,λH1 s1=>?_⟩;exists _,rfl,gMx rs,a,rfl,nb;have hl1:=s1 _ _ hl;have rd1:=rd.same s1;refine ⟨_,rfl,l,rfl,⟨_,SqL.of hl1⟩,qbm (xs:=xs) (λi zs H2=>Same H1 H2/\Lds H2 a b zs (rs.take i)) (AB (qai (by ext))) ⟨Same.refl _,.nil⟩ (λi zs H2 h2=>⟨SqL.of (h2.1 _ _ hl1),by rw[h2.2.length,AU];ext⟩) ?_ ?_⟩
  ·rintro i x zs H2 hi ⟨s2,ld⟩
   obtain ⟨r,hri,rfl,R0,ly,lz,ao,hn⟩:=rd1.get hi;refine qc1 (ql6 (qdk ?_));refine ⟨_,rfl,_,rfl,_,rfl,r.ro,r.c,r.s,r.LY,r.LZ,r.n,a,b,rfl,R0.same s2,ly,lz,ao,hn,qz2 nb (Am hri),λt l1 l2 ys1 ys2 H3 s3 _ _ _ ht h1 t1 h2 t2=>⟨s2.trans s3,?_⟩⟩;rw[qbn rs i r hri];exact Lds.snoc ⟨t,l1,l2,ys1,ys2,rfl,ht,h1,t1,h2,t2⟩ (ld.same s3)
  ·rintro zs H2 t H3 ⟨s2,ld⟩ n3
   rw[lx,Aw] at ld;exact q t zs H3 (s1.trans (s2.trans n3.same)) ((s1.trans s2).free n3.fresh) n3.at_ (ld.same n3.same)
noncomputable def qkx (a b:Option Int) (rs:List RD):List (List Int):=rs.flatMap (kOf a b)
noncomputable def qh0 (a b:Option Int) (rs:List RD):List (List Int):=rs.flatMap λr=>(pOf a b r).map (List.drop 2)
theorem qno {α β:Type} (f:α->List β) (rs:List α) (i:Nat) (r:α) (h:rs[i]?=some r):(rs.take (i+1)).flatMap f=(rs.take i).flatMap f ++ f r:=by
 rw[qbn rs i r h,B7];simp
theorem qqf {α β:Type} (f:α->List β) (rs:List α) (i:Nat):((rs.take i).flatMap f).length<=(rs.flatMap f).length:=by
 have e:=Fo i rs;have:rs.flatMap f=(rs.take i).flatMap f ++ (rs.drop i).flatMap f:=by rw[<- B7,e]
 rw[this,Ag];ext
theorem qnp {H H':Hp} (s:TupS H H'):∀ {xs:List V} {rs:List (List Int)},Tups H xs rs->Tups H' xs rs
 | _,_,.nil=>.nil
 | _,_,.cons ⟨a,e,h⟩ t=>.cons ⟨a,e,s _ _ h⟩ (qnp s t)
theorem Parts.get {H:Hp}:∀ {xs:List V} {rs:List (List Int)} {i:Nat} {x:V},Parts H xs rs->xs[i]?=some x->∃ r,rs[i]?=some r/\PartAt H x r
 | _,_,0,_,.cons h _,e=>by cases e;exact ⟨_,rfl,h⟩
 | _,_,i+1,_,.cons _ t,e=>Parts.get (i:=i) t e
inductive qCt (vs:List V) (H:Hp) (Q:VK) (E_:XK):Prop
 | mk:∀ (l:Addr) (zs:List V) (rs:List RD) (a b:Option Int),vs=[.ref l]->H l=some (.lst zs)->Lds H a b zs rs->rs.length<=900->(qkx a b rs).length<=900->(∀ p xs H',Same H H'->H' p=some (.lst xs)->Tups H' xs (qkx a b rs)->Q (.ref p) H')->qCt vs H Q E_
inductive qCu (vs:List V) (H:Hp) (Q:VK) (E_:XK):Prop
 | mk:∀ (l:Addr) (zs:List V) (rs:List RD) (a b:Option Int),vs=[.ref l]->H l=some (.lst zs)->Lds H a b zs rs->rs.length<=900->(qh0 a b rs).length<=900->(∀ p xs H',Same H H'->H' p=some (.lst xs)->Tups H' xs (qh0 a b rs)->Q (.ref p) H')->qCu vs H Q E_
include T in
theorem qch:qax P w K mg base 1 "known_heaps" ["laid"] qCt:=by
 obtain ⟨f,fd,F,hm⟩:=T.f_known_heaps;have nd:=sc_known_heaps.nd;refine F.def_ hm (F.ok sc_known_heaps (λvs H Q E h=>?_) (λcdv A outer s H vs Q E hr h=>?_)) (F.binds λ_ _ _ _ _ _ us hl=>by obtain ⟨_,rfl⟩:=L2.lq1 hl;rfl)
 ·obtain ⟨l,zs,rs,a,b,rfl,_⟩:=h;rfl
 ·obtain ⟨l,zs,rs,a,b,rfl,hl,ld,ln,lk,q⟩:=h
  have lx:=ld.length;exists _,(jB3 (jS 1 nd (qav qct)) (qbv AS rfl (qap (pv 0)) (jG2 (jN 2 nd) (jN 3 nd)) (qac (qaz (qe1 AO Di Dh qgm (pv 1) (jA1 (pv 2)))))) (qah (pv 1)));refine ⟨by show 0<=sizeLine;decide,λr H1 n1=>?_⟩;refine ⟨_,rfl,l,rfl,⟨_,SqL.of (n1.same _ _ hl)⟩,qbk (xs:=zs) (λi σ H'=>Same H H'/\∃ (ys:List V) (v w:Option V),H' r=some (.lst ys)/\Tups H' ys (qkx a b (rs.take i))/\σ=[some (.ref l),some (.ref r),v,w]) ⟨n1.same,[],none,none,n1.at_,.nil,rfl⟩ (λi σ H' _ h'=>SqL.of (h'.1 _ _ hl)) ?_ ?_⟩
  ·rintro i x σ H2 hi ⟨s2,ys,v,w,hr2,ty,rfl⟩
   obtain ⟨rd,hri,t,l1,l2,xs1,xs2,rfl,ht,h1,t1,h2,t2⟩:=ld.get hi;have e1:qkx a b (rs.take (i+1))=qkx a b (rs.take i) ++ kOf a b rd:=qno _ _ _ _ hri;have l3:=qqf (kOf a b) rs (i+1);have e1':(rs.take (i+1)).flatMap (kOf a b)=qkx a b (rs.take i) ++ kOf a b rd:=e1;rw[e1',Ag] at l3;have lk':(rs.flatMap (kOf a b)).length<=900:=lk;have m1:=ty.length;have m2:=t1.length;exists t,_,rfl,SqT.of (s2 _ _ ht),rfl,_,_,rfl,_,_,rfl,rfl;refine ⟨_,rfl,.inl ⟨rfl,_,SqL.of hr2⟩,_,rfl,r,l1,ys,xs1,rfl,rfl,hr2,s2 _ _ h1,AB (qai (by ext)),λH3 b3 h3=>?_⟩;have ts:TupS H2 H3:=λx xs e=>b3 _ _ e (qa0 e hr2 (by intro z;cases z))
   refine ⟨b3.same s2 n1.fresh,_,_,_,h3,?_,rfl⟩;rw[e1];exact Tups.app (qnp ts ty) (qnp ts (t1.same s2))
  ·rintro σ H2 ⟨s2,ys,v,w,hr2,ty,rfl⟩
   rw[lx,Aw] at ty;exact ⟨_,rfl,q r ys H2 s2 hr2 ty⟩
include T in
theorem qcx:qax P w K mg base 1 "part_heaps" ["laid"] qCu:=by
 obtain ⟨f,fd,F,hm⟩:=T.f_part_heaps;have nd:=sc_part_heaps.nd;refine F.def_ hm (F.ok sc_part_heaps (λvs H Q E h=>?_) (λcdv A outer s H vs Q E hr h=>?_)) (F.binds λ_ _ _ _ _ _ us hl=>by obtain ⟨_,rfl⟩:=L2.lq1 hl;rfl)
 ·obtain ⟨l,zs,rs,a,b,rfl,_⟩:=h;rfl
 ·obtain ⟨l,zs,rs,a,b,rfl,hl,ld,ln,lk,q⟩:=h
  have lx:=ld.length;exists _,(jB3 (jS 1 nd (qav qct)) (qbv AS rfl (qap (pv 0)) (jG2 (jN 2 nd) (jN 3 nd)) (qac (qaz (qe1 AO Di Dh qgm (pv 1) (jA1 (qcn (vars:=[ "part" ]) (frees:=[]) (fv:=[]) rfl (jL0 rfl) trivial (qap (pv 3)) (qbx (by decide)) (λ_ _ _ _=>(jM 0 [ "part" ])) (λ_ _ _ _=>qat) (λ_ _ _ _=>(qc9 (show IxR _ (qk3 K) from qcl) (pv 0) qaa (λ_ _=>rfl))))))))) (qah (pv 1)));refine ⟨by show 0<=sizeLine;decide,λr H1 n1=>?_⟩;refine ⟨_,rfl,l,rfl,⟨_,SqL.of (n1.same _ _ hl)⟩,qbk (xs:=zs) (λi σ H'=>Same H H'/\∃ (ys:List V) (v w:Option V),H' r=some (.lst ys)/\Tups H' ys (qh0 a b (rs.take i))/\σ=[some (.ref l),some (.ref r),v,w]) ⟨n1.same,[],none,none,n1.at_,.nil,rfl⟩ (λi σ H' _ h'=>SqL.of (h'.1 _ _ hl)) ?_ ?_⟩
  ·rintro i x σ H2 hi ⟨s2,ys,v,w,hr2,ty,rfl⟩
   obtain ⟨rd,hri,t,l1,l2,xs1,xs2,rfl,ht,h1,t1,h2,t2⟩:=ld.get hi;have e1:qh0 a b (rs.take (i+1))=qh0 a b (rs.take i) ++ (pOf a b rd).map (List.drop 2):=qno _ _ _ _ hri;have l3:=qqf (λr=>(pOf a b r).map (List.drop 2)) rs (i+1);have e1':(rs.take (i+1)).flatMap (λr=>(pOf a b r).map (List.drop 2))=qh0 a b (rs.take i) ++ (pOf a b rd).map (List.drop 2):=e1;rw[e1',Ag,Aa] at l3;have lk':(rs.flatMap λr=>(pOf a b r).map (List.drop 2)).length<=900:=lk;have m1:=ty.length;have m2:=t2.length;have h22:=s2 _ _ h2;have t22:=t2.same s2;exists t,_,rfl,SqT.of (s2 _ _ ht),rfl,_,_,rfl,_,_,rfl,rfl;refine ⟨_,rfl,.inl ⟨rfl,_,SqL.of hr2⟩,_,rfl,l2,rfl,⟨_,SqL.of h22⟩,qbm (xs:=xs2) (λj us H3=>H3=H2/\Tups H2 us (((pOf a b rd).take j).map (List.drop 2))) (AB (qai (by ext))) ⟨rfl,.nil⟩ (λj us H3 h3=>⟨SqL.of (by rw[h3.1];exact h22),by rw[h3.2.length,Aa,AU];ext⟩) ?_ ?_⟩
   ·rintro j u us H3 hj ⟨rfl,tu⟩
    obtain ⟨pr,hpr,p,q',rfl,hp,hq'⟩:=Parts.get t22 hj;refine qc1 (ql6 (qdk ?_));exists _,rfl,p,_,_,_,rfl,rfl,SqT.of hp,rfl,rfl;rw[qbn _ j pr hpr,Ao];exact Tups.snoc ⟨q',rfl,hq'⟩ tu
   rintro us H3 lu H4 ⟨rfl,tu⟩ n4;rw[m2,Aw] at tu;have hr4:=n4.same _ _ hr2;have lu':=tu.length;rw[Aa] at lu';refine ⟨r,lu,ys,us,rfl,rfl,hr4,n4.at_,AB (qai (by ext)),λH5 b5 h5=>?_⟩;have ts:TupS H4 H5:=λx xs e=>b5 _ _ e (qa0 e hr4 (by intro z;cases z))
   refine ⟨b5.same (s2.trans n4.same) n1.fresh,_,_,_,h5,?_,rfl⟩;rw[e1];exact Tups.app (qnp ts (ty.same n4.same)) (qnp ts (tu.same n4.same))
  ·rintro σ H2 ⟨s2,ys,v,w,hr2,ty,rfl⟩
   rw[lx,Aw] at ty;exact ⟨_,rfl,q r ys H2 s2 hr2 ty⟩
inductive qgi (C R:Addr) (vs:List V) (H:Hp) (Q:VK) (E_:XK):Prop
 | mk:∀ (k:Nat) (l:Addr) (xs:List V) (rs:List RD) (a b:Option Int) (hs ps:List HP4),vs=[.str (wd k),.ref l,gv a,gv b]->k<5->H l=some (.lst xs)->Rds C R H xs rs->rs.length<=900->¬ qzo (gMx rs) a->qkx a b rs=hs.map j4->qh0 a b rs=ps.map j4->HsOk hs->PsOk ps->(∀ t x y H',Same H H'->H' t=some (.tup [x,y])->qkw H' k hs ps x y->Q (.ref t) H')->qgi C R vs H Q E_
include T in
theorem qz3:∃ f fd dT o n,qjr P w K mg base (CX1 P w) 6 f fd ["word", "rolls", "a", "b"] (qgi C_Roll C_Rule)/\FunD K "asked" "asked" qol (.ref dT) f fd/\mg "asked" = some (.ref f)/\fd.defaults=.ref dT/\K.lookup dT=some o/\o.data=.seq #[.none,.none] n:=by
 obtain ⟨f,fd,dT,o,n,F,M,h1,h2,h3⟩:=T.f_asked;have nd:=sc_asked.nd;refine ⟨f,fd,dT,o,n,(F.okX sc_asked (λvs H Q E h=>?_) (λcdv A outer s H vs Q E hr h=>?_)),F,M,h1,h2,h3⟩
 ·obtain ⟨k,l,xs,rs,a,b,hs,ps,rfl,_⟩:=h;rfl
 ·obtain ⟨k,l,xs,rs,a,b,hs,ps,rfl,hk,hl,rd,ln,nb,ek,ep,ok,pok,q⟩:=h
  exists _,(jB3 (jS 4 nd (jF (quk T) hr (jA1 (pv 0)))) (jS 5 nd (jF (qjo T) hr (jA3 (pv 1) (pv 2) (pv 3)))) (qah (qpl (qjs (pv 4) T.cl_HowMany (qjw T) (hr.mono (by decide)) (jA2 (jF (qch T) hr (jA1 (pv 5))) (jF (qcx T) hr (jA1 (pv 5))))) (qpl (qjs (pv 4) T.cl_Total (qnm T) (hr.mono (by decide)) (jA2 (jF (qch T) hr (jA1 (pv 5))) (jF (qcx T) hr (jA1 (pv 5))))) (qpl (qjs (pv 4) T.cl_Least (qnn T) (hr.mono (by decide)) (jA2 (jF (qch T) hr (jA1 (pv 5))) (jF (qcx T) hr (jA1 (pv 5))))) (qpl (qjs (pv 4) T.cl_Greatest (qjm T) (hr.mono (by decide)) (jA2 (jF (qch T) hr (jA1 (pv 5))) (jF (qcx T) hr (jA1 (pv 5))))) (qjs (pv 4) T.cl_Mean (qot T) (hr.mono (by decide)) (jA2 (jF (qch T) hr (jA1 (pv 5))) (jF (qcx T) hr (jA1 (pv 5)))))))))));refine ⟨_,rfl,k,rfl,hk,λme dx H1 s1 hme=>?_⟩;have hl1:=s1 _ _ hl;have rd1:=rd.same s1;refine ⟨_,rfl,_,rfl,_,rfl,l,xs,rs,a,b,rfl,hl1,rd1,ln,nb,λt zs H2 s2 _ ht ld=>?_⟩;have lk:(qkx a b rs).length<=900:=by rw[ek,Aa];have:=ok.1;ext
  have lp:(qh0 a b rs).length<=900:=by rw[ep,Aa];have:=pok.2.1.1;ext
  refine qGe (sp:=qd6) k hk ⟨_,rfl,me,dx,_,rfl,s2 _ _ hme,rfl,_,rfl,t,zs,rs,a,b,rfl,ht,ld,ln,lk,λp1 x1 H3 s3 h3 t3=>⟨_,rfl,t,zs,rs,a,b,rfl,s3 _ _ ht,ld.same s3,ln,lp,λp2 x2 H4 s4 h4 t4=>?_⟩⟩;rw[ek] at t3;rw[ep] at t4;exact ⟨me,p1,p2,x1,x2,hs,ps,rfl,s4 _ _ h3,t3.same s4,ok,h4,t4,pok,λt x y H5 s5 h5 told=>q t x y H5 (s1.trans (s2.trans (s3.trans (s4.trans s5)))) h5 told⟩
include T in
theorem qnq:qE6 P w K mg base 6 "asked" ["word", "rolls", "a", "b"] [] (qgi C_Roll C_Rule):=by
 obtain ⟨f,fd,dT,o,n,hf,F,M,h1,h2,h3⟩:=qz3 (P:=P) (w:=w) (base:=base) T;refine ⟨f,fd,hf,M,F.kp,qn9 h1 h2 h3 λus hl=>?_⟩;obtain ⟨oc,od,kV,doc,pm,an,cdv,ct,osl,rfl,lk,hcd⟩:=F.ex;obtain ⟨_,_,_,_,rfl⟩:=L2.lq4 (us:=us) (by simpa using hl);exact ⟨_,rfl,rfl⟩
def qwm (cell:Int->Option (Int×Int)) (r:List Int):List Int:=match cell (r.headD 0) with
 | none=>[]
 | some p=>[p.1,p.2]
theorem qz4 (hx:Ed x) (hy:Ed y):gE x (gE x y)=gE x y:=by
 rcases hx with rfl|⟨i,rfl⟩<;>rcases hy with rfl|⟨j,rfl⟩<;>try rfl
 ·show V.int (if i>i then i else i)=V.int i
  split<;>rfl
 ·show V.int (if (if j>i then j else i)>i then (if j>i then j else i) else i)=V.int (if j>i then j else i)
  congr 1
  repeat' split
  all_goals ext
theorem qqg:∀ {xs ys:List V},(∀ v∈xs,Ed v)->(∀ v∈ys,Ed v)->List.zipWith gE xs (List.zipWith gE xs ys)=List.zipWith gE xs ys
 | [],ys,_,_=>by simp
 | x :: xs,[],_,_=>rfl
 | x :: xs,y :: ys,h1,h2=>by
  simp only[CK];rw[qz4 (h1 x Ae) (h2 y Ae),qqg (λv hv=>h1 v (Ad _ hv)) λv hv=>h2 v (Ad _ hv)]
theorem RR.skeys {c:qa2} {s:Abs} (h:RR C R H ro c s LY LZ):∃ my mz,SKeys s.y my/\SKeys s.z mz/\(∀ k∈my,k.length=2)/\∀ k∈mz,k.length=2:=by
 obtain ⟨Y,Z,A,B⟩:=h;obtain ⟨ks,dk,_⟩:=B.yk;obtain ⟨js,dj,_⟩:=B.zk;have hy:∀ k,k∈ks↔s.y k≠none:=λk=>by rw[dk.mem,B.yv];cases s.y k<;>simp
 have hz:∀ k,k∈js↔s.z k≠none:=λk=>by rw[dj.mem];exact qxv B k
 obtain ⟨my,sy,_⟩:=qey dk.nd hy;obtain ⟨mz,sz,_⟩:=qey dj.nd hz;exact ⟨my,mz,sy,sz,λk hk=>dk.ne k ((hy k).mpr ((sy.mem k).mp hk)),λk hk=>dj.ne k ((hz k).mpr ((sz.mem k).mp hk))⟩
def TagL (s:Abs) (T:List (List Int)):Prop:=(∀ k,s.y k≠none->(0 :: k)∈T)/\∀ k,s.z k≠none->(1 :: k)∈T
theorem TagL.of {cell:Int->Option (Int×Int)} {s:Abs} {rs:List Rd3} (h:Tags cell s rs):TagL s (rs.map (qf3 cell)):=
 ⟨λk hk=>let ⟨r,hr,e⟩:=h.1 k hk;Ah.mpr ⟨r,hr,e⟩,λk hk=>let ⟨r,hr,e⟩:=h.2 k hk;Ah.mpr ⟨r,hr,e⟩⟩
theorem qwn {s:Abs} {T:List (List Int)} (tg:TagL s T) (hy:SKeys s.y my) (hz:SKeys s.z mz):my.length+mz.length<=T.length:=by
 have nd:(my.map (λk=>(0:Int) :: k) ++ mz.map (λk=>(1:Int) :: k)).Nodup:=by
  rw[DZ];refine ⟨?_,?_,λa ha b hb e=>?_⟩
  ·rw[BA,BF];exact hy.nd.imp λhne e=>hne (by injection e)
  ·rw[BA,BF];exact hz.nd.imp λhne e=>hne (by injection e)
  ·obtain ⟨k,_,rfl⟩:=Ah.mp ha
   obtain ⟨l,_,rfl⟩:=Ah.mp hb;injection e with e _
   ext
 have sub:(my.map (λk=>(0:Int) :: k) ++ mz.map (λk=>(1:Int) :: k)) ⊆ T:=λx hx=>by
  rcases AK.mp hx with h|h
  ·obtain ⟨k,hk,rfl⟩:=Ah.mp h
   exact tg.1 k ((hy.mem k).mp hk)
  ·obtain ⟨k,hk,rfl⟩:=Ah.mp h
   exact tg.2 k ((hz.mem k).mp hk)
 have:=Bq nd sub
 simpa using this
theorem qz5 {cell:Int->Option (Int×Int)} {s:Abs} {N:Int} (h:AbsB B N s) (hB:B<10 ^ 46) (hN:N<10 ^ 45) (sy:SKeys s.y my) (sz:SKeys s.z mz):qmu cell my (my.map (qwm cell) ++ mz.map (qwm cell)) (qbg s) (qa4 s):=by
 refine ⟨λr hr=>?_,λr hr=>?_⟩
 ·rw[<- qcg sy] at hr
  obtain ⟨k,hk,rfl⟩:=Ah.mp hr
  cases e:s.y k with
  | none=>exact absurd e ((sy.mem k).mp hk)
  | some n =>
   obtain ⟨t,v,rfl,h1,h2,h3,h4⟩:=h.y k n e;refine ⟨t,v,n,by unfold qf2;rw[e];rfl,⟨by unfold qpn;dsimp only;ext,by unfold qv0;dsimp only;ext⟩,hk,λa w ec=>AE _ (Ah.mpr ⟨_,hk,?_⟩)⟩;unfold qwm;dsimp only [List.headD];rw[ec]
 ·rw[<- qb1 sz] at hr
  obtain ⟨k,hk,rfl⟩:=Ah.mp hr
  cases e:s.z k with
  | none=>exact absurd e ((sz.mem k).mp hk)
  | some x =>
   obtain ⟨a,w,rfl,h1,h2⟩:=h.z k x e;refine ⟨a,w,x.1,x.2.1,x.2.2.1,x.2.2.2,by unfold qec i4;rw[e];rfl,by unfold qpn;ext,λb w' ec=>As _ (Ah.mpr ⟨_,hk,?_⟩)⟩;unfold qwm;dsimp only [List.headD];rw[ec]
inductive qjp (C R:Addr) (vs:List V) (H:Hp) (Q:VK) (E_:XK):Prop
 | mk:∀ (ro:Addr) (c:qa2) (s:Abs) (LY LZ LY' LZ':List (List Int)) (d:Int) (fs:List Int) (fg:Option Int),vs=[.ref ro,.int d]->RR C R H ro c s LY LZ->qem c->EdS (c.es.map V.int ++ [gv c.ge]) c.es c.ge->Bd c.day->Bd d->c.day<=d->LY.length<64->LZ.length<64->EdS (List.zipWith gE (eV c.ps c.g d) (c.es.map V.int ++ [gv c.ge])) fs fg->LY'.length<64->LZ'.length<64->qmu (qa1 (c.ps.map (·.2)) fs fg) LY' LZ' (qbg s) (qa4 s)->(∀ r' c' H',c'.ps=c.ps->c'.g=c.g->c'.day=d->c'.es=fs->c'.ge=fg->qem c'->RR C R H' r' c' (qfq (qa1 (c.ps.map (·.2)) fs fg) qmr (qbg s) (qa4 s)) LY' LZ'->Same H H'->(H c'.dy=none/\H c'.dh=none)->(c'.ru=c.ru/\c'.rl=c.rl/\H c'.le=none)->Q (.ref r') H')->qjp C R vs H Q E_
include T in
theorem qx1:qax P w K mg base 7 "aged" ["roll", "day"] (qjp C_Roll C_Rule):=by
 obtain ⟨f,fd,F,hm⟩:=T.f_aged;have nd:=sc_aged.nd;refine F.def_ hm (F.ok sc_aged (λvs H Q E h=>?_) (λcdv A outer s H vs Q E hr h=>?_)) (F.binds λ_ _ _ _ _ _ us hl=>by obtain ⟨_,_,rfl⟩:=L2.lq2 hl;rfl)
 ·obtain ⟨ro,c,s',LY,LZ,LY',LZ',d,fs,fg,rfl,_⟩:=h;rfl
 ·obtain ⟨ro,c,s',LY,LZ,LY',LZ',d,fs,fg,rfl,R0,ok,E0',hd0,hd,hle,ly,lz,Ef,ly',lz',tk,q⟩:=h
  obtain ⟨dx,hob⟩:=R0.obj;obtain ⟨Y0,Z0,A0,B0⟩:=id R0;have hEl:(c.es.map V.int ++ [gv c.ge]).length=c.ps.length+1:=by simp[ok.es]
  have g5:=ok.pr.good.hi;exists _,(jB4 (qau (jC qc8 (pv 1) (qcm (pv 0) T.cl_Roll (qgs T) (hr.mono (by decide)))) (qac qbt) qak) (jS 2 nd (jF (quh T) hr (jA3 (qcm (pv 0) T.cl_Roll (qjh T) (hr.mono (by decide))) (pv 1) (qcm (pv 0) T.cl_Roll (qdg T) (hr.mono (by decide)))))) (qaz (qjs (pv 2) T.cl_Roll (qev T) (hr.mono (by decide)) (jA1 (pv 0)))) (qah (pv 2)))
  walk_at "r"
  exists ro,dx,_,rfl,hob,qoh _ _ _ _ _,ro,_,rfl,A0
  walk_at "r"
  refine qb3 (λz=>absurd (AM z) (by show ¬ d<c.day;ext)) λ_=>?_
  walk_at "r"
  exists ro,dx,_,rfl,hob,qpv _ _ _ _ _,ro,_,rfl,A0
  walk_at "r"
  refine ⟨ro,dx,_,rfl,hob,qfz _ _ _ _ _,ro,_,rfl,A0,λle H3 n3=>?_⟩;have s03:=n3.same;refine ⟨c.ru,c.rl,le,c.ps,c.g,d,_,c.es,c.ge,rfl,A0.rule.same s03,ok.pr,hd,n3.at_,E0'.ed,AL (DX hEl) (by ext),hEl,E0',ok.es,λr' c' H4 A4 e1 e2 e3 eY eZ Ec hcl s4 f1 f2 w1=>?_⟩;obtain ⟨z1,z2⟩:=EdS.uniq Ec Ef;have okc:qem c':=⟨by rw[e1,e2];exact ok.pr,by rw[hcl,e1]⟩;have ec:{ c' with Y:=[],Z:=[] }=c':=by
   cases c'
   simp only at eY eZ;rw[eY,eZ]
  have R4:RR C_Roll C_Rule H4 r' c' qmr LY' LZ':=⟨[],[],by rw[ec];exact A4,RAbs.zero rfl rfl⟩;have s04:=s03.trans s4;have ecell:cellD c'=qa1 (c.ps.map (·.2)) fs fg:=by unfold cellD;rw[e1,z1,z2]
  obtain ⟨dx4,hob4⟩:=R4.obj;obtain ⟨⟨Yr,hYr⟩,⟨Zr,hZr⟩⟩:=(R0.same s03).dicts
  walk_at "r"
  exists r',dx4,_,rfl,hob4,qe5 _ _ _ _ _ (by decide +kernel) (by decide +kernel) (by decide +kernel) (by decide +kernel) (by decide +kernel)
  walk_at "r"
  refine ⟨r',ro,c',c,qmr,s',LY',LZ',LY,LZ,rfl,R4,R0.same s04,okc,⟨qae hYr f1,qae hYr f2,qae hZr f1,qae hZr f2⟩,ly',lz',ly,lz,by rw[ecell];exact tk,λH5 R5 b5=>?_⟩;rw[ecell] at R5
  walk_at "r"
  exact q r' c' H5 e1 e2 e3 z1 z2 okc R5 (λb o e=>b5 _ _ (s04 _ _ e) (qae (s03 _ _ e) f1) (qae (s03 _ _ e) f2)) ⟨s03.free f1,s03.free f2⟩ ⟨w1.1,w1.2.1,s03.free w1.2.2⟩
theorem qqh {s u:TS} (h:∀ N:St->Hp->Prop,(∀ σ' H',u D σ' H'->N σ' H')->s { D with nx:=N } σ H):qcj s u D σ H:=h (u D) λ_ _ z=>z
def GF (es:List Int) (ge:Option Int):Prop:=∀ z e0,ge=some z->es[0]?=some e0->z<=e0
theorem qky (P:Pr ps g) (d:Int) (hz:(g.map λz=>cut d z (lw ps))=some z) (h0:(ps.map λp=>cut d p.1 p.2)[0]?=some e0):z<=e0:=by
 obtain ⟨y,rfl,rfl⟩:=Ar.mp hz;rw[An] at h0;obtain ⟨p,hp,rfl⟩:=Ar.mp h0;obtain ⟨q,hq,eq⟩:=P.last;have lo:=P.good.lo;have h1:=qiw P.good (ps.length-1) 0 p q hp (by rw[Nat.zero_add];exact hq);have h2:=P.gone q hq y rfl;have hp1:=(P.good.each 0 p hp).2;have hq1:=(P.good.each _ q hq).2;rw[eq];unfold cut;have f1:=qju (d-y) hq1;have f2:=qju (d-p.1) hp1;have dv:p.2 ∣ (d-y) / q.2*q.2:=Cv h1.2 (qg5 _ _);exact Cr λn=>by
  have:=qke hp1 dv (show (d-p.1) / p.2*p.2<(d-y) / q.2*q.2 by ext);have e:(d-p.1) / p.2*p.2 / p.2*p.2=(d-p.1) / p.2*p.2:=by rw[Int.mul_ediv_cancel _ (by ext)]
  rw[e] at this;ext
theorem qz6 {z:V} (hx:Ed x) (hy:Ed y) (hz:Ed z):gE x (gE y z)=gE y (gE x z):=by
 rcases hx with rfl|⟨i,rfl⟩<;>rcases hy with rfl|⟨j,rfl⟩<;>rcases hz with rfl|⟨k,rfl⟩<;>first
  | rfl
  | exact qtn (.inr ⟨_,rfl⟩) (.inr ⟨_,rfl⟩)
  | (show V.int (if (if k>j then k else j)>i then (if k>j then k else j) else i)=V.int (if (if k>i then k else i)>j then (if k>i then k else i) else j);congr 1;(repeat' split)<;>ext)
theorem qqi:∀ {xs ys zs:List V},(∀ v∈xs,Ed v)->(∀ v∈ys,Ed v)->(∀ v∈zs,Ed v)->List.zipWith gE xs (List.zipWith gE ys zs)=List.zipWith gE ys (List.zipWith gE xs zs)
 | [],ys,zs,_,_,_=>by cases ys<;>cases zs<;>rfl
 | _ :: _,[],zs,_,_,_=>by cases zs<;>rfl
 | _ :: _,_ :: _,[],_,_,_=>rfl
 | x :: xs,y :: ys,z :: zs,hx,hy,hz=>by
  simp only[CK];rw[qz6 (hx x Ae) (hy y Ae) (hz z Ae),qqi (λv hv=>hx v (Ad _ hv)) (λv hv=>hy v (Ad _ hv)) λv hv=>hz v (Ad _ hv)]
theorem qz7 (hx:Ed x):gE x x=x:=by
 rcases hx with rfl|⟨i,rfl⟩
 ·rfl
 ·show V.int (if i>i then i else i)=V.int i
  split<;>rfl
theorem qqj:∀ {xs:List V},(∀ v∈xs,Ed v)->List.zipWith gE xs xs=xs
 | [],_=>rfl
 | x :: xs,h=>by
  rw[CK,qz7 (h x Ae),qqj λv hv=>h v (Ad _ hv)]
theorem qz8 {a b:List Int} (g1 g2:Option Int) (h:a.length=b.length):Later b (List.zipWith mx a b) g2 (qn2 g1 g2) where
 len:=by rw[BP];ext
 up:=λi x y hx hy=>by
  obtain ⟨u,v,hu,hv,rfl⟩:=qt0 hy;rw[hx] at hv;cases hv;exact (qzn u x).2.1
 gn:=λz hz=>by
  subst hz
  cases g1 with
  | none=>exact ⟨z,rfl,Bi _⟩
  | some j=>exact ⟨mx j z,rfl,(qzn j z).2.1⟩
theorem RR.mono {c:qa2} {s:Abs} {LY' LZ':List (List Int)} (h:RR C R H ro c s LY LZ) (a:LY ⊆ LY') (b:LZ ⊆ LZ'):RR C R H ro c s LY' LZ':=
 let ⟨Y,Z,A,B⟩:=h;⟨Y,Z,A,B.mono a b⟩
def RT5 (r:Rd3):Prop:=T5 r.1/\RunT r.2
theorem RT5.lt (h:RT5 r):RLt r:=by
 obtain ⟨h1,h2⟩:=h;unfold T5 at h1;have h2:(-(10 ^ 31)<r.2.1/\r.2.1<10 ^ 31)/\1<=r.2.2/\r.2.2<10 ^ 31:=h2;exact ⟨h1,by ext,h2.2.1,by ext⟩
structure R47 (C R:Addr) (H:Hp) (r:Addr) (q:qa2) (ps:List (Int×Int)) (g:Option Int) (d:Int) (es:List Int) (ge:Option Int) (rs:List Rd3) (LY LZ:List (List Int)) (n:Nat):Prop where
 R:RR C R H r q (qa8 (qa1 (ps.map (·.2)) es ge) rs) LY LZ
 ok:qem q
 qp:q.ps=ps
 qg:q.g=g
 qd:q.day=d
 qe:q.es=es
 qh:q.ge=ge
 P:Pr ps g
 wb:∀ p∈ps,p.2<=10 ^ 35
 E:EdS (es.map V.int ++ [gv ge]) es ge
 F:Fall (ps.map (·.2)) es ge
 dom:List.zipWith gE (eV ps g d) (es.map V.int ++ [gv ge])=es.map V.int ++ [gv ge]
 hd:Bd d
 hr:∀ r∈rs,RT5 r
 rl:rs.length<=n
 ly:LY.length<=n
 lz:LZ.length<=n
 gf:GF es ge
theorem GF.max {a b:List Int} {h:Option Int} (l:a.length=b.length) (x:GF a g) (y:GF b h):GF (List.zipWith mx a b) (qn2 g h):=λz e0 hz h0=>by
 obtain ⟨u,v,hu,hv,rfl⟩:=qt0 h0;have m:=qzn u v
 cases g with
 | none=>cases h with
  | none=>cases hz
  | some j=>rw[<- Ax (show some j=some z from hz)];exact Dv (y j v rfl hv) m.2.1
 | some i=>cases h with
  | none=>rw[<- Ax (show some i=some z from hz)];exact Dv (x i u rfl hu) m.1
  | some j =>
   rw[<- Ax (show some (mx i j)=some z from hz)];have:=x i u rfl hu;have:=y j v rfl hv
   rcases (qzn i j).2.2 with e|e<;>rw[e]<;>ext
structure qCv (ps:List (Int×Int)) (g:Option Int) (D:Int) (EV:List V) (es:List Int) (ge:Option Int) (fs:List Int) (fg:Option Int):Prop where
 Ef:EdS (List.zipWith gE (eV ps g D) EV) fs fg
 F:Fall (ps.map (·.2)) fs fg
 L:Later es fs ge fg
 eq:List.zipWith gE (eV ps g D) EV=fs.map V.int ++ [gv fg]
 dom:List.zipWith gE (eV ps g D) (fs.map V.int ++ [gv fg])=fs.map V.int ++ [gv fg]
 E:EdS (fs.map V.int ++ [gv fg]) fs fg
 gf:GF fs fg
theorem qEs (P:Pr ps g) {D:Int} (hD:Bd D) {ge:Option Int} {EV:List V} (E:EdS EV es ge) (F:Fall (ps.map (·.2)) es ge) (G:GF es ge):∃ fs fg,qCv ps g D EV es ge fs fg:=by
 have l1:(ps.map λp=>cut D p.1 p.2).length=es.length:=by have:=F.len;rw[Aa] at this ⊢;exact this
 have M:=(EdS.of P hD).max E l1;have M':=M;rw[M.eq] at M';refine ⟨_,_,M,(Fall.of P D).max F,qz8 _ _ l1,M.eq,?_,M',GF.max l1 (λz e0=>qky P D) G⟩;rw[<- M.eq];exact qqg (EdS.of P hD).ed E.ed
section
variable {C R N:Addr} {H H':Hp} {r ru rl:Addr} {q:qa2} {ps ps2:List (Int×Int)} {g g2:Option Int} {d D:Int} {es fs:List Int} {ge fg:Option Int} {rs:List Rd3} {LY LZ:List (List Int)} {n:Nat} {Q:VK} {E:XK}
theorem R47.same (e:Same H H') (h:R47 C R H r q ps g d es ge rs LY LZ n):R47 C R H' r q ps g d es ge rs LY LZ n:={ h with R:=h.R.same e }
theorem R47.cellD (h:R47 C R H r q ps g d es ge rs LY LZ n):TB.cellD q=qa1 (ps.map (·.2)) es ge:=by unfold TB.cellD;rw[h.qp,h.qe,h.qh]
theorem R47.eq (h:R47 C R H r q ps g d es ge rs LY LZ n):q.es.map V.int ++ [gv q.ge]=es.map V.int ++ [gv ge]:=by rw[h.qe,h.qh]
theorem R47.len (h:R47 C R H r q ps g d es ge rs LY LZ n):1<=es.length:=by have:=h.F.len;have:=h.P.good.lo;rw[Aa] at *;ext
theorem R47.take (h:R47 C R H r q ps g d es ge rs LY LZ n) (h50:rs.length<=50) (cell':Int->Option (Int×Int)) :
  ∃ LY' LZ',LY'.length<=rs.length/\LZ'.length<=rs.length/\qmu cell' LY' LZ' (qbg (qa8 (qa1 (ps.map (·.2)) es ge) rs)) (qa4 (qa8 (qa1 (ps.map (·.2)) es ge) rs)):=by
 obtain ⟨my,mz,sy,sz,h2,hz2⟩:=h.R.skeys;have nr:qDf (10 ^ 36) (qa1 (ps.map (·.2)) es ge):=qtx (by rw[Aa];exact h.P.good.lo) h.len (by decide) λw hw=>by
  obtain ⟨p,hp,rfl⟩:=Ah.mp hw;obtain ⟨i,hi,e⟩:=BD hp;have:=h.wb p hp;exact ⟨(h.P.good.each i p (by rw[<- e];exact Ab hi)).2,by ext⟩
 have hab:=qtz nr rs (s:=qmr) (N:=0) qEk (by ext) λr hr=>(h.hr r hr).lt
 have hN:0+10 ^ 31*(rs.length:Int)<=10 ^ 33:=by ext
 have hab':AbsB (5*10 ^ 45+10 ^ 36) (10 ^ 33) (qa8 (qa1 (ps.map (·.2)) es ge) rs):=⟨λk n e=>by obtain ⟨t,v,e1,e2,e3,e4,e5⟩:=hab.y k n e;exact ⟨t,v,e1,e2,e3,e4,by ext⟩,hab.z⟩;have cnt:=qwn (TagL.of (qty (qa1 (ps.map (·.2)) es ge) rs)) sy sz;rw[Aa] at cnt;have tk:=qz5 (cell:=cell') hab' (by ext) (by ext) sy sz;exact ⟨_,_,by ext,by rw[Ag,Aa,Aa];ext,tk⟩
theorem R47.under (h:R47 C R H r q ps g d es ge rs LY LZ n) (h50:n<=50) (Ru:RuleAt R H ru rl ps2 g2) (P2:Pr ps2 g2) (hw:ps2.map (·.2)=ps.map (·.2)) (U:qCv ps2 g2 d (es.map V.int ++ [gv ge]) es ge fs fg) (k:∀ r' q' LY' LZ' H',Same H H'->R47 C R H' r' q' ps2 g2 d fs fg rs LY' LZ' n->(H q'.dy=none/\H q'.dh=none)->(q'.ru=ru/\q'.rl=rl/\H q'.le=none)->Q (.ref r') H'):qgt C R [.ref r,.ref ru] H Q E:=by
 have l1:=h.ly;have l2:=h.lz;have l0:=h.rl;obtain ⟨LY',LZ',l3,l4,tk⟩:=h.take (by ext) (qa1 (ps2.map (·.2)) fs fg);have ew:q.ps.map (·.2)=ps2.map (·.2):=by rw[h.qp,hw]
 have wb2:∀ p∈ps2,p.2<=10 ^ 35:=λp hp=>by
  have:p.2∈ps.map (·.2):=by rw[<- hw];exact Ah.mpr ⟨p,hp,rfl⟩
  obtain ⟨p',hp',e⟩:=Ah.mp this;rw[<- e];exact h.wb p' hp'
 refine ⟨r,ru,rl,q,_,LY,LZ,ps2,g2,fs,fg,LY',LZ',rfl,h.R,h.ok,by rw[h.eq,h.qe,h.qh];exact h.E,Ru,P2,by rw[h.qd];exact h.hd,by ext,by ext,ew,by rw[h.qd,h.eq];exact U.Ef,by ext,by ext,tk,λr' c' H' e1 e2 e3 e4 e5 ok' R' s f f2=>?_⟩;have F0:=h.F;rw[<- hw] at F0;have hT:=qub (qm6 F0 U.F U.L h.len) rs;rw[<- hw,hT] at R';exact k r' c' LY' LZ' H' s ⟨R',ok',e1,e2,by rw[e3,h.qd],e4,e5,P2,wb2,U.E,U.F,U.dom,h.hd,h.hr,l0,by ext,by ext,U.gf⟩ f f2
theorem R47.new {le dy dh:Addr} (P:Pr ps g) (wb:∀ p∈ps,p.2<=10 ^ 35) (hd:Bd d) (A:RollAt C R H' ro (qB6 ru rl le dy dh ps g d)):R47 C R H' ro (qB6 ru rl le dy dh ps g d) ps g d (ps.map λp=>cut d p.1 p.2) (g.map λz=>cut d z (TB.lw ps)) [] [] [] 0:=by
 have Ex:=EdS.of P hd;have Ex':=Ex;rw[Ex.eq] at Ex';refine ⟨⟨[],[],A,RAbs.zero rfl rfl⟩,⟨P,by show (ps.map _).length=ps.length;rw[Aa]⟩,rfl,rfl,rfl,rfl,rfl,P,wb,Ex',Fall.of P d,?_,hd,(by intro r h;cases h),Ak _,Ak _,Ak _,λz e0=>qky P d⟩;rw[<- Ex.eq];exact qqj Ex.ed
theorem R47.put {t:Rd3} (h:R47 C R H r q ps g d es ge rs LY LZ n) (h50:n<50) (ht:RT5 t) (k:∀ H' LY' LZ',R47 C R H' r q ps g d es ge (if (qa1 (ps.map (·.2)) es ge t.1).isSome=true then rs ++ [t] else rs) LY' LZ' (n+1)->But2 q.dy q.dh H H'->Q (.bl (qa1 (ps.map (·.2)) es ge t.1).isSome) H'):qf1 C R [.ref r,.int t.1,.int t.2.1,.int t.2.2] H Q E:=by
 have l0:=h.rl;have l1:=h.ly;have l2:=h.lz;have ht':=ht;obtain ⟨t1,t2⟩:=ht;unfold T5 at t1;have t2:(-(10 ^ 31)<t.2.1/\t.2.1<10 ^ 31)/\1<=t.2.2/\t.2.2<10 ^ 31:=t2;have ec:=h.cellD;refine (h.R.mono (Fp [t.1,t.2.1] _) (Fp (qEj (qa1 (ps.map (·.2)) es ge) t) _)).put h.ok (by unfold qpn;ext) t2.2.1 (by unfold qv0;dsimp only;ext) (by rw[AF];ext) (by rw[AF];ext) Ae (λa w e=>by rw[ec] at e;unfold qEj;rw[e];exact Ae) λH3 R3 b3=>?_
 rw[ec] at R3 ⊢;refine k H3 ([t.1,t.2.1] :: LY) (qEj (qa1 (ps.map (·.2)) es ge) t :: LZ) { h with R:=?_,hr:=?_,rl:=?_,ly:=by rw[AF];ext,lz:=by rw[AF];ext } b3
 ·split
  ·rw[qdv];exact R3
  ·rename_i e
   have e:qa1 (ps.map (·.2)) es ge t.1=none:=by
    cases e2:qa1 (ps.map (·.2)) es ge t.1 with
    | none=>rfl
    | some _=>rw[e2] at e;exact absurd rfl e
   have e3:qb4 (qa1 (ps.map (·.2)) es ge) (qa8 (qa1 (ps.map (·.2)) es ge) rs) t=qa8 (qa1 (ps.map (·.2)) es ge) rs:=by
    unfold qb4;rw[e]
   rw[e3] at R3;exact R3
 ·split
  ·exact λr hr=>(AK.mp hr).elim (h.hr r) λz=>by rw[AI.mp z];exact ht'
  ·exact h.hr
 ·split
  ·rw[Ag,A9];ext
  ·ext
theorem R47.aged (h:R47 C R H r q ps g d es ge rs LY LZ n) (h50:n<=50) (hD:Bd D) (hdD:d<=D) (U:qCv ps g D (es.map V.int ++ [gv ge]) es ge fs fg) (k:∀ r' q' LY' LZ' H',Same H H'->R47 C R H' r' q' ps g D fs fg rs LY' LZ' n->(H q'.dy=none/\H q'.dh=none)->(q'.ru=q.ru/\q'.rl=q.rl/\H q'.le=none)->Q (.ref r') H'):qjp C R [.ref r,.int D] H Q E:=by
 have l0:=h.rl;have l1:=h.ly;have l2:=h.lz;obtain ⟨LY',LZ',l3,l4,tk⟩:=h.take (by ext) (qa1 (ps.map (·.2)) fs fg);refine ⟨r,q,_,LY,LZ,LY',LZ',D,fs,fg,rfl,h.R,h.ok,by rw[h.eq,h.qe,h.qh];exact h.E,by rw[h.qd];exact h.hd,hD,by rw[h.qd];exact hdD,by ext,by ext,by rw[h.qp,h.qg,h.eq];exact U.Ef,by ext,by ext,by rw[h.qp];exact tk,λr' c' H' e1 e2 e3 e4 e5 ok' R' s f f2=>?_⟩;have hT:=qub (qm6 h.F U.F U.L h.len) rs;rw[h.qp,hT] at R';exact k r' c' LY' LZ' H' s ⟨R',ok',by rw[e1,h.qp],by rw[e2,h.qg],e3,e4,e5,h.P,h.wb,U.E,U.F,U.dom,hD,h.hr,l0,by ext,by ext,U.gf⟩ f f2
theorem But2.same {a b:Addr} {H0:Hp} (h:But2 a b H H') (s:Same H0 H) (ha:H0 a=none) (hb:H0 b=none):Same H0 H':=λx o e=>h x o (s x o e) (qae e ha) (qae e hb)
end
theorem R47.rd {r:Addr} {q:qa2} {ge:Option Int} {rs:List Rd3} {n:Nat} (h:R47 C R H r q ps g d es ge rs LY LZ n) (h50:n<=50):qEr C R H (.ref r) ⟨r,q,qa8 (qa1 (ps.map (·.2)) es ge) rs,LY,LZ,rs.length⟩:=by
 have l0:=h.rl;have l1:=h.ly;have l2:=h.lz;refine ⟨rfl,h.R,by show LY.length<64;ext,by show LZ.length<64;ext,AOk.all (λt a w e=>?_) rs (λr hr=>(h.hr r hr).2.ok),by show rs.length<=1000;ext⟩;unfold qa1 at e
 split at e
 ·rename_i hx
  have hc:=hx.choose_spec;rw[e] at hc
  rcases CellOf.some_ hc h.len (λw' hw'=>h.P.w1 hw') with z|z
  ·cases z;exact .inl rfl
  ·exact .inr z
 ·cases e
theorem RR.butL {c:qa2} {s:Abs} (h:RR C R H ro c s LY LZ) (b:But l H H') (hl:H l=some (.lst ys)) (n1:c.rl≠l) (n2:c.le≠l):RR C R H' ro c s LY LZ:=by
 obtain ⟨Y,Z,A,B⟩:=h;obtain ⟨dx,e1⟩:=A.ob;obtain ⟨dx2,e2⟩:=A.rule.ob;refine ⟨Y,Z,⟨⟨dx,b _ _ e1 (qa0 e1 hl (by intro z;cases z))⟩,A.rule.but b hl qtl (qa0 e2 hl (by intro z;cases z)) n1,b _ _ A.ed n2,b _ _ A.yo (qa0 A.yo hl (by intro z;cases z)),b _ _ A.he (qa0 A.he hl (by intro z;cases z)),A.ne⟩,B.tups (b.tup hl qtl)⟩
theorem qqk (D:qv5 ps g) {ms:List Int} (hl:ms.length=ps.length) (hs:ms.Pairwise (· <= ·)) (hb:∀ m∈ms,0<=m/\m<=10 ^ 16) {g2:Option Int} (hg:∀ z m,g2=some z->ms[ms.length-1]?=some m->m<=z/\z<=10 ^ 17):Pr (ms.zip (ps.map (·.2))) g2/\(ms.zip (ps.map (·.2))).map (·.2)=ps.map (·.2):=by
 have P:=D.pr;have lz:(ms.zip (ps.map (·.2))).length=ps.length:=by rw[Dz,Aa];ext
 have gt:∀ (i:Nat) z,(ms.zip (ps.map (·.2)))[i]?=some z->ms[i]?=some z.1/\∃ p,ps[i]?=some p/\p.2=z.2:=λi z h=>by
  obtain ⟨h1,h2⟩:=BY.mp h;rw[An] at h2;obtain ⟨p,hp,e⟩:=Ar.mp h2;exact ⟨h1,p,hp,e⟩
 have lo:=P.good.lo;obtain ⟨ml,hml⟩:∃ ml,ms[ms.length-1]?=some ml:=⟨_,Ab (by ext)⟩;have bl:=hb ml (Am hml);refine ⟨⟨⟨by ext,by rw[lz];exact P.good.hi,λi z h=>?_,λi z w h h'=>?_⟩,λi z h=>?_,λz h y hy=>?_,λz hz=>?_⟩,List.map_snd_zip (by rw[Aa];ext)⟩
 ·obtain ⟨h1,p,hp,e⟩:=gt i z h
  rw[<- e];exact ⟨(hb _ (Am h1)).1,(P.good.each i p hp).2⟩
 ·obtain ⟨h1,p,hp,e⟩:=gt i z h
  obtain ⟨h1',p',hp',e'⟩:=gt (i+1) w h';rw[<- e,<- e'];obtain ⟨a1,b1⟩:=Aj.mp h1;obtain ⟨a2,b2⟩:=Aj.mp h1';refine ⟨?_,(P.good.next i p p' hp hp').2⟩;rw[<- b1,<- b2];exact BX.mp hs i (i+1) a1 a2 (by ext)
 ·obtain ⟨h1,p,hp,e⟩:=gt i z h
  have:=hb _ (Am h1);have hsz:=P.size i p hp;rw[<- e];exact ⟨by ext,by ext,hsz.2.2⟩
 ·rw[lz,<- hl] at h
  exact (hg y z.1 hy (gt _ z h).1).1
 ·have:=hg z ml hz hml
  ext
inductive qkz (vs:List V) (H:Hp) (Q:VK) (E_:XK):Prop
 | mk:∀ (t l:Addr) (xs:List V) (ps:List (Int×Int)) (g:Option Int) (c:Int),vs=[.ref t,.int c]->H t=some (.tup [.ref l,gv g])->H l=some (.lst xs)->Pairs H xs ps->qv5 ps g->(∀ t2 l2 xs2 ps2 g2 H',Same H H'->H' t2=some (.tup [.ref l2,gv g2])->H' l2=some (.lst xs2)->Pairs H' xs2 ps2->Pr ps2 g2->ps2.map (·.2)=ps.map (·.2)->Q (.ref t2) H')->qkz vs H Q E_
include T in
theorem qnr:qax P w K mg base 2 "_law_other" ["_law_rule_here", "_law_cell_here"] qkz:=by
 obtain ⟨f,fd,F,hm⟩:=T.f__law_other;have nd:=sc__law_other.nd;refine F.def_ hm (F.ok sc__law_other (λvs H Q E h=>?_) (λcdv A outer s H vs Q E hr h=>?_)) (F.binds λ_ _ _ _ _ _ us hl=>by obtain ⟨_,_,rfl⟩:=L2.lq2 hl;rfl)
 ·obtain ⟨t,l,xs,ps,g,c,rfl,_⟩:=h;rfl
 ·obtain ⟨t,l,xs,ps,g,c,rfl,ht,hl,hx,D,q⟩:=h
  have P:=D.pr;obtain ⟨p,hp,ep⟩:=P.last;obtain ⟨v,hv,a,rfl,ha⟩:=hx.get' hp;have hlen:=hx.length;have h5:=P.good.hi;have lo:=P.good.lo;have hb:=D.each _ p hp;have hs:=P.size _ p hp;have hat:atI xs (-1)=some (.ref a):=qek (by rw[hlen];exact hv);exists _,(jB4 (jS 2 nd (qag qob rfl T.b_sorted qds (jA1 (qcn (vars:=[ "_law_x" ]) (frees:=[ "_law_rule_here" ]) (fv:=[0]) rfl (jL1 rfl) ⟨⟨rfl,.inl rfl,rfl,.inl rfl⟩,trivial⟩ (qap (jF (qbu T) hr (jA2 (pv 1) (qag qan rfl T.b_len qby (jA1 (jT (pv 0) qaa)))))) (qbx (by decide)) (λ_ _ _ _=>(jM 0 [ "_law_x", "_law_rule_here" ])) (λ_ _ _ _=>qat) (λ_ _ _ _=>(qad qar (pv 0) (qad qa3 (qc9 (show IxR _ (qk3 K) from qcl) (qc9 (show IxR _ (qAx K) from qk4) (qc9 (show IxR _ (qk3 K) from qcl) (pv 1) qaa (λ_ _=>rfl)) (qeb qck qaa) (λ_ _=>rfl)) qaa (λ_ _=>rfl)) qaa))))))) (qce (i:=3) (vars:=[ "_law_age", "_law_step" ]) (frees:=[]) (fv:=[]) nd rfl (Or.inl rfl) rfl (jL0 rfl) trivial (qj3 rfl T.b_zip (jA2 (pv 2) (jT (pv 0) qaa))) (qbf (by decide) (by decide)) (λ_ _ _ _=>(jG2 (jM 0 [ "_law_age", "_law_step" ]) (jM 1 [ "_law_age", "_law_step" ]))) (λ_ _ _ _=>qat) (λ_ _ _ _=>(qam (jA2 (pv 0) (qc9 (show IxR _ (qk3 K) from qcl) (pv 1) qaa (λ_ _=>rfl)))))) (qau (jC qbh (qad qar (pv 1) qaa) qaa) (qac (qah (qam (jA2 (pv 3) qay)))) qak) (qah (qam (jA2 (pv 3) (qad qa3 (jT (jI (pv 3) (qeb qck qaa)) qaa) (qad qar (pv 1) qaa))))))
  walk_at "r";intro ls ys H1 n1 hy hyb
  refine ⟨ls,rfl,⟨_,SqL.of n1.at_⟩,qbm (xs:=ys.map V.int) (λi zs H2=>Same H1 H2/\zs=((ys.take i).map λx=>x % (p.1+50)).map V.int) (AB (qai (by rw[Aa];ext))) ⟨Same.refl _,rfl⟩ (λi zs H2 h2=>⟨SqL.of (h2.1 _ _ n1.at_),by rw[h2.2];simp;ext⟩) ?_ ?_⟩
  ·rintro i x zs H2 hi ⟨s2,rfl⟩
   rw[An] at hi;obtain ⟨m,hm,rfl⟩:=Ar.mp hi;have s12:=n1.same.trans s2;have ht2:=s12 _ _ ht;have hl2:=s12 _ _ hl;have ha2:=s12 _ _ ha;refine qc1 (ql6 (qdk ?_))
   walk_at "r"
   rw[qbn ys i m hm,Ao,Ao];rfl
  rintro zs H2 lz H3 ⟨s2,rfl⟩ n3;rw[Aa,Aw] at n3;have hyl:((ys.map λx=>x % (p.1+50))).length=xs.length:=by rw[Aa,hy]
  refine ⟨lz,_,rfl,SqL.of n3.at_,by ext,λms lm H4 pm so n4=>?_⟩;have hml:ms.length=ps.length:=by rw[pm.length_eq,hyl,hlen]
  have mb:∀ m∈ms,0<=m/\m<=10 ^ 16:=λm hm=>by
   obtain ⟨x,_,rfl⟩:=Ah.mp (pm.mem_iff.mp hm);have:=Bh x (show p.1+50≠0 by ext);have:=A7 x (show 0<p.1+50 by ext);ext
  have s14:=s2.trans (n3.same.trans n4.same);have s04:=n1.same.trans s14;have ht4:=s04 _ _ ht;have hl4:=s04 _ _ hl;have hx4:=hx.same s04;have hm4:=n4.at_;clear n1 n3 n4 s14 pm
  walk_at "r"
  refine ⟨lm,l,ms.map V.int,xs,rfl,SqL.of hm4,SqL.of hl4,qtm (xs:=ms.map V.int) (λi zs H5=>Same H4 H5/\Pairs H5 zs ((ms.zip (ps.map (·.2))).take i)) (AB (qai (by rw[Aa];ext))) ⟨Same.refl _,.nil⟩ (λi zs H5 h5=>⟨SqL.of (h5.1 _ _ hm4),SqL.of (h5.1 _ _ hl4),by rw[h5.2.length,AU];ext⟩) ?_ ?_⟩
  ·rintro i x y zs H5 pa H6 hxi hyi n6 ⟨s5,tz⟩
   rw[An] at hxi;obtain ⟨m,hm,rfl⟩:=Ar.mp hxi;obtain ⟨pi,hpi,b,rfl,hb'⟩:=hx4.get hyi;have s6:=s5.trans n6.same;have hb6:=s6 _ _ hb';refine ⟨pa,_,rfl,SqT.of n6.at_,rfl,_,_,rfl,_,_,rfl,rfl,ql6 (qdk ?_)⟩
   walk_at "r";intro t7 H7 n7
   exists s6.trans n7.same;have hzi:(ms.zip (ps.map (·.2)))[i]?=some (m,pi.2):=BY.mpr ⟨hm,by rw[An,hpi];rfl⟩;rw[qbn _ i _ hzi];exact Pairs.snoc ⟨t7,rfl,n7.at_⟩ ((tz.same n6.same).same n7.same)
  rintro i zs H5 l2 H6 hi ⟨s5,tz⟩ n6;have hzl:(ms.zip (ps.map (·.2))).length=ps.length:=by rw[Dz,Aa];ext
  rw[BL (by rw[hzl,hi,Aa];ext)] at tz;have s06:=s04.trans (s5.trans n6.same);have t6:=tz.same n6.same;have h26:=n6.at_;obtain ⟨ml,hml'⟩:∃ ml,ms[ms.length-1]?=some ml:=⟨_,Ab (by ext)⟩;have bl:=mb ml (Am hml');clear n6 s5 tz s04 hx4 hl4 ht4 hm4
  walk_at "r"
  refine qb3 (λz=>?_) λz=>?_
  ·walk_at "r";intro t7 H7 n7
   obtain ⟨P2,w2⟩:=qqk D hml so mb (g2:=none) λz m e=>by cases e
   exact q t7 l2 zs _ none H7 (s06.trans n7.same) n7.at_ (n7.same _ _ h26) (t6.same n7.same) P2 w2
  ·have hw:∃ w,(ms.zip (ps.map (·.2)))[(ms.zip (ps.map (·.2))).length-1]?=some (ml,w):=by
    rw[hzl,<- hml];have hi:ms.length-1<(ps.map (·.2)).length:=by rw[Aa];ext
    exact ⟨(ps.map (·.2))[ms.length-1],BY.mpr ⟨hml',Ab hi⟩⟩
   obtain ⟨w,hw⟩:=hw;obtain ⟨u,hu,b,rfl,hb'⟩:=t6.get' hw;have hat2:atI zs (-1)=some (.ref b):=qek (by rw[t6.length];exact hu)
   walk_at "r";intro t7 H7 n7
   obtain ⟨P2,w2⟩:=qqk D hml so mb (g2:=some (ml+c % 90)) λz m e hm=>by cases e;rw[hml'] at hm;cases hm;ext
   exact q t7 l2 zs _ (some (ml+c % 90)) H7 (s06.trans n7.same) n7.at_ (n7.same _ _ h26) (t6.same n7.same) P2 w2
include T in
theorem qdj:qax P w K mg base 1 "_law_greater" ["_law_one", "_law_other_here"] qd4:=by
 obtain ⟨f,fd,F,hm⟩:=T.f__law_greater;have nd:=sc__law_greater.nd;refine F.def_ hm (F.ok sc__law_greater (λvs H Q E h=>?_) (λcdv A outer s H vs Q E hr h=>?_)) (F.binds λ_ _ _ _ _ _ us hl=>by obtain ⟨_,_,rfl⟩:=L2.lq2 hl;rfl)
 ·obtain ⟨a,b,xs,ys,rfl,_⟩:=h;rfl
 ·obtain ⟨a,b,xs,ys,rfl,ha,hb,hx,hy,hxy,hz,q⟩:=h
  have hzl:(List.zipWith gE xs ys).length=xs.length:=by rw[BP];ext
  exists _,(jB3 (jS 2 nd (qav qct)) (qbv AS rfl (qj3 rfl T.b_zip (jA2 (pv 0) (pv 1))) (jG2 (jN 3 nd) (jN 4 nd)) (qac (qau (jC qdo (pv 3) qay) (qac (qaz (qe1 AO A6 AZ qbb (pv 2) (jA1 (pv 4))))) (qac (qau (jC qdo (pv 4) qay) (qac (qaz (qe1 AO A6 AZ qbb (pv 2) (jA1 (pv 3))))) (qac (qaz (qe1 AO A6 AZ qbb (pv 2) (jA1 (qag (qdp rfl) rfl T.b_max qd8 (jA2 (pv 3) (pv 4)))))))))))) (qah (pv 2)))
  walk_at "r";intro l H1 n1;walk_at "r"
  refine ⟨a,b,xs,ys,rfl,SqL.of (n1.same _ _ ha),SqL.of (n1.same _ _ hb),qk8 (xs:=xs) (λi σ H2=>Same H H2/\∃ v3 v4,H2 l=some (.lst ((List.zipWith gE xs ys).take i))/\σ=[some (.ref a),some (.ref b),some (.ref l),v3,v4]) ⟨n1.same,none,none,n1.at_,rfl⟩ (λi σ H2 h2=>⟨SqL.of (h2.1 _ _ ha),SqL.of (h2.1 _ _ hb)⟩) ?_ ?_⟩
  ·rintro i x y σ H2 p H3 hxi hyi n3 ⟨s2,v3,v4,hl,rfl⟩
   have hzi:=zip_get hxi hyi;have hl3:=n3.same _ _ hl;have s3:=s2.trans n3.same;have hsm:((List.zipWith gE xs ys).take i).length<sizeLine:=qai (by rw[AU];ext);have fin:∀ H7,But l H3 H7->H7 l=some (.lst ((List.zipWith gE xs ys).take i ++ [gE x y]))->Same H H7/\∃ v3 v4,H7 l=some (.lst ((List.zipWith gE xs ys).take (i+1)))/\[some (V.ref a),some (V.ref b),some (V.ref l),some x,some y]=[some (V.ref a),some (V.ref b),some (V.ref l),v3,v4]:=λH7 b7 h7=>⟨b7.same s3 n1.fresh,_,_,by rw[qbn _ i _ hzi];exact h7,rfl⟩
   exists p,_,rfl,SqT.of n3.at_,rfl,_,_,rfl,_,_,rfl,rfl
   rcases hx x (Am hxi) with rfl|⟨i1,rfl⟩
   ·walk_at "r"
    exact λH7 b7 h7=>fin H7 b7 h7
   ·rcases hy y (Am hyi) with rfl|⟨j1,rfl⟩
    ·walk_at "r"
     exact λH7 b7 h7=>fin H7 b7 h7
    ·walk_at "r"
     exact λH7 b7 h7=>fin H7 b7 h7
  ·rintro i σ H2 hi ⟨s2,v3,v4,hl,rfl⟩
   have e:(List.zipWith gE xs ys).take i=List.zipWith gE xs ys:=BL (by rw[BP,hi];exact Ak _);rw[e] at hl;exact ⟨_,rfl,q l H2 ⟨s2,n1.fresh,hl⟩⟩
theorem Later.rf (es:List Int) (ge:Option Int):Later es es ge ge where
 len:=rfl
 up:=λi x y hx hy=>by rw[hx] at hy;cases hy;exact Bi _
 gn:=λz hz=>⟨z,hz,Bi _⟩
inductive qns (C R:Addr) (vs:List V) (H:Hp) (Q:VK) (E_:XK):Prop
 | mk:∀ (t l:Addr) (xs:List V) (ps:List (Int×Int)) (g:Option Int) (d:Int) (ro:Addr) (c:qa2) (es:List Int) (ge:Option Int) (rs:List Rd3) (LY LZ:List (List Int)) (n:Nat) (le:Addr) (x:Int),vs=[.ref t,.ref ro,.ref le,.int x]->H t=some (.tup [.ref l,gv g])->H l=some (.lst xs)->Pairs H xs ps->qv5 ps g->R47 C R H ro c ps g d es ge rs LY LZ n->n<=50->H le=some (.lst (es.map V.int ++ [gv ge]))->(∀ p ro' c' le' fs fg LY' LZ' H',Same H H'->H' p=some (.tup [.ref ro',.ref le'])->R47 C R H' ro' c' ps g d fs fg rs LY' LZ' n->H' le'=some (.lst (fs.map V.int ++ [gv fg]))->(H c'.dy=none/\H c'.dh=none/\H c'.rl=none/\H c'.le=none)->H le'=none->Q (.ref p) H')->qns C R vs H Q E_
include T in
theorem qou:qax P w K mg base 8 "_law_back" ["_law_rule_here", "_law_roll_here", "_law_edges_here", "_law_cell_here"] (qns C_Roll C_Rule):=by
 obtain ⟨f,fd,F,hm⟩:=T.f__law_back;have nd:=sc__law_back.nd;refine F.def_ hm (F.ok sc__law_back (λvs H Q E h=>?_) (λcdv A outer s H vs Q E hr h=>?_)) (F.binds λ_ _ _ _ _ _ us hl=>by obtain ⟨_,_,_,_,rfl⟩:=L2.lq4 hl;rfl)
 ·obtain ⟨t,l,xs,ps,g,d,ro,c,es,ge,rs,LY,LZ,n,le,x,rfl,_⟩:=h;rfl
 ·obtain ⟨t,l,xs,ps,g,d,ro,c,es,ge,rs,LY,LZ,n,le,x,rfl,ht,hl,hx,D,R0,h50,hle,q⟩:=h
  exists _,(jB4 (jS 4 nd (jF (qnr T) hr (jA2 (pv 0) (pv 3)))) (jS 5 nd (jF (qui T) hr (jA2 (pv 1) (ql7 (qln T) (hr.mono (by decide)) rfl .nil (jA2 (qdq qc3 rfl T.b_list qfl (jA1 (jT (pv 4) qaa))) (jT (pv 4) qaa)))))) (jS 2 nd (jF (qdj T) hr (jA2 (pv 2) (jF (qcw T) hr (jA2 (pv 4) (qcm (pv 1) T.cl_Roll (qgs T) (hr.mono (by decide)))))))) (qah (qam (jA2 (jF (qui T) hr (jA2 (pv 5) (ql7 (qln T) (hr.mono (by decide)) rfl .nil (jA2 (qdq qc3 rfl T.b_list qfl (jA1 (jT (pv 0) qaa))) (jT (pv 0) qaa))))) (pv 2)))));refine ⟨_,rfl,_,rfl,t,l,xs,ps,g,x,rfl,ht,hl,hx,D,λt2 l2 xs2 ps2 g2 H1 s1 ht2 hl2 hx2 P2 w2=>?_⟩;have R1:=R0.same s1;refine ⟨_,rfl,_,rfl,t2,_,_,_,rfl,rfl,SqT.of ht2,rfl,l2,xs2,rfl,.inl (SqL.of hl2),λlc H2 n2=>?_⟩;refine ⟨_,rfl,t2,_,_,_,rfl,rfl,SqT.of (n2.same _ _ ht2),rfl,λru dx H3 s3 f3 d3=>?_⟩;refine ⟨ru,dx,lc,xs2,ps2,g2,rfl,d3,s3 _ _ n2.at_,(hx2.same n2.same).same s3,P2.good,P2.gone,λrl H4 hrl R4 b4=>⟨rfl,?_⟩⟩;have s14:Same H1 H4:=n2.same.trans (b4.same s3 f3);have R4':=R1.same s14;have F2:=R0.F;rw[<- w2] at F2;obtain ⟨fs,fg,U⟩:=qEs P2 R0.hd R0.E F2 R0.gf;simp only[qj0,Bb,Bs,Bl];refine R4'.under h50 R4 P2 w2 U λr5 c5 LY5 LZ5 H5 s5 R5 fr5 _=>?_
  have s05:Same H H5:=s1.trans (s14.trans s5);have s15:Same H1 H5:=s14.trans s5;obtain ⟨dx0,hob0⟩:=(R0.R.same s05).obj;obtain ⟨Y0,Z0,A0,B0⟩:=id (R0.R.same s05);have eday:({ c with Y:=Y0,Z:=Z0 }:qa2).day=d:=R0.qd;exists _,rfl,_,rfl,_,rfl,ro,dx0,_,rfl,hob0,qoh _ _ _ _ _,ro,_,rfl,A0;rw[eday];refine ⟨t2,l2,xs2,ps2,g2,d,rfl,s15 _ _ ht2,s15 _ _ hl2,hx2.same s15,P2,R0.hd,λle2 H6 n6=>?_⟩;have E2:=EdS.of P2 R0.hd;have s06:=s05.trans n6.same;refine ⟨le,le2,_,_,rfl,s06 _ _ hle,n6.at_,R0.E.ed,E2.ed,?_,?_,λle3 H7 n7=>?_⟩
  ·rw[E2.eq]
   have l2:=F2.len;rw[Aa] at l2;simp only[Ag,Aa,A9];ext
  ·have l2:=F2.len
   rw[Aa] at l2;have:=P2.good.hi;simp only[Ag,Aa,A9];ext
  have key:List.zipWith gE (eV ps g d) (fs.map V.int ++ [gv fg])=fs.map V.int ++ [gv fg]:=by
   rw[<- U.eq,qqi (EdS.of D.pr R0.hd).ed E2.ed R0.E.ed,R0.dom]
  have U2:qCv ps g d (fs.map V.int ++ [gv fg]) fs fg fs fg:=⟨by rw[key];exact U.E,by rw[<- w2];exact U.F,Later.rf _ _,key,key,U.E,U.gf⟩;have n7':New H6 H7 le3 (.lst (fs.map V.int ++ [gv fg])):=by rw[<- U.eq,qlf E2.ed R0.E.ed];exact n7
  have s67:=n6.same.trans n7'.same;have s07:=s06.trans n7'.same;have hle3:=n7'.at_;have fle3:=s06.free n7'.fresh;have R7:=R5.same s67;have ht7:=s07 _ _ ht;have hl7:=s07 _ _ hl;have hx7:=hx.same s07;clear n7 n7' n6 A0 B0 hob0 R4 R4' R1 s14 b4 s3 f3 d3 n2 R5 s5 fr5 s15 s05 s06 hx2 ht2 hl2 s67;refine ⟨_,rfl,_,rfl,t,_,_,_,rfl,rfl,SqT.of ht7,rfl,l,xs,rfl,.inl (SqL.of hl7),λlc2 H8 n8=>?_⟩;refine ⟨_,rfl,t,_,_,_,rfl,rfl,SqT.of (n8.same _ _ ht7),rfl,λru2 dx2 H9 s9 f9 d9=>?_⟩;refine ⟨ru2,dx2,lc2,xs,ps,g,rfl,d9,s9 _ _ n8.at_,(hx7.same n8.same).same s9,D.pr.good,D.pr.gone,λrl2 H10 hrl2 R10 b10=>⟨rfl,?_⟩⟩;have s710:Same H7 H10:=n8.same.trans (b10.same s9 f9);simp only[qj0,Bb,Bs,Bl];refine (R7.same s710).under h50 R10 D.pr w2.symm U2 λr11 c11 LY11 LZ11 H11 s11 R11 fr11 fr12=>?_
  have s711:=s710.trans s11;have s010:=s07.trans s710;refine ⟨_,rfl,by show 2<=sizeLine;decide,λp H12 n12=>?_⟩;exact q p r11 c11 le3 fs fg LY11 LZ11 H12 (s07.trans (s711.trans n12.same)) n12.at_ (R11.same n12.same) (n12.same _ _ (s711 _ _ hle3)) ⟨s010.free fr11.1,s010.free fr11.2,by rw[fr12.2.1];exact (s07.trans (n8.same.trans s9)).free hrl2,s010.free fr12.2.2⟩ fle3
def qun (xs:List Int):Int:=xs.getLast?.getD 0
theorem qrp (xs:List Int) (w:Int):qun (xs ++ [w])=w:=by unfold qun;rw[List.getLast?_concat];rfl
inductive qnt (vs:List V) (H:Hp) (Q:VK) (E_:XK):Prop
 | mk:∀ (t l:Addr) (xs:List V) (ps:List (Int×Int)) (g:Option Int) (e:Addr) (es:List Int) (ge:Option Int) (tm:Int),vs=[.ref t,.ref e,.int tm]->H t=some (.tup [.ref l,gv g])->H l=some (.lst xs)->Pairs H xs ps->Pr ps g->H e=some (.lst (es.map V.int ++ [gv ge]))->Fall (ps.map (·.2)) es ge->GF es ge->qpn tm->(∀ v o H',CellOf (ps.map (·.2)) es ge tm o->qxl H' v o->Same H H'->Q v H')->qnt vs H Q E_
include T in
theorem qov:qax P w K mg base 1 "_law_cell" ["_law_rule_here", "_law_edges_here", "_law_time_here"] qnt:=by
 obtain ⟨f,fd,F,hm⟩:=T.f__law_cell;have nd:=sc__law_cell.nd;refine F.def_ hm (F.ok sc__law_cell (λvs H Q E h=>?_) (λcdv A outer s H vs Q E hr h=>?_)) (F.binds λ_ _ _ _ _ _ us hl=>by obtain ⟨_,_,_,rfl⟩:=L2.lq3 hl;rfl)
 ·obtain ⟨t,l,xs,ps,g,e,es,ge,tm,rfl,_⟩:=h;rfl
 ·obtain ⟨t,l,xs,ps,g,e,es,ge,tm,rfl,ht,hl,hx,P,he,F,gf,htm,q⟩:=h
  have hlen:=hx.length;have lo:=P.good.lo;have h5:=P.good.hi;have hel:es.length=ps.length:=by have:=F.len;rw[Aa] at this;exact this.symm
  obtain ⟨e0,h0⟩:∃ e0,es[0]?=some e0:=⟨_,Ab (by ext)⟩;have hlast:(es.map V.int ++ [gv ge])[(es.map V.int ++ [gv ge]).length-1]?=some (gv ge):=by simp
  obtain ⟨J,eJ⟩:∃ J:St->Hp->Prop,J=λσ H'=>H'=H/\¬ qcf ge tm/\σ=[some (.ref t),some (.ref e),some (.int tm),none,none,none]:=⟨_,rfl⟩
  exists _,(qsv J (qau (PW.pt (qfv (jC qd1 (jI (pv 1) (qeb qck qaa)) qay) (qd0 (jC qc8 (pv 2) (jI (pv 1) (qeb qck qaa)))))) (qac (qah qay)) qak) (jB4 (jS 3 nd qaa) (qbv AS rfl (qj3 rfl T.b_zip (jA2 (jT (pv 0) qaa) (pv 1))) (jG2 (jN 4 nd) (jN 5 nd)) (qac (qau (jC qc8 (pv 2) (pv 5)) (qac (jS 3 nd (jT (pv 4) qaa))) qak))) (qau (jC qbh (pv 3) qaa) (qac (qah (qam (jA2 (pv 2) qaa)))) qak) (qah (qam (jA2 (qad qbp (qad qdb (pv 2) (pv 3)) (pv 3)) (pv 3))))));refine And.intro ?_ ?_
  ·cases ge with
   | none =>
    walk_at "r"
    show J _ _
    rw[eJ];exact ⟨rfl,fun ⟨z,e,_⟩=>(by cases e),rfl⟩
   | some y =>
    walk_at "r"
    refine qb3 (λz=>?_) λz=>?_
    ·have z2:tm<y:=by simpa using z
     have:=gf y e0 rfl h0;exact q .non none H (CellOf.b h0 (by ext) ⟨y,rfl,z2⟩) rfl (Same.refl _)
    ·have z2:¬ tm<y:=by simpa using z
     show J _ _
     rw[eJ];exact ⟨rfl,fun ⟨z,e,h'⟩=>(by cases e;exact z2 h'),rfl⟩
  intro σ' H' j;rw[eJ] at j;obtain ⟨rfl,hg,rfl⟩:=j
  walk_at "r"
  refine ⟨l,e,xs,_,rfl,SqL.of hl,SqL.of he,qk8 (xs:=xs) (λi σ H2=>Same H' H2/\∃ v4 v5:Option V,σ=[some (.ref t),some (.ref e),some (.int tm),some (.int (qun (((((ps.map (·.2)).zip es).take i).filter λx=>decide (tm<x.2)).map (·.1)))),v4,v5]) ⟨Same.refl _,none,none,rfl⟩ (λi σ H2 h2=>⟨SqL.of (h2.1 _ _ hl),SqL.of (h2.1 _ _ he)⟩) ?_ ?_⟩
  ·rintro i x y σ H2 pa H3 hxi hyi n3 ⟨s2,v4,v5,rfl⟩
   obtain ⟨pi,hpi,a,rfl,ha⟩:=hx.get hxi;have hil:i<es.length:=by have:=(Aj.mp hxi).1;ext
   have hei:es[i]?=some es[i]:=Ab hil;have hwi:(ps.map (·.2))[i]?=some pi.2:=by rw[An,hpi];rfl
   rw[Bn (by rw[Aa];exact hil),An,hei] at hyi;cases hyi;have s3:=s2.trans n3.same;have ha3:=s3 _ _ ha;exists pa,_,rfl,SqT.of n3.at_,rfl,_,_,rfl,_,_,rfl,rfl
   walk_at "r"
   refine qb3 (λz=>?_) λz=>?_
   ·have z2:tm<es[i]:=by simpa using z
    exists _,rfl,a,_,1,_,rfl,rfl,SqT.of ha3,rfl;exact ⟨s3,_,_,by rw[qFc hwi hei z2,qrp];rfl⟩
   ·have z2:¬ tm<es[i]:=by simpa using z
    exact ⟨s3,_,_,by rw[qFd hwi hei z2];rfl⟩
  ·rintro i σ H2 hi ⟨s2,v4,v5,rfl⟩
   rw[qxk (by rw[Dz,Aa,hi,Ag,Aa];ext)];have hmem:=λw=>qpm (ws:=ps.map (·.2)) (es:=es) (t:=tm) (w:=w)
   by_cases c:e0<=tm
   ·have hno:wl (ps.map (·.2)) es tm=[]:=qB9 λx hx'=>by
     obtain ⟨k,hk,ek⟩:=BD hx';have:=F.dn 0 k e0 x (Bw _) h0 (by rw[<- ek];exact Ab hk);ext
    rw[hno]
    walk_at "r"
    intro p4 H4 n4;exact q (.ref p4) _ H4 (CellOf.a h0 c) ⟨p4,rfl,n4.at_⟩ (s2.trans n4.same)
   ·have hne:=qzh (ws:=ps.map (·.2)) (w0:=(ps[0]'(by ext)).2) (by rw[An,Ab (by omega:0<ps.length)];rfl) h0 (show tm<e0 by ext)
    obtain ⟨w',hw'⟩:∃ w',(wl (ps.map (·.2)) es tm)[(wl (ps.map (·.2)) es tm).length-1]?=some w':=⟨_,Ab (by ext)⟩;have el:qun (wl (ps.map (·.2)) es tm)=w':=by unfold qun;rw[C8,hw'];rfl
    obtain ⟨pp,hpp,hpw⟩:=Ah.mp (hmem w' (Am hw'));obtain ⟨k,hk,ek⟩:=BD hpp;have hs:=P.size k pp (by rw[<- ek];exact Ab hk);rw[hpw] at hs;rw[el];unfold qpn at htm;have hb:=qvx (x:=tm) (B:=10 ^ 46) hs.2.2.1 (by decide) (by ext) (by ext)
    walk_at "r"
    refine qb3 (λz=>?_) λz=>?_
    ·have:w'=0:=by simpa using z
     ext
    ·walk_at "r";intro p4 H4 n4
     exact q (.ref p4) _ H4 (CellOf.c h0 (by ext) hg hw') ⟨p4,rfl,n4.at_⟩ (s2.trans n4.same)
include T in
theorem qow:qax P w K mg base 1 "_law_heap" ["_law_runs"] qpq:=by
 obtain ⟨f,fd,F,hm⟩:=T.f__law_heap;have nd:=sc__law_heap.nd;refine F.def_ hm (F.ok sc__law_heap (λvs H Q E h=>?_) (λcdv A outer s H vs Q E hr h=>?_)) (F.binds λ_ _ _ _ _ _ us hl=>by obtain ⟨_,rfl⟩:=L2.lq1 hl;rfl)
 ·obtain ⟨l,xs,rs,rfl,_⟩:=h;rfl
 ·obtain ⟨l,xs,rs,rfl,hl,hp,ok,h1,h2,q⟩:=h
  exists _,(jB3 (jS 1 nd (qag (qcq rfl) rfl T.b_sum qe3 (jA1 (qcn (vars:=[ "_law_value", "_law_count" ]) (frees:=[]) (fv:=[]) rfl (jL0 rfl) trivial (qap (pv 0)) (qbf (by decide) (by decide)) (λ_ _ _ _=>(jG2 (jM 0 [ "_law_value", "_law_count" ]) (jM 1 [ "_law_value", "_law_count" ]))) (λ_ _ _ _=>qat) (λ_ _ _ _=>(pv 1)))))) (jS 2 nd (qag (qcq rfl) rfl T.b_sum qe3 (jA1 (qcn (vars:=[ "_law_value", "_law_count" ]) (frees:=[]) (fv:=[]) rfl (jL0 rfl) trivial (qap (pv 0)) (qbf (by decide) (by decide)) (λ_ _ _ _=>(jG2 (jM 0 [ "_law_value", "_law_count" ]) (jM 1 [ "_law_value", "_law_count" ]))) (λ_ _ _ _=>qat) (λ_ _ _ _=>(qad qbp (pv 0) (pv 1))))))) (qah (qam (jA4 (pv 1) (pv 2) (qag (qei rfl) rfl T.b_min qgy (jA1 (qcn (vars:=[ "_law_value", "_law_count" ]) (frees:=[]) (fv:=[]) rfl (jL0 rfl) trivial (qap (pv 0)) (qbf (by decide) (by decide)) (λ_ _ _ _=>(jG2 (jM 0 [ "_law_value", "_law_count" ]) (jM 1 [ "_law_value", "_law_count" ]))) (λ_ _ _ _=>qat) (λ_ _ _ _=>(pv 0))))) (qag (qdr rfl) rfl T.b_max qd8 (jA1 (qcn (vars:=[ "_law_value", "_law_count" ]) (frees:=[]) (fv:=[]) rfl (jL0 rfl) trivial (qap (pv 0)) (qbf (by decide) (by decide)) (λ_ _ _ _=>(jG2 (jM 0 [ "_law_value", "_law_count" ]) (jM 1 [ "_law_value", "_law_count" ]))) (λ_ _ _ _=>qat) (λ_ _ _ _=>(pv 0)))))))));have mulB:∀ p∈rs,CMulB p.1 p.2:=λp hp=>by
   have:=ok p hp;unfold qho at this;exact ⟨⟨by ext,by ext⟩,by ext,by ext⟩
  refine ⟨_,rfl,l,rfl,⟨_,SqL.of hl⟩,qb0 (λp=>p.2) hl hp h2 (λp hp Q' hq=>⟨_,rfl,hq⟩) λa1 H1 n1=>⟨a1,_,rfl,SqL.of n1.at_,?_⟩⟩;have hl1:=n1.same _ _ hl;have hp1:=hp.same n1.same;refine ⟨_,rfl,l,rfl,⟨_,SqL.of hl1⟩,qb0 (λp=>p.1*p.2) hl1 hp1 h2 (λp hp Q' hq=>⟨_,rfl,_,rfl,_,_,rfl,rfl,mulB p hp,hq⟩) λa2 H2 n2=>⟨a2,_,rfl,SqL.of n2.at_,?_⟩⟩;have hl2:=n2.same _ _ hl1;have hp2:=hp1.same n2.same;refine ⟨_,rfl,_,rfl,_,rfl,l,rfl,⟨_,SqL.of hl2⟩,qb0 (λp=>p.1) hl2 hp2 h2 (λp hp Q' hq=>⟨_,rfl,hq⟩) λa3 H3 n3=>⟨a3,_,rfl,SqL.of n3.at_,by simp;ext,λlo hlo hlo'=>?_⟩⟩;have hl3:=n3.same _ _ hl2;have hp3:=hp2.same n3.same;refine ⟨_,rfl,l,rfl,⟨_,SqL.of hl3⟩,qb0 (λp=>p.1) hl3 hp3 h2 (λp hp Q' hq=>⟨_,rfl,hq⟩) λa4 H4 n4=>⟨a4,_,rfl,SqL.of n4.at_,by simp;ext,λhi hhi hhi'=>?_⟩⟩
  walk_at "r";intro a H5 n5
  exact q a _ _ lo hi H5 ⟨rfl,rfl,hlo,hlo',hhi,hhi'⟩ (New.after (n1.same.trans (n2.same.trans (n3.same.trans n4.same))) n5)
theorem quo:∀ {kvs:KV} {i:Nat} {k:List Key} {v:V},(kvs.map (·.1)).Nodup->kvs[i]?=some (k,v)->qb8 kvs k=some v
 | [],_,_,_,_,h=>by simp at h
 | (k',v') :: t,0,k,v,_,h=>by
  simp at h
  obtain ⟨rfl,rfl⟩:=h
  simp[qb8]
 | (k',v') :: t,i+1,k,v,nd,h=>by
  have h':t[i]?=some (k,v):=by simpa using h
  rw[AR,BN] at nd;have hk:k'≠k:=λz=>nd.1 (by rw[z];exact Ah.mpr ⟨(k,v),Am h',rfl⟩)
  have:=quo nd.2 h';unfold qb8 at this ⊢;rw[List.find?_cons_of_neg (by simpa using hk)];exact this
theorem qwo (h:ks.Nodup):(ks.map kI).Nodup:=by
 rw[BA,BF];exact h.imp λhne e=>hne (qen e)
theorem qup {α:Type} {f:List Int->Option α} {kvs:KV} (sk:SKeys f ms) (dk:DKeys kvs ks) (h:∀ k,qb8 kvs (kI k)≠none↔f k≠none):ms.Perm ks:=by
 have nd:ms.Nodup:=sk.srt.imp fun {k l} hb e=>by rw[e,qfo] at hb;cases hb
 rw[C4 nd dk.nd];intro k;rw[sk.mem,dk.mem,h]
theorem qk0 {f:List Int->List Int} (hf:∀ k,∃ t,f k=k ++ t) (h2:∀ k∈ks,k.length=2) (nd:ks.Nodup):(ks.map f).Nodup:=by
 rw[BA,BF];refine List.Pairwise.imp_of_mem (fun {k l} hk hl hne e=>?_) nd;obtain ⟨t,e1⟩:=hf k;obtain ⟨u,e2⟩:=hf l;rw[e1,e2] at e;exact hne (List.append_inj_left e ((h2 k hk).trans (h2 l hl).symm))
theorem qnu {H3:Hp} {d:Addr} {kvs:KV} (b:But d H H3) (h:H d=some (.dT kvs)):Same H (upd H3 d (.dT kvs)):=λx o e=>by
 by_cases hx:x=d
 ·subst hx;rw[qa5,<- h];exact e
 ·rw[qas hx];exact b x o e hx
theorem qql (s:Abs) (k:List Int):∃ t,qf2 s k=k ++ t:=⟨_,rfl⟩
theorem qqm (s:Abs) (k:List Int):∃ t,qec s k=k ++ t:=⟨_,rfl⟩
theorem TupS.frz {d:Addr} {u:Obj} {v:HO} (h:H d=some (.frz u v)):TupS H (upd H d o):=λb xs e=>by
 rw[qas (qa0 e h (by intro z;cases z))];exact e
def KpL (H H':Hp):Prop:=∀ x o,H x=some o->(∀ K,o≠.dT K)->H' x=some o
theorem KpL.of (s:Same H H'):KpL H H':=λx o e _=>s x o e
theorem KpL.but {d:Addr} {Z:KV} (b:But d H H') (h:H d=some (.dT Z)):KpL H H':=λ_ _ e n=>b _ _ e (qa0 e h (n _))
theorem KpL.tups (k:KpL H H'):TupS H H':=λ_ _ e=>k _ _ e (by intro K z;cases z)
theorem KpL.lst (k:KpL H H') (h:H l=some (.lst xs)):H' l=some (.lst xs):=k _ _ h (by intro K z;cases z)
structure LR (H:Hp) (Y Z:KV) (s:Abs) (f:List Int->List (Int×Int)) (n:Nat):Prop where
 yv:∀ k,qb8 Y (kI k)=(s.y k).map V.int
 yk:∃ ks,DKeys Y ks/\ks.length<=n
 zn:∀ k,f k=[]->qb8 Z (kI k)=none
 zs:∀ k,f k≠[]->∃ a xs,qb8 Z (kI k)=some (.ref a)/\H a=some (.lst xs)/\Pairs H xs (f k)
 zk:∃ ks,DKeys Z ks/\ks.length<=n
 ln:∀ k,f k=[]->s.z k=none
 lh:∀ k,f k≠[]->∃ m t lo hi,HeapOf (f k) m t lo hi/\s.z k=some (m,t,lo,hi)
 fl:∀ k,(f k).length<=n
 fo:∀ k,qbq (f k)
section
variable {H H':Hp} {Y Z:KV} {s:Abs} {f:List Int->List (Int×Int)} {n:Nat}
theorem LR.kp (k:KpL H H') (h:LR H Y Z s f n):LR H' Y Z s f n:=
 ⟨h.yv,h.yk,h.zn,λj hj=>let ⟨a,xs,e1,e2,e3⟩:=h.zs j hj;⟨a,xs,e1,k.lst e2,e3.tupS k.tups⟩,h.zk,h.ln,h.lh,h.fl,h.fo⟩
theorem LR.mono {m:Nat} (h:LR H Y Z s f n) (e:n<=m):LR H Y Z s f m:=
 ⟨h.yv,h.yk.imp λ_ z=>⟨z.1,AL z.2 e⟩,h.zn,h.zs,h.zk.imp λ_ z=>⟨z.1,AL z.2 e⟩,h.ln,h.lh,λk=>AL (h.fl k) e,h.fo⟩
theorem LR.zero:LR H [] [] qmr (λ_=>[]) 0:=
 ⟨λ_=>rfl,⟨[],DKeys.nil,Ak _⟩,λ_ _=>rfl,λ_ z=>absurd rfl z,⟨[],DKeys.nil,Ak _⟩,λ_ _=>rfl,λ_ z=>absurd rfl z,λ_=>Ak _,λ_ p hp=>by cases hp⟩
theorem LR.yok (h:LR H Y Z s f n):YOk Y:=λk x e=>by
 obtain ⟨ks,d,_⟩:=h.yk;obtain ⟨j,rfl⟩:=qtu d e;rw[h.yv] at e
 cases e2:s.y j with
 | none=>rw[e2] at e;cases e
 | some n=>rw[e2] at e;exact ⟨n,(Ax e).symm⟩
theorem qlo {kvs:KV} (h:DKeys kvs ks):kvs.length=ks.length:=by
 have:=congrArg List.length h.eq
 rwa [Aa,Aa] at this
theorem LR.ylen (h:LR H Y Z s f n):Y.length<=n:=by obtain ⟨ks,d,e⟩:=h.yk;rw[qlo d];exact e
theorem LR.zlen (h:LR H Y Z s f n):Z.length<=n:=by obtain ⟨ks,d,e⟩:=h.zk;rw[qlo d];exact e
theorem qx2 {kvs:KV} (h:DKeys kvs ks) (hn:ks.length<=n) (k:List Int) (hk:k.length=2) (v:V):∃ ks',DKeys (putK kvs (kI k) v) ks'/\ks'.length<=n+1:=by
 obtain ⟨ks',d',e'⟩:=h.put k hk v;refine ⟨ks',d',AL (Bq (l₂:=k :: ks) d'.nd λj hj=>?_) (by rw[AF];ext)⟩
 rcases (e' j).mp hj with z|z
 ·exact Ad _ z
 ·rw[z];exact Ae
theorem LR.putY (h:LR H Y Z s f n) (t v m:Int):LR H (putK Y (kk t v) (.int (TB.yv Y (kk t v)+m))) Z { s with y:=qcz s.y [t,v] ((s.y [t,v]).getD 0+m) } f (n+1):=by
 have h':=h.mono (BE n);have ey:TB.yv Y (kk t v)=(s.y [t,v]).getD 0:=by
  unfold TB.yv;rw[show kk t v=kI [t,v] from rfl,h.yv]
  cases s.y [t,v]<;>rfl
 refine ⟨λk=>?_,?_,h'.zn,h'.zs,h'.zk,h'.ln,h'.lh,h'.fl,h'.fo⟩
 ·show qb8 (putK Y (kI [t,v]) _) (kI k)=(qcz s.y [t,v] ((s.y [t,v]).getD 0+m) k).map V.int
  rw[qda,ey]
  by_cases hk:k=[t,v]
  ·subst hk;rw[Au rfl,qaq];rfl
  ·rw[Al (λz=>hk (qen z)),qaw _ _ hk];exact h.yv k
 ·obtain ⟨ks,d,e⟩:=h.yk
  exact qx2 d e [t,v] rfl _
theorem LR.putZ (h:LR H Y Z s f n) {a w v:Int} {p:Addr} (hp:H p=some (.lst xs)) (pp:Pairs H xs (f [a,w] ++ [(v,m)])) (ok:qho (v,m)) :
  LR H Y (putK Z (kk a w) (.ref p)) { s with z:=qcz s.z [a,w] (qb9 (s.z [a,w]) (qfp v m)) } (λk=>if k=[a,w] then f [a,w] ++ [(v,m)] else f k) (n+1):=by
 have h':=h.mono (BE n);have one:HeapOf [(v,m)] m (v*m) v v:=⟨by simp[rN,qj9],by simp[rT,qml],by simp[qci],by simp[qci],by simp[qci],by simp[qci]⟩;refine ⟨h'.yv,h'.yk,λk hk=>?_,λk hk=>?_,?_,λk hk=>?_,λk hk=>?_,λk=>?_,λk=>?_⟩
 ·show qb8 (putK Z (kI [a,w]) _) (kI k)=_
  rw[qda]
  by_cases e:k=[a,w]
  ·rw[Au e] at hk;simp at hk
  ·rw[Al e] at hk
   rw[Al (λz=>e (qen z))];exact h.zn k hk
 ·show ∃ c ys,qb8 (putK Z (kI [a,w]) (.ref p)) (kI k)=_/\_
  rw[qda]
  by_cases e:k=[a,w]
  ·rw[Au e,Au (by rw[e])]
   exact ⟨p,xs,rfl,hp,pp⟩
  ·rw[Al e] at hk ⊢
   rw[Al (λz=>e (qen z))];exact h.zs k hk
 ·obtain ⟨ks,d,e⟩:=h.zk
  exact qx2 d e [a,w] rfl _
 ·show qcz s.z [a,w] _ k=none
  by_cases e:k=[a,w]
  ·rw[Au e] at hk;simp at hk
  ·rw[Al e] at hk
   rw[qaw _ _ e];exact h.ln k hk
 ·show ∃ m' t lo hi,HeapOf _ m' t lo hi/\qcz s.z [a,w] _ k=some _
  by_cases e:k=[a,w]
  ·rw[Au e,e,qaq]
   by_cases ef:f [a,w]=[]
   ·rw[ef,h.ln _ ef]
    exact ⟨m,v*m,v,v,one,rfl⟩
   ·obtain ⟨m0,t0,lo0,hi0,h0,e0⟩:=h.lh _ ef
    rw[e0];exact ⟨_,_,_,_,h0.app one,rfl⟩
  ·rw[Al e] at hk ⊢
   rw[qaw _ _ e];exact h.lh k hk
 ·show (if k=[a,w] then f [a,w] ++ [(v,m)] else f k).length<=n+1
  split
  ·rw[Ag];have:=h.fl [a,w];simp;ext
  ·exact h'.fl k
 ·show qbq (if k=[a,w] then f [a,w] ++ [(v,m)] else f k)
  split
  ·intro q hq
   rcases AK.mp hq with z|z
   ·exact h.fo _ q z
   ·rw[AI.mp z];exact ok
  ·exact h.fo k
theorem LR.zv (h:LR H Y Z s f n) (k:List Int):qb8 Z (kI k)≠none↔s.z k≠none:=by
 by_cases e:f k=[]
 ·rw[h.zn k e,h.ln k e];simp
 ·obtain ⟨a,xs,e1,_⟩:=h.zs k e
  obtain ⟨m,t,lo,hi,_,e2⟩:=h.lh k e;rw[e1,e2];simp
theorem LR.yv' (h:LR H Y Z s f n) (k:List Int):qb8 Y (kI k)≠none↔s.y k≠none:=by
 rw[h.yv];cases s.y k<;>simp
end
theorem qCw {s:Abs} {kvs:KV} (dk:DKeys kvs ks) (h:∀ k,qb8 kvs (kI k)≠none↔s.y k≠none) {R:List (List Int)} (pR:R.Perm (ks.map (qf2 s))) (sR:R.Pairwise λk l=>blt k l=true):R=qbg s:=by
 obtain ⟨ms,sk,_⟩:=qey (f:=s.y) dk.nd λk=>by rw[dk.mem,h]
 have pm:=qup sk dk h;rw[<- qcg sk];exact qms (qf2 s) (qql s) (λk hk=>dk.ne k (pm.mem_iff.mp hk)) sk.srt pm pR sR
theorem qCx {s:Abs} {kvs:KV} (dk:DKeys kvs ks) (h:∀ k,qb8 kvs (kI k)≠none↔s.z k≠none) {R:List (List Int)} (pR:R.Perm (ks.map (qec s))) (sR:R.Pairwise λk l=>blt k l=true):R=qa4 s:=by
 obtain ⟨ms,sk,_⟩:=qey (f:=s.z) dk.nd λk=>by rw[dk.mem,h]
 have pm:=qup sk dk h;rw[<- qb1 sk];exact qms (qec s) (qqm s) (λk hk=>dk.ne k (pm.mem_iff.mp hk)) sk.srt pm pR sR
theorem qnv {kvs:KV} (d:DKeys kvs ks) {k:List Key} {v:V} (h:kvs[i]?=some (k,v)):∃ key,ks[i]?=some key/\k=kI key/\key.length=2/\qb8 kvs (kI key)=some v:=by
 have this:(kvs.map (·.1))[i]?=(ks.map kI)[i]?:=congrArg (λz=>z[i]?) d.eq;have e1:(kvs.map (·.1))[i]?=some k:=by rw[An,h];rfl
 rw[e1,An] at this;obtain ⟨key,h1,h2⟩:=Ar.mp this.symm;have nd:(kvs.map (·.1)).Nodup:=by rw[d.eq];exact qwo d.nd
 exact ⟨key,h1,h2.symm,d.ne key (Am h1),by rw[h2];exact quo nd h⟩
theorem qCy {cell:Int->Option (Int×Int)} {s:Abs} (e:cell r.1=none):qb4 cell s r=s:=by unfold qb4;rw[e]
theorem qCz {cell:Int->Option (Int×Int)} {s:Abs} {a:Int} (e:cell r.1=some (a,0)):qb4 cell s r={ s with y:=qcz s.y [r.1,r.2.1] ((s.y [r.1,r.2.1]).getD 0+r.2.2) }:=by unfold qb4;rw[e];exact Au rfl
theorem qC0 {cell:Int->Option (Int×Int)} {s:Abs} {a w:Int} (e:cell r.1=some (a,w)) (h:w≠0):qb4 cell s r={ s with z:=qcz s.z [a,w] (qb9 (s.z [a,w]) (qfp r.2.1 r.2.2)) }:=by unfold qb4;rw[e];exact Al h
theorem qwp {s:Abs} :∀ k∈ks.map (qf2 s),k≠[]:=λk hk=>by obtain ⟨j,hj,rfl⟩:=Ah.mp hk;unfold qf2;simp
theorem qwq {s:Abs} :∀ k∈ks.map (qec s),k≠[]:=λk hk=>by obtain ⟨j,hj,rfl⟩:=Ah.mp hk;unfold qec i4;simp
inductive qnw (vs:List V) (H:Hp) (Q:VK) (E_:XK):Prop
 | mk:∀ (t l:Addr) (xs:List V) (ps:List (Int×Int)) (g:Option Int) (e:Addr) (es:List Int) (ge:Option Int) (lr:Addr) (ys:List V) (rs:List Rd3),vs=[.ref t,.ref e,.ref lr]->H t=some (.tup [.ref l,gv g])->H l=some (.lst xs)->Pairs H xs ps->Pr ps g->H e=some (.lst (es.map V.int ++ [gv ge]))->Fall (ps.map (·.2)) es ge->GF es ge->H lr=some (.lst ys)->Tups H ys (rs.map l3)->rs.length<=60->(∀ r∈rs,qpn r.1/\qho r.2)->(∀ p l1 l2 xs1 xs2 H',Same H H'->H' p=some (.tup [.ref l1,.ref l2])->H' l2=some (.lst xs2)->Tups H' xs2 (qa4 (qa8 (qa1 (ps.map (·.2)) es ge) rs))->(qa4 (qa8 (qa1 (ps.map (·.2)) es ge) rs)).length<=60->H' l1=some (.lst xs1)->Q (.ref p) H')->qnw vs H Q E_
include T in
theorem qox:qax P w K mg base 2 "_law_rows" ["_law_rule_here", "_law_edges_here", "_law_readings"] qnw:=by
 obtain ⟨f,fd,F,hm⟩:=T.f__law_rows;have nd:=sc__law_rows.nd;refine F.def_ hm (F.ok sc__law_rows (λvs H Q E h=>?_) (λcdv A outer s H vs Q E hr h=>?_)) (F.binds λ_ _ _ _ _ _ us hl=>by obtain ⟨_,_,_,rfl⟩:=L2.lq3 hl;rfl)
 ·obtain ⟨t,l,xs,ps,g,e,es,ge,lr,ys,rs,rfl,_⟩:=h;rfl
 ·obtain ⟨t,l,xs,ps,g,e,es,ge,lr,ys,rs,rfl,ht,hl,hx,P,he,F,gf,hlr,hy,hn,hrd,q⟩:=h
  have g1:=P.good.lo;have hes:1<=es.length:=by have:=F.len;rw[Aa] at this;ext
  have hyl:ys.length=rs.length:=by rw[hy.length,Aa]
  exists _,(jB4 (jS 3 nd qhu) (jS 4 nd qhu) (qbv AS rfl (qap (pv 2)) (jG3 (jN 5 nd) (jN 6 nd) (jN 7 nd)) (jB2 (jS 8 nd (jF (qov T) hr (jA3 (pv 0) (pv 1) (pv 5)))) (qau (PW.pt (qfv (jC qd1 (pv 8) qay) (qd0 (jC qbh (jT (pv 8) qaa) qaa)))) (qac (qib (qhn hr) (pv 3) (qam (jA2 (pv 5) (pv 6))) (qad qa3 (qk6 (qhn hr) (pv 3) (qam (jA2 (pv 5) (pv 6))) qaa ⟨rfl,rfl,rfl,rfl⟩) (pv 7)) rfl)) (qac (qau (jC qd1 (pv 8) qay) (qac (qib (qhn hr) (pv 4) (pv 8) (qad qd3 (qk6 (qhn hr) (pv 4) (pv 8) (qav qct) ⟨rfl,rfl,rfl,rfl⟩) (qav (jA1 (qam (jA2 (pv 6) (pv 7)))))) rfl)) qak))))) (qah (qam (jA2 (qag qg0 rfl T.b_sorted qds (jA1 (qtd (qcn (vars:=[ "_law_key", "_law_many" ]) (frees:=[]) (fv:=[]) rfl (jL0 rfl) trivial (qpj (pv 3)) (qbf (by decide) (by decide)) (λ_ _ _ _=>(jG2 (jM 0 [ "_law_key", "_law_many" ]) (jM 1 [ "_law_key", "_law_many" ]))) (λ_ _ _ _=>qat) (λ_ _ _ _=>(qad (show OpR _ _ (qj5 K) from qfy) (pv 0) (qam (jA1 (pv 1))))))))) (qag qg0 rfl T.b_sorted qds (jA1 (qtd (qcn (vars:=[ "_law_key", "_law_runs" ]) (frees:=[]) (fv:=[]) rfl (jL0 rfl) trivial (qpj (pv 4)) (qbf (by decide) (by decide)) (λ_ _ _ _=>(jG2 (jM 0 [ "_law_key", "_law_runs" ]) (jM 1 [ "_law_key", "_law_runs" ]))) (λ_ _ _ _=>qat) (λ_ _ _ _=>(qad (show OpR _ _ (qj5 K) from qfy) (pv 0) (jF (qow T) hr (jA1 (pv 1)))))))))))));intro dY H1 n1;intro dZ H2 n2;have s02:=n1.same.trans n2.same;have fY:H dY=none:=n1.fresh;have fZ:H dZ=none:=n1.same.free n2.fresh;have nYZ:dY≠dZ:=qae n1.at_ n2.fresh;have hY2:=n2.same _ _ n1.at_;have hZ2:=n2.at_;clear n1 n2;refine ⟨_,rfl,lr,rfl,⟨_,SqL.of (s02 _ _ hlr)⟩,qbk (xs:=ys) (λi σ H3=>Same H H3/\∃ (Y Z:KV) (f:List Int->List (Int×Int)) (v5 v6 v7 v8:Option V),H3 dY=some (.dT Y)/\H3 dZ=some (.dT Z)/\LR H3 Y Z (qa8 (qa1 (ps.map (·.2)) es ge) (rs.take i)) f i/\σ=[some (.ref t),some (.ref e),some (.ref lr),some (.ref dY),some (.ref dZ),v5,v6,v7,v8]) ⟨s02,[],[],_,none,none,none,none,hY2,hZ2,LR.zero,rfl⟩ (λi σ H3 _ h3=>SqL.of (h3.1 _ _ hlr)) ?_ ?_⟩
  ·rintro i x σ H3 hi ⟨s3,Y,Z,f,v5,v6,v7,v8,hY,hZ,L,rfl⟩
   have hil:i<ys.length:=(Aj.mp hi).1;obtain ⟨r3,hri,p,rfl,hp⟩:=hy.get hi;rw[An] at hri;obtain ⟨r,hr',rfl⟩:=Ar.mp hri;obtain ⟨tm,v,m⟩:=r;have hp3:H3 p=some (.tup [.int tm,.int v,.int m]):=s3 _ _ hp;obtain ⟨htm,rok⟩:=hrd _ (Am hr');have htm:qpn tm:=htm;have rok:qho (v,m):=rok;rw[qbn rs i _ hr',qdv]
   generalize qa8 (qa1 (ps.map (·.2)) es ge) (rs.take i)=sa at L ⊢
   exists p,_,rfl,SqT.of hp3,rfl,_,_,rfl,_,_,rfl,_,_,rfl,rfl
   walk_at "r"
   refine ⟨t,l,xs,ps,g,e,es,ge,tm,rfl,s3 _ _ ht,s3 _ _ hl,hx.same s3,P,s3 _ _ he,F,gf,htm,λhv o H4 hc cat s4=>?_⟩;have eo:qa1 (ps.map (·.2)) es ge tm=o:=qhy hes hc;have L4:=L.kp (KpL.of s4);have hY4:=s4 _ _ hY;have hZ4:=s4 _ _ hZ;have s04:=s3.trans s4;have yl:=L.ylen;have zl:=L.zlen;clear L hY hZ s3 s4 hp3 hp
   generalize qa1 (ps.map (·.2)) es ge=cell at eo
   cases o with
   | none =>
    cases (show hv=.non from cat)
    rw[qCy (r:=(tm,v,m)) eo]
    walk_at "r"
    exact ⟨Y,Z,f,_,_,_,_,hY4,hZ4,L4.mono (BE i),rfl⟩
   | some pr =>
    obtain ⟨c,rfl,hcv⟩:=cat;have hcs:=CellOf.some_ hc hes (λw hw=>P.w1 hw);obtain ⟨a,w⟩:=pr;clear hc
    rcases hcs with z|hw
    ·cases z
     rw[qCz (r:=(tm,v,m)) eo]
     walk_at "r"
     exists .inr ⟨_,.inl hY4⟩
     walk_at "r";intro p5 H5 n5
     exists _,DGet.t (k:=kk tm v) (n5.same _ _ hY4) n5.at_;rw[qxo L4.yok]
     walk_at "r";intro p6 H6 n6
     have s46:=n5.same.trans n6.same;have s06:=s04.trans s46;have hY6:=s46 _ _ hY4;exists dY,_,rfl,DPut.t (k:=kk tm v) hY6 n6.at_ (qai (by ext));refine ⟨but_upd.same s06 fY,_,Z,f,_,_,_,_,qa5,by rw[qas nYZ.symm];exact s46 _ _ hZ4,?_,rfl⟩;exact ((L4.kp (KpL.of s46)).putY tm v m).kp (KpL.but but_upd hY6)
    ·have hw:1<=w:=hw
     rw[qC0 (r:=(tm,v,m)) eo (by ext)]
     walk_at "r"
     refine qb3 (λz=>?_) λz=>?_
     ·have z2:w=0:=by simpa using z
      ext
     have hcv':H4 c=some (.tup ((kk a w).map kV)):=hcv
     walk_at "r"
     exists .inr ⟨_,.inl hZ4⟩
     walk_at "r";intro p5 H5 n5
     have hZ5:=n5.same _ _ hZ4;have L5:=L4.kp (KpL.of n5.same);exists _,DGet.t (k:=kk a w) hZ5 (n5.same _ _ hcv');obtain ⟨pa,xa,ea,hpa,ppa⟩:∃ pa xa,(qb8 Z (kk a w)).getD (.ref p5)=.ref pa/\H5 pa=some (.lst xa)/\Pairs H5 xa (f [a,w]):=by
      by_cases ef:f [a,w]=[]
      ·rw[show kk a w=kI [a,w] from rfl,L5.zn _ ef,ef]
       exact ⟨p5,[],rfl,n5.at_,.nil⟩
      ·obtain ⟨pa,xa,e1,e2,e3⟩:=L5.zs _ ef
       rw[show kk a w=kI [a,w] from rfl,e1];exact ⟨pa,xa,rfl,e2,e3⟩
     rw[ea];have lxa:=ppa.length;have lfa:=L5.fl [a,w]
     walk_at "r";intro p6 H6 n6
     walk_at "r";intro p7 H7 n7
     have s57:=n6.same.trans n7.same;refine ⟨pa,p7,_,_,rfl,rfl,s57 _ _ hpa,n7.at_,AB (qai (by simp;ext)),λp8 H8 n8=>?_⟩;have s58:=s57.trans n8.same;have hZ8:=s58 _ _ hZ5;have s08:=s04.trans (n5.same.trans s58);exists _,rfl,_,rfl,dZ,_,rfl,DPut.t (k:=kk a w) hZ8 (s58 _ _ (n5.same _ _ hcv')) (qai (by ext));have pp8:=Pairs.app (ppa.same s58) (.cons (show PairAt H8 (.ref p6) (v,m) from ⟨p6,rfl,n8.same _ _ (n7.same _ _ n6.at_)⟩) .nil);have L8:=((L5.kp (KpL.of s58)).putZ n8.at_ pp8 rok).kp (KpL.but (but_upd (o:=.dT (putK Z (kk a w) (.ref p8)))) hZ8);exact ⟨but_upd.same s08 fZ,Y,_,_,_,_,_,_,by rw[qas nYZ];exact s58 _ _ (n5.same _ _ hY4),qa5,L8,rfl⟩
  rintro σ H3 ⟨s3,Y,Z,f,v5,v6,v7,v8,hY,hZ,L,rfl⟩;rw[hyl,Aw] at L;have fn:∀ k,(f k).length<=60:=λk=>AL (L.fl k) (by ext)
  generalize qa8 (qa1 (ps.map (·.2)) es ge) rs=sa at L q
  obtain ⟨ks,dk,hkl⟩:=L.yk;obtain ⟨js,dj,hjl⟩:=L.zk;have yl:=qlo dk;have zl:=qlo dj;clear hrd hy hlr;refine ⟨_,rfl,dY,Y,rfl,hY,λob nf=>qpk (H:=H3) (λi ys H4=>But dY H3 H4/\H4 dY=some (.frz ob (.dT Y))/\Tups H4 ys ((ks.take i).map (qf2 sa))) (AB (qai (by ext))) nf ⟨but_upd,qa5,.nil⟩ (λi ys H4 h4=>⟨h4.2.1,by rw[h4.2.2.length,Aa,AU];ext⟩) ?_ ?_⟩
  ·rintro i k v b p ys H4 H5 hkv hb n5 ⟨b4,f4,ty⟩
   obtain ⟨key,hki,rfl,hk2,hval⟩:=qnv dk hkv;obtain ⟨n,hn',ev⟩:∃ n,sa.y key=some n/\v=.int n:=by
    rw[L.yv] at hval;obtain ⟨n,h1,h2⟩:=Ar.mp hval;exact ⟨n,h1,h2.symm⟩
   subst ev;rw[qv3] at hb;have hb5:=n5.same _ _ hb;exists p,_,rfl,SqT.of n5.at_,rfl,_,_,rfl,_,_,rfl,rfl;refine ql6 (qdk ?_);refine ⟨_,rfl,_,rfl,by show 1<=sizeLine;decide,λp6 H6 n6=>?_⟩;refine ⟨b,p6,_,_,rfl,rfl,SqT.of (n6.same _ _ hb5),SqT.of n6.at_,(by intro z;have:=congrArg List.length z;rw[Aa,hk2] at this;cases this),(by intro z;cases z),(by rw[Aa,hk2];show 2+1<=sizeLine;decide),λp7 H7 n7=>?_⟩;have s47:Same H4 H7:=n5.same.trans (n6.same.trans n7.same);exists λx o e hx=>s47 _ _ (b4 x o e hx),s47 _ _ f4;rw[qbn _ i _ hki,Ao];refine Tups.snoc ⟨p7,rfl,?_⟩ (ty.same s47);rw[n7.at_]
   show some (HO.tup (key.map V.int ++ [V.int n]))=some (.tup ((key ++ [(sa.y key).getD 0]).map V.int))
   rw[hn',Ao];rfl
  rintro ys4 H4 p H5 ⟨b4,f4,ty⟩ n5 f5;rw[yl,Aw] at ty;have sT:Same H3 (upd H5 dY (.dT Y)):=qnu (λx o e hx=>n5.same _ _ (b4 x o e hx)) hY;have tT:Tups (upd H5 dY (.dT Y)) ys4 (ks.map (qf2 sa)):=(ty.same n5.same).tupS (TupS.frz f5);have hpT:upd H5 dY (.dT Y) p=some (.lst ys4):=by rw[qas (qa0 n5.at_ f5 (by intro z;cases z))];exact n5.at_
  generalize upd H5 dY (.dT Y)=H6 at sT tT hpT ⊢
  clear b4 f4 ty n5 f5;refine ⟨p,ys4,ks.map (qf2 sa),rfl,SqL.of hpT,tT,by rw[Aa];ext,qk0 (qql sa) dk.ne dk.nd,qwp,λRw zs l7 H7 pR sR tz n7=>?_⟩;have eR:=qCw dk L.yv' pR sR;have lR:Rw.length<=60:=by rw[pR.length_eq,Aa];ext
  subst eR;have t7:Tups H7 zs (qbg sa):=Tups.same n7.same (show Tups H6 zs (qbg sa) from tz);have h7:=n7.at_;have s37:=sT.trans n7.same;have L7:=L.kp (KpL.of s37);have hZ7:=s37 _ _ hZ;have s07:=s3.trans s37;clear n7 tz pR sR sT tT hpT L hY hZ s37 s3;refine ⟨_,rfl,dZ,Z,rfl,hZ7,λob nf=>qpk (H:=H7) (λi ys H4=>But dZ H7 H4/\H4 dZ=some (.frz ob (.dT Z))/\Tups H4 ys ((js.take i).map (qec sa))) (AB (qai (by ext))) nf ⟨but_upd,qa5,.nil⟩ (λi ys H4 h4=>⟨h4.2.1,by rw[h4.2.2.length,Aa,AU];ext⟩) ?_ ?_⟩
  ·rintro i k v b p ys H8 H9 hkv hb n9 ⟨b8,f8,ty⟩
   obtain ⟨key,hki,rfl,hk2,hval⟩:=qnv dj hkv;have hf:f key≠[]:=λz=>by rw[L7.zn key z] at hval;cases hval
   obtain ⟨la,xa,e1,hla,pla⟩:=L7.zs key hf;obtain ⟨m0,t0,lo0,hi0,ho,ez⟩:=L7.lh key hf;rw[hval] at e1;cases e1;rw[qv3] at hb;have hb9:=n9.same _ _ hb;have hne:la≠dZ:=qa0 hla hZ7 (by intro z;cases z);have hla9:=n9.same _ _ (b8 _ _ hla hne);have pla9:Pairs H9 xa (f key):=pla.tupS λx xs e=>n9.same _ _ (b8 _ _ e (qa0 e hZ7 (by intro z;cases z)))
   exists p,_,rfl,SqT.of n9.at_,rfl,_,_,rfl,_,_,rfl,rfl;refine ql6 (qdk ?_);exists _,rfl,_,rfl;refine ⟨la,xa,f key,rfl,hla9,pla9,L7.fo key,Bp.mpr hf,AL (fn key) (by ext),λh6 m t lo hi H10 ho' n10=>?_⟩;obtain ⟨rfl,rfl,rfl,rfl⟩:=ho'.uniq ho;refine ⟨b,h6,_,_,rfl,rfl,SqT.of (n10.same _ _ hb9),SqT.of n10.at_,(by intro z;have:=congrArg List.length z;rw[Aa,hk2] at this;cases this),(by intro z;cases z),(by rw[Aa,hk2];show 2+4<=sizeLine;decide),λp7 H11 n11=>?_⟩;have s8:Same H8 H11:=n9.same.trans (n10.same.trans n11.same);exists λx o e hx=>s8 _ _ (b8 x o e hx),s8 _ _ f8;rw[qbn _ i _ hki,Ao];refine Tups.snoc ⟨p7,rfl,?_⟩ (ty.same s8);rw[n11.at_]
   show some (HO.tup (key.map V.int ++ v4 (m,t,lo,hi)))=some (.tup ((key ++ i4 ((sa.z key).getD (0,0,0,0))).map V.int))
   rw[ez,Ao];rfl
  rintro ys8 H8 p H9 ⟨b8,f8,ty⟩ n9 f9;rw[zl,Aw] at ty;have sT:Same H7 (upd H9 dZ (.dT Z)):=qnu (λx o e hx=>n9.same _ _ (b8 x o e hx)) hZ7;have tT:Tups (upd H9 dZ (.dT Z)) ys8 (js.map (qec sa)):=(ty.same n9.same).tupS (TupS.frz f9);have hpT:upd H9 dZ (.dT Z) p=some (.lst ys8):=by rw[qas (qa0 n9.at_ f9 (by intro z;cases z))];exact n9.at_
  generalize upd H9 dZ (.dT Z)=H10 at sT tT hpT ⊢
  clear b8 f8 ty n9 f9;refine ⟨p,ys8,js.map (qec sa),rfl,SqL.of hpT,tT,by rw[Aa];ext,qk0 (qqm sa) dj.ne dj.nd,qwq,λRz zz l11 H11 pR sR tz n11=>?_⟩;have eR:=qCx dj L7.zv pR sR;have lZ:Rz.length<=60:=by rw[pR.length_eq,Aa];ext
  subst eR;have s711:=sT.trans n11.same
  walk_at "r";intro tt H12 n12
  exact q tt l7 l11 zs zz H12 (s07.trans (s711.trans n12.same)) n12.at_ (n12.same _ _ n11.at_) ((show Tups H10 zz (qa4 sa) from tz).same (n11.same.trans n12.same)) lZ (n12.same _ _ (s711 _ _ h7))
include T in
theorem qhk:qax P w K mg base 1 "_law_whole" ["_law_found"] qtp:=by
 obtain ⟨f,fd,F,hm⟩:=T.f__law_whole;have nd:=sc__law_whole.nd;refine F.def_ hm (F.ok sc__law_whole (λvs H Q E h=>?_) (λcdv A outer s H vs Q E hr h=>?_)) (F.binds λ_ _ _ _ _ _ us hl=>by obtain ⟨_,rfl⟩:=L2.lq1 hl;rfl)
 ·obtain ⟨i,rfl,_⟩:=h;rfl
 ·obtain ⟨i,rfl,q⟩:=h
  exists _,(qac (qah (qe2 (qag qd2 rfl T.b_isinstance qbl (jA2 (pv 0) (qfk (v:=.ty "int") rfl T.b_int qw8 rfl))) (qfw (qlu (qag qd2 rfl T.b_isinstance qbl (jA2 (pv 0) (qfk (v:=.ty "bool") rfl T.b_bool qsr rfl))))))))
  walk_at "r"
  exact q
include T in
theorem qnx:qax P w K mg base 2 "_law_tuple" ["_law_found", "_law_most"] qmn:=by
 obtain ⟨f,fd,F,hm⟩:=T.f__law_tuple;have nd:=sc__law_tuple.nd;refine F.def_ hm (F.ok sc__law_tuple (λvs H Q E h=>?_) (λcdv A outer s H vs Q E hr h=>?_)) (F.binds λ_ _ _ _ _ _ us hl=>by obtain ⟨_,_,rfl⟩:=L2.lq2 hl;rfl)
 ·obtain ⟨a,ns,k,rfl,_⟩:=h;rfl
 ·obtain ⟨a,ns,k,rfl,ha,hk,h20,q⟩:=h
  exists _,(qac (qah (qe2 (qag qd2 rfl T.b_isinstance qbl (jA2 (pv 0) (qfk (v:=.ty "tuple") rfl T.b_tuple qk7 rfl))) (qe2 (jD qbh (qag qan rfl T.b_len qby (jA1 (pv 0))) (pv 1)) (qfw (qag (qpe rfl) rfl T.b_all qxd (jA1 (qcn (vars:=[ "_law_part" ]) (frees:=[]) (fv:=[]) rfl (jL0 rfl) trivial (qw1 (pv 0)) (qbx (by decide)) (λ_ _ _ _=>(jM 0 [ "_law_part" ])) (λ_ _ _ _=>qat) (λ_ _ _ _=>(jF (qhk T) hr (jA1 (pv 0))))))))))))
  walk_at "r"
  rw[AD (show V.int ((ns.map V.int).length:Int)=V.int (k:Int) by rw[Aa,hk])];refine qdk ?_;refine ⟨_,rfl,a,rfl,⟨_,SqT.of ha⟩,qto (xs:=ns.map V.int) (λj zs H2=>H2=H/\zs=(List.replicate j true).map V.bl) (AB (qai (by simp;ext))) ⟨rfl,rfl⟩ (λj zs H2 h2=>⟨SqT.of (by rw[h2.1];exact ha),by rw[h2.2];simp⟩) ?_ ?_⟩
  ·rintro j x zs H2 hj ⟨rfl,rfl⟩
   rw[An] at hj;obtain ⟨i,_,rfl⟩:=Ar.mp hj;refine qc1 (ql6 (qdk ?_));exists _,rfl,i,rfl,rfl;rw[FE,Ao];rfl
  ·rintro zs H2 l3 H3 ⟨rfl,rfl⟩ n3
   exists l3,List.replicate _ true,rfl,SqL.of n3.at_;have e:∀ n,(List.replicate n true).all id=true:=λn=>by simp
   rw[e];exact q H3 n3.same
theorem qC1 (h:k<4):wd k ≠ "mean" :=by
 match k,h with
 | 0,_=>decide
 | 1,_=>decide
 | 2,_=>decide
 | 3,_=>decide
theorem qx3 {w v:Str} (h:w≠v):decide (V.str w=V.str v)=false:=Az λe=>h (V.str.inj e)
inductive qjq (vs:List V) (H:Hp) (Q:VK) (E_:XK):Prop
 | mk:∀ (k:Nat) (l:Addr) (xs:List V) (rs:List (Int×Int)),vs=[.str (wd k),.ref l]->k<5->H l=some (.lst xs)->Pairs H xs rs->qbq rs->rs.length<=200->(∀ v H',Same H H'->((v=.non/\2<=k/\rs=[])\/((2<=k->rs≠[])/\AnsAt H' k rs v))->Q v H')->qjq vs H Q E_
include T in
theorem qlp:qax P w K mg base 1 "_law_answer" ["_law_word", "_law_runs"] qjq:=by
 obtain ⟨f,fd,F,hm⟩:=T.f__law_answer;have nd:=sc__law_answer.nd;refine F.def_ hm (F.ok sc__law_answer (λvs H Q E h=>?_) (λcdv A outer s H vs Q E hr h=>?_)) (F.binds λ_ _ _ _ _ _ us hl=>by obtain ⟨_,_,rfl⟩:=L2.lq2 hl;rfl)
 ·obtain ⟨k,l,xs,rs,rfl,_⟩:=h;rfl
 ·obtain ⟨k,l,xs,rs,rfl,hk,hl,hp,ok,h2,qq⟩:=h
  have qn:∀ H',Same H H'->2<=k->rs=[]->Q .non H':=λH' s a b=>qq _ H' s (.inl ⟨rfl,a,b⟩)
  have q:∀ v H',Same H H'->(2<=k->rs≠[])->AnsAt H' k rs v->Q v H':=λv H' s a b=>qq v H' s (.inr ⟨a,b⟩)
  clear qq;have mulB:∀ p∈rs,CMulB p.1 p.2:=λp hp=>by
   have:=ok p hp;unfold qho at this;exact ⟨⟨by ext,by ext⟩,by ext,by ext⟩
  have hN:=(qB1 ok).1;exists _,(jB8 (jS 2 nd (qag (qcq rfl) rfl T.b_sum qe3 (jA1 (qcn (vars:=[ "_law_value", "_law_count" ]) (frees:=[]) (fv:=[]) rfl (jL0 rfl) trivial (qap (pv 1)) (qbf (by decide) (by decide)) (λ_ _ _ _=>(jG2 (jM 0 [ "_law_value", "_law_count" ]) (jM 1 [ "_law_value", "_law_count" ]))) (λ_ _ _ _=>qat) (λ_ _ _ _=>(pv 1)))))) (jS 3 nd (qag (qcq rfl) rfl T.b_sum qe3 (jA1 (qcn (vars:=[ "_law_value", "_law_count" ]) (frees:=[]) (fv:=[]) rfl (jL0 rfl) trivial (qap (pv 1)) (qbf (by decide) (by decide)) (λ_ _ _ _=>(jG2 (jM 0 [ "_law_value", "_law_count" ]) (jM 1 [ "_law_value", "_law_count" ]))) (λ_ _ _ _=>qat) (λ_ _ _ _=>(qad qbp (pv 0) (pv 1))))))) (qau (jC qbh (pv 0) qc0) (qac (qah (pv 2))) qak) (qau (jC qbh (pv 0) qc0) (qac (qah (pv 3))) qak) (qau (jC qbh (pv 2) qaa) (qac (qah qay)) qak) (qau (jC qbh (pv 0) qc0) (qac (qah (qag (qei rfl) rfl T.b_min qgy (jA1 (qcn (vars:=[ "_law_value", "_law_count" ]) (frees:=[]) (fv:=[]) rfl (jL0 rfl) trivial (qap (pv 1)) (qbf (by decide) (by decide)) (λ_ _ _ _=>(jG2 (jM 0 [ "_law_value", "_law_count" ]) (jM 1 [ "_law_value", "_law_count" ]))) (λ_ _ _ _=>qat) (λ_ _ _ _=>(pv 0))))))) qak) (qau (jC qbh (pv 0) qc0) (qac (qah (qag (qdr rfl) rfl T.b_max qd8 (jA1 (qcn (vars:=[ "_law_value", "_law_count" ]) (frees:=[]) (fv:=[]) rfl (jL0 rfl) trivial (qap (pv 1)) (qbf (by decide) (by decide)) (λ_ _ _ _=>(jG2 (jM 0 [ "_law_value", "_law_count" ]) (jM 1 [ "_law_value", "_law_count" ]))) (λ_ _ _ _=>qat) (λ_ _ _ _=>(pv 0))))))) qak) (qah (qam (jA2 (pv 3) (pv 2)))));refine ⟨_,rfl,l,rfl,⟨_,SqL.of hl⟩,qb0 (λp=>p.2) hl hp h2 (λp hp Q' hq=>⟨_,rfl,hq⟩) λa1 H1 n1=>⟨a1,_,rfl,SqL.of n1.at_,?_⟩⟩;have hl1:=n1.same _ _ hl;have hp1:=hp.same n1.same;refine ⟨_,rfl,l,rfl,⟨_,SqL.of hl1⟩,qb0 (λp=>p.1*p.2) hl1 hp1 h2 (λp hp Q' hq=>⟨_,rfl,_,rfl,_,_,rfl,rfl,mulB p hp,hq⟩) λa2 H2 n2=>⟨a2,_,rfl,SqL.of n2.at_,?_⟩⟩;have hl2:=n2.same _ _ hl1;have hp2:=hp1.same n2.same;have s2:=n1.same.trans n2.same;have cT:decide (V.int (rs.map λp=>p.2).sum=V.int 0)=true->rs=[]:=λz=>by
   have z2:rN rs=0:=V.int.inj (AM z);exact Bg.mp (by ext)
  have cF:¬ decide (V.int (rs.map λp=>p.2).sum=V.int 0)=true->rs≠[]:=λz e=>z (by rw[e];rfl)
  match k,hk,q,qn with
  | 0,_,q,_=>exact ⟨_,rfl,rfl,_,rfl,qdk ⟨_,rfl,q _ H2 s2 (λz=>by ext) rfl⟩⟩
  | 1,_,q,_=>exact ⟨_,rfl,rfl,_,rfl,qd7 ⟨_,rfl,rfl,_,rfl,qdk ⟨_,rfl,q _ H2 s2 (λz=>by ext) rfl⟩⟩⟩
  | 2,_,q,qn =>
   refine ⟨_,rfl,rfl,_,rfl,qd7 ⟨_,rfl,rfl,_,rfl,qd7 ⟨_,rfl,rfl,_,rfl,qb3 (λz=>qn H2 s2 (by ext) (cT z)) λz=>⟨_,rfl,rfl,_,rfl,qdk ?_⟩⟩⟩⟩;have ne:=cF z;have h1:=Bp.mpr ne;exact ⟨_,rfl,l,rfl,⟨_,SqL.of hl2⟩,qb0 (λp=>p.1) hl2 hp2 h2 (λp hp Q' hq=>⟨_,rfl,hq⟩) λa3 H3 n3=>⟨a3,_,rfl,SqL.of n3.at_,by rw[Aa];ext,λz m1 m2=>q _ H3 (s2.trans n3.same) (λ_=>ne) ⟨z,rfl,m1,m2⟩⟩⟩
  | 3,_,q,qn =>
   refine ⟨_,rfl,rfl,_,rfl,qd7 ⟨_,rfl,rfl,_,rfl,qd7 ⟨_,rfl,rfl,_,rfl,qb3 (λz=>qn H2 s2 (by ext) (cT z)) λz=>⟨_,rfl,rfl,_,rfl,qd7 ⟨_,rfl,rfl,_,rfl,qdk ?_⟩⟩⟩⟩⟩;have ne:=cF z;have h1:=Bp.mpr ne;exact ⟨_,rfl,l,rfl,⟨_,SqL.of hl2⟩,qb0 (λp=>p.1) hl2 hp2 h2 (λp hp Q' hq=>⟨_,rfl,hq⟩) λa3 H3 n3=>⟨a3,_,rfl,SqL.of n3.at_,by rw[Aa];ext,λz m1 m2=>q _ H3 (s2.trans n3.same) (λ_=>ne) ⟨z,rfl,m1,m2⟩⟩⟩
  | 4,_,q,qn =>
   refine ⟨_,rfl,rfl,_,rfl,qd7 ⟨_,rfl,rfl,_,rfl,qd7 ⟨_,rfl,rfl,_,rfl,qb3 (λz=>qn H2 s2 (by ext) (cT z)) λz=>⟨_,rfl,rfl,_,rfl,qd7 ⟨_,rfl,rfl,_,rfl,qd7 ?_⟩⟩⟩⟩⟩;have ne:=cF z;exact ⟨_,rfl,_,rfl,by show 2<=sizeLine;decide,λp H3 n3=>q _ H3 (s2.trans n3.same) (λ_=>ne) ⟨p,rfl,n3.at_⟩⟩
inductive qny (vs:List V) (H:Hp) (Q:VK) (E_:XK):Prop
 | mk:∀ (k:Nat) (x y:V) (z n w m:Int),vs=[.str (wd k),x,y]->FrAt H k x z n->FrAt H k y w m->Q (.bl (decide (z*m<w*n))) H->qny vs H Q E_
include T in
theorem qft:qax P w K mg base 1 "_law_less" ["_law_word", "_law_one", "_law_other_here"] qny:=by
 obtain ⟨f,fd,F,hm⟩:=T.f__law_less;have nd:=sc__law_less.nd;refine F.def_ hm (F.ok sc__law_less (λvs H Q E h=>?_) (λcdv A outer s H vs Q E hr h=>?_)) (F.binds λ_ _ _ _ _ _ us hl=>by obtain ⟨_,_,_,rfl⟩:=L2.lq3 hl;rfl)
 ·obtain ⟨k,x,y,z,n,w,m,rfl,_⟩:=h;rfl
 ·obtain ⟨k,x,y,z,n,w,m,rfl,hx,hy,q⟩:=h
  exists _,(jB2 (qau (jC qbh (pv 0) qc0) (qac (qah (jD qc8 (qad qbp (jT (pv 1) qaa) (jT (pv 2) qaa)) (qad qbp (jT (pv 2) qaa) (jT (pv 1) qaa))))) qak) (qah (jD qc8 (pv 1) (pv 2))))
  rcases hx with ⟨hk,rfl,rfl⟩|⟨rfl,p,rfl,hp,n0,n1,z0,z1⟩
  ·rcases hy with ⟨_,rfl,rfl⟩|⟨e,_⟩
   ·rw[BU,BU] at q
    refine ⟨_,rfl,rfl,_,rfl,qb3 (λz=>absurd z (by rw[qx3 (qC1 hk)];decide)) λ_=>?_⟩;exact ⟨_,rfl,_,rfl,_,_,rfl,rfl,q⟩
   ·ext
  ·rcases hy with ⟨e,_⟩|⟨_,r,rfl,hr',m0,m1,w0,w1⟩
   ·ext
   ·refine ⟨_,rfl,rfl,_,rfl,qdk ?_⟩
    refine ⟨_,rfl,p,_,_,_,rfl,rfl,SqT.of hp,rfl,_,rfl,r,_,_,_,rfl,rfl,SqT.of hr',rfl,_,_,rfl,rfl,(by unfold CMulB;ext),?_⟩;exact ⟨_,rfl,r,_,_,_,rfl,rfl,SqT.of hr',rfl,_,rfl,p,_,_,_,rfl,rfl,SqT.of hp,rfl,_,_,rfl,rfl,(by unfold CMulB;ext),_,_,rfl,rfl,q⟩
def qwr:Sp:=λvs H Q _=>∃ (k:Nat) (v:V),vs=[.str (wd k),v]/\((k<4/\∃ a,v=.int a)\/(k=4/\∃ (p:Addr) (a b:Int),v=.ref p/\H p=some (.tup [.int a,.int b])/\1<=b/\Nat.gcd a.natAbs b.natAbs=1))/\∀ H',Same H H'->Q (.bl true) H'
include T in
theorem qrq:qax P w K mg base 3 "_law_end" ["_law_word", "_law_found"] qwr:=by
 obtain ⟨f,fd,F,hm⟩:=T.f__law_end;have nd:=sc__law_end.nd;refine F.def_ hm (F.ok sc__law_end (λvs H Q E h=>?_) (λcdv A outer s H vs Q E hr h=>?_)) (F.binds λ_ _ _ _ _ _ us hl=>by obtain ⟨_,_,rfl⟩:=L2.lq2 hl;rfl)
 ·obtain ⟨k,v,rfl,_⟩:=h;rfl
 ·obtain ⟨k,v,rfl,h,q⟩:=h
  exists _,(jB5 (qau (jC qva (pv 0) qc0) (qac (qah (jF (qhk T) hr (jA1 (pv 1))))) qak) (qau (PW.pt (qls (qlt (qdl (jF (qnx T) hr (jA2 (pv 1) qaa)))) (qgv (jC qc8 (jT (pv 1) qaa) qaa)))) (qac (qah qh1)) qak) (qwy rfl nd (i:=2) (j:=3) rfl rfl (by decide) rfl rfl (jA2 (qag qo8 rfl T.b_abs qw7 (jA1 (jT (pv 1) qaa))) (jT (pv 1) qaa)) rfl) (qo6 AS (jC qlx (pv 3) qaa) (qac (qwy rfl nd (i:=2) (j:=3) rfl rfl (by decide) rfl rfl (jA2 (pv 3) (qad qar (pv 2) (pv 3))) rfl))) (qah (jD qbh (pv 2) qaa)))
  rcases h with ⟨hk,a,rfl⟩|⟨rfl,p,a,b,rfl,hp,hb,g⟩
  ·refine ⟨_,rfl,rfl,_,rfl,qb3 (λ_=>?_) λz=>absurd (by rw[qx3 (qC1 hk)];rfl) z⟩
   exact ⟨_,rfl,a,rfl,q H (Same.refl _)⟩
  ·refine ⟨_,rfl,rfl,_,rfl,qd7 ?_⟩
   refine ⟨_,rfl,p,[a,b],2,rfl,hp,rfl,by ext,λH1 s1=>?_⟩;have hp1:=s1 _ _ hp;refine ⟨_,rfl,qd7 ?_⟩;refine ⟨_,rfl,p,_,_,_,rfl,rfl,SqT.of hp1,rfl,_,_,rfl,rfl,_,rfl,qb3 (λz=>?_) λ_=>?_⟩
   ·have:b<1:=by simpa using z
    ext
   have e1:(if a<0 then -a else a)=(a.natAbs:Int):=by split<;>ext
   have e2:b=(b.natAbs:Int):=by ext
   exists _,rfl,p,_,_,_,rfl,rfl,SqT.of hp1,rfl,_,rfl,_,rfl,p,_,_,_,rfl,rfl,SqT.of hp1,rfl,_,_,rfl;refine qo7 (λσ H'=>H'=H1/\∃ (x y:Nat),Nat.gcd x y=1/\σ=[some (.str (wd 4)),some (.ref p),some (.int x),some (.int y)]) (λσ _=>match σ with|_ :: _ :: _ :: some (.int b) :: _=>b.toNat|_=>0) ⟨rfl,a.natAbs,b.natAbs,g,by rw[<- e1,<- e2];rfl⟩ ?_ ?_
   ·rintro σ H' ⟨rfl,x,y,e,rfl⟩
    refine ⟨_,rfl,_,_,rfl,rfl,_,rfl,qb3 (λz=>?_) λz=>?_⟩
    ·have hy:0<y:=by simpa using z
     have em:(x:Int) % (y:Int)=((x % y:Nat):Int):=(Int.natCast_emod x y).symm;refine ⟨_,rfl,_,rfl,_,rfl,_,_,rfl,rfl,(by show (0:Int)<(y:Int);ext),_,_,rfl,?_⟩;refine ⟨⟨rfl,y,x % y,by rw[<- e,DY x y,Nat.gcd_rec y x,DY],by show _=_;rw[<- em];rfl⟩,?_⟩
     show ((x:Int) % (y:Int)).toNat<(y:Int).toNat
     rw[em];have:=Nat.mod_lt x hy;ext
    ·have hy:y=0:=by
      have:¬ 0<y:=by simpa using z
      ext
     subst hy;rw[Nat.gcd_zero_right] at e;subst e;exact ⟨_,rfl,rfl,q H' s1⟩
   ·exact λσ H Q Q' hq ⟨v,e,i,j,e1,e2,b,e3,h⟩=>⟨v,e,i,j,e1,e2,b,e3,hq _ _ h⟩
structure R4 where
 p:Addr
 ro:Addr
 q:qa2
 d:Int
 le:Addr
 lr:Addr
 es:List Int
 ge:Option Int
 ys:List V
 rs:List Rd3
 LY:List (List Int)
 LZ:List (List Int)
 n:Nat
structure F47 (H:Hp) (r:R4):Prop where
 dy:H r.q.dy=none
 dh:H r.q.dh=none
 rl:H r.q.rl=none
 qe:H r.q.le=none
 le:H r.le=none
 lr:H r.lr=none
structure I47 (C R:Addr) (H:Hp) (ps:List (Int×Int)) (g:Option Int) (r:R4):Prop where
 R:R47 C R H r.ro r.q ps g r.d r.es r.ge r.rs r.LY r.LZ r.n
 le:H r.le=some (.lst (r.es.map V.int ++ [gv r.ge]))
 lr:H r.lr=some (.lst r.ys)
 ys:Tups H r.ys (r.rs.map l3)
 a1:r.q.rl≠r.lr
 a2:r.q.le≠r.lr
 a3:r.le≠r.lr
theorem I47.same {r:R4} (h:I47 C R H ps g r) (s:Same H H'):I47 C R H' ps g r:=
 ⟨h.R.same s,s _ _ h.le,s _ _ h.lr,h.ys.same s,h.a1,h.a2,h.a3⟩
theorem F47.q {r:R4} {p:Addr} {ge:Option Int} {rs:List Rd3} {n:Nat} (h:F47 H r):F47 H ⟨p,ro,r.q,d,r.le,r.lr,es,ge,ys,rs,LY,LZ,n⟩:=⟨h.dy,h.dh,h.rl,h.qe,h.le,h.lr⟩
theorem F47.back {r:R4} (h:F47 H' r) (s:Same H H'):F47 H r:=⟨s.free h.dy,s.free h.dh,s.free h.rl,s.free h.qe,s.free h.le,s.free h.lr⟩
theorem qfi {a b:Addr} (h:H a=some (.lst xs)) (h':H b=some o) (n:∀ ys,o≠.lst ys):a≠b:=λe=>by rw[e,h'] at h;injection h with h;exact n _ h
theorem qEt {xs:List Int} (h:xs.length=21) {n:Int} (h0:0<=n) (h7:n<17):∃ ms:List Int,qgw (xs.map V.int) (some 3) (some (3+n))=ms.map V.int/\ms.length<=16:=by
 obtain ⟨m,rfl⟩:=CF h0;have h6:m<17:=Int.ofNat_lt.mp h7;unfold qgw;rw[show (some (3:Int))=some ((3:Nat):Int) from rfl,show (some (3+(m:Int)))=some (((3+m:Nat)):Int) from rfl,HT.sIx_nat,HT.sIx_nat];simp only[<- DO,<- Dj];exists _,rfl;simp only[AU,Co,Aa,h];clear h h0 h7 xs
 revert m;decide
inductive qnz (C R:Addr) (vs:List V) (H:Hp) (Q:VK) (E_:XK):Prop
 | mk:∀ (t l:Addr) (xs:List V) (ps:List (Int×Int)) (g:Option Int) (c:Int),vs=[.ref t,.int c]->H t=some (.tup [.ref l,gv g])->H l=some (.lst xs)->Pairs H xs ps->qv5 ps g->(∀ (r:R4) H',Same H H'->H' r.p=some (.tup [.ref r.ro,.int r.d,.ref r.le,.ref r.lr])->I47 C R H' ps g r->r.n<=16->F47 H r->Q (.ref r.p) H')->qnz C R vs H Q E_
theorem ifj {C:TT} {REST:TS} (c:Bool) (J:St->Hp->Prop) (hC:∀ Q:Bool->Hp->Prop,Q c H->C σ H Q) (h1:c=true->(∀ σ' H',J σ' H'->REST D σ' H')->F { D with nx:=REST D } σ H) (h2:¬ c=true->J σ H) (h:∀ σ' H',J σ' H'->REST D σ' H'):qcj (qwv C F qlv) REST D σ H:=hC _ (qb3 (λz=>h1 z h) λz=>h _ _ (h2 z))
theorem qFj {D:Int} {fs:List Int} {ge fg:Option Int} (P:Pr ps g) (hD:Bd D) (E:EdS (es.map V.int ++ [gv ge]) es ge) (F:Fall (ps.map (·.2)) es ge) (U:qCv ps g D (es.map V.int ++ [gv ge]) es ge fs fg) {a b:Addr} {X:XK} (ha:H a=some (.lst (es.map V.int ++ [gv ge]))) (hb:H b=some (.lst (eV ps g D))) (k:∀ p H',New H H' p (.lst (fs.map V.int ++ [gv fg]))->Q (.ref p) H'):qd4 [.ref a,.ref b] H Q X:=by
 have E2:=EdS.of P hD;have l2:=F.len;rw[Aa] at l2;have h5:=P.good.hi;refine ⟨a,b,_,_,rfl,ha,hb,E.ed,E2.ed,?_,?_,λp H' n=>k p H' ?_⟩
 ·rw[E2.eq]
  simp only[Ag,Aa,A9];ext
 ·simp only[Ag,Aa,A9]
  ext
 ·rw[<- U.eq,qlf E2.ed E.ed];exact n
def IvR (C R:Addr) (H6:Hp) (ls:Addr) (ms:List Int) (ps:List (Int×Int)) (g:Option Int) (t:Addr) (c:Int) (lx:Addr) (d lt:Int) (m i:Nat) (v8 v9 v10:Option V) (σ:St) (H':Hp):Prop:=∃ r:R4,Same H6 H'/\H' ls=some (.lst (ms.map V.int))/\ls≠r.lr/\r.d<=lt/\r.n=i/\I47 C R H' ps g r/\F47 H6 r/\σ=[some (.ref t),some (.int c),some (.ref lx),some (.int d),some (.int lt),some (.ref r.ro),some (.ref r.le),some (.ref r.lr),v8,v9,v10]
include T in
theorem qoy:qax P w K mg base 9 "_law_roll" ["_law_rule_here", "_law_cell_here"] (qnz C_Roll C_Rule):=by
 obtain ⟨f,fd,F,hm⟩:=T.f__law_roll;have nd:=sc__law_roll.nd;refine F.def_ hm (F.ok sc__law_roll (λvs H Q E h=>?_) (λcdv A outer s H vs Q E hr h=>?_)) (F.binds λ_ _ _ _ _ _ us hl=>by obtain ⟨_,_,rfl⟩:=L2.lq2 hl;rfl)
 ·obtain ⟨t,l,xs,ps,g,c,rfl,_⟩:=h;rfl
 ·obtain ⟨t,l,xs,ps,g,c,rfl,ht,hl,hx,D,q⟩:=h
  have P:=D.pr;have wb:∀ p∈ps,p.2<=10 ^ 35:=λp hp=>by
   obtain ⟨i,hi,e⟩:=BD hp;have:=(D.each i p (by rw[<- e];exact Ab hi)).2;ext
  exists _,(jB8 (jS 2 nd (jF (qop T) hr (jA2 (pv 1) qaa))) (jS 3 nd (jI (qav (jA2 (qad qar (jI (pv 2) qaa) qaa) (qad qb6 (qad qar (jI (pv 2) qaa) (qad qed qaa (qad qcs qaa qaa))) (qad qcs qaa qaa)))) (qad qar (jI (pv 2) qaa) qaa))) (jS 4 nd (qad qa3 (pv 3) (jI (qav (jA4 qaa (qad qar (jI (pv 2) qaa) qaa) (qad qar (jI (pv 2) qaa) qaa) (qad qar (jI (pv 2) qaa) (qad qcs qaa qaa)))) (qad qar (qad qa6 (jI (pv 2) qaa) qaa) qaa)))) (jS 5 nd (ql7 (qqb T) (hr.mono (by decide)) rfl .nil (jA2 (ql7 (qln T) (hr.mono (by decide)) rfl .nil (jA2 (qdq qc3 rfl T.b_list qfl (jA1 (jT (pv 0) qaa))) (jT (pv 0) qaa))) (pv 3)))) (jS 6 nd (jF (qcw T) hr (jA2 (pv 0) (pv 3)))) (jS 7 nd (qav qct)) (qbv AS rfl (qy3 rfl T.b_enumerate (jA1 (qca qdc (pv 2) (qbw qaa) (qbw (qad qa3 qaa (qad qar (qad qa6 (jI (pv 2) qaa) qaa) qaa)))))) (jG2 (jN 8 nd) (jN 9 nd)) (jB4 (jS 10 nd (jF (qfh T) hr (jA4 (pv 0) (jI (qav (jA2 (pv 3) (pv 4))) (qad qar (pv 9) qaa)) (qad qa6 (pv 9) qaa) (qad qar (qad qa6 (jI (pv 2) qaa) qaa) qaa)))) (qau (jC qbh (pv 8) qaa) (jB2 (jS 5 nd (jF (qx1 T) hr (jA2 (pv 5) (pv 4)))) (jS 6 nd (jF (qdj T) hr (jA2 (pv 6) (jF (qcw T) hr (jA2 (pv 0) (pv 4))))))) qak) (qau (jC qbh (pv 8) (qad qar (qad qa6 (jI (pv 2) qaa) qaa) qaa)) (qac (qr0 (jF (qou T) hr (jA4 (pv 0) (pv 5) (pv 6) (jI (pv 2) qaa))) (jG2 (jN 5 nd) (jN 6 nd)))) qak) (qau (qdl (qs9 (pv 5) T.cl_Roll (qeu T) (hr.mono (by decide)) .nil (jA3 (jT (pv 10) qaa) (jT (pv 10) qaa) (jT (pv 10) qaa)))) (qac (qaz (qe1 AO A6 AZ qbb (pv 7) (jA1 (pv 10))))) qak))) (qah (qam (jA4 (jF (qx1 T) hr (jA2 (pv 5) (pv 4))) (pv 4) (jF (qdj T) hr (jA2 (pv 6) (jF (qcw T) hr (jA2 (pv 0) (pv 4))))) (pv 7)))));refine ⟨_,rfl,c,21,rfl,by decide,λlx xw H1 n1 hxw _=>?_⟩;have gx:∀ k:Nat,k<21->∃ x,atI (xw.map V.int) (k:Int)=some (.int x):=λk hk=>by
   have e:xw[k]?=some (xw[k]'(by ext)):=Ab (by ext);exact ⟨_,qc4 (by rw[An,e];rfl)⟩
  obtain ⟨x0,at0⟩:=gx 0 (by ext);obtain ⟨x1,at1⟩:=gx 1 (by ext);obtain ⟨x2,at2⟩:=gx 2 (by ext);obtain ⟨x20,at20⟩:=gx 20 (by ext);have at0:atI (xw.map V.int) 0=some (.int x0):=at0;have at1:atI (xw.map V.int) 1=some (.int x1):=at1;have at2:atI (xw.map V.int) 2=some (.int x2):=at2;have at20:atI (xw.map V.int) 20=some (.int x20):=at20;have s1:=n1.same;have hx1:=n1.at_;clear n1 gx
  try dsimp only
  refine qqh λN1 hN1=>?_
  walk_at "r";intro p2 H2 n2
  obtain ⟨d,hd,hdb⟩:∃ d,atI [V.int (x0 % 100),V.int (x0 % (2*10 ^ 15)-10 ^ 15)] (x1 % 2)=some (V.int d) /\ -(10 ^ 15)<=d/\d<=10 ^ 15:=by
   have hk:x1 % 2=0\/x1 % 2=1:=by ext
   rcases hk with e|e<;>rw[e]
   ·exact ⟨_,rfl,by ext⟩
   ·exact ⟨_,rfl,by ext⟩
  have h2:=n2.at_
  walk_at "r"
  refine hN1 _ _ ?_;clear hN1
  try dsimp only
  refine qqh λN2 hN2=>?_
  walk_at "r";intro p3 H3 n3
  obtain ⟨e,he,heb⟩:∃ e,atI [V.int 0,V.int (x2 % 9),V.int (x2 % 200),V.int (x2 % 10 ^ 14)] (x1 / 2 % 4)=some (V.int e)/\0<=e/\e<=10 ^ 14:=by
   rcases mod4' (x1 / 2) with e|e|e|e<;>rw[e]
   ·exact ⟨_,rfl,by ext⟩
   ·exact ⟨_,rfl,by ext⟩
   ·exact ⟨_,rfl,by ext⟩
   ·exact ⟨_,rfl,by ext⟩
  have h3:=n3.at_;have s13:=n2.same.trans n3.same;have hx3:=s13 _ _ hx1;have s03:=s1.trans s13;have hdB:Bd d:=by unfold Bd;ext
  have hlB:Bd (d+e):=by unfold Bd;ext
  have hdl:d<=d+e:=by ext
  clear n2 h2 hd
  walk_at "r"
  clear he heb hdb;refine hN2 _ _ ?_;clear hN2
  generalize d+e=lt at hlB hdl ⊢
  have ht6:=s03 _ _ ht;have hl6:=s03 _ _ hl;have hp6:=hx.same s03;clear n3 h3 s13 s1 hx1
  try dsimp only
  refine qqh λN3 hN3=>?_
  refine ⟨_,rfl,t,_,_,_,rfl,rfl,SqT.of ht6,rfl,l,xs,rfl,.inl (SqL.of hl6),λlc H7 n7=>?_⟩;refine ⟨_,rfl,t,_,_,_,rfl,rfl,SqT.of (n7.same _ _ ht6),rfl,λru dx H8 s8 f8 d8=>?_⟩;refine ⟨ru,dx,lc,xs,ps,g,rfl,d8,s8 _ _ n7.at_,(hp6.same n7.same).same s8,P.good,P.gone,λrl H9 hrl' R9 b9=>⟨rfl,?_⟩⟩;refine ⟨_,rfl,λro dx' H10 s10 f10 d10=>?_⟩;refine ⟨ro,dx',ru,rl,ps,g,d,rfl,d10,R9.same s10,P,hdB,λle dy dh H11 z1 z2 z3 A11 b11=>⟨rfl,?_⟩⟩;have s69:Same H3 H9:=n7.same.trans (b9.same s8 f8);have s611:Same H3 H11:=s69.trans (b11.same s10 f10);have fdy:H3 dy=none:=(s69.trans s10).free z2;have fdh:H3 dh=none:=(s69.trans s10).free z3;have frl0:H3 rl=none:=(n7.same.trans s8).free hrl';have fle0:H3 le=none:=(s69.trans s10).free z1;have R11:=R47.new P wb hdB A11
  generalize ecc:qB6 ru rl le dy dh ps g d=qd at R11
  have fdy':H3 qd.dy=none:=by rw[<- ecc];exact fdy
  have fdh':H3 qd.dh=none:=by rw[<- ecc];exact fdh
  have frl:H3 qd.rl=none:=by rw[<- ecc];exact frl0
  have fle:H3 qd.le=none:=by rw[<- ecc];exact fle0
  clear ecc A11 b11 z1 z2 z3 d10 f10 s10 R9 b9 d8 f8 s8 n7 fdy fdh s69;have eEV:eV ps g d=(ps.map λp=>cut d p.1 p.2).map V.int ++ [gv (g.map λz=>cut d z (lw ps))]:=(EdS.of P hdB).eq
  generalize (ps.map λp=>cut d p.1 p.2)=es at R11 eEV
  generalize (g.map λz=>cut d z (lw ps))=ge at R11 eEV
  have s011:=s03.trans s611;refine hN3 _ _ ?_;clear hN3
  try dsimp only
  refine ⟨_,rfl,_,rfl,t,l,xs,ps,g,d,rfl,s011 _ _ ht,s011 _ _ hl,hx.same s011,P,hdB,λlm H12 n12=>?_⟩;rw[eEV] at n12;refine ⟨by show 0<=sizeLine;decide,λlr H13 n13=>?_⟩;have s113:=n12.same.trans n13.same;have s613:=s611.trans s113;have R13:=R11.same s113;obtain ⟨Y0,Z0,A0,B0⟩:=id R13.R;have hrl13:∃ zs,H12 qd.rl=some (.lst zs):=by
   obtain ⟨Y1,Z1,A1,_⟩:=id (R11.same n12.same).R;obtain ⟨zs,hz,_⟩:=A1.rule.ls;exact ⟨zs,hz⟩
  have hle13:H12 qd.le=some (.lst (qd.es.map V.int ++ [gv qd.ge])):=by
   obtain ⟨Y1,Z1,A1,_⟩:=id (R11.same n12.same).R;exact A1.ed
  have nl1:qd.rl≠lr:=by obtain ⟨zs,hz⟩:=hrl13;exact qae hz n13.fresh
  have nl2:qd.le≠lr:=qae hle13 n13.fresh;have nl3:lm≠lr:=qae n12.at_ n13.fresh;have flm:H3 lm=none:=s611.free n12.fresh;have flr:H3 lr=none:=(s611.trans n12.same).free n13.fresh;have hle:=n13.same _ _ n12.at_;have hlr:=n13.at_;clear n12 R11 hrl13 hle13 A0 B0;have hx13:=s613 _ _ hx3;obtain ⟨ms,ec,hms⟩:=qEt hxw (n:=x1 / 8 % 17) (by ext) (by ext)
  try dsimp only
  refine qqh λN4 hN4=>?_
  refine ⟨_,rfl,_,rfl,_,rfl,lx,_,_,_,rfl,rfl,SqL.of hx13,at1,_,_,rfl,rfl,⟨by decide,by decide⟩,_,_,rfl,rfl,(by first|decide|(dsimp only;decide)),_,_,rfl,rfl,_,rfl,lx,_,rfl,SqL.of hx13,λls H14 n14=>?_⟩;rw[ec] at n14;have hls:=n14.at_;have nls:ls≠lr:=λe=>by rw[e] at n14;rw[n14.fresh] at hlr;cases hlr
  have s614:=s613.trans n14.same;have I14:I47 C_Roll C_Rule H14 ps g ⟨0,ro,qd,d,lm,lr,es,ge,[],[],[],[],0⟩:=⟨R13.same n14.same,n14.same _ _ hle,n14.same _ _ hlr,.nil,nl1,nl2,nl3⟩;have F14:F47 H3 ⟨0,ro,qd,d,lm,lr,es,ge,[],[],[],[],0⟩:=⟨fdy',fdh',frl,fle,flm,flr⟩;clear n13 n14 R13 hle hlr nl1 nl2 nl3 fdy' fdh' frl fle flm flr s113 s611 s613 s011 eEV ec hx13;refine ⟨ls,_,rfl,SqL.of hls,qsx (xs:=ms.map V.int) (λi σ H'=>∃ v8 v9 v10,IvR C_Roll C_Rule H3 ls ms ps g t c lx d lt 0 i v8 v9 v10 σ H') ⟨_,_,_,_,s614,hls,nls,hdl,rfl,I14,F14,rfl⟩ (λi σ H' h'=>by obtain ⟨_,_,_,r,_,h,_⟩:=h';exact SqL.of h) ?_ ?_⟩
  ·rintro i v σ H4 pa H5 hvi n5 ⟨v8,v9,v10,r,s4,hls4,nls4,dl4,rn4,I4,F4,rfl⟩
   rw[An] at hvi;obtain ⟨x,hxi,rfl⟩:=Ar.mp hvi;have hi6:i<16:=by have:=(Aj.mp hxi).1;ext
   have s5:=s4.trans n5.same;have I5:=I4.same n5.same;have hls5:=n5.same _ _ hls4;exists pa,_,rfl,SqT.of n5.at_,rfl,_,_,rfl,_,_,rfl,rfl;clear n5 s4 I4 hls4 I14 F14 s614 hls nls;have hx5:=s5 _ _ hx3
   try dsimp only
   refine qqh λN5 hN5=>?_
   refine ⟨_,rfl,_,rfl,_,rfl,by show 2<=sizeLine;decide,λp4 H6 n6=>?_⟩;obtain ⟨dd,hdd,bdd⟩:∃ dd,atI [V.int d,V.int lt] (x % 2)=some (V.int dd)/\Bd dd:=by
    have hk:x % 2=0\/x % 2=1:=by ext
    rcases hk with e|e<;>rw[e]
    ·exact ⟨_,rfl,hdB⟩
    ·exact ⟨_,rfl,hlB⟩
   have s6:=s5.trans n6.same;have s06:=s03.trans s6;have hx6:=n6.same _ _ hx5;refine ⟨_,rfl,_,_,rfl,rfl,(by first|decide|(dsimp only;decide)),p4,_,_,_,rfl,rfl,SqL.of n6.at_,hdd,_,rfl,_,_,rfl,rfl,⟨by decide,by decide⟩,_,rfl,lx,_,_,_,rfl,rfl,SqL.of hx6,at1,_,_,rfl,rfl,⟨by decide,by decide⟩,_,_,rfl,rfl,(by first|decide|(dsimp only;decide)),t,l,xs,ps,g,dd,x / 2,x1 / 200 % 6,rfl,s06 _ _ ht,s06 _ _ hl,hx.same s06,D,bdd,by ext,by ext,λpr r3 H7 t5 rt g7 hpr=>?_⟩;have s7:=s6.trans g7;have I7:=(I5.same n6.same).same g7;have hls7:=g7 _ _ (n6.same _ _ hls5);clear n6 hdd bdd s06 hx6 hx5 I5 hls5 s5 s6;refine hN5 _ _ ?_;clear hN5
   try dsimp only
   refine ifj (decide (V.int (i:Int)=V.int 8)) (λσ' H'=>H' pr=some (.tup [.int r3.1,.int r3.2.1,.int r3.2.2])/\IvR C_Roll C_Rule H3 ls ms ps g t c lx d lt 1 i (some (.int (i:Int))) (some (.int x)) (some (.ref pr)) σ' H') (λQ hQ=>⟨_,rfl,rfl,_,rfl,hQ⟩) (λz hJ=>?_) (λ_=>⟨hpr,r,s7,hls7,nls4,dl4,rn4,I7,F4,rfl⟩) ?_
   ·obtain ⟨fs,fg,U⟩:=qEs P hlB I7.R.E I7.R.F I7.R.gf
    exists _,rfl,_,rfl;simp only[qj0,Bb,Bs,Bl];refine I7.R.aged (by ext) hlB dl4 U λr' q' LY' LZ' H8 s8 R8 f8 f8'=>?_
    have s08:=s03.trans (s7.trans s8);refine ⟨_,rfl,_,rfl,_,rfl,t,l,xs,ps,g,lt,rfl,s08 _ _ ht,s08 _ _ hl,hx.same s08,P,hlB,λlm2 H9 n9=>?_⟩;refine qFj P hlB I7.R.E I7.R.F U (n9.same _ _ (s8 _ _ I7.le)) n9.at_ λle3 H10 n10=>?_
    have s810:=n9.same.trans n10.same;have s710:=s8.trans s810;have s310:=s7.trans s710;have lr10:=s710 _ _ I7.lr;refine hJ _ _ ⟨s710 _ _ hpr,⟨r.p,r',q',lt,le3,r.lr,fs,fg,r.ys,r.rs,LY',LZ',r.n⟩,s310,s710 _ _ hls7,nls4,Bi _,rn4,⟨R8.same s810,n10.at_,lr10,I7.ys.same s710,by rw[f8'.2.1];exact I7.a1,(λe=>by have z:=f8'.2.2;rw[e,I7.lr] at z;cases z),(fun (e:le3=r.lr)=>by have z:=n10.fresh;rw[e,n9.same _ _ (s8 _ _ I7.lr)] at z;cases z)⟩,⟨s7.free f8.1,s7.free f8.2,by rw[f8'.2.1];exact F4.rl,s7.free f8'.2.2,(s7.trans (s8.trans n9.same)).free n10.fresh,F4.lr⟩,rfl⟩
   clear I7 hls7 nls4 dl4 rn4 F4 s7 hpr g7;rintro σ8 H8 ⟨hpr,r,s8,hls8,nls8,dl8,rn8,I8,F8,rfl⟩;have hx8:=s8 _ _ hx3;refine ifj (decide (V.int (i:Int)=V.int (x1 / 2000 % 12))) (λσ' H'=>H' pr=some (.tup [.int r3.1,.int r3.2.1,.int r3.2.2])/\IvR C_Roll C_Rule H3 ls ms ps g t c lx d lt 1 i (some (.int (i:Int))) (some (.int x)) (some (.ref pr)) σ' H') (λQ hQ=>⟨_,rfl,_,rfl,lx,_,_,_,rfl,rfl,SqL.of hx8,at1,_,_,rfl,rfl,⟨by decide,by decide⟩,_,_,rfl,rfl,(by first|decide|(dsimp only;decide)),rfl,_,rfl,hQ⟩) (λz hJ=>?_) (λ_=>⟨hpr,r,s8,hls8,nls8,dl8,rn8,I8,F8,rfl⟩) ?_
   ·have s08:=s03.trans s8
    refine ⟨_,rfl,_,rfl,_,rfl,_,rfl,lx,_,_,_,rfl,rfl,SqL.of hx8,at20,t,l,xs,ps,g,r.d,r.ro,r.q,r.es,r.ge,r.rs,r.LY,r.LZ,r.n,r.le,x20,rfl,s08 _ _ ht,s08 _ _ hl,hx.same s08,D,I8.R,by ext,I8.le,λp ro' c' le' fs fg LY' LZ' H9 s9 hp9 R9 hle9 fr9 fl9=>?_⟩;exists p,_,rfl,SqT.of hp9,rfl,_,_,rfl,_,_,rfl,rfl;refine hJ _ _ ⟨s9 _ _ hpr,⟨r.p,ro',c',r.d,le',r.lr,fs,fg,r.ys,r.rs,LY',LZ',r.n⟩,s8.trans s9,s9 _ _ hls8,nls8,dl8,rn8,⟨R9,hle9,s9 _ _ I8.lr,I8.ys.same s9,(λe=>by have z:=fr9.2.2.1;rw[e,I8.lr] at z;cases z),(λe=>by have z:=fr9.2.2.2;rw[e,I8.lr] at z;cases z),(fun (e:le'=r.lr)=>by rw[e,I8.lr] at fl9;cases fl9)⟩,⟨s8.free fr9.1,s8.free fr9.2.1,s8.free fr9.2.2.1,s8.free fr9.2.2.2,s8.free fl9,F8.lr⟩,rfl⟩
   clear I8 hls8 nls8 dl8 rn8 F8 s8 hpr hx8;rintro σ9 H9 ⟨hpr,r,s9,hls9,nls9,dl9,rn9,I9,F9,rfl⟩;obtain ⟨dxr,hob⟩:=I9.R.R.obj;obtain ⟨⟨Yd,hYd⟩,⟨Zd,hZd⟩⟩:=I9.R.R.dicts;exists _,rfl,r.ro,dxr,_,rfl,hob,qog _ _ _ _ _,_,rfl,pr,_,_,_,rfl,rfl,SqT.of hpr,rfl,_,rfl,pr,_,_,_,rfl,rfl,SqT.of hpr,rfl,_,rfl,pr,_,_,_,rfl,rfl,SqT.of hpr,rfl;simp only[qj0,Bb,Bs,Bl];have lrY:r.lr≠r.q.dy:=qfi I9.lr hYd (by intro ys z;cases z);have lrZ:r.lr≠r.q.dh:=qfi I9.lr hZd (by intro ys z;cases z);refine I9.R.put (by ext) ⟨t5,rt⟩ λH10 LY' LZ' R10 b10=>?_
   have s10:Same H3 H10:=b10.same s9 F9.dy F9.dh;have kl:∀ {a:Addr} {zs:List V},H9 a=some (.lst zs)->H10 a=some (.lst zs):=λh=>b10 _ _ h (qfi h hYd (by intro ys z;cases z)) (qfi h hZd (by intro ys z;cases z))
   have kt:∀ {a:Addr} {zs:List V},H9 a=some (.tup zs)->H10 a=some (.tup zs):=λh=>b10 _ _ h (qa0 h hYd (by intro z;cases z)) (qa0 h hZd (by intro z;cases z))
   have tys:Tups H10 r.ys (r.rs.map l3):=I9.ys.tupS λa zs h=>kt h
   have lys:r.ys.length<=16:=by have:=I9.ys.length;rw[Aa] at this;have:=I9.R.rl;ext
   refine ⟨_,rfl,qb3 (λz=>?_) λz=>?_⟩
   ·rw[Au z] at R10
    refine ⟨_,rfl,.inl ⟨rfl,_,SqL.of (kl I9.lr)⟩,_,rfl,r.lr,_,_,rfl,rfl,kl I9.lr,qai (by ext),λH11 b11 h11=>?_⟩;refine ⟨_,_,_,⟨r.p,r.ro,r.q,r.d,r.le,r.lr,r.es,r.ge,r.ys ++ [.ref pr],r.rs ++ [r3],LY',LZ',r.n+1⟩,b11.same s10 F9.lr,b11 _ _ (kl hls9) nls9,nls9,dl9,by rw[<- rn9],⟨{ R10 with R:=R10.R.butL b11 (kl I9.lr) I9.a1 I9.a2 },b11 _ _ (kl I9.le) I9.a3,h11,?_,I9.a1,I9.a2,I9.a3⟩,F9.q,rfl⟩;rw[Ao];have hp10:H10 pr=some (.tup ((l3 r3).map V.int)):=kt (zs:=(l3 r3).map V.int) hpr;exact Tups.snoc (r:=l3 r3) ⟨pr,rfl,b11 _ _ hp10 (qa0 hp10 (kl I9.lr) (by intro z;cases z))⟩ (tys.tupS λa zs h=>b11 _ _ h (qa0 h (kl I9.lr) (by intro z;cases z)))
   ·rw[Al z] at R10
    exact ⟨_,_,_,⟨r.p,r.ro,r.q,r.d,r.le,r.lr,r.es,r.ge,r.ys,r.rs,LY',LZ',r.n+1⟩,s10,kl hls9,nls9,dl9,by rw[<- rn9],⟨R10,kl I9.le,kl I9.lr,tys,I9.a1,I9.a2,I9.a3⟩,F9.q,rfl⟩
  rintro σ4 H4 ⟨v8,v9,v10,r,s4,hls4,nls4,dl4,rn4,I4,F4,rfl⟩;refine hN4 _ _ ?_;clear hN4
  try dsimp only
  rw[Aa] at rn4;obtain ⟨fs,fg,U⟩:=qEs P hlB I4.R.E I4.R.F I4.R.gf;exists _,rfl,_,rfl;simp only[qj0,Bb,Bs,Bl];refine I4.R.aged (by ext) hlB dl4 U λr' q' LY' LZ' H8 s8 R8 f8 f8'=>?_
  have s08:=s03.trans (s4.trans s8);refine ⟨_,rfl,_,rfl,_,rfl,_,rfl,t,l,xs,ps,g,lt,rfl,s08 _ _ ht,s08 _ _ hl,hx.same s08,P,hlB,λlm2 H9 n9=>?_⟩;refine qFj P hlB I4.R.E I4.R.F U (n9.same _ _ (s8 _ _ I4.le)) n9.at_ λle3 H10 n10=>?_
  have s810:=n9.same.trans n10.same;have s710:=s8.trans s810;have s310:=s4.trans s710;refine ⟨_,rfl,by show 4<=sizeLine;decide,λp H11 n11=>?_⟩;have s711:=s710.trans n11.same;refine q ⟨p,r',q',lt,le3,r.lr,fs,fg,r.ys,r.rs,LY',LZ',r.n⟩ H11 (s03.trans (s310.trans n11.same)) n11.at_ ⟨R8.same (s810.trans n11.same),n11.same _ _ n10.at_,s711 _ _ I4.lr,I4.ys.same s711,by rw[f8'.2.1];exact I4.a1,(λe=>by have z:=f8'.2.2;rw[e,I4.lr] at z;cases z),(fun (e:le3=r.lr)=>by have z:=n10.fresh;rw[e,n9.same _ _ (s8 _ _ I4.lr)] at z;cases z)⟩ (by show r.n<=16;ext) (F47.back (H':=H3) ⟨s4.free f8.1,s4.free f8.2,by rw[f8'.2.1];exact F4.rl,s4.free f8'.2.2,(s4.trans (s8.trans n9.same)).free n10.fresh,F4.lr⟩ s03)
inductive quq (vs:List V) (H:Hp) (Q:VK) (E_:XK):Prop
 | mk:∀ (v0 v1:V) (tt l2:Addr) (xs:List V) (Z:List (List Int)) (a:Int) (b:Option Int),vs=[v0,.ref tt,.int a,gv b]->H tt=some (.tup [v1,.ref l2])->H l2=some (.lst xs)->Tups H xs Z->(∀ r∈Z,ZSh r)->(Q (.bl (Z.all λr=>!cZ (some a) b r)) H)->quq vs H Q E_
theorem qC2 {s w t a:Int} {b:Option Int} {F L:Int} (hF:F=if a>s then a else s) (hL:L=qmw b (s+w)):cZ (some a) b [s,w,m,t,lo,hi]=(decide (F<L) && decide (L-F<w)):=by
 have hf:qru (some a) s=F:=by rw[hF];unfold qru;dsimp only;(repeat' split)<;>ext
 unfold cZ qgj
 show (decide (0<if qmw b (s+w)-qru (some a) s>0 then qmw b (s+w)-qru (some a) s else 0) && decide ((if qmw b (s+w)-qru (some a) s>0 then qmw b (s+w)-qru (some a) s else 0)<w))=_
 rw[hf,<- hL]
 by_cases h:F<L
 ·rw[Au (by ext),AD (show 0<L-F by ext),AD h]
 ·rw[Al (by ext),Az (show ¬ (0:Int)<0 by ext),Az h,B9,B9]
theorem qlq (y e:Int):qmw (some y) e=if y<e then y else e:=by unfold qmw;dsimp only;split<;>split<;>ext
theorem qws {Z:List (List Int)} {f:List Int->Bool} {r:List Int} (h:Z[i]?=some r) (ha:(Z.take i).all f=true) (hr:f r=true):(Z.take (i+1)).all f=true:=by
 rw[qbn Z i r h,List.all_append,ha,EN,hr];rfl
theorem qC3 {Z:List (List Int)} {f:List Int->Bool} {r:List Int} (h:Z[i]?=some r) (hr:f r=false):Z.all f=false:=by
 cases e:Z.all f with
 | false=>rfl
 | true=>rw[Eh] at e;rw[e r (Am h)] at hr;cases hr
include T in
theorem qjx:qax P w K mg base 1 "_law_aligned" ["_law_rule_here", "_law_rows_here", "_law_a", "_law_b"] quq:=by
 obtain ⟨f,fd,F,hm⟩:=T.f__law_aligned;have nd:=sc__law_aligned.nd;refine F.def_ hm (F.ok sc__law_aligned (λvs H Q E h=>?_) (λcdv A outer s H vs Q E hr h=>?_)) (F.binds λ_ _ _ _ _ _ us hl=>by obtain ⟨_,_,_,_,rfl⟩:=L2.lq4 hl;rfl)
 ·obtain ⟨v0,v1,tt,l2,xs,Z,a,b,rfl,_⟩:=h;rfl
 ·obtain ⟨v0,v1,tt,l2,xs,Z,a,b,rfl,htt,hl,hz,sh,q⟩:=h
  exists _,(jB2 (qbv AS rfl (qap (jT (pv 1) qaa)) (qo5 rfl (qbj (jN 4 nd) (qbj (jN 5 nd) (qbj (jN 6 nd) (qbj (jN 7 nd) (qbj (jN 8 nd) (qbj (jN 9 nd) qk1))))))) (jB4 (jS 10 nd (qag (qdp rfl) rfl T.b_max qd8 (jA2 (pv 4) (pv 2)))) (jS 11 nd (qad qa3 (pv 4) (pv 5))) (qau (jC qd1 (pv 3) qay) (qac (jS 11 nd (qag (qh5 rfl) rfl T.b_min qgy (jA2 (pv 11) (pv 3))))) qak) (qau (PW.pt (qfv (jC qc8 (pv 10) (pv 11)) (qd0 (jC qc8 (qad qb6 (pv 11) (pv 10)) (pv 5))))) (qac (qah qh1)) qak))) (qah qh1));refine ⟨_,rfl,tt,_,1,_,rfl,rfl,SqT.of htt,rfl,l2,rfl,⟨_,SqL.of hl⟩,qbk (xs:=xs) (λi σ H'=>H'=H/\((Z.take i).all λr=>!cZ (some a) b r)=true/\∃ v4 v5 v6 v7 v8 v9 v10 v11,σ=[some v0,some (.ref tt),some (.int a),some (gv b),v4,v5,v6,v7,v8,v9,v10,v11]) ⟨rfl,rfl,none,none,none,none,none,none,none,none,rfl⟩ (λi σ H' _ h'=>by rw[h'.1];exact SqL.of hl) ?_ ?_⟩
  ·rintro i x σ H' hxi ⟨rfl,hal,v4,v5,v6,v7,v8,v9,v10,v11,rfl⟩
   obtain ⟨r,hri,p,rfl,hp⟩:=hz.get hxi;obtain ⟨s,w,m,t,lo,hi,rfl,_⟩:=sh r (Am hri);exists p,_,rfl,SqT.of hp,rfl,_,_,rfl,_,_,rfl,_,_,rfl,_,_,rfl,_,_,rfl,_,_,rfl,rfl;have fin:∀ F L,F=(if a>s then a else s)->L=qmw b (s+w)->∀ σ,¬ (F<L/\L-F<w)->(∃ v4 v5 v6 v7 v8 v9 v10 v11,σ=[some v0,some (.ref tt),some (.int a),some (gv b),v4,v5,v6,v7,v8,v9,v10,v11])->H'=H'/\((Z.take (i+1)).all λr=>!cZ (some a) b r)=true/\∃ v4 v5 v6 v7 v8 v9 v10 v11,σ=[some v0,some (.ref tt),some (.int a),some (gv b),v4,v5,v6,v7,v8,v9,v10,v11]:=λF L hF hL σ hn hσ=>⟨rfl,qws hri hal (by
    rw[qC2 hF hL]
    by_cases h1:F<L
    ·rw[Az (show ¬ L-F<w from λh2=>hn ⟨h1,h2⟩),ED];rfl
    ·rw[Az h1,B9];rfl),hσ⟩
   have bad:∀ F L,F=(if a>s then a else s)->L=qmw b (s+w)->F<L->L-F<w->Q (.bl false) H':=λF L hF hL h1 h2=>by
    rw[qC3 hri (by rw[qC2 hF hL,AD h1,AD h2];rfl)] at q;exact q
   cases b with
   | none =>
    walk_at "r"
    refine qb3 (λz=>?_) λz=>?_
    ·walk_at "r"
     refine qb3 (λz2=>?_) λz2=>?_
     ·exact bad _ _ rfl rfl (AM z) (AM z2)
     ·exact fin _ _ rfl rfl _ (λh=>z2 (AD h.2)) ⟨_,_,_,_,_,_,_,_,rfl⟩
    ·exact fin _ _ rfl rfl _ (λh=>z (AD h.1)) ⟨_,_,_,_,_,_,_,_,rfl⟩
   | some y =>
    walk_at "r"
    refine qb3 (λz=>?_) λz=>?_
    ·walk_at "r"
     refine qb3 (λz2=>?_) λz2=>?_
     ·exact bad _ _ rfl (by rw[qlq]) (AM z) (AM z2)
     ·exact fin _ _ rfl (by rw[qlq]) _ (λh=>z2 (AD h.2)) ⟨_,_,_,_,_,_,_,_,rfl⟩
    ·exact fin _ _ rfl (by rw[qlq]) _ (λh=>z (AD h.1)) ⟨_,_,_,_,_,_,_,_,rfl⟩
  ·rintro σ H' ⟨rfl,hal,v4,v5,v6,v7,v8,v9,v10,v11,rfl⟩
   rw[hz.length,Aw] at hal;rw[hal] at q;exact q
def qoz (C R:Addr) (H:Hp) (ps:List (Int×Int)) (g:Option Int) (v:V) (r:R4):Prop:=v=.ref r.p/\H r.p=some (.tup [.ref r.ro,.int r.d,.ref r.le,.ref r.lr])/\I47 C R H ps g r/\r.n<=18
theorem qew {C R:Addr} {H H':Hp} {ps:List (Int×Int)} {g:Option Int} (s:Same H H'):∀ {ys:List V} {rs:List R4},Paired (qoz C R H ps g) ys rs->Paired (qoz C R H' ps g) ys rs
 | _,_,.nil=>.nil
 | _,_,.cons ⟨e,h,i,n⟩ t=>.cons ⟨e,s _ _ h,i.same s,n⟩ (qew s t)
theorem qz9 {F:Frag} {nv j l m:Nat} (hi:i<nv) (hj:j<nv) (hl:l<nv) (hm:m<nv):qoa nv (qwx F 4 (qdn (qdm i) (qdn (qdm j) (qdn (qdm l) (qdn (qdm m) qww))))):=λx σ H K ⟨a,xs,e,hq,hl',v,r,e1,v2,r2,e2,v3,r3,e3,v4,r4,e5,e4,q⟩ =>
 ⟨a,xs,e,hq,hl',v,r,e1,v2,r2,e2,v3,r3,e3,v4,r4,e5,e4,q,by simp,λk hk=>by rw[BB (by ext),BB (by ext),BB (by ext),BB (by ext)]⟩
theorem qur {α:Type} {xs:List α} (h:1<=xs.length) (x:Int):∃ (k:Nat) (y:α),x % (xs.length:Int)=(k:Int)/\xs[k]?=some y:=by
 have h1:=Bh x (show (xs.length:Int)≠0 by ext);have h2:=A7 x (show (0:Int)<xs.length by ext);obtain ⟨k,e⟩:=CF h1;rw[e] at h2 ⊢;exact ⟨k,xs[k]'(by ext),rfl,Ab (by ext)⟩
def qfj (rs:List R4):List Int:=rs.filterMap λr=>r.ge
inductive qqn (C R:Addr) (vs:List V) (H:Hp) (Q:VK) (E_:XK):Prop
 | mk:∀ (t l:Addr) (xs:List V) (ps:List (Int×Int)) (g:Option Int) (lo:Addr) (ys:List V) (rs:List R4) (c:Int),vs=[.ref t,.ref lo,.int c]->H t=some (.tup [.ref l,gv g])->H l=some (.lst xs)->Pairs H xs ps->qv5 ps g->H lo=some (.lst ys)->Paired (qoz C R H ps g) ys rs->1<=rs.length->rs.length<=60->(∀ p (a:Int) (b:Option Int) H',Same H H'->H' p=some (.tup [.int a,gv b])->(∀ z∈qfj rs,z<=a)->Q (.ref p) H')->qqn C R vs H Q E_
include T in
theorem qjy:qax P w K mg base 3 "_law_stretch" ["_law_rule_here", "_law_rolls", "_law_cell_here"] (qqn C_Roll C_Rule):=by
 obtain ⟨f,fd,F,hm⟩:=T.f__law_stretch;have nd:=sc__law_stretch.nd;refine F.def_ hm (F.ok sc__law_stretch (λvs H Q E h=>?_) (λcdv A outer s H vs Q E hr h=>?_)) (F.binds λ_ _ _ _ _ _ us hl=>by obtain ⟨_,_,_,rfl⟩:=L2.lq3 hl;rfl)
 ·obtain ⟨t,l,xs,ps,g,lo,ys,rs,c,rfl,_⟩:=h;rfl
 ·obtain ⟨t,l,xs,ps,g,lo,ys,rs,c,rfl,ht,hl,hx,D,hlo,hrs,r1,r2,q⟩:=h
  have hyl:ys.length=rs.length:=CU hrs;exists _,(jB8 (qce (i:=3) (vars:=[ "_law_roll_here", "_law_day", "_law_edges_here", "_law_readings" ]) (frees:=[]) (fv:=[]) nd rfl (Or.inl rfl) rfl (jL0 rfl) trivial (qap (pv 1)) (qz9 (by decide) (by decide) (by decide) (by decide)) (λ_ _ _ _=>(jG4 (jM 0 [ "_law_roll_here", "_law_day", "_law_edges_here", "_law_readings" ]) (jM 1 [ "_law_roll_here", "_law_day", "_law_edges_here", "_law_readings" ]) (jM 2 [ "_law_roll_here", "_law_day", "_law_edges_here", "_law_readings" ]) (jM 3 [ "_law_roll_here", "_law_day", "_law_edges_here", "_law_readings" ]))) (λ_ _ _ _=>(qfm (jC qd1 (qc9 (show IxR _ (qAx K) from qk4) (pv 2) (qeb qck qaa) (λ_ _=>rfl)) qay))) (λ_ _ _ _=>(qc9 (show IxR _ (qAx K) from qk4) (pv 2) (qeb qck qaa) (λ_ _=>rfl)))) (jS 4 nd (jF (qbu T) hr (jA2 (pv 2) qaa))) (qr0 (jI (pv 1) (qad qar (jI (pv 4) qaa) (qag qan rfl T.b_len qby (jA1 (pv 1))))) (jG4 (jN 5 nd) (jN 6 nd) (jN 7 nd) (jN 8 nd))) (jS 9 nd (qav qct)) (qbv AS rfl (qap (qca qdc (pv 4) (qbw qaa) (qbw qaa))) (jN 10 nd) (qac (qau (PW.pt (qfv (jC qlx (qad qar (pv 10) qaa) qaa) (qd0 (jC (qzc hr.units) (pv 8) (qav qct))))) (qac (qaz (qe1 AO A6 AZ qbb (pv 9) (jA1 (qad qb6 (qad qa3 (jT (jI (pv 8) (qad qar (qad qa6 (pv 10) qaa) (qag qan rfl T.b_len qby (jA1 (pv 8))))) qaa) (qad qar (qad qa6 (pv 10) qaa) qaa)) qaa))))) (qac (qaz (qe1 AO A6 AZ qbb (pv 9) (jA1 (jF (qjk T) hr (jA3 (pv 0) (pv 6) (qad qa6 (pv 10) qaa)))))))))) (jS 11 nd (qag (qdr rfl) rfl T.b_max qd8 (jA1 (qad qd3 (qav (jA1 (qag (qei rfl) rfl T.b_min qgy (jA1 (pv 9))))) (pv 3))))) (qau (jC qbh (qad qar (jI (pv 4) qaa) qaa) qaa) (qac (qah (qam (jA2 (pv 11) qay)))) qak) (qah (qam (jA2 (pv 11) (qag (qdr rfl) rfl T.b_max qd8 (jA1 (pv 9)))))))
  try dsimp only
  refine qqh λN1 hN1=>?_
  refine ⟨_,rfl,lo,rfl,⟨_,SqL.of hlo⟩,qbm (xs:=ys) (λi zs H'=>Same H H'/\zs=(qfj (rs.take i)).map V.int) (AB (qai (by ext))) ⟨Same.refl _,rfl⟩ (λi zs H' h'=>⟨SqL.of (h'.1 _ _ hlo),by rw[h'.2,Aa];unfold qfj;exact AL (EL _ _) (by rw[AU];ext)⟩) ?_ ?_⟩
  ·rintro i x zs H' hxi ⟨s',rfl⟩
   obtain ⟨r,hri,e,hp,I,_⟩:=qdu hrs hxi;subst e;have hp':=s' _ _ hp;have hle:=s' _ _ I.le;have hat:atI (r.es.map V.int ++ [gv r.ge]) (-1)=some (gv r.ge):=qek (by simp);exists r.p,_,rfl,SqT.of hp',rfl,_,_,rfl,_,_,rfl,_,_,rfl,_,_,rfl,rfl
   cases eg:r.ge with
   | none =>
    rw[eg] at hat hle
    walk_at "r"
    first|refine ⟨s',?_⟩|skip
    rw[qbn rs i r hri];unfold qfj;rw[Fv]
    simp[eg]
   | some z =>
    rw[eg] at hat hle
    walk_at "r"
    first|refine ⟨s',?_⟩|skip
    rw[qbn rs i r hri];unfold qfj;rw[Fv]
    simp[eg,gv]
  rintro zs H1 le H2 ⟨s1,rfl⟩ n2;refine hN1 _ _ ?_;clear hN1
  try dsimp only
  rw[hyl,Aw] at n2;have s2:=s1.trans n2.same;have hle:=n2.at_;clear n2 s1
  walk_at "r";intro lx xw H3 n3 hxw _
  have hxw:xw.length=4:=hxw;have gx:∀ k:Nat,k<4->∃ x,xw[k]?=some x/\atI (xw.map V.int) (k:Int)=some (.int x):=λk hk=>by
   have e:xw[k]?=some (xw[k]'(by ext)):=Ab (by ext);exact ⟨_,e,qc4 (by rw[An,e];rfl)⟩
  obtain ⟨x0,_,at0⟩:=gx 0 (by ext);obtain ⟨x3,_,at3⟩:=gx 3 (by ext);have at0:atI (xw.map V.int) 0=some (.int x0):=at0;have at3:atI (xw.map V.int) 3=some (.int x3):=at3;have s3:=s2.trans n3.same;have hx3:=n3.at_;have hle3:=n3.same _ _ hle;clear n3 hle s2 gx;obtain ⟨k,r,ek,hrk⟩:=qur (xs:=rs) r1 x0;obtain ⟨v,hvk,e,hp,I,_⟩:∃ v,ys[k]?=some v/\v=.ref r.p/\H r.p=some (.tup [.ref r.ro,.int r.d,.ref r.le,.ref r.lr])/\I47 C_Roll C_Rule H ps g r/\r.n<=18:=by
   have hk:k<ys.length:=by rw[hyl];exact (Aj.mp hrk).1
   obtain ⟨r',hr',h⟩:=qdu hrs (Ab hk);rw[hrk] at hr';cases hr';exact ⟨_,Ab hk,h⟩
  subst e;have hat:atI ys (x0 % (ys.length:Int))=some (.ref r.p):=by rw[hyl,ek];exact qc4 hvk
  have hlo3:=s3 _ _ hlo;have hp3:=s3 _ _ hp;have I3:=I.same s3;have hyp:0<(ys.length:Int):=by ext
  have Iys:=I.ys;clear ek hrk hvk I
  walk_at "r"
  intro lt H4 n4;have s4:=s3.trans n4.same;have hx4:=n4.same _ _ hx3;have hle4:=n4.same _ _ hle3;have I4:=I3.same n4.same;have hlt4:=n4.at_;have flt:H lt=none:=s3.free n4.fresh;have ne1:lx≠lt:=qae hx3 n4.fresh;have ne2:le≠lt:=qae hle3 n4.fresh;have ne3:r.lr≠lt:=qae I3.lr n4.fresh;clear n4 s3 hx3 hle3 I3 hlo3 hp3;obtain ⟨ms,ec,hms⟩:∃ ms:List Int,qgw (xw.map V.int) (some 1) (some 3)=ms.map V.int/\ms.length=2:=by
   match xw,hxw with
   | [a,b,c,d],_=>exact ⟨[b,c],rfl,rfl⟩
  try dsimp only
  refine qqh λN5 hN5=>?_
  refine ⟨_,rfl,_,rfl,_,rfl,lx,_,rfl,SqL.of hx4,λls H5 n5=>?_⟩;rw[ec] at n5;have s5:=s4.trans n5.same;have nls:ls≠lt:=λe=>by rw[e] at n5;rw[n5.fresh] at hlt4;cases hlt4
  refine ⟨ls,rfl,⟨_,SqL.of n5.at_⟩,qbk (xs:=ms.map V.int) (λi σ H'=>Same H H'/\H' ls=some (.lst (ms.map V.int))/\H' lx=some (.lst (xw.map V.int))/\H' le=some (.lst ((qfj rs).map V.int))/\H' r.lr=some (.lst r.ys)/\∃ (ts:List Int) (v10:Option V),H' lt=some (.lst (ts.map V.int))/\ts.length=i/\σ=[some (.ref t),some (.ref lo),some (.int c),some (.ref le),some (.ref lx),some (.ref r.ro),some (.int r.d),some (.ref r.le),some (.ref r.lr),some (.ref lt),v10,none]) ⟨s5,n5.at_,n5.same _ _ hx4,n5.same _ _ hle4,n5.same _ _ I4.lr,[],none,n5.same _ _ hlt4,rfl,rfl⟩ (λi σ H' _ h'=>SqL.of h'.2.1) ?_ ?_⟩
  ·rintro i v σ H6 hvi ⟨s6,hls6,hx6,hle6,hlr6,ts,v10,hlt6,hts,rfl⟩
   have hi2:i<2:=by have:=(Aj.mp hvi).1;rw[Aa] at this;ext
   rw[An] at hvi;obtain ⟨x,hxi,rfl⟩:=Ar.mp hvi;have app:∀ (z:Int) H7,Same H6 H7->∀ H8,But lt H7 H8->H8 lt=some (.lst (ts.map V.int ++ [.int z]))->∀ σ,σ=[some (.ref t),some (.ref lo),some (.int c),some (.ref le),some (.ref lx),some (.ref r.ro),some (.int r.d),some (.ref r.le),some (.ref r.lr),some (.ref lt),some (.int x),none]->Same H H8/\H8 ls=some (.lst (ms.map V.int))/\H8 lx=some (.lst (xw.map V.int))/\H8 le=some (.lst ((qfj rs).map V.int))/\H8 r.lr=some (.lst r.ys)/\∃ (ts:List Int) (v10:Option V),H8 lt=some (.lst (ts.map V.int))/\ts.length=i+1/\σ=[some (.ref t),some (.ref lo),some (.int c),some (.ref le),some (.ref lx),some (.ref r.ro),some (.int r.d),some (.ref r.le),some (.ref r.lr),some (.ref lt),v10,none]:=λz H7 s7 H8 b8 h8 σ hσ=>⟨b8.same (s6.trans s7) flt,b8 _ _ (s7 _ _ hls6) nls,b8 _ _ (s7 _ _ hx6) ne1,b8 _ _ (s7 _ _ hle6) ne2,b8 _ _ (s7 _ _ hlr6) ne3,ts ++ [z],_,by rw[Ao];exact h8,by rw[Ag,hts];rfl,hσ⟩
   walk_at "r"
   refine qb3 (λz1=>?_) λz1=>?_
   ·walk_at "r";intro pe H7 n7
    exists r.lr,pe,r.ys,rfl,rfl,SqL.of (n7.same _ _ hlr6),n7.at_
    walk_at "r"
    have hlr7:=n7.same _ _ hlr6;have hlt7:=n7.same _ _ hlt6;refine qb3 (λz2=>?_) λz2=>?_
    ·have ne:r.ys≠[]:=AM z2
     have l1:=Bp.mpr ne;obtain ⟨k,v,ek,hk⟩:=qur (xs:=r.ys) l1 (x / 3);obtain ⟨r3,hr3,b,rfl,hb⟩:=Iys.get hk;rw[An] at hr3;obtain ⟨q3,_,rfl⟩:=Ar.mp hr3;have hb7:H7 b=some (.tup [.int q3.1,.int q3.2.1,.int q3.2.2]):=n7.same _ _ (s6 _ _ hb);have hat2:atI r.ys (x / 3 % (r.ys.length:Int))=some (.ref b):=by rw[ek];exact qc4 hk
     have l2:0<(r.ys.length:Int):=by ext
     walk_at "r"
     exact λH8 b8 h8=>app _ H7 n7.same H8 b8 h8 _ rfl
    ·refine ⟨_,rfl,.inl ⟨rfl,_,SqL.of hlt7⟩,_,rfl,_,rfl,_,rfl,_,_,rfl,rfl,⟨by decide,by decide⟩,t,l,xs,ps,g,r.d,x / 3,rfl,n7.same _ _ (s6 _ _ ht),n7.same _ _ (s6 _ _ hl),(hx.same s6).same n7.same,D,I4.R.hd,λtm H8 _ s8=>?_⟩
     exact ⟨lt,_,_,rfl,rfl,s8 _ _ hlt7,qai (by rw[Aa];ext),λH9 b9 h9=>app _ H8 (n7.same.trans s8) H9 b9 h9 _ rfl⟩
   ·refine ⟨_,rfl,.inl ⟨rfl,_,SqL.of hlt6⟩,_,rfl,_,rfl,_,rfl,_,_,rfl,rfl,⟨by decide,by decide⟩,t,l,xs,ps,g,r.d,x / 3,rfl,s6 _ _ ht,s6 _ _ hl,hx.same s6,D,I4.R.hd,λtm H8 _ s8=>?_⟩
    exact ⟨lt,_,_,rfl,rfl,s8 _ _ hlt6,qai (by rw[Aa];ext),λH9 b9 h9=>app _ H8 s8 H9 b9 h9 _ rfl⟩
  rintro σ H6 ⟨s6,hls6,hx6,hle6,hlr6,ts,v10,hlt6,hts,rfl⟩;refine hN5 _ _ ?_;clear hN5
  try dsimp only
  rw[Aa] at hts;have lE:(qfj rs).length<=60:=by unfold qfj;exact AL (EL _ _) r2
  refine ⟨_,rfl,lt,ts,rfl,SqL.of hlt6,by ext,λmn _ _=>⟨by show 1<=sizeLine;decide,λp7 H7 n7=>⟨_,rfl,p7,le,_,_,rfl,rfl,n7.at_,n7.same _ _ hle6,AB (qai (by rw[Aa,A9];ext)),λp8 H8 n8=>⟨p8,mn :: qfj rs,rfl,SqL.of n8.at_,by simp,λav _ ha2=>?_⟩⟩⟩⟩;have s8:=s6.trans (n7.same.trans n8.same);have hx8:=n8.same _ _ (n7.same _ _ hx6);have hlt8:=n8.same _ _ (n7.same _ _ hlt6);clear n7 n8
  walk_at "r"
  refine qb3 (λz=>?_) λz=>?_
  ·walk_at "r";intro p9 H9 n9
   exact q p9 av none H9 (s8.trans n9.same) n9.at_ λz hz=>ha2 z (Ad _ hz)
  ·refine ⟨_,rfl,_,rfl,lt,ts,rfl,SqL.of hlt8,by ext,λbv _ _=>⟨by show 2<=sizeLine;decide,λp9 H9 n9=>?_⟩⟩
   exact q p9 av (some bv) H9 (s8.trans n9.same) n9.at_ λz hz=>ha2 z (Ad _ hz)
def RdF (r:RD):Prop:=∃ (ws es:List Int) (ge:Option Int) (rs:List Rd3),r.s=qa8 (qa1 ws es ge) rs/\Fall ws es ge/\1<=es.length/\rs.length<=17/\∀ q∈rs,RunT q.2
theorem qqo:∀ {ps:List HP4},PsC ps->(qeo ps).length<=3*ps.length
 | [],_=>Ak _
 | h :: t,c=>by
  have ih:=qqo (ps:=t) λx hx=>c x (Ad _ hx)
  have:=(WRow.of (c h Ae)).len;rw[qm0,Ag,AF];have e:(wOf h).length=(qlr h.1 h.2.1 h.2.2.1 h.2.2.2).length:=rfl;ext
def qAa (x:HP4):Prop:=1<=x.1/\x.1<10 ^ 42 /\ -(10 ^ 80)<x.2.1/\x.2.1<10 ^ 80/\x.2.2.1<=x.2.2.2
theorem HMade.fit {n:Nat} {x:HP4} (h:HMade n x) (hn:n<=100):qAa x/\qjt x.1 x.2.1 x.2.2.1 x.2.2.2/\HBd x.1 x.2.2.1 x.2.2.2:=by
 obtain ⟨q,o,t,l1,l2⟩:=h.ex;have n1:=(qB1 t.ok).1;have n2:=qB2 t;have n3:=qCq t;have e1:=o.m;have e2:=o.t;exact ⟨⟨by ext,by ext,by ext,by ext,(o.can t.ok).le⟩,o.can t.ok,o.bd t.ok (by ext)⟩
def toH (r:List Int):HP4:=(r.getD 0 0,r.getD 1 0,r.getD 2 0,r.getD 3 0)
theorem qus {r:RD} (h:RdF r) (a b:Option Int):(kOf a b r).length<=17/\∀ x∈kOf a b r,∃ g:HP4,x=j4 g/\qAa g:=by
 obtain ⟨ws,es,ge,rs,es',F,l1,l6,ok⟩:=h;have ft:=Fit.all (qa1 ws es ge) rs ok;have rl:=qrh (cell:=qa1 ws es ge) (rs:=rs);rw[<- es'] at ft rl;unfold kOf qmx;refine ⟨?_,λx hx=>?_⟩
 ·rw[Ag,Aa,Aa]
  have h1:=Bx (kZ a b) (qa4 r.s);have h2:=Bx (kY a b) (qbg r.s);ext
 ·rcases AK.mp hx with z|z
  ·obtain ⟨y,hy,rfl⟩:=Ah.mp z
   obtain ⟨k,x,e,rfl⟩:=qm1 (AX.mp hy).1;obtain ⟨hm,t,p,w,_,_,rfl⟩:=ft.z k x e;exact ⟨x,rfl,(hm.fit (by ext)).1⟩
  ·obtain ⟨y,hy,rfl⟩:=Ah.mp z
   obtain ⟨k,x,e,rfl⟩:=qt7 (AX.mp hy).1;obtain ⟨t,v,rfl,hv,x1,x2⟩:=ft.y k x e;have x3:x<=17*10 ^ 31:=by ext
   have m1:v*x<=10 ^ 31*x:=AG (by ext) (by ext);have m2:-(10 ^ 31)*x<=v*x:=AG (by ext) (by ext);refine ⟨qfp v x,rfl,?_,?_,?_,?_,Bi _⟩
   ·show 1<=x;ext
   ·show x<10 ^ 42;ext
   ·show -(10 ^ 80)<v*x;ext
   ·show v*x<10 ^ 80;ext
theorem qut {r:RD} (h:RdF r) (a b:Option Int):(pOf a b r).length<=2/\∀ x∈(pOf a b r).map (List.drop 2),∃ g:HP4,x=j4 g/\qAa g/\qjt g.1 g.2.1 g.2.2.1 g.2.2.2/\HBd g.1 g.2.2.1 g.2.2.2:=by
 obtain ⟨ws,es,ge,rs,es',F,l1,l6,ok⟩:=h;have ft:=Fit.all (qa1 ws es ge) rs ok;rw[<- es'] at ft;refine ⟨qt8 (F.whole l1) ft a b,λx hx=>?_⟩;obtain ⟨y,hy,rfl⟩:=Ah.mp hx;obtain ⟨k,x,e,rfl⟩:=qm1 (AX.mp hy).1;obtain ⟨hm,t,p,w,_,_,rfl⟩:=ft.z k x e;exact ⟨x,rfl,hm.fit (by ext)⟩
theorem qAb {rs:List RD} (h:∀ r∈rs,RdF r) (ln:rs.length<=3) (a b:Option Int):∃ hs ps:List HP4,qkx a b rs=hs.map j4/\qh0 a b rs=ps.map j4/\HsOk hs/\PsOk ps/\∀ g∈hs,g.2.2.1<=g.2.2.2:=by
 have lK:∀ {rs:List RD},(∀ r∈rs,RdF r)->(qkx a b rs).length<=17*rs.length/\(qh0 a b rs).length<=2*rs.length:=by
  intro rs
  induction rs with
  | nil=>intro _;simp[qkx,qh0]
  | cons r t ih =>
   intro h;obtain ⟨i1,i2⟩:=ih λx hx=>h x (Ad _ hx)
   have k1:=(qus (h r Ae) a b).1;have k2:=(qut (h r Ae) a b).1;have e1:qkx a b (r :: t)=kOf a b r ++ qkx a b t:=rfl;have e2:qh0 a b (r :: t)=(pOf a b r).map (List.drop 2) ++ qh0 a b t:=rfl;rw[e1,e2,Ag,Ag,Aa,AF];ext
 obtain ⟨l1,l2⟩:=lK h;have fK:∀ x∈qkx a b rs,∃ g:HP4,x=j4 g/\qAa g:=λx hx=>by
  obtain ⟨r,hr',hx⟩:=CQ.mp hx;exact (qus (h r hr') a b).2 x hx
 have fP:∀ x∈qh0 a b rs,∃ g:HP4,x=j4 g/\qAa g/\qjt g.1 g.2.1 g.2.2.1 g.2.2.2/\HBd g.1 g.2.2.1 g.2.2.2:=λx hx=>by
  obtain ⟨r,hr',hx⟩:=CQ.mp hx;exact (qut (h r hr') a b).2 x hx
 have eK:qkx a b rs=((qkx a b rs).map toH).map j4:=by
  rw[By]
  conv=>lhs;rw[<- DH (qkx a b rs)]
  refine Bc λx hx=>?_
  obtain ⟨g,rfl,_⟩:=fK x hx
  rfl
 have eP:qh0 a b rs=((qh0 a b rs).map toH).map j4:=by
  rw[By]
  conv=>lhs;rw[<- DH (qh0 a b rs)]
  refine Bc λx hx=>?_
  obtain ⟨g,rfl,_⟩:=fP x hx
  rfl
 have mK:∀ g∈(qkx a b rs).map toH,qAa g:=λg hg'=>by
  obtain ⟨x,hx,rfl⟩:=Ah.mp hg';obtain ⟨g,rfl,f⟩:=fK x hx;exact f
 have mP:∀ g∈(qh0 a b rs).map toH,qAa g/\qjt g.1 g.2.1 g.2.2.1 g.2.2.2/\HBd g.1 g.2.2.1 g.2.2.2:=λg hg'=>by
  obtain ⟨x,hx,rfl⟩:=Ah.mp hg';obtain ⟨g,rfl,f⟩:=fP x hx;exact f
 have pc:PsC ((qh0 a b rs).map toH):=λg hg'=>(mP g hg').2.1
 have lw:=qqo pc;rw[Aa] at lw;refine ⟨_,_,eK,eP,⟨by rw[Aa];ext,λg hg'=>?_⟩,⟨by ext,⟨by rw[Aa];ext,λg hg'=>?_⟩,λg hg'=>(mP g hg').2⟩,λg hg'=>(mK g hg').2.2.2.2⟩
 ·obtain ⟨q1,q2,q3,q4,_⟩:=mK g hg'
  exact ⟨q1,q2,q3,q4⟩
 ·obtain ⟨q1,q2,q3,q4,_⟩:=(mP g hg').1
  exact ⟨q1,q2,q3,q4⟩
theorem qo0 {f:List Int->HP4} {g:List Int->List (Int×Int)}:∀ (ks:List (List Int)) {hs:List HP4} {rs:List (Int×Int)},(∀ k∈ks,HeapOf (g k) (f k).1 (f k).2.1 (f k).2.2.1 (f k).2.2.2)->Lk hs rs->Lk (hs ++ ks.map f) (rs ++ ks.flatMap g)
 | [],hs,rs,_,h=>by simpa using h
 | k :: ks,hs,rs,ho,h=>by
  have h1:=h.snoc (ho k Ae);have h2:=qo0 ks (λx hx=>ho x (Ad _ hx)) h1;rw[AR,Cg]
  simpa using h2
theorem quu {f:List Int->HP4} {g S:List Int->List (Int×Int)}:∀ (ks:List (List Int)) {ps:List HP4} {P:List (Int×Int)},(∀ k∈ks,HeapOf (g k) (f k).1 (f k).2.1 (f k).2.2.1 (f k).2.2.2/\qbq (g k)/\SubR (S k) (g k))->Lp ps P->Lp (ps ++ ks.map f) (P ++ ks.flatMap S)
 | [],ps,P,_,h=>by simpa using h
 | k :: ks,ps,P,ho,h=>by
  obtain ⟨o,ok,sb⟩:=ho k Ae;have h1:=h.snoc o ok sb;have h2:=quu ks (λx hx=>ho x (Ad _ hx)) h1;rw[AR,Cg]
  simpa using h2
def inS (a b:Option Int) (t:Int):Bool:=(match a with|none=>true|some x=>decide (x<=t)) && match b with|none=>true|some y=>decide (t<y)
theorem quv (a b:Option Int) (p w:Int) (hw:0<=w):qgj a b p w<=w:=by
 unfold qgj qru qmw
 cases a<;>cases b<;>dsimp only<;>(repeat' split)<;>ext
theorem qx4 {a b:Option Int} {p w t:Int} (hw:1<=w) (h1:p<=t) (h2:t<p+w):(qgj a b p w=w->inS a b t=true)/\(inS a b t=true->0<qgj a b p w):=by
 unfold qgj qru qmw inS
 cases a<;>cases b<;>dsimp only<;>simp only[Bu,AV,Bool.and_true,Dk]<;>refine ⟨λh=>?_,λh=>?_⟩<;>(repeat' split at h)<;>(repeat' split)<;>first|trivial|ext
theorem qAc {a b:Option Int} {t:Int}:decide (qgj a b t 1=1)=inS a b t:=by
 have h:=qx4 (a:=a) (b:=b) (p:=t) (w:=1) (t:=t) (by ext) (Bi _) (by ext);have h2:=quv a b t 1 (by ext)
 cases e:inS a b t with
 | true=>exact AD (by have:=h.2 e;ext)
 | false=>exact Az λz=>by rw[h.1 z] at e;cases e
theorem mem_tag {c:Int} {k:List Int} {A:List (List Int)}:(c :: k∈A.map λj=>c :: j)↔k∈A:=
 ⟨λh=>(by obtain ⟨j,hj,e⟩:=Ah.mp h;injection e with _ e;rw[<- e];exact hj),λh=>Ah.mpr ⟨k,h,rfl⟩⟩
theorem qqp {c:Int} (h:c≠d) {k:List Int} {A:List (List Int)}:¬ (d :: k∈A.map λj=>c :: j):=λz=>by
 obtain ⟨j,_,e⟩:=Ah.mp z;injection e with e _
 exact h e
theorem quw {c:Int} {A:List (List Int)}:¬ (([]:List Int)∈A.map λj=>c :: j):=λz=>by
 obtain ⟨j,_,e⟩:=Ah.mp z;cases e
theorem qx5 {c:Int} (h:c≠d) {k:List Int} {A B:List (List Int)} (h1:k∈A.map λj=>c :: j) (h2:k∈B.map λj=>d :: j):False:=by
 obtain ⟨j,_,rfl⟩:=Ah.mp h1;exact qqp h.symm h2
theorem qux {c:Int} {A:List (List Int)} (h:A.Nodup):(A.map λj=>c :: j).Nodup:=BF.mpr (List.Pairwise.imp (λhne e=>hne (by injection e)) h)
def InC (cell:Int->Option (Int×Int)):Prop:=∀ t p w,cell t=some (p,w)->w≠0->1<=w/\p<=t/\t<p+w
noncomputable def zOf (s:Abs) (k:List Int):HP4:=(s.z k).getD (0,0,0,0)
noncomputable def yOf (s:Abs) (k:List Int):HP4:=qfp (k.getD 1 0) ((s.y k).getD 0)
theorem qo1 {cell:Int->Option (Int×Int)} {rs:List Rd3} (ic:InC cell) (ok:∀ r∈rs,RunT r.2) (a b:Option Int) (ng:∀ r∈rs,inS a b r.1=true->cell r.1≠none)
  (sy:SKeys (qa8 cell rs).y my) (sz:SKeys (qa8 cell rs).z mz) :
  ∃ K P:List (Int×Int),Lk ((mz.filter λk=>kZ a b (qec (qa8 cell rs) k)).map (zOf (qa8 cell rs)) ++ (my.filter λk=>kY a b (qf2 (qa8 cell rs) k)).map (yOf (qa8 cell rs))) K /\
   Lp ((mz.filter λk=>cZ a b (qec (qa8 cell rs) k)).map (zOf (qa8 cell rs))) P/\(K ++ P).Perm ((rs.filter λr=>inS a b r.1).map (·.2)):=by
 have gz:=GZ.all cell rs
 generalize qa8 cell rs=s at gz sy sz
 have zo:∀ k∈mz,HeapOf (grp cell (1 :: k) rs) (zOf s k).1 (zOf s k).2.1 (zOf s k).2.2.1 (zOf s k).2.2.2:=λk hk=>by
  unfold zOf
  cases e:s.z k with
  | none=>exact absurd e ((sz.mem k).mp hk)
  | some x=>exact gz.zs k x e
 have yo:∀ k∈my,HeapOf (grp cell (0 :: k) rs) (yOf s k).1 (yOf s k).2.1 (yOf s k).2.2.1 (yOf s k).2.2.2:=λk hk=>by
  unfold yOf
  cases e:s.y k with
  | none=>exact absurd e ((sy.mem k).mp hk)
  | some x =>
   obtain ⟨t,v,rfl,o⟩:=gz.ys k x e;exact o
 have rok:∀ k,∀ r∈qu5 cell k rs,r∈rs:=λk r hr=>(AX.mp hr).1
 have lk:=qo0 (my.filter λk=>kY a b (qf2 s k)) (λk hk=>yo k (AX.mp hk).1) (qo0 (hs:=[]) (rs:=[]) (mz.filter λk=>kZ a b (qec s k)) (λk hk=>zo k (AX.mp hk).1) Lk.nil);have lp:=quu (ps:=[]) (P:=[]) (S:=λk=>((qu5 cell (1 :: k) rs).filter λr=>inS a b r.1).map (·.2)) (mz.filter λk=>cZ a b (qec s k)) (λk hk=>⟨zo k (AX.mp hk).1,(λp hp=>by
  obtain ⟨r,hr,rfl⟩:=Ah.mp hp;exact (ok r (rok _ r hr)).ok),qi0 λr hr=>(ok r (rok _ r hr)).2.1⟩) Lp.nil
 rw[Bs,Bs] at lk lp;exists _,_,lk,lp;obtain ⟨A,eA⟩:∃ A,A=mz.filter λk=>kZ a b (qec s k):=⟨_,rfl⟩
 obtain ⟨B,eB⟩:∃ B,B=my.filter λk=>kY a b (qf2 s k):=⟨_,rfl⟩
 obtain ⟨C,eC⟩:∃ C,C=mz.filter λk=>cZ a b (qec s k):=⟨_,rfl⟩
 rw[<- eA,<- eB,<- eC];have ndA:(A.map λk=>(1:Int) :: k).Nodup:=qux (by rw[eA];exact sz.nd.filter _);have ndB:(B.map λk=>(0:Int) :: k).Nodup:=qux (by rw[eB];exact sy.nd.filter _);have ndC:(C.map λk=>(1:Int) :: k).Nodup:=qux (by rw[eC];exact sz.nd.filter _);have pA:=qf8 (cell:=cell) (rs:=rs) ndA;have pB:=qf8 (cell:=cell) (rs:=rs) ndB;have pC:=(qf8 (cell:=cell) (rs:=rs) ndC).filter λr=>inS a b r.1
 rw[List.flatMap_map] at pA pB pC;rw[List.filter_flatMap,List.filter_filter] at pC;have eq1:(A.flatMap (λk=>grp cell (1 :: k) rs) ++ B.flatMap (λk=>grp cell (0 :: k) rs)) ++ C.flatMap (λk=>((qu5 cell (1 :: k) rs).filter λr=>inS a b r.1).map (·.2))=(((A.flatMap λk=>qu5 cell (1 :: k) rs) ++ (B.flatMap λk=>qu5 cell (0 :: k) rs)) ++ (C.flatMap λk=>(qu5 cell (1 :: k) rs).filter λr=>inS a b r.1)).map (·.2):=by
  rw[Ao,Ao,Eb,Eb,Eb];rfl
 rw[eq1];refine List.Perm.map _ ?_;have p1:=(pA.append pB).trans (qf7 (λx hx=>Az λhy=>qx5 (c:=1) (d:=0) (by decide) (AM hx) hy) rs);have dAC:∀ k,k∈A->k∈C->False:=λk hA hC=>by
  rw[eA] at hA;rw[eC] at hC;have h1:=AM (AX.mp hA).2;have h2:=(AX.mp hC).2;unfold cZ at h2;rw[Bu,AV,AV] at h2;ext
 refine ((p1.append pC).trans (qf7 (λx hx=>?_) rs)).trans (List.Perm.of_eq (List.filter_congr λr hr=>?_))
 ·rw[Bool.and_eq_false_iff]
  refine .inr (Az λhy=>?_);rw[Bool.or_eq_true,AV,AV] at hx;obtain ⟨k,hk,ek⟩:=Ah.mp hy;rw[<- ek] at hx
  rcases hx with hx|hx
  ·exact dAC k (mem_tag.mp hx) hk
  ·exact qx5 (c:=0) (d:=1) (by decide) hx (mem_tag.mpr hk)
 ·have hin:∀ k,qf3 cell r=k->r.2∈grp cell k rs:=λk e=>Ah.mpr ⟨r,AX.mpr ⟨hr,AD e⟩,rfl⟩
  cases e:cell r.1 with
  | none =>
   have tg:qf3 cell r=[]:=by unfold qf3;rw[e]
   have nS:inS a b r.1=false:=by
    cases z:inS a b r.1 with
    | false=>rfl
    | true=>exact absurd e (ng r hr z)
   rw[tg,nS,Az quw,Az quw];rfl
  | some p =>
   obtain ⟨p,w⟩:=p
   by_cases hw:w=0
   ·have tg:qf3 cell r=[0,r.1,r.2.1]:=by unfold qf3;rw[e];simp[hw]
    have hm:[r.1,r.2.1]∈my:=(sy.mem _).mpr λz=>by
     have:=hin _ tg;rw[gz.yn _ z] at this;cases this
    rw[tg,Az (qqp (c:=1) (d:=0) (by decide)),Az (qqp (c:=1) (d:=0) (by decide)),DP,ED,ET];have:(0:Int) :: [r.1,r.2.1]∈B.map (λk=>(0:Int) :: k)↔inS a b r.1=true:=by
     rw[mem_tag,eB,AX,<- qAc (a:=a) (b:=b) (t:=r.1)];exact ⟨λh=>h.2,λh=>⟨hm,h⟩⟩
    have e1:decide ((0:Int) :: [r.1,r.2.1]∈B.map (λk=>(0:Int) :: k))=decide (inS a b r.1=true):=D9.mpr this;rw[e1];simp
   ·have tg:qf3 cell r=[1,p,w]:=by unfold qf3;rw[e];simp[hw]
    obtain ⟨w1,c1,c2⟩:=ic _ _ _ e hw;have hm:[p,w]∈mz:=(sz.mem _).mpr λz=>by
     have:=hin _ tg;rw[gz.zn _ z] at this;cases this
    have wi:=qx4 (a:=a) (b:=b) w1 c1 c2;have wl:=quv a b p w (by ext);have iA:(1:Int) :: [p,w]∈A.map (λk=>(1:Int) :: k)↔qgj a b p w=w:=by
     rw[mem_tag,eA,AX];exact ⟨λh=>AM h.2,λh=>⟨hm,AD h⟩⟩
    have iC:(1:Int) :: [p,w]∈C.map (λk=>(1:Int) :: k)↔0<qgj a b p w/\qgj a b p w<w:=by
     rw[mem_tag,eC,AX];refine ⟨λh=>?_,λh=>⟨hm,?_⟩⟩
     ·have h2:=h.2
      unfold cZ at h2;rw[Bu,AV,AV] at h2;exact h2
     ·unfold cZ
      rw[Bu,AV,AV];exact h
    have e1:decide ((1:Int) :: [p,w]∈A.map (λk=>(1:Int) :: k))=decide (qgj a b p w=w):=D9.mpr iA;have e2:decide ((1:Int) :: [p,w]∈C.map (λk=>(1:Int) :: k))=decide (0<qgj a b p w/\qgj a b p w<w):=D9.mpr iC;rw[tg,e1,e2,Az (qqp (c:=0) (d:=1) (by decide)),ET]
    cases z:inS a b r.1 with
    | true =>
     have h0:=wi.2 z
     by_cases y:qgj a b p w=w
     ·simp[y]
     ·have:0<qgj a b p w/\qgj a b p w<w:=⟨h0,by ext⟩
      simp[y,this]
    | false =>
     have y:¬ qgj a b p w=w:=λy=>by rw[wi.1 y] at z;cases z
     simp[y]
theorem quy {ge:Option Int} (F:Fall ws es ge) (hl:1<=es.length) {t:Int} (e:qa1 ws es ge t=none):qcf ge t:=by
 have h0:es[0]?=some es[0]:=Ab hl;have hlw:1<=ws.length:=by have:=F.len;ext
 have C:=qc6 (ge:=ge) hlw hl t;rw[e] at C
 rcases qez F h0 C with ⟨_,e2⟩|⟨_,hg,_⟩|⟨_,_,i,w',e',S,e2⟩
 ·cases e2
 ·exact hg
 ·cases e2
theorem Fall.inc {ge:Option Int} (F:Fall ws es ge) (hl:1<=es.length):InC (qa1 ws es ge):=by
 intro t p w e hw;have h0:es[0]?=some es[0]:=Ab hl;have hlw:1<=ws.length:=by have:=F.len;ext
 have C:=qc6 (ge:=ge) hlw hl t;rw[e] at C
 rcases qez F h0 C with ⟨_,e2⟩|⟨_,_,e2⟩|⟨_,hg,i,w',e',S,e2⟩
 ·cases e2;exact absurd rfl hw
 ·cases e2
 ·cases e2
  have w1:=F.pos i w S.gw;exact ⟨w1,(qju t w1).1,(qju t w1).2⟩
theorem Lk.app {gs:List HP4} {K L:List (Int×Int)} (a:Lk hs K) (b:Lk gs L):Lk (hs ++ gs) (K ++ L):=by
 refine ⟨by rw[qt5,qip,a.n,b.n],by rw[qxt,qka,a.t,b.t],λh hh=>?_,λx hx=>?_⟩
 ·rw[qbz]
  rcases AK.mp hh with z|z
  ·exact ⟨AE _ (a.v h z).1,AE _ (a.v h z).2⟩
  ·exact ⟨As _ (b.v h z).1,As _ (b.v h z).2⟩
 ·rw[qbz] at hx
  rcases AK.mp hx with z|z
  ·obtain ⟨h,hh,q⟩:=a.w x z;exact ⟨h,AE _ hh,q⟩
  ·obtain ⟨h,hh,q⟩:=b.w x z;exact ⟨h,As _ hh,q⟩
theorem Lp.app {gs:List HP4} {K L:List (Int×Int)} (a:Lp hs K) (b:Lp gs L):Lp (hs ++ gs) (K ++ L):=by
 refine ⟨by rw[qip,qka];exact a.s.add b.s,λx hx=>?_⟩;rw[qbz] at hx
 rcases AK.mp hx with z|z
 ·obtain ⟨h,hh,q⟩:=a.w x z;exact ⟨h,AE _ hh,q⟩
 ·obtain ⟨h,hh,q⟩:=b.w x z;exact ⟨h,As _ hh,q⟩
noncomputable def qn0 (ps:List (Int×Int)) (r:R4):RD:=⟨r.ro,r.q,qa8 (qa1 (ps.map (·.2)) r.es r.ge) r.rs,r.LY,r.LZ,r.rs.length⟩
def qrv (a b:Option Int) (r:R4):List (Int×Int):=(r.rs.filter λq=>inS a b q.1).map (·.2)
theorem qC4 {k:List Int} (h:k.length=2):∃ p w,k=[p,w]:=match k,h with|[p,w],_=>⟨p,w,rfl⟩
theorem qo2 {r:R4} (I:I47 C R H ps g r) (a:Int) (b:Option Int) (hg:∀ z,r.ge=some z->z<=a):∃ (hs pp:List HP4) (K P:List (Int×Int)),kOf (some a) b (qn0 ps r)=hs.map j4/\(pOf (some a) b (qn0 ps r)).map (List.drop 2)=pp.map j4/\Lk hs K/\Lp pp P/\(K ++ P).Perm (qrv (some a) b r):=by
 obtain ⟨my,mz,sy,sz,h2,hz2⟩:=I.R.R.skeys;obtain ⟨K,P,lk,lp,pm⟩:=qo1 (I.R.F.inc I.R.len) (λq hq=>(I.R.hr q hq).2) (some a) b (λq hq hin e=>by
  obtain ⟨z,hz,lz⟩:=quy I.R.F I.R.len e;have:=hg z hz;unfold inS at hin;rw[Bu] at hin;have h1:decide (a<=q.1)=true:=hin.1;have:=AM h1;ext) sy sz
 have zk:∀ k∈mz,(qec (qa8 (qa1 (ps.map (·.2)) r.es r.ge) r.rs) k).drop 2=j4 (zOf (qa8 (qa1 (ps.map (·.2)) r.es r.ge) r.rs) k):=λk hk=>by
  obtain ⟨p,w,rfl⟩:=qC4 (hz2 k hk);rfl
 have yk:∀ k∈my,yH (qf2 (qa8 (qa1 (ps.map (·.2)) r.es r.ge) r.rs) k)=j4 (yOf (qa8 (qa1 (ps.map (·.2)) r.es r.ge) r.rs) k):=λk hk=>by
  obtain ⟨p,w,rfl⟩:=qC4 (h2 k hk);rfl
 refine ⟨_,_,K,P,?_,?_,lk,lp,pm⟩
 ·show qmx (some a) b (qbg (qa8 (qa1 (ps.map (·.2)) r.es r.ge) r.rs)) (qa4 (qa8 (qa1 (ps.map (·.2)) r.es r.ge) r.rs))=_
  unfold qmx;rw[<- qcg sy,<- qb1 sz,DB,DB,By,By,Ao,By,By]
  congr 1
  ·exact Bc λk hk=>zk k (AX.mp hk).1
  ·exact Bc λk hk=>yk k (AX.mp hk).1
 ·show (qix (some a) b (qa4 (qa8 (qa1 (ps.map (·.2)) r.es r.ge) r.rs))).map (List.drop 2)=_
  unfold qix;rw[<- qb1 sz,DB,By,By];exact Bc λk hk=>zk k (AX.mp hk).1
theorem qEu {A B C D E F:List (Int×Int)} (h1:(A ++ B).Perm E) (h2:(C ++ D).Perm F):((A ++ C) ++ (B ++ D)).Perm (E ++ F):=by
 refine List.Perm.trans ?_ (h1.append h2);rw[B6,B6];refine Fw A ?_;rw[<- B6,<- B6];exact Fq.append_right D
theorem qhl {C R:Addr} {H:Hp} {ps:List (Int×Int)} {g:Option Int} (a:Int) (b:Option Int):∀ (rs:List R4),(∀ r∈rs,I47 C R H ps g r/\∀ z,r.ge=some z->z<=a)->∃ (hs pp:List HP4) (K P:List (Int×Int)),qkx (some a) b (rs.map (qn0 ps))=hs.map j4/\qh0 (some a) b (rs.map (qn0 ps))=pp.map j4/\Lk hs K/\Lp pp P/\(K ++ P).Perm (rs.flatMap (qrv (some a) b))
 | [],_=>⟨[],[],[],[],rfl,rfl,Lk.nil,Lp.nil,.nil⟩
 | r :: t,h=>by
  obtain ⟨I,hg⟩:=h r Ae;obtain ⟨h1,p1,K1,P1,e1,e2,a1,a2,a3⟩:=qo2 I a b hg;obtain ⟨h2,p2,K2,P2,f1,f2,b1,b2,b3⟩:=qhl a b t λx hx=>h x (Ad _ hx)
  exists h1 ++ h2,p1 ++ p2,K1 ++ K2,P1 ++ P2,?_,?_,a1.app b1,a2.app b2
  ·rw[AR,Ao,<- e1,<- f1];rfl
  ·rw[AR,Ao,<- e2,<- f2];rfl
  ·rw[Cg];exact qEu a3 b3
theorem qx6:∀ {hs gs:List HP4},hs.map j4=gs.map j4->hs=gs:=fun {hs gs} e=>by
 have:=congrArg (List.map toH) e;rw[By,By] at this;have id1:∀ l:List HP4,l.map (toH ∘ j4)=l:=λl=>by
  conv=>rhs;rw[<- DH l]
  exact Bc λx _=>rfl
 rwa [id1,id1] at this
theorem qn1 {n t:Int} (h:Sb [] n t):n=0/\t=0:=by
 have h0:=h.n0;have h1:n<=0:=h.n1;have h2:1*t-0*n<=0:=h.up 0 1 (by ext);have h3:-(0:Int)<=1*t-0*n:=h.lo 0 1 (by ext);ext
theorem qAd {n w:Int} (hk:k<5) (hl:∀ h∈hs,h.2.2.1<=h.2.2.2) (a:Can k hs [] z n) (b:Can k hs [] w m):¬ z*m<w*n:=by
 match k,hk,a,b with
 | 0,_,⟨e1,a1,a2⟩,⟨e2,b1,b2⟩ =>
  have:mN ([]:List HP4)=0:=rfl;rw[e1,e2];ext
 | 1,_,⟨e1,n1,t1,s1,a1⟩,⟨e2,n2,t2,s2,b1⟩ =>
  have:=qn1 s1;have:=qn1 s2;rw[e1,e2];ext
 | 2,_,⟨e1,⟨h1,m1,l1,u1⟩,a1⟩,⟨e2,⟨h2,m2,l2,u2⟩,b1⟩ =>
  rw[Bl] at m1 m2;have:=a1 h2 m2;have:=b1 h1 m1;rw[e1,e2];ext
 | 3,_,⟨e1,⟨h1,m1,l1,u1⟩,a1⟩,⟨e2,⟨h2,m2,l2,u2⟩,b1⟩ =>
  rw[Bl] at m1 m2;have:=a1 h2 m2;have:=b1 h1 m1;rw[e1,e2];ext
 | 4,_,⟨e1,n1,t1,s1,p1,a1⟩,⟨e2,n2,t2,s2,p2,b1⟩ =>
  obtain ⟨rfl,rfl⟩:=qn1 s1;obtain ⟨rfl,rfl⟩:=qn1 s2;rw[D5] at a1 b1 p1;rw[D5] at a1 b1;intro hlt;have h1:z*m*mN hs<w*n*mN hs:=Es hlt (by ext);have h2:z*m*mN hs=mT hs*n*m:=by rw[DS,a1]
  have h3:w*n*mN hs=mT hs*m*n:=by rw[DS,b1]
  rw[h2,h3,DS] at h1;exact Int.lt_irrefl _ h1
theorem qqq:∀ (rs:List RD) (x:Option Int) (w:Int),rs.foldl (λe r=>qn2 e r.c.ge) x=some w->x=some w\/∃ r∈rs,r.c.ge=some w
 | [],x,w,h=>.inl h
 | q :: t,x,w,h=>by
  rcases qqq t _ w h with z|⟨r,hr',e⟩
  ·rcases qt1 z with z|z
   ·exact .inl z
   ·exact .inr ⟨q,Ae,z⟩
  ·exact .inr ⟨r,Ad _ hr',e⟩
theorem qC5 {rs:List R4} {a:Int} (h:∀ r∈rs,I47 C R H ps g r/\∀ z,r.ge=some z->z<=a):¬ qzo (gMx (rs.map (qn0 ps))) (some a):=by
 intro bad
 cases e:gMx (rs.map (qn0 ps)) with
 | none=>rw[e] at bad;obtain ⟨z,hz,_⟩:=bad;cases hz
 | some w =>
  rcases qqq _ none w e with z|⟨r,hr',e2⟩
  ·cases z
  ·obtain ⟨q,hq,rfl⟩:=Ah.mp hr'
   obtain ⟨I,hg⟩:=h q hq;have e3:q.q.ge=some w:=e2;rw[I.R.qh] at e3;have:=hg w e3;rw[e] at bad;obtain ⟨z,hz,hx⟩:=bad;have:=hx a rfl;have:=Ax hz;ext
noncomputable def alR (ps:List (Int×Int)) (a b:Option Int) (r:R4):Bool:=(qa4 (qa8 (qa1 (ps.map (·.2)) r.es r.ge) r.rs)).all λx=>!cZ a b x
theorem qqr {ps:List (Int×Int)} {a b:Option Int}:∀ {rs:List R4},rs.all (alR ps a b)=true->qh0 a b (rs.map (qn0 ps))=[]
 | [],_=>rfl
 | r :: t,h=>by
  rw[EN,Bu] at h;have e:qh0 a b ((r :: t).map (qn0 ps))=(pOf a b (qn0 ps r)).map (List.drop 2) ++ qh0 a b (t.map (qn0 ps)):=rfl;have e1:pOf a b (qn0 ps r)=[]:=Fd.mpr λx hx=>by
   have h1:(qa4 (qa8 (qa1 (ps.map (·.2)) r.es r.ge) r.rs)).all (λx=>!cZ a b x)=true:=h.1;have:=Eh.mp h1 x hx;intro z;rw[z] at this;cases this
  rw[e,qqr h.2,e1];rfl
theorem qwt {ps:List HP4} (hk:k<5) (ok:HsOk hs) (hl:∀ h∈hs,h.2.2.1<=h.2.2.2) (pok:PsOk ps) (ne:2<=k->hs≠[]\/ps≠[]) (t:qkw H k hs ps x y):∃ z1 n1 z2 n2,TF H k hs ps x y z1 n1 z2 n2:=by
 by_cases h:hs≠[]\/ps≠[]
 ·exact qwk hk ok hl pok h t
 ·have h1:hs=[]:=Cr λz=>h (.inl z)
  have h2:ps=[]:=Cr λz=>h (.inr z)
  subst h1 h2
  rcases qEq hk with rfl|rfl|rfl|rfl|rfl
  ·obtain ⟨rfl,rfl⟩:=t
   refine ⟨0,1,0,1,.inl ⟨by ext,rfl,rfl⟩,.inl ⟨by ext,rfl,rfl⟩,(λe=>by cases e),(λe=>by cases e),⟨rfl,Bi _,Bi _⟩,⟨rfl,Bi _,Bi _⟩,λz n _ c=>?_⟩;obtain ⟨rfl,c1,c2⟩:=c;have c1:(0:Int)<=z:=c1;have c2:z<=0+0:=c2;ext
  ·obtain ⟨rs,pm,rfl,rfl⟩:=t
   have e:rs=[]:=Dq (show rs.Perm [] from pm);subst e;have s0:Sb [] 0 0:=Lp.nil.s;refine ⟨0,1,0,1,.inl ⟨by ext,rfl,rfl⟩,.inl ⟨by ext,rfl,rfl⟩,(λe=>by cases e),(λe=>by cases e),⟨rfl,0,0,s0,rfl⟩,⟨rfl,0,0,s0,rfl⟩,λz n _ c=>?_⟩;obtain ⟨rfl,m,u,su,rfl⟩:=c;obtain ⟨rfl,rfl⟩:=qn1 su;have e:mT ([]:List HP4)=0:=rfl;rw[e];ext
  ·exact absurd (ne (by ext)) h
  ·exact absurd (ne (by ext)) h
  ·exact absurd (ne (by ext)) h
theorem quz (hk:k<5) (h2:2<=k) (t:qkw H k [] [] x y):x=.non/\y=.non:=by
 rcases qEq hk with rfl|rfl|rfl|rfl|rfl
 ·ext
 ·ext
 ·rcases t with ⟨_,_,a,b⟩|⟨_,_,_,_,m,_⟩
  ·exact ⟨a,b⟩
  ·cases m.1
 ·rcases t with ⟨_,_,a,b⟩|⟨_,_,_,_,m,_⟩
  ·exact ⟨a,b⟩
  ·cases m.1
 ·rcases t with ⟨_,_,a,b⟩|⟨_,_,rs,_,_,_,_,_,_,_,_,pm,_,n,_⟩
  ·exact ⟨a,b⟩
  ·have e:rs=[]:=Dq (show rs.Perm [] from pm)
   exact absurd e (n.elim (λz=>absurd rfl z) id)
structure Ap47 (r0 r:R4):Prop where
 n1:r.q.dy≠r0.q.dy
 n2:r.q.dy≠r0.q.dh
 n3:r.q.dh≠r0.q.dy
 n4:r.q.dh≠r0.q.dh
 l1:r.q.rl≠r0.lr
 l2:r.q.le≠r0.lr
 l3:r.le≠r0.lr
 l4:r.lr≠r0.lr
theorem Ap47.of {r0 r:R4} (I:I47 C R H ps g r0) (f:F47 H r):Ap47 r0 r:=by
 obtain ⟨⟨Y,hY⟩,⟨Z,hZ⟩⟩:=I.R.R.dicts;exact ⟨(qae hY f.dy).symm,(qae hZ f.dy).symm,(qae hY f.dh).symm,(qae hZ f.dh).symm,(qae I.lr f.rl).symm,(qae I.lr f.qe).symm,(qae I.lr f.le).symm,(qae I.lr f.lr).symm⟩
def ApL:List R4->Prop
 | []=>True
 | r0 :: t=>∀ r∈t,Ap47 r0 r
theorem ApL.snoc {C R:Addr} {H:Hp} {ps:List (Int×Int)} {g:Option Int} {r:R4} (f:F47 H r):∀ {ys:List V} {rs:List R4},Paired (qoz C R H ps g) ys rs->ApL rs->ApL (rs ++ [r])
 | _,_,.nil,_=>λ_ h=>by cases h
 | _,_,.cons q _,a=>λx hx=>(AK.mp hx).elim (a x) λz=>by rw[AI.mp z];exact Ap47.of q.2.2.1 f
theorem qu0 {C R:Addr} {H:Hp} {ps:List (Int×Int)} {g:Option Int} {v:V} {r:R4} (h:qoz C R H ps g v r):∀ {ys:List V} {rs:List R4},Paired (qoz C R H ps g) ys rs->Paired (qoz C R H ps g) (ys ++ [v]) (rs ++ [r])
 | _,_,.nil=>.cons h .nil
 | _,_,.cons q t=>.cons q (qu0 h t)
theorem qqs {rs:List R4} (h:Paired (qoz C R H ps g) ys rs):∀ r∈rs,I47 C R H ps g r/\r.n<=18:=by
 induction h with
 | nil=>intro r hr;cases hr
 | cons q _ ih =>
  intro r hr
  rcases Av.mp hr with rfl|z
  ·exact q.2.2
  ·exact ih r z
theorem qx7 {C R:Addr} {H:Hp} {ps:List (Int×Int)} {g:Option Int}:∀ {ys:List V} {rs:List R4},Paired (qoz C R H ps g) ys rs->Rds C R H (rs.map λr=>.ref r.ro) (rs.map (qn0 ps))
 | _,_,.nil=>.nil
 | _,_,.cons q t=>.cons (q.2.2.1.R.rd (AL q.2.2.2 (by ext))) (qx7 t)
theorem qC6 {r:R4} (I:I47 C R H ps g r) (h:r.n<=17):RdF (qn0 ps r):=
 ⟨_,r.es,r.ge,r.rs,rfl,I.R.F,I.R.len,AL I.R.rl h,λq hq=>(I.R.hr q hq).2⟩
theorem I47.but {r0 r:R4} (I0:I47 C R H ps g r0) (I:I47 C R H ps g r) (b:But2 r0.q.dy r0.q.dh H H') (ap:Ap47 r0 r):I47 C R H' ps g r:=by
 obtain ⟨⟨Y,hY⟩,⟨Z,hZ⟩⟩:=I0.R.R.dicts;have kl:∀ {a:Addr} {zs:List V},H a=some (.lst zs)->H' a=some (.lst zs):=λh=>b _ _ h (qfi h hY (by intro ys z;cases z)) (qfi h hZ (by intro ys z;cases z))
 exact ⟨{ I.R with R:=I.R.R.frame b hY hZ ap.n1 ap.n2 ap.n3 ap.n4 },kl I.le,kl I.lr,I.ys.tupS λa zs h=>b _ _ h (qa0 h hY (by intro z;cases z)) (qa0 h hZ (by intro z;cases z)),I.a1,I.a2,I.a3⟩
theorem I47.butL {r:R4} {zs:List V} (I:I47 C R H ps g r) (b:But l H H') (hl:H l=some (.lst zs)) (n1:r.q.rl≠l) (n2:r.q.le≠l) (n3:r.le≠l) (n4:r.lr≠l):I47 C R H' ps g r:=
 ⟨{ I.R with R:=I.R.R.butL b hl n1 n2 },b _ _ I.le n3,b _ _ I.lr n4,I.ys.tupS λa zs h=>b _ _ h (qa0 h hl (by intro z;cases z)),I.a1,I.a2,I.a3⟩
theorem qu1 {C R:Addr} {H H':Hp} {ps:List (Int×Int)} {g:Option Int} (k:∀ (a:Addr) zs,H a=some (.tup zs)->H' a=some (.tup zs)):∀ {ys:List V} {rs:List R4},Paired (qoz C R H ps g) ys rs->(∀ r∈rs,I47 C R H ps g r->I47 C R H' ps g r)->Paired (qoz C R H' ps g) ys rs
 | _,_,.nil,_=>.nil
 | _,_,.cons ⟨e,h,i,n⟩ t,f=>.cons ⟨e,k _ _ h,f _ Ae i,n⟩ (qu1 k t λr hr=>f r (Ad _ hr))
theorem qGf {C:TT} {REST:TS} (A:Bool->Hp->Prop) (J:St->Hp->Prop) (hC:∀ Q:Bool->Hp->Prop,(∀ c H',A c H'->Q c H')->C σ H Q) (h1:∀ H',A true H'->(∀ σ' H',J σ' H'->REST D σ' H')->F { D with nx:=REST D } σ H') (h2:∀ H',A false H'->J σ H') (h:∀ σ' H',J σ' H'->REST D σ' H'):qcj (qwv C F qlv) REST D σ H:=hC _ λc H' a=>qb3 (λz=>h1 H' (z ▸ a) h) λz=>h _ _ (h2 H' (Dg.mpr z ▸ a))
theorem qqt (ns:List Int) (a b:Option Int):∃ ms:List Int,qgw (ns.map V.int) a b=ms.map V.int/\ms.length<=ns.length:=by
 unfold qgw;simp only[<- DO,<- Dj];exists _,rfl;simp only[AU,Co];ext
theorem qAe (ns:List Int) (n:Nat):∃ ms:List Int,qgw (ns.map V.int) none (some (n:Int))=ms.map V.int/\ms.length=min n ns.length:=by
 unfold qgw;rw[HT.sIx_nat];simp only[<- DO,<- Dj];exists _,rfl
 simp[HT.sIx]
 try ext
structure W47 (C R:Addr) (H:Hp) (ps:List (Int×Int)) (g:Option Int) (lo ls:Addr) (ys:List V) (rs:List R4) (av:Int):Prop where
 hlo:H lo=some (.lst ys)
 hls:H ls=some (.lst (rs.map λr=>.ref r.ro))
 pr:Paired (qoz C R H ps g) ys rs
 n:1<=rs.length
 n3:rs.length<=3
 m:∀ r∈rs,r.n<=17
 gs:∀ r∈rs,∀ z,r.ge=some z->z<=av
theorem W47.same {lo ls:Addr} {rs:List R4} {av:Int} (h:W47 C R H ps g lo ls ys rs av) (s:Same H H'):W47 C R H' ps g lo ls ys rs av:=⟨s _ _ h.hlo,s _ _ h.hls,qew s h.pr,h.n,h.n3,h.m,h.gs⟩
theorem W47.ask {lo ls:Addr} {rs:List R4} {av:Int} (W:W47 C R H ps g lo ls ys rs av) (hk:k<5) (b:Option Int) {E:XK} (q:∀ hs pp t x y H',qkx (some av) b (rs.map (qn0 ps))=hs.map j4->qh0 (some av) b (rs.map (qn0 ps))=pp.map j4->HsOk hs->PsOk pp->(∀ h∈hs,h.2.2.1<=h.2.2.2)->Same H H'->H' t=some (.tup [x,y])->qkw H' k hs pp x y->Q (.ref t) H'):qgi C R [.str (wd k),.ref ls,.int av,gv b] H Q E:=by
 have n3:=W.n3;have al:=qqs W.pr;obtain ⟨hs,pp,e1,e2,o1,o2,o3⟩:=qAb (rs:=rs.map (qn0 ps)) (λx hx=>by obtain ⟨r,hr',rfl⟩:=Ah.mp hx;exact qC6 (al r hr').1 (W.m r hr')) (by rw[Aa];exact n3) (some av) b;exact ⟨k,ls,_,rs.map (qn0 ps),some av,b,hs,pp,rfl,hk,W.hls,qx7 W.pr,by rw[Aa];ext,qC5 λr hr'=>⟨(al r hr').1,W.gs r hr'⟩,e1,e2,o1,o2,λt x y H' s ht told=>q hs pp t x y H' e1 e2 o1 o2 o3 s ht told⟩
theorem qo3 {a b:Option Int}:∀ (l:List R4),(∀ r∈l,r.rs.length<=17)->(l.flatMap (qrv a b)).length<=17*l.length
 | [],_=>Ak _
 | r :: t,h=>by
  rw[Cg,Ag,AF];have h1:=qo3 (a:=a) (b:=b) t λx hx=>h x (Ad _ hx)
  have h2:(qrv a b r).length<=r.rs.length:=by unfold qrv;rw[Aa];exact Bx _ _
  have h3:=h r Ae;ext
theorem qu2 {xs ys:List (Int×Int)} (h:xs.Perm ys):rT xs=rT ys:=by
 induction h with
 | nil=>rfl
 | cons p _ ih=>rw[qbe,qbe,ih]
 | swap p q l=>rw[qbe,qbe,qbe,qbe];ext
 | trans _ _ h1 h2=>exact h1.trans h2
theorem AnsAt.perm {xs ys:List (Int×Int)} {v:V} (h:xs.Perm ys) (a:AnsAt H k xs v):AnsAt H k ys v:=by
 have hv:∀ x,x∈qci xs↔x∈qci ys:=λx=>(h.map _).mem_iff
 match k,a with
 | 0,a=>exact a.trans (by rw[qoj h])
 | 1,a=>exact a.trans (by rw[qu2 h])
 | 2,⟨z,e,m,q⟩=>exact ⟨z,e,(hv z).mp m,λx hx=>q x ((hv x).mpr hx)⟩
 | 3,⟨z,e,m,q⟩=>exact ⟨z,e,(hv z).mp m,λx hx=>q x ((hv x).mpr hx)⟩
 | _+4,⟨p,e,hp⟩=>exact ⟨p,e,by rw[<- qoj h,<- qu2 h];exact hp⟩
def dNN:PyData:=.tuple [.none,.none]
theorem qC7:dNN.depth<=20:=by simp[dNN,PyData.depth,PyData.depthAll]
theorem qx8 {K:Frag} {t:Addr} (h:H t=some (.tup [.non,.non])):Rep K H (.ref t) dNN:=.tup (SqT.of h) (.cons .non (.cons .non .nil))
theorem FrAt.some_ {v:V} {n:Int} (h:FrAt H k v z n):decide (v=V.non)=false:=by
 rcases h with ⟨_,rfl,_⟩|⟨_,p,rfl,_⟩<;>exact Az (by intro e;cases e)
theorem FrAt.fine {v:V} {n:Int} (h:FrAt H k v z n) (l:qDg k z n):(k<4/\∃ a,v=.int a)\/(k=4/\∃ (p:Addr) (a b:Int),v=.ref p/\H p=some (.tup [.int a,.int b])/\1<=b/\Nat.gcd a.natAbs b.natAbs=1):=by
 rcases h with ⟨hk,rfl,_⟩|⟨rfl,p,rfl,hp,n1,_⟩
 ·exact .inl ⟨hk,_,rfl⟩
 ·exact .inr ⟨rfl,p,z,n,rfl,hp,n1,l rfl⟩
abbrev qAj (a t lo:Addr) (k:Nat) (av:Int) (bv:Option Int) (ls pr tf lw:Addr) (A:Bool) (u:St):St:=some (.ref a) :: some (.ref t) :: some (.ref lo) :: some (.str (wd k)) :: some (.int av) :: some (gv bv) :: some (.ref ls) :: some (.ref pr) :: some (.ref tf) :: some (.ref lw) :: some (.bl A) :: u
abbrev qEv (H17:Hp) (ps:List (Int×Int)) (rs:List R4) (a t lo:Addr) (k:Nat) (av:Int) (bv:Option Int) (ls pr tf lw:Addr) (i:Nat) (σ:St) (H':Hp):Prop:=Same H17 H'/\∃ (ws:List V) (v11 v12 v13 v14 v15 v16 v17 v18:Option V),H' lw=some (.lst ws)/\Pairs H' ws ((rs.take i).flatMap (qrv (some av) bv))/\σ=qAj a t lo k av bv ls pr tf lw ((rs.take i).all (alR ps (some av) bv)) [v11,v12,v13,v14,v15,v16,v17,v18,none]
abbrev qAf (H17:Hp) (r:R4) (L:List (Int×Int)) (B:Bool) (a t lo:Addr) (k:Nat) (av:Int) (bv:Option Int) (ls pr tf lw p2:Addr) (j:Nat) (σ:St) (H':Hp):Prop:=Same H17 H'/\∃ (ws:List V) (v16 v17 v18:Option V),H' lw=some (.lst ws)/\Pairs H' ws (L ++ ((r.rs.take j).filter λq=>inS (some av) bv q.1).map (·.2))/\σ=qAj a t lo k av bv ls pr tf lw B [some (.ref r.ro),some (.int r.d),some (.ref r.le),some (.ref r.lr),some (.ref p2),v16,v17,v18,none]
theorem nrm {K:St->Hp->Prop} {σ':St} (e:σ=σ') (h:K σ' H):K σ H:=e ▸ h
theorem qEw {C:TT} (c:Bool) (hC:∀ Q:Bool->Hp->Prop,Q c H->C σ H Q) (h1:c=true->F D σ H) (h2:c=false->D.nx σ H):qwv C F qlv D σ H:=hC _ (qb3 h1 λz=>h2 (Dg.mpr z))
theorem qwu {C:TT} {REST:TS} (c:Bool) (hC:∀ Q:Bool->Hp->Prop,Q c H->C σ H Q) (h1:c=true->F { D with nx:=REST D } σ H) (h2:c=false->REST D σ H):qcj (qwv C F qlv) REST D σ H:=hC _ (qb3 h1 λz=>h2 (Dg.mpr z))
theorem qC8 {C:TT} {REST:TS} (c:Bool) (hC:∀ Q:Bool->Hp->Prop,(∀ H',Same H H'->Q c H')->C σ H Q) (h1:∀ H',Same H H'->c=true->F { D with nx:=REST D } σ H') (h2:∀ H',Same H H'->c=false->REST D σ H'):qcj (qwv C F qlv) REST D σ H:=hC _ λH' s=>qb3 (h1 H' s) λz=>h2 H' s (Dg.mpr z)
theorem qEx (v:V) (xs:List V):atI (v :: xs) 0=some v:=qc4 (j:=0) rfl
theorem qGg {ta tb:TE} {σ:St} {H:Hp} {Q:VK} (al b:Bool) (h1:∀ Q':VK,Q' (.bl al) H->ta σ H Q') (h2:∀ Q':VK,Q' (.bl b) H->tb σ H Q') (q:Q (.bl (al && b)) H):qAq ta tb σ H Q:=h1 _ ⟨al,rfl,by cases al with
 | true=>exact qdk (h2 _ q)
 | false=>exact qd7 q⟩
theorem orj {ta tb:TE} {σ:St} {H:Hp} {Q:VK} (al:Bool) (h1:∀ Q':VK,Q' (.bl al) H->qyc ta σ H Q') (q1:al=true->Q (.bl true) H) (h2:al=false->tb σ H Q):qE2 (qyc ta) tb σ H Q:=h1 _ ⟨al,rfl,by cases al with
 | true=>exact qdk (q1 rfl)
 | false=>exact qd7 (h2 rfl)⟩
theorem qEy {a b:Option Int} {rs:List Rd3} {j:Nat} {q:Rd3} (h:rs[j]?=some q) (hin:inS a b q.1=true):((rs.take (j+1)).filter λq=>inS a b q.1).map (·.2)=((rs.take j).filter λq=>inS a b q.1).map (·.2) ++ [q.2]:=by
 rw[qbn rs j q h,Bm,Ao];simp[hin]
theorem qEz {a b:Option Int} {rs:List Rd3} {j:Nat} {q:Rd3} (h:rs[j]?=some q) (hin:inS a b q.1=false):((rs.take (j+1)).filter λq=>inS a b q.1).map (·.2)=((rs.take j).filter λq=>inS a b q.1).map (·.2):=by
 rw[qbn rs j q h,Bm,Ao];simp[hin]
include T in
theorem qE0 {f:Addr} {fd:FuncData} (F:Fun K "law" "law" qzx f fd):qjr P w K mg base CX0 11 f fd ["_law_script"] (qxj K):=by
 have nd:=sc_law.nd;refine F.ok sc_law (λvs H Q E h=>?_) (λcdv A outer s H vs Q E hr h=>?_)
 ·obtain ⟨a,ns,rfl,_⟩:=h;rfl
 ·obtain ⟨a,ns,rfl,hS,hn,fin⟩:=h
  exists _,(qaj (qr1 (i:=1) nd rfl (Or.inr rfl) (jF (qoq T) hr (jA1 (jF (qbo T) hr (jA2 (pv 0) qaa))))) (qaj (qce (i:=2) (vars:=[ "_law_cell_here" ]) (frees:=[ "_law_rule_here" ]) (fv:=[1]) nd rfl (Or.inl rfl) rfl (jL1 rfl) ⟨⟨rfl,.inl rfl,rfl,.inl rfl⟩,trivial⟩ (qap (qca qdc (qad qd3 (qad qd3 (qca qdc (pv 0) (qbw qaa) (qbw qaa)) (qca qdc (pv 0) (qbw qaa) (qbw qaa))) (qav (jA1 qaa))) qgk (qbw (qad qa3 qaa (qad qar (jF (qbo T) hr (jA2 (pv 0) qaa)) qaa))))) (qbx (by decide)) (λ_ _ _ _=>(jM 0 [ "_law_cell_here", "_law_rule_here" ])) (λ_ _ _ _=>qat) (λ_ _ _ _=>(jF (qoy T) hr (jA2 (pv 1) (pv 0))))) (qaj (qr1 (i:=3) nd rfl (Or.inr rfl) (jI (qav (jA5 qc0 qc0 qc0 qc0 qc0)) (qad qar (qad qa6 (jF (qbo T) hr (jA2 (pv 0) qaa)) qaa) qaa))) (qF6 (qr0 (jF (qjy T) hr (jA3 (pv 1) (pv 2) (jF (qbo T) hr (jA2 (pv 0) qaa)))) (jG2 (jN 4 nd) (jN 5 nd))) (qce (i:=6) (vars:=[ "_law_one" ]) (frees:=[]) (fv:=[]) nd rfl (Or.inl rfl) rfl (jL0 rfl) trivial (qap (pv 2)) (qbx (by decide)) (λ_ _ _ _=>(jM 0 [ "_law_one" ])) (λ_ _ _ _=>qat) (λ_ _ _ _=>(qc9 (show IxR _ (qk3 K) from qcl) (pv 0) qaa (λ_ _=>rfl)))) (qaz (qxc (dvs:=[]) (ql8 ⟨rfl,rfl,rfl⟩) (qnq T) (hr.mono (by decide)) rfl .nil (jA4 (pv 3) (pv 6) (pv 4) (pv 5)))) (jS 7 nd (jF (qfh T) hr (jA4 (pv 1) (jT (jI (pv 2) qaa) qaa) (qad qa3 (qad qa6 (jF (qbo T) hr (jA2 (pv 0) qaa)) qaa) qaa) (qad qar (qad qa6 (jF (qbo T) hr (jA2 (pv 0) qaa)) qaa) qaa)))) (qau (qdl (qs9 (jI (pv 6) qaa) T.cl_Roll (qeu T) (hr.mono (by decide)) .nil (jA3 (jT (pv 7) qaa) (jT (pv 7) qaa) (jT (pv 7) qaa)))) (qac (qaz (qe1 AO A6 AZ qbb (jT (jI (pv 2) qaa) qaa) (jA1 (pv 7))))) qak) (jS 8 nd (qxc (dvs:=[]) (ql8 ⟨rfl,rfl,rfl⟩) (qnq T) (hr.mono (by decide)) rfl .nil (jA4 (pv 3) (pv 6) (pv 4) (pv 5)))) (jS 9 nd (qav qct)) (jS 10 nd qh1) (qbv AS rfl (qap (pv 2)) (jG4 (jN 11 nd) (jN 12 nd) (jN 13 nd) (jN 14 nd)) (jB3 (jS 15 nd (jF (qox T) hr (jA3 (pv 1) (pv 13) (pv 14)))) (jS 10 nd (qe2 (pv 10) (qfw (jF (qjx T) hr (jA4 (pv 1) (pv 15) (pv 4) (pv 5)))))) (qbv AS rfl (qap (pv 14)) (jG3 (jN 16 nd) (jN 17 nd) (jN 18 nd)) (qac (qau (PW.pt (qfv (jC qAt (pv 16) (pv 4)) (qd0 (PW.pt (qls (jC qdo (pv 5) qay) (qgv (jC qc8 (pv 16) (pv 5)))))))) (qac (qaz (qe1 AO A6 AZ qbb (pv 9) (jA1 (qam (jA2 (pv 17) (pv 18))))))) qak))))) (jS 19 nd (jF (qlp T) hr (jA2 (pv 3) (pv 9)))) (qau (PW.pt (qls (qlt (qdl (qag qd2 rfl T.b_isinstance qbl (jA2 (pv 8) (qfk (v:=.ty "tuple") rfl T.b_tuple qk7 rfl))))) (qgv (jC qva (qag qan rfl T.b_len qby (jA1 (pv 8))) qaa)))) (qac (qah qh1)) qak) (qau (jC qdo (pv 19) qay) (qac (qah (qAr (qlu (pv 10)) (qfw (jD (qA9 hr.units) (pv 8) (qam (jA2 qay qay))))))) qak) (qau (qlt (qdl (qag (qpe rfl) rfl T.b_all qxd (jA1 (qcn (vars:=[ "_law_end_here" ]) (frees:=[ "_law_word" ]) (fv:=[3]) rfl (jL1 rfl) ⟨⟨rfl,.inl rfl,rfl,.inl rfl⟩,trivial⟩ (qw1 (pv 8)) (qbx (by decide)) (λ_ _ _ _=>(jM 0 [ "_law_end_here", "_law_word" ])) (λ_ _ _ _=>qat) (λ_ _ _ _=>(jF (qrq T) hr (jA2 (pv 1) (pv 0))))))))) (qac (qah qh1)) qak) (qau (PW.pt (qls (qdl (jF (qft T) hr (jA3 (pv 3) (pv 19) (jT (pv 8) qaa)))) (qgv (qdl (jF (qft T) hr (jA3 (pv 3) (jT (pv 8) qaa) (pv 19))))))) (qac (qah qh1)) qak) (qah (qAr (qlu (pv 10)) (qfw (qlu (jF (qft T) hr (jA3 (pv 3) (jT (pv 8) qaa) (jT (pv 8) qaa)))))))))));refine ⟨_,rfl,a,ns,0,rfl,hS,by decide,λc0=>⟨c0,rfl,λt l xs ps g H1 s1 ht hl hx D=>?_⟩⟩;have P:=D.pr;have hS1:=qel s1 hS;obtain ⟨m1,e1,l1⟩:=qqt ns (some 1) (some 2);obtain ⟨m2,e2,l2⟩:=qqt ns (some 4) (some 6)
  try dsimp only
  refine qqh λN1 hN1=>?_
  refine ⟨_,rfl,_,rfl,_,rfl,a,_,rfl,hS1,λp2 H2 n2=>?_⟩;rw[e1] at n2;have hS2:=qel n2.same hS1;refine ⟨_,rfl,_,rfl,_,rfl,a,_,rfl,hS2,λp3 H3 n3=>?_⟩;rw[e2] at n3;refine ⟨p2,p3,_,_,rfl,rfl,n3.same _ _ n2.at_,n3.at_,AB (qai (by rw[Aa,Aa];ext)),λp4 H4 n4=>?_⟩;refine ⟨by show 1<=sizeLine;decide,λp5 H5 n5=>?_⟩;refine ⟨p4,p5,_,_,rfl,rfl,n5.same _ _ n4.at_,n5.at_,AB (qai (by rw[Ag,Aa,Aa,A9];ext)),λp6 H6 n6=>?_⟩;have e6:m1.map V.int ++ m2.map V.int ++ [V.int 0]=(m1 ++ m2 ++ [0]).map V.int:=by rw[Ao,Ao];rfl
  rw[e6] at n6;have s36:=n3.same.trans (n4.same.trans (n5.same.trans n6.same));have hS6:=qel s36 hS2;refine ⟨_,rfl,a,ns,2,rfl,hS6,by decide,λc2=>?_⟩;obtain ⟨j,j1,j3,ej⟩:∃ j:Nat,1<=j/\j<=3/\1+c2 % 3=(j:Int):=⟨(1+c2 % 3).toNat,by ext,by ext,by ext⟩;obtain ⟨ms,em,lm⟩:=qAe (m1 ++ m2 ++ [0]) j;have lm1:1<=ms.length/\ms.length<=3:=by rw[lm,Ag,Ag,A9];ext
  refine ⟨_,_,rfl,rfl,(by show (0:Int)<3;decide),_,_,rfl,rfl,_,rfl,p6,_,rfl,SqL.of n6.at_,λp7 H7 n7=>?_⟩;rw[ej,em] at n7;have s17:=n2.same.trans (s36.trans n7.same);have hS7:=qel n7.same hS6;have h7:=n7.at_;have ht7:=s17 _ _ ht;have hl7:=s17 _ _ hl;have hx7:=hx.same s17;clear n2 n3 n4 n5 n6 n7 e1 e2 e6 em lm hS2 hS6 s36 s17 ht hl hx hS1 s1 l1 l2 hn hS j1 j3 ej;refine ⟨p7,rfl,⟨_,SqL.of h7⟩,qbm (xs:=ms.map V.int) (λi ys H'=>Same H7 H'/\∃ rs:List R4,ys.length=i/\Paired (qoz C_Roll C_Rule H' ps g) ys rs/\(∀ r∈rs,F47 H7 r)/\(∀ r∈rs,r.n<=16)/\ApL rs) (AB (qai (by rw[Aa];ext))) ⟨Same.refl _,[],rfl,.nil,(by intro r h;cases h),(by intro r h;cases h),trivial⟩ (λi ys H' h'=>⟨SqL.of (h'.1 _ _ h7),by obtain ⟨_,_,e,_⟩:=h';ext⟩) ?_ ?_⟩
  ·rintro i x ys H8 hi ⟨s8,rs,ly,pr,fr,nr,ap⟩
   rw[An] at hi;obtain ⟨c,_,rfl⟩:=Ar.mp hi;refine qc1 (ql6 (qdk ?_));refine ⟨_,rfl,_,rfl,t,l,xs,ps,g,c,rfl,s8 _ _ ht7,s8 _ _ hl7,hx7.same s8,D,λr H9 s9 hp I hn F=>?_⟩;exact ⟨s8.trans s9,rs ++ [r],by rw[Ag,ly];rfl,qu0 ⟨rfl,hp,I,by ext⟩ (qew s9 pr),(λx hx=>(AK.mp hx).elim (fr x) λz=>by rw[AI.mp z];exact F.back s8),(λx hx=>(AK.mp hx).elim (nr x) λz=>by rw[AI.mp z];exact hn),ApL.snoc F pr ap⟩
  rintro ys H8 lo H9 ⟨s8,rs,ly,pr,fr,nr,ap⟩ n9;rw[Aa] at ly;have hyl:ys.length=rs.length:=CU pr;have s9:=s8.trans n9.same;have pr9:=qew n9.same pr;have hlo:=n9.at_;have nlo:∀ r∈rs,lo≠r.lr:=λr hr=>λe=>by
   have:=(qqs pr r hr).1.lr;rw[<- e,n9.fresh] at this;cases this
  clear n9 pr s8;refine hN1 _ _ ?_;clear hN1
  try dsimp only
  refine qqh λN2 hN2=>?_
  refine ⟨by show 5<=sizeLine;decide,λp10 H10 n10=>⟨_,rfl,a,ns,2,rfl,qel (s9.trans n10.same) hS7,by decide,λc3=>?_⟩⟩;obtain ⟨k,hk,ek⟩:∃ k:Nat,k<5/\c3 / 3 % 5=(k:Int):=⟨(c3 / 3 % 5).toNat,by ext,by ext⟩;have hat:atI [V.str "many",V.str "sum",V.str "least",V.str "greatest",V.str "mean"] (c3 / 3 % 5)=some (V.str (wd k)):=by
   rw[ek]
   match k,hk with
   | 0,_=>rfl
   | 1,_=>rfl
   | 2,_=>rfl
   | 3,_=>rfl
   | 4,_=>rfl
  refine ⟨_,_,rfl,rfl,⟨by decide,by decide⟩,_,_,rfl,rfl,(by show (0:Int)<5;decide),p10,_,_,_,rfl,rfl,SqL.of n10.at_,hat,?_⟩;have s10:=s9.trans n10.same;have pr10:=qew n10.same pr9;have hlo10:=n10.same _ _ hlo;clear n10 pr9 hlo s9 hat ek;refine hN2 _ _ ?_;clear hN2
  try dsimp only
  refine qqh λN3 hN3=>?_
  refine ⟨_,rfl,_,rfl,_,rfl,a,ns,3,rfl,qel s10 hS7,by decide,λc4=>⟨t,l,xs,ps,g,lo,ys,rs,c4,rfl,s10 _ _ ht7,s10 _ _ hl7,hx7.same s10,D,hlo10,pr10,by ext,by ext,λp11 av bv H11 s11 hp11 hge=>?_⟩⟩;exists p11,_,rfl,SqT.of hp11,rfl,_,_,rfl,_,_,rfl,rfl;have s71:=s10.trans s11;have pr11:=qew s11 pr10;have hlo11:=s11 _ _ hlo10;have gs:∀ r∈rs,∀ z,r.ge=some z->z<=av:=λr hr z hz=>hge z (DR.mpr ⟨r,hr,hz⟩)
  clear s10 pr10 hlo10 s11 hp11 hge;refine hN3 _ _ ?_;clear hN3
  try dsimp only
  refine qqh λN4 hN4=>?_
  refine ⟨_,rfl,lo,rfl,⟨_,SqL.of hlo11⟩,qbm (xs:=ys) (λi zs H'=>Same H11 H'/\zs=(rs.take i).map (λr=>V.ref r.ro)) (AB (qai (by ext))) ⟨Same.refl _,rfl⟩ (λi zs H' h'=>⟨SqL.of (h'.1 _ _ hlo11),by rw[h'.2,Aa,AU];ext⟩) ?_ ?_⟩
  ·rintro i x zs H' hxi ⟨s',rfl⟩
   obtain ⟨r,hri,e,hp,_⟩:=qdu pr11 hxi;subst e;refine qc1 (ql6 (qdk ⟨_,rfl,r.p,_,_,_,rfl,rfl,SqT.of (s' _ _ hp),rfl,s',?_⟩));rw[qbn rs i r hri,Ao];rfl
  rintro zs H12 ls H13 ⟨s12,rfl⟩ n13;rw[hyl,Aw] at n13;have s1113:=s12.trans n13.same;have s13:=s71.trans s1113;have W13:W47 C_Roll C_Rule H13 ps g lo ls ys rs av:=⟨s1113 _ _ hlo11,n13.at_,qew s1113 pr11,by ext,by ext,λr hr=>AL (nr r hr) (by ext),gs⟩;have nls:∀ r∈rs,ls≠r.lr:=λr hr=>λe=>by
   have:=s12 _ _ (qqs pr11 r hr).1.lr;rw[<- e,n13.fresh] at this;cases this
  clear n13 s12 s71 s1113 pr11 hlo11 gs;refine hN4 _ _ ?_;clear hN4;exists _,rfl,_,rfl,_,rfl,_,rfl;refine W13.ask hk bv λ_ _ _ _ _ H14 _ _ _ _ _ s14 _ _=>?_
  have W14:=W13.same s14;have s714:=s13.trans s14;clear W13 s13 s14;obtain ⟨r0,rt,rfl⟩:∃ r0 rt,rs=r0 :: rt:=by
   cases rs with
   | nil=>exact absurd W14.n (by decide)
   | cons r0 rt=>exact ⟨r0,rt,rfl⟩
  obtain ⟨v0,yt,rfl,q0,qt⟩:∃ v0 yt,ys=v0 :: yt/\qoz C_Roll C_Rule H14 ps g v0 r0/\Paired (qoz C_Roll C_Rule H14 ps g) yt rt:=by
   cases W14.pr with
   | cons q t=>exact ⟨_,_,rfl,q,t⟩
  obtain ⟨e0,hp0,I0,n0⟩:=q0;subst e0
  try dsimp only
  refine qqh λN5 hN5=>?_
  refine ⟨_,rfl,_,rfl,lo,_,_,_,rfl,rfl,SqL.of W14.hlo,qEx _ _,r0.p,_,_,_,rfl,rfl,SqT.of hp0,rfl,_,rfl,a,ns,3,rfl,qel s714 hS7,by decide,λc5=>⟨_,_,rfl,rfl,⟨by decide,by decide⟩,_,_,rfl,rfl,_,rfl,a,ns,2,rfl,qel s714 hS7,by decide,λc6=>⟨_,_,rfl,rfl,⟨by decide,by decide⟩,_,_,rfl,rfl,(by show (0:Int)<6;decide),t,l,xs,ps,g,r0.d,c5 / 7+1,c6 / 15 % 6,rfl,s714 _ _ ht7,s714 _ _ hl7,hx7.same s714,D,I0.R.hd,by ext,by ext,λpr r3 H15 t5 rtt s15 hpr=>?_⟩⟩⟩;have W15:=W14.same s15;have I15:=I0.same s15;have hp15:=s15 _ _ hp0;have qt15:=qew s15 qt;have s715:=s714.trans s15;have f0:=fr r0 Ae;have n16:=nr r0 Ae;have lo0:=nlo r0 Ae;have ls0:=nls r0 Ae;have ap:∀ r∈rt,Ap47 r0 r:=ap;clear W14 I0 hp0 qt s714 s15 nlo nls;obtain ⟨dxr,hob⟩:=I15.R.R.obj;obtain ⟨⟨Yd,hYd⟩,⟨Zd,hZd⟩⟩:=I15.R.R.dicts;refine hN5 _ _ ?_;clear hN5
  try dsimp only
  refine qGf (λc H'=>∃ LY' LZ',R47 C_Roll C_Rule H' r0.ro r0.q ps g r0.d r0.es r0.ge (if c=true then r0.rs ++ [r3] else r0.rs) LY' LZ' (r0.n+1)/\But2 r0.q.dy r0.q.dh H15 H') (λσ' H'=>Same H7 H'/\∃ rs':List R4,W47 C_Roll C_Rule H' ps g lo ls (.ref r0.p :: yt) rs' av/\σ'=[some (.ref a),some (.ref t),some (.ref lo),some (.str (wd k)),some (.int av),some (gv bv),some (.ref ls),some (.ref pr),none,none,none,none,none,none,none,none,none,none,none,none]) (λQ hQ=>?_) (λH16 h16 hJ=>?_) (λH16 h16=>?_) ?_
  ·exists _,rfl,ls,_,_,_,rfl,rfl,SqL.of W15.hls,qEx _ _,r0.ro,dxr,_,rfl,hob,qog _ _ _ _ _,_,rfl,pr,_,_,_,rfl,rfl,SqT.of hpr,rfl,_,rfl,pr,_,_,_,rfl,rfl,SqT.of hpr,rfl,_,rfl,pr,_,_,_,rfl,rfl,SqT.of hpr,rfl
   simp only[qj0,Bb,Bs,Bl];exact I15.R.put (by ext) ⟨t5,rtt⟩ λH16 LY' LZ' R16 b16=>⟨_,rfl,hQ _ _ ⟨LY',LZ',R16,b16⟩⟩
  ·obtain ⟨LY',LZ',R16,b16⟩:=h16
   have R16:R47 C_Roll C_Rule H16 r0.ro r0.q ps g r0.d r0.es r0.ge (r0.rs ++ [r3]) LY' LZ' (r0.n+1):=R16;have kl:∀ {a:Addr} {zs:List V},H15 a=some (.lst zs)->H16 a=some (.lst zs):=λh=>b16 _ _ h (qfi h hYd (by intro ys z;cases z)) (qfi h hZd (by intro ys z;cases z))
   have kt:∀ {a:Addr} {zs:List V},H15 a=some (.tup zs)->H16 a=some (.tup zs):=λh=>b16 _ _ h (qa0 h hYd (by intro z;cases z)) (qa0 h hZd (by intro z;cases z))
   have lys:r0.ys.length<=16:=by have:=I15.ys.length;rw[Aa] at this;have:=I15.R.rl;ext
   refine ⟨_,rfl,lo,_,_,_,rfl,rfl,SqL.of (kl W15.hlo),qEx _ _,r0.p,_,_,_,rfl,rfl,SqT.of (kt hp15),rfl,.inl ⟨rfl,_,SqL.of (kl I15.lr)⟩,_,rfl,r0.lr,_,_,rfl,rfl,kl I15.lr,qai (by ext),λH17 b17 h17=>?_⟩;have hlr16:=kl I15.lr;have kt2:∀ (a:Addr) zs,H15 a=some (.tup zs)->H17 a=some (.tup zs):=λa zs h=>b17 _ _ (kt h) (qa0 (kt h) hlr16 (by intro z;cases z))
   have hp17:H17 pr=some (.tup ((l3 r3).map V.int)):=kt2 _ _ hpr;refine hJ _ _ ⟨b17.same (b16.same s715 f0.dy f0.dh) f0.lr,⟨r0.p,r0.ro,r0.q,r0.d,r0.le,r0.lr,r0.es,r0.ge,r0.ys ++ [.ref pr],r0.rs ++ [r3],LY',LZ',r0.n+1⟩ :: rt,⟨b17 _ _ (kl W15.hlo) lo0,b17 _ _ (kl W15.hls) ls0,.cons ⟨rfl,kt2 _ _ hp15,⟨{ R16 with R:=R16.R.butL b17 hlr16 I15.a1 I15.a2 },b17 _ _ (kl I15.le) I15.a3,h17,?_,I15.a1,I15.a2,I15.a3⟩,by show r0.n+1<=18;ext⟩ (qu1 kt2 qt15 λr hr I=>(I15.but I b16 (ap r hr)).butL b17 hlr16 (ap r hr).l1 (ap r hr).l2 (ap r hr).l3 (ap r hr).l4),W15.n,W15.n3,(λr hr=>?_),(λr hr=>?_)⟩,rfl⟩
   ·rw[Ao]
    exact Tups.snoc (r:=l3 r3) ⟨pr,rfl,hp17⟩ (I15.ys.tupS kt2)
   ·rcases Av.mp hr with rfl|z
    ·show r0.n+1<=17;ext
    ·exact AL (nr r (Ad _ z)) (by ext)
   ·rcases Av.mp hr with rfl|z
    ·exact W15.gs r0 Ae
    ·exact W15.gs r (Ad _ z)
  ·obtain ⟨LY',LZ',R16,b16⟩:=h16
   have R16:R47 C_Roll C_Rule H16 r0.ro r0.q ps g r0.d r0.es r0.ge r0.rs LY' LZ' (r0.n+1):=R16;have kl:∀ {a:Addr} {zs:List V},H15 a=some (.lst zs)->H16 a=some (.lst zs):=λh=>b16 _ _ h (qfi h hYd (by intro ys z;cases z)) (qfi h hZd (by intro ys z;cases z))
   have kt:∀ (a:Addr) zs,H15 a=some (.tup zs)->H16 a=some (.tup zs):=λa zs h=>b16 _ _ h (qa0 h hYd (by intro z;cases z)) (qa0 h hZd (by intro z;cases z))
   refine ⟨b16.same s715 f0.dy f0.dh,⟨r0.p,r0.ro,r0.q,r0.d,r0.le,r0.lr,r0.es,r0.ge,r0.ys,r0.rs,LY',LZ',r0.n+1⟩ :: rt,⟨kl W15.hlo,kl W15.hls,.cons ⟨rfl,kt _ _ hp15,⟨R16,kl I15.le,kl I15.lr,I15.ys.tupS kt,I15.a1,I15.a2,I15.a3⟩,by show r0.n+1<=18;ext⟩ (qu1 kt qt15 λr hr I=>I15.but I b16 (ap r hr)),W15.n,W15.n3,(λr hr=>?_),(λr hr=>?_)⟩,rfl⟩
   ·rcases Av.mp hr with rfl|z
    ·show r0.n+1<=17;ext
    ·exact AL (nr r (Ad _ z)) (by ext)
   ·rcases Av.mp hr with rfl|z
    ·exact W15.gs r0 Ae
    ·exact W15.gs r (Ad _ z)
  clear W15 I15 hp15 qt15 s715 f0 n16 lo0 ls0 ap fr nr hob hYd hZd hpr;rintro σ H16 ⟨s16,rs,W16,rfl⟩
  generalize V.ref r0.p :: yt=ys at W16
  have ht16:=s16 _ _ ht7;have hl16:=s16 _ _ hl7;have hx16:=hx7.same s16;clear s16 ht7 hl7 hx7 hS7 n0;exists _,rfl,_,rfl,_,rfl,_,rfl;refine W16.ask hk bv λhs pp tf x y H17 eK eP okh okp hle s17 htf told=>?_
  have W17:=W16.same s17;have ht17:=s17 _ _ ht16;have hl17:=s17 _ _ hl16;have hx17:=hx16.same s17;clear W16 s17 ht16 hl16 hx16;refine ⟨by show 0<=sizeLine;decide,λlw H18 n18=>?_⟩;have flw:H17 lw=none:=n18.fresh;have al:=qqs W17.pr;have hyl:ys.length=rs.length:=CU W17.pr;have n3:=W17.n3;have il:∀ r∈rs,r.ys.length=r.rs.length/\r.rs.length<=17:=λr hr=>by
   have h1:=(al r hr).1.ys.length;rw[Aa] at h1;exact ⟨h1,AL (al r hr).1.R.rl (W17.m r hr)⟩
  have wl:∀ i,((rs.take i).flatMap (qrv (some av) bv)).length<=17*i:=λi=>AL (qo3 (rs.take i) λr hr=>(il r (List.mem_of_mem_take hr)).2) (by rw[AU];ext)
  try dsimp only
  refine qqh λN7 hN7=>?_
  refine hN7 _ _ ?_;clear hN7
  try dsimp only
  refine qqh λN6 hN6=>?_
  refine ⟨_,rfl,lo,rfl,⟨_,SqL.of (n18.same _ _ W17.hlo)⟩,qbk (xs:=ys) (λi σ H'=>qEv H17 ps rs a t lo k av bv ls pr tf lw i σ H') ⟨n18.same,[],_,_,_,_,_,_,_,_,n18.at_,.nil,rfl⟩ (λi σ H' _ h'=>SqL.of (h'.1 _ _ W17.hlo)) ?_ ?_⟩
  ·rintro i x σ H19 hxi ⟨s19,ws,v11,v12,v13,v14,v15,v16,v17,v18,hlw,pw,rfl⟩
   obtain ⟨r,hri,e,hp,I,_⟩:=qdu W17.pr hxi;subst e;obtain ⟨hyr,l17⟩:=il r (Am hri);have hi3:i<3:=by have:=(Aj.mp hri).1;ext
   have wli:=wl i;exists r.p,_,rfl,SqT.of (s19 _ _ hp),rfl,_,_,rfl,_,_,rfl,_,_,rfl,_,_,rfl,rfl;refine ⟨_,rfl,_,rfl,_,rfl,t,l,xs,ps,g,r.le,r.es,r.ge,r.lr,r.ys,r.rs,rfl,s19 _ _ ht17,s19 _ _ hl17,hx17.same s19,P,s19 _ _ I.le,I.R.F,I.R.gf,s19 _ _ I.lr,I.ys.same s19,by ext,(λq hq=>⟨(by have:=(I.R.hr q hq).1;unfold T5 at this;unfold qpn;ext),(I.R.hr q hq).2.ok⟩),λp2 l1 l2 xs1 xs2 H20 s20 hp2 hl2 tz lz hl1=>?_⟩;have s1720:=s19.trans s20;have hlw20:=s20 _ _ hlw;have pw20:=pw.same s20;refine qGg ((rs.take i).all (alR ps (some av) bv)) (alR ps (some av) bv r) (λQ' h'=>⟨_,rfl,h'⟩) (λQ' h'=>⟨_,rfl,_,rfl,_,rfl,_,rfl,.ref t,.ref l1,p2,l2,xs2,_,av,bv,rfl,hp2,hl2,tz,(I.R.rd (AL (W17.m r (Am hri)) (by ext))).2.2.2.2.1.zsh,h'⟩) ?_;have eal:((rs.take i).all (alR ps (some av) bv) && alR ps (some av) bv r)=(rs.take (i+1)).all (alR ps (some av) bv):=by
    rw[qbn rs i r hri,List.all_append,EN,List.all_nil,Bool.and_true]
   rw[eal];clear eal hp2 hl2 tz lz hl1 hlw pw s20 s19;refine ⟨_,rfl,r.lr,rfl,⟨_,SqL.of (s1720 _ _ I.lr)⟩,qbk (xs:=r.ys) (λj σ H'=>qAf H17 r ((rs.take i).flatMap (qrv (some av) bv)) ((rs.take (i+1)).all (alR ps (some av) bv)) a t lo k av bv ls pr tf lw p2 j σ H') ⟨s1720,ws,_,_,_,hlw20,(by simpa using pw20),rfl⟩ (λj σ H' _ h'=>SqL.of (h'.1 _ _ I.lr)) ?_ ?_⟩
   ·clear hlw20 pw20 s1720
    rintro j v σ H21 hvj ⟨s21,ws,v16,v17,v18,hlw,pw,rfl⟩;obtain ⟨r3,hr3,b,rfl,hb⟩:=I.ys.get hvj;rw[An] at hr3;obtain ⟨q,hq,rfl⟩:=Ar.mp hr3;have hb21:H21 b=some (.tup [.int q.1,.int q.2.1,.int q.2.2]):=s21 _ _ hb;have lws:ws.length<=100:=by
     rw[pw.length,Ag,Aa];have h1:=Bx (λq:Rd3=>inS (some av) bv q.1) (r.rs.take j);rw[AU] at h1;ext
    refine ⟨b,_,rfl,SqT.of hb21,rfl,_,_,rfl,_,_,rfl,_,_,rfl,rfl,nrm (σ':=qAj a t lo k av bv ls pr tf lw ((rs.take (i+1)).all (alR ps (some av) bv)) [some (.ref r.ro),some (.int r.d),some (.ref r.le),some (.ref r.lr),some (.ref p2),some (.int q.1),some (.int q.2.1),some (.int q.2.2),none]) rfl ?_⟩;have no:inS (some av) bv q.1=false->∀ u1 u2 u3,qAf H17 r ((rs.take i).flatMap (qrv (some av) bv)) ((rs.take (i+1)).all (alR ps (some av) bv)) a t lo k av bv ls pr tf lw p2 (j+1) (qAj a t lo k av bv ls pr tf lw ((rs.take (i+1)).all (alR ps (some av) bv)) [some (.ref r.ro),some (.int r.d),some (.ref r.le),some (.ref r.lr),some (.ref p2),u1,u2,u3,none]) H21:=λhin u1 u2 u3=>⟨s21,ws,u1,u2,u3,hlw,by rw[qEz hq hin];exact pw,rfl⟩
    have yes:inS (some av) bv q.1=true->∀ pt H22,New H21 H22 pt (.tup [.int q.2.1,.int q.2.2])->∀ H23,But lw H22 H23->H23 lw=some (.lst (ws ++ [.ref pt]))->∀ u1 u2 u3,qAf H17 r ((rs.take i).flatMap (qrv (some av) bv)) ((rs.take (i+1)).all (alR ps (some av) bv)) a t lo k av bv ls pr tf lw p2 (j+1) (qAj a t lo k av bv ls pr tf lw ((rs.take (i+1)).all (alR ps (some av) bv)) [some (.ref r.ro),some (.int r.d),some (.ref r.le),some (.ref r.lr),some (.ref p2),u1,u2,u3,none]) H23:=λhin pt H22 n22 H23 b23 h23 u1 u2 u3=>by
     have hlw22:=n22.same _ _ hlw;have kt:∀ (a:Addr) zs,H22 a=some (.tup zs)->H23 a=some (.tup zs):=λa zs h=>b23 _ _ h (qa0 h hlw22 (by intro z;cases z))
     refine ⟨b23.same (s21.trans n22.same) flw,_,u1,u2,u3,h23,?_,rfl⟩;rw[qEy hq hin,<- B6];exact Pairs.snoc ⟨pt,rfl,kt _ _ n22.at_⟩ ((pw.same n22.same).tupS kt)
    refine qEw (inS (some av) bv q.1) (λQ hQ=>?_) (λhin=>?_) (λhin=>no hin _ _ _)
    ·clear no yes
     refine ⟨_,rfl,_,rfl,_,_,rfl,rfl,_,rfl,qb3 (λz=>?_) λz=>?_⟩
     ·have z1:av<=q.1:=AM z
      cases bv with
      | none =>
       have e:inS (some av) none q.1=true:=by
        show (decide (av<=q.1) && true)=true
        rw[AD z1];rfl
       rw[e] at hQ;exact ⟨_,rfl,rfl,_,rfl,qdk hQ⟩
      | some y =>
       have e:inS (some av) (some y) q.1=decide (q.1<y):=by
        show (decide (av<=q.1) && decide (q.1<y))=_
        rw[AD z1];rfl
       rw[e] at hQ;exact ⟨_,rfl,rfl,_,rfl,qd7 ⟨_,rfl,_,rfl,_,_,rfl,rfl,_,rfl,hQ⟩⟩
     ·have z1:¬ av<=q.1:=λh=>z (AD h)
      have e:inS (some av) bv q.1=false:=by
       show (decide (av<=q.1) && _)=false
       rw[Az z1];rfl
      rw[e] at hQ;exact hQ
    ·exact ⟨_,rfl,.inl ⟨rfl,_,SqL.of hlw⟩,_,rfl,_,rfl,by show 2<=sizeLine;decide,λpt H22 n22=>⟨lw,_,_,rfl,rfl,n22.same _ _ hlw,qai (by ext),λH23 b23 h23=>yes hin pt H22 n22 H23 b23 h23 _ _ _⟩⟩
   ·rintro σ H21 ⟨s21,ws,v16,v17,v18,hlw,pw,rfl⟩
    rw[hyr,Aw] at pw;refine ⟨s21,ws,_,_,_,_,_,_,_,_,hlw,?_,rfl⟩;rw[qbn rs i r hri,B7,Cg,List.flatMap_nil,Bl];exact pw
  rintro σ H19 ⟨s19,ws,v11,v12,v13,v14,v15,v16,v17,v18,hlw,pw,rfl⟩;refine hN6 _ _ ?_;clear hN6;rw[hyl,Aw] at pw ⊢;obtain ⟨hs',pp',Kn,Pn,eK',eP',lk,lp,pm⟩:=qhl av bv rs λr hr=>⟨(al r hr).1,W17.gs r hr⟩
  obtain rfl:=qx6 (eK.symm.trans eK');obtain rfl:=qx6 (eP.symm.trans eP');have wln:=qo3 (a:=some av) (b:=bv) rs λr hr=>(il r hr).2
  have wT:∀ p∈rs.flatMap (qrv (some av) bv),RunT p:=λp hp=>by
   obtain ⟨r,hr,hp⟩:=CQ.mp hp;obtain ⟨q,hq,rfl⟩:=Ah.mp hp;exact ((al r hr).1.R.hr q (AX.mp hq).1).2
  have alP:rs.all (alR ps (some av) bv)=true->pp=[]:=λh=>by
   have:=qqr h;rw[eP] at this;exact List.map_eq_nil_iff.mp this
  generalize rs.flatMap (qrv (some av) bv)=Wn at pw pm wln wT
  generalize rs.all (alR ps (some av) bv)=A at alP
  clear eK eP eK' eP' il wl al hyl W17 ht17 hl17 hx17 n18 flw;refine ⟨_,rfl,_,rfl,k,lw,ws,Wn,rfl,hk,hlw,pw,(λp hp=>(wT p hp).ok),by ext,λv H20 s20 hv=>qc1 (nrm (σ':=qAj a t lo k av bv ls pr tf lw A [v11,v12,v13,v14,v15,v16,v17,v18,some v]) rfl ?_)⟩;have s1720:=s19.trans s20;have htf20:=s1720 _ _ htf;dsimp only;refine qwu false (λQ hQ=>?_) (λz=>by cases z) λ_=>?_
  ·exact ⟨_,rfl,_,_,_,_,rfl,TyOf.tup htf20,kit_tuple _,_,rfl,qd7 ⟨_,rfl,tf,_,rfl,.inr (SqT.of htf20),rfl,_,rfl,hQ⟩⟩
  rcases hv with ⟨rfl,h2,hW⟩|⟨hne,ans⟩
  ·refine qwu (decide (V.non=V.non)) (λQ hQ=>⟨_,rfl,rfl,_,rfl,hQ⟩) (λ_=>?_) λz=>absurd z (by decide)
   refine orj (!A) (λQ' h'=>⟨_,rfl,A,rfl,h'⟩) (λ_=>fin H20) λz=>?_
   have hA:A=true:=by cases A with
    | true=>rfl
    | false=>cases z
   have hp:=alP hA;subst hp;subst hW;have hK:Kn=[]:=(Fe.mp (Dq pm)).1;subst hK;have hh:hs=[]:=by
    cases hs with
    | nil=>rfl
    | cons h _=>exact absurd (lk.v h Ae).1 (by intro z;cases z)
   subst hh;obtain ⟨rfl,rfl⟩:=quz hk h2 told;refine ⟨_,rfl,by show 2<=sizeLine;decide,λp21 H21 n21=>⟨dNN,dNN,qx8 (n21.same _ _ htf20),qx8 n21.at_,rfl,rfl,qC7,?_⟩⟩
   show Q (.bl (PyData.eqv _ _)) _
   rw[SeqAt.eqv_refl _ (show dNN.canLay0=true from rfl)];exact fin H21
  have ansK:=ans.perm pm.symm;have neK:2<=k->Kn ++ Pn≠[]:=λh e=>hne h (Dq (e ▸ pm).symm)
  obtain ⟨z,n,fr,can⟩:=qz1 hk lk lp (λp hp=>wT p (pm.mem_iff.mp hp)) (by rw[pm.length_eq];ext) neK ansK;have ne2:2<=k->hs≠[]\/pp≠[]:=λh=>by
   cases hc:Kn ++ Pn with
   | nil=>exact absurd hc (neK h)
   | cons p _ =>
    have hp:p∈Kn ++ Pn:=by rw[hc];exact Ae
    rcases AK.mp hp with hp|hp
    ·obtain ⟨h,hh,_⟩:=lk.w p.1 (Ah.mpr ⟨p,hp,rfl⟩)
     exact .inl (List.ne_nil_of_mem hh)
    ·obtain ⟨h,hh,_⟩:=lp.w p.1 (Ah.mpr ⟨p,hp,rfl⟩)
     exact .inr (List.ne_nil_of_mem hh)
  obtain ⟨z1,n1,z2,n2,tfx⟩:=qwt hk okh hle okp ne2 told;have T20:=tfx.same s1720;have w12:=T20.w z n fr.pos can;clear ans ansK neK ne2 tfx told wT pm lk lp s1720 hne;refine qwu (decide (v=V.non)) (λQ hQ=>⟨_,rfl,rfl,_,rfl,hQ⟩) (λe=>by rw[fr.some_] at e;cases e) λ_=>?_
  refine qC8 false (λQ hQ=>?_) (λ_ _ e=>by cases e) λH21 s21 _=>?_
  ·refine ⟨_,rfl,tf,rfl,⟨_,SqT.of htf20⟩,qto (xs:=[x,y]) (λj zs H2=>Same H20 H2/\zs=(List.replicate j true).map V.bl) (by show 2<=sizeLine;decide) ⟨Same.refl _,rfl⟩ (λj zs H2 h2=>⟨SqT.of (h2.1 _ _ htf20),by rw[h2.2];simp⟩) ?_ ?_⟩
   ·rintro j u zs H2 hj ⟨s2,rfl⟩
    obtain ⟨zz,nn,fu,lu⟩:∃ zz nn,FrAt H2 k u zz nn/\qDg k zz nn:=by
     match j,hj with
     | 0,hj=>cases hj;exact ⟨z1,n1,T20.x.same s2,T20.lx⟩
     | 1,hj=>cases hj;exact ⟨z2,n2,T20.y.same s2,T20.ly⟩
     | j+2,hj=>cases hj
    refine qc1 (ql6 (qdk ?_));refine ⟨_,rfl,_,rfl,k,u,rfl,fu.fine lu,λH3 s3=>⟨s2.trans s3,?_⟩⟩;rw[FE,Ao];rfl
   ·rintro zs H2 l3 H3 ⟨s2,rfl⟩ n3
    exists l3,List.replicate _ true,rfl,SqL.of n3.at_;have e:∀ n,(List.replicate n true).all id=true:=λn=>by simp
    rw[e];exact ⟨_,rfl,hQ H3 (s2.trans n3.same)⟩
  have htf21:=s21 _ _ htf20;have T21:=T20.same s21;have fr21:=fr.same s21;have d1:decide (z*n1<z1*n)=false:=Az (by ext);have d2:decide (z2*n<z*n2)=false:=Az (by ext);clear T20 fr htf20 s21;refine qwu false (λQ hQ=>?_) (λe=>by cases e) λ_=>?_
  ·exists _,rfl,_,rfl,_,rfl,tf,_,_,_,rfl,rfl,SqT.of htf21,rfl,k,v,x,z,n,z1,n1,rfl,fr21,T21.x
   rw[d1];refine ⟨_,rfl,qd7 ⟨_,rfl,_,rfl,tf,_,_,_,rfl,rfl,SqT.of htf21,rfl,_,rfl,k,y,v,z2,n2,z,n,rfl,T21.y,fr21,?_⟩⟩;rw[d2];exact ⟨_,rfl,hQ⟩
  refine orj (!A) (λQ' h'=>⟨_,rfl,A,rfl,h'⟩) (λ_=>fin H21) λe=>?_
  have hA:A=true:=by cases A with
   | true=>rfl
   | false=>cases e
  have hp:=alP hA;subst hp;have d3:decide (z1*n2<z2*n1)=false:=Az (qAd hk hle T21.cx T21.cy);exists _,rfl,_,rfl,tf,_,_,_,rfl,rfl,SqT.of htf21,rfl,_,rfl,tf,_,_,_,rfl,rfl,SqT.of htf21,rfl,k,x,y,z1,n1,z2,n2,rfl,T21.x,T21.y;rw[d3];exact ⟨_,rfl,fin H21⟩
end
theorem walk {l:PySem.W.OpenLaw} {q:Program} {loose:List Str} {XP:(Str->Option Value)->Heap->Prop} {YP:World->Heap->Prop} {d:DefRec} {K:Params->Frag} (hn:l.most=some 63) (hdf:d.params.defaults=[]) (hdn:d.name = "law")
  (hY:∀ (w:World) (h:Heap),YP w h->(K w.params).In h)
  (F:∀ (w:World) (mg:Str->Option Value) (h:Heap),(K w.params).In h->h.Ns mainGlobals mg->∃ C_HowMany C_Total C_Least C_Greatest C_Mean C_Roll C_Rule C_BookError C_NoNumber C_NoRule C_Backward C_Gone C_NoAsk,Txt (K w.params) mg C_HowMany C_Total C_Least C_Greatest C_Mean C_Roll C_Rule C_BookError C_NoNumber C_NoRule C_Backward C_Gone C_NoAsk) :
  PySem.W.WalkO q loose XP YP l.row.toRowW d [] (λf vs=>PySem.call f vs):=by
 refine L2.qyt (n:=63) (k:=11) (x:= "_law_script") (CX:=λ_=>CX0) (sp:=λw=>qxj (K w.params)) hn (by decide) hdf ⟨rfl,by decide,by decide⟩ hY (λw mg fa h kin ns hm=>?_) (λ_ _ a ns hl _ hS=>⟨a,ns,rfl,hS,hl,λ_=>rfl⟩) λ_ _ _ _ _ z=>z
 obtain ⟨C_HowMany,C_Total,C_Least,C_Greatest,C_Mean,C_Roll,C_Rule,C_BookError,C_NoNumber,C_NoRule,C_Backward,C_Gone,C_NoAsk,T⟩:=F w mg h kin ns;obtain ⟨f,fd,Fu,hm'⟩:=T.f_law;rw[hdn,hm'] at hm;cases hm;refine ⟨fd,?_,λbase kb nb=>qE0 T Fu⟩;obtain ⟨oc,od,kV,doc,pm,an,cdv,ct,osl,rfl,lk,hcd⟩:=Fu.ex;exact λs u=>.of_eq rfl
end TB
structure PySem.W.Fast:Prop where(tw4759478158873312910 tw2139296843665110105 tw1854184447205265393 tw11683341709382885529 tw1112612464661232076 tw10216152480298692133 tw9081254382628873095 tw16948419351601706452 tw819970155320226331 tw9620435034338344696 tw17616164181103759097 tw12609264845347761361 tw7113863312965611124 tw3616089545934636445 tw4948846995546576588 tw16485472996837982715 tw12170070576314753207 tw550339587899839503 tw13562993928567252773 tw16363546304398220950 tw10057111625267965739 tw2059408927399615845 tw7395723417389116689 tw7443824214110271395 tw4308553162695803364 tw17272987054656368947 tw5508285359517785978 tw2041559259046702746 tw8152628516483015475 tw3132749736598499084 tw13914715003529578271 tw4147725305266922386 tw17931167953465963872 tw8882264654890629920 tw4101814016868325326 tw15061628372769610674 tw9594352328740552281 tw17219494194442580316 tw8998586100851669213 tw1473966846166507703 tw12685480822440806293 tw8598139366629685699 tw8075898883856994956 tw16405939437635879862 tw10668639313075890972 tw3188511370406026125 tw11262353649088990388 tw654389828168700853 tw12639648532469873790 tw2671592743813368716 tw10085896410959516121 tw2669026154653508155 tw7953667184009562355 tw9581336071230149923 tw3783585024227774483 tw11593333632847058434 tw8972688485581769368 tw11044233299409532275 tw14017850418528980056 tw4225013936181637597 tw10469570801769884259 tw16736997126168048600 tw8105745903841809306 tw14586069504707646130 tw3774081314207868552 tw3405231324244618484 tw11540898800245871705 tw9920310804000767979 tw6955355997318129185 tw3254661568347232194 tw674319602699083040 tw8006498785013311886 tw12914540377175015583 tw9627484804844624361 tw6017108601869563838 tw8966496632028776161 tw6482280312820310999 tw7026755494864865518 tw15758254994443696091 tw6029000928955172925 tw4382316017535985508 tw1472728705573011569 tw6176202672657547204 tw16665322508920784467 tw12332608058087534706 tw14323131807360957128 tw11058310442464943891 tw6642597659360257782 tw3525493040927897776 tw4090674291351803014 tw16742540271910841832 tw3982811951666364157 tw13014608590776632388 tw2602097296783385865 tw12000073650123181122 tw11760624155468510318 tw17529825913115253866 tw11138086252308203572 tw8417820428085996080 tw2341429807521513786 tw8638883580570931918 tw17964525215535481372 tw16017434457375202745 tw12453958089023430243 tw4949868285103563842 tw6423485425173820974 tw12508779383768355342 tw10106888566427470539 tw7577295326508290150 tw17137365895910539802 tw15059971477145239666 tw17587797118353076479 tw16992226196823358265 tw5666565669375323731 tw1018257586227299866 tw1399237027730005020 tw13376022309094349759 tw14499246213645916474 tw13818381552335295137 tw10150993807905603597 tw563616721437789405 tw4338794656804290611 tw16024461218072286531 tw7026258078273905762 tw14031679004396630874 tw9324238830738585650 tw10421045327707750728 tw11982479809686076926 tw3489812783886164236 tw11955668735816315446 tw14317613142125910295 tw7584150584659352885 tw16368728572029425259 tw11761365673671122814 tw1502270600411493894 tw11219974919094334276 tw17225853682511700679 tw5704927616927530258 tw982429489276399044 tw310322541879022277 tw10574109076299108134 tw4502441177854195655 tw7958627743644169520 tw17921950942018855928 tw10838571083976709609 tw12254015457800850372 tw1822808817725910428 tw8762948012296660034 tw15695732125821788259 tw16958626123071121522 tw13320848421157068032 tw7308619141952329560 tw13584153701757984354 tw5451960611988216629 tw13672641274909877625 tw13605144505259032472 tw3895346160306229207 tw7542772011898214629 tw3921369542976558265 tw10002120511684962462 tw15835681087456644489 tw2603717417789245748 tw13749423809976363187 tw1066538496168585005 tw8694480525250500057 tw481709400769049701 tw3824756874464392202 tw10197990846336116338 tw9386455263888579760 tw3634531860000320169 tw13296355726054906993 tw4336930674840011676 tw10716206052303152083 tw14859613357344022335 tw13431226132521321840 tw14823963432001803936 tw544063957237499910 tw7885345218687434392 tw13210849119766795759 tw6398209613251324513 tw12677169393995105995 tw3926798628864873207 tw6923960290887417657 tw2268970980909848060 tw14773751693957702578 tw5247404381347733420 tw12825538284310922303 tw18018395253436566472 tw10226845274953060375 tw16400838705861432740 tw10537042280882506842 tw8111507656331964522 tw10313705342975296910 tw18321183520714158860 tw300137631784020520 tw4605116943074155565 tw7515715885123742909 tw4636789003539632452 tw16466013150374263252 tw18279215741564342676 tw6954052522096497630 tw12020636245340204657 tw9258779961780589692 tw3903298770909128971 tw11216514239672349862 tw15194320497728879867 tw1657559410008310867 tw1209348226037284283 tw2006626684293453666 tw5606079261562195445 tw4979126315485222634 tw8318121830273837679 tw14149812685225310480 tw6197318246089648617 tw883614435729584413 tw8725367994540232473 tw8267999191589270899 tw11843933293821955403 tw9017499214146270305 tw17000489110954634545 tw16763361834095672946 tw7225232569195236477 tw3344263047736961322 tw2110193073588174204 tw7835410118956422616:True)
open PySem PySem.W PyProof.Rows
set_option maxRecDepth 100000 in
set_option maxHeartbeats 0 in
theorem PySem.Challenge.cw_thinbook_k47_whole_the_true_answer_is_wi_holds : PySem.Challenge.rw_thinbook_k47_whole_the_true_answer_is_wi.Holds := by
 w_on;o_law;k_head;(case hw=>w_witness2)
 k_fill
 refine TB.walk (l:=PySem.Challenge.rw_thinbook_k47_whole_the_true_answer_is_wi) rfl rfl rfl (λw h Y=>PySem.W.kIn_of Y) ?F
 case F =>
  intro w mg h KX G;refine' TB.qCn ?a0 ?a1 ?a2 ?a3 ?a4 ?a5 ?a6 ?a7 ?a8 ?a9 ?a10 ?a11 ?a12 ?T
  (case a0|a1|a2|a3|a4|a5|a6|a7|a8|a9|a10|a11|a12=>k_is)
  refine' ⟨TB.fnG KX G ?_ ?_ ?_ ?_,TB.fnG KX G ?_ ?_ ?_ ?_,TB.fnG KX G ?_ ?_ ?_ ?_,TB.fnG KX G ?_ ?_ ?_ ?_,TB.fnG KX G ?_ ?_ ?_ ?_,TB.fnG KX G ?_ ?_ ?_ ?_,TB.fnG KX G ?_ ?_ ?_ ?_,TB.fnG KX G ?_ ?_ ?_ ?_,TB.fnG KX G ?_ ?_ ?_ ?_,TB.fnG KX G ?_ ?_ ?_ ?_,TB.fnG KX G ?_ ?_ ?_ ?_,TB.fnG KX G ?_ ?_ ?_ ?_,TB.fnG KX G ?_ ?_ ?_ ?_,TB.fnG KX G ?_ ?_ ?_ ?_,TB.fnG KX G ?_ ?_ ?_ ?_,TB.fnG KX G ?_ ?_ ?_ ?_,TB.fnG KX G ?_ ?_ ?_ ?_,TB.fnG KX G ?_ ?_ ?_ ?_,TB.fnG KX G ?_ ?_ ?_ ?_,TB.fnG KX G ?_ ?_ ?_ ?_,TB.fnG KX G ?_ ?_ ?_ ?_,TB.fnM ?_ ?_ ?_ ?_ ?_,TB.fnM ?_ ?_ ?_ ?_ ?_,TB.fnM ?_ ?_ ?_ ?_ ?_,TB.fnM ?_ ?_ ?_ ?_ ?_,TB.fnM ?_ ?_ ?_ ?_ ?_,TB.fnG KX G ?_ ?_ ?_ ?_,TB.fnG KX G ?_ ?_ ?_ ?_,TB.fnG KX G ?_ ?_ ?_ ?_,TB.fnG KX G ?_ ?_ ?_ ?_,TB.fnG KX G ?_ ?_ ?_ ?_,TB.fnG KX G ?_ ?_ ?_ ?_,TB.fnG KX G ?_ ?_ ?_ ?_,TB.fnG KX G ?_ ?_ ?_ ?_,TB.fnG KX G ?_ ?_ ?_ ?_,TB.qF9 KX G ?_ ?_ ?_ ?_ ?_,TB.fnI ?_ ?_ ?_ ?_ ?_ ?_ ?_,TB.qGa ?_ ?_ ?_ ?_ ?_ ?_,TB.fnM ?_ ?_ ?_ ?_ ?_,TB.fnM ?_ ?_ ?_ ?_ ?_,TB.fnM ?_ ?_ ?_ ?_ ?_,TB.fnM ?_ ?_ ?_ ?_ ?_,TB.fnM ?_ ?_ ?_ ?_ ?_,TB.fnM ?_ ?_ ?_ ?_ ?_,TB.fnM ?_ ?_ ?_ ?_ ?_,TB.fnM ?_ ?_ ?_ ?_ ?_,TB.fnG KX G ?_ ?_ ?_ ?_,TB.fnG KX G ?_ ?_ ?_ ?_,TB.fnG KX G ?_ ?_ ?_ ?_,TB.fnG KX G ?_ ?_ ?_ ?_,TB.fnG KX G ?_ ?_ ?_ ?_,TB.fnG KX G ?_ ?_ ?_ ?_,TB.qGb ?_ ?_ ?_ ?_ ?_ ?_ ?_ ?_,TB.fnM ?_ ?_ ?_ ?_ ?_,TB.fnM ?_ ?_ ?_ ?_ ?_,TB.fnG KX G ?_ ?_ ?_ ?_,TB.fnG KX G ?_ ?_ ?_ ?_,TB.fnG KX G ?_ ?_ ?_ ?_,TB.fnG KX G ?_ ?_ ?_ ?_,TB.fnG KX G ?_ ?_ ?_ ?_,TB.fnG KX G ?_ ?_ ?_ ?_,TB.fnG KX G ?_ ?_ ?_ ?_,TB.fnG KX G ?_ ?_ ?_ ?_,TB.fnG KX G ?_ ?_ ?_ ?_,TB.fnG KX G ?_ ?_ ?_ ?_,TB.fnG KX G ?_ ?_ ?_ ?_,TB.fnG KX G ?_ ?_ ?_ ?_,TB.fnG KX G ?_ ?_ ?_ ?_,TB.fnG KX G ?_ ?_ ?_ ?_,TB.fnG KX G ?_ ?_ ?_ ?_,TB.fnG KX G ?_ ?_ ?_ ?_,TB.fnG KX G ?_ ?_ ?_ ?_,TB.fnG KX G ?_ ?_ ?_ ?_,TB.fnG KX G ?_ ?_ ?_ ?_,TB.fnG KX G ?_ ?_ ?_ ?_,TB.fnG KX G ?_ ?_ ?_ ?_,TB.fnG KX G ?_ ?_ ?_ ?_,TB.fnG KX G ?_ ?_ ?_ ?_,TB.fnG KX G ?_ ?_ ?_ ?_,TB.fnG KX G ?_ ?_ ?_ ?_,TB.fnG KX G ?_ ?_ ?_ ?_,⟨?_,?_,?_,?_⟩,mg_of KX G ?_,⟨?_,?_,?_⟩,⟨?_,?_,?_,?_⟩,mg_of KX G ?_,⟨?_,?_,?_⟩,⟨?_,?_,?_,?_⟩,mg_of KX G ?_,⟨?_,?_,?_⟩,⟨?_,?_,?_,?_⟩,mg_of KX G ?_,⟨?_,?_,?_⟩,⟨?_,?_,?_,?_⟩,mg_of KX G ?_,⟨?_,?_,?_⟩,⟨?_,?_,?_,?_⟩,mg_of KX G ?_,TB.naI ?_,TB.naI ?_,TB.naI ?_,TB.naI ?_,TB.naI ?_,⟨?_,?_,?_,?_⟩,mg_of KX G ?_,TB.naI ?_,TB.naI ?_,mg_of KX G ?_,mg_of KX G ?_,mg_of KX G ?_,mg_of KX G ?_,mg_of KX G ?_,mg_of KX G ?_,TB.exI ?h1,⟨?_,?_,?_,?_,?_,?h2⟩,?_,?h3,?h4,?h5,?h6,?h7,?h8,?h9,TB.exI ?h10,⟨?_,?_,?_,?_,?_,?h11⟩,?_,?h12,?_,?h13,?h14,?h15,?h16,?h17,?h18,TB.exI ?h19,⟨?_,?_,?_,?_,?_,?h20⟩,?_,?h21,?h22,?_,?h23,?h24,?h25,?h26,?h27,⟨?_,?_,?_,?_,?_,?h28⟩,?_,?h29,?h30,?h31,?_,?h32,?h33,?h34,?h35,⟨?_,?_,?_,?_,?_,?h36⟩,?_,?h37,?h38,?h39,?h40,?_,?h41,?h42,?h43,TB.exI ?h44,⟨?_,?_,?_,?_,?_,?h45⟩,?_,?h46,?h47,?h48,?h49,?h50,?_,?h51,?h52,mg_none_of KX G ?_,mg_none_of KX G ?_,mg_none_of KX G ?_,mg_none_of KX G ?_,mg_none_of KX G ?_,mg_none_of KX G ?_,mg_none_of KX G ?_,mg_none_of KX G ?_,mg_none_of KX G ?_,mg_none_of KX G ?_,mg_none_of KX G ?_,mg_none_of KX G ?_,mg_none_of KX G ?_,mg_none_of KX G ?_,mg_none_of KX G ?_,mg_none_of KX G ?_,TB.cI KX G ?_⟩
  (case h1|h10|h19|h44=>k_exc)
  (case h2|h11|h20|h28|h36|h45=>kts_isx)
  (case h3|h4|h5|h6|h7|h8|h9|h12|h13|h14|h15|h16|h17|h18|h21|h22|h23|h24|h25|h26|h27|h29|h30|h31|h32|h33|h34|h35|h37|h38|h39|h40|h41|h42|h43|h46|h47|h48|h49|h50|h51|h52=>kit_is)
  all_goals try k_is
