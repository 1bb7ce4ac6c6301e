import PyProof.Rows.All
import Wide.All
import OpenK.AllK
import Wide.FinOn
import PyProof.EqAt
import PyProof.EqKinds
import PyProof.TupleCall
import KE.BitLaws
import Open.SpecLaws
import KE.OsHead
import KE.OsGo
import KE.KSortTup
import KE.KNest
import PySem.Challenge.RW_outlinebook_s01_answers
set_option Elab.async false
set_option linter.all false
set_option maxRecDepth 100000
set_option maxHeartbeats 4000000
section
open PySem PySem.W PyProof.Rows
local macro_rules | `(tactic| o_law) => `(tactic| skip)
local macro_rules | `(tactic| k_head) => `(tactic| k_headS)
local macro_rules | `(tactic| w_witness2) => `(tactic| exact ⟨[.list [.int 15]], by decide +kernel, by decide +kernel⟩)
set_option maxRecDepth 100000 in
set_option maxHeartbeats 0 in
open_top Ob_hd for PySem.Challenge.rw_outlinebook_s01_answers
end
abbrev Qn:=@Array.Perm.refl
abbrev QZ:=@Array.length_toList
abbrev Tu:=@Array.toList_append
abbrev uQ:=@Bool.and_eq_true
abbrev Tv:=@Bool.eq_false_iff
abbrev GD:=@Bool.eq_iff_iff
abbrev GN:=@Bool.false_eq_true
abbrev w_:=@Bool.false_ne_true
abbrev Qo:=@Bool.false_or
abbrev Mv:=@Bool.or_eq_false_iff
abbrev rP:=@Bool.or_eq_true
abbrev zG:=@Bool.or_false
abbrev Kd:=@PySem.Calls.callWith_builtin
abbrev ND:=@PySem.Calls.evalArgs_plain
abbrev GO:=@PySem.Calls.spliced_cons
abbrev Ke:=@PySem.Calls.spliced_nil
abbrev Q0:=@Classical.byContradiction
abbrev Kf:=@PySem.F.slot_tuple_iterator_next
abbrev E_:=@PySem.Heap.SameBut.update
abbrev gq:=@PySem.Heap.get?_push_of_some
abbrev jD:=@PySem.Heap.get?_push_size
abbrev dh:=@PySem.Heap.lt_size
abbrev pM:=@PySem.Heap.size_push
abbrev zH:=@Int.toNat_natCast
abbrev E':=@List.Perm.refl
abbrev NF:=@List.Sublist.refl
abbrev Kg:=@List.all_cons
abbrev yH:=@List.all_eq_true
abbrev Kh:=@List.all_map
abbrev uR:=@List.any_cons
abbrev Fb:=@List.any_eq_false
abbrev NG:=@List.any_eq_true
abbrev B9:=@List.any_map
abbrev dQ:=@List.append_assoc
abbrev GP:=@List.append_eq_append_iff
abbrev pw:=@List.append_nil
abbrev Ki:=@List.append_of_mem
abbrev iW:=@List.cons_append
abbrev NH:=@List.dropLast_concat
abbrev NI:=@List.dropLast_concat_getLast
abbrev Kj:=@List.dropWhile_append_of_pos
abbrev NJ:=@List.dropWhile_cons_of_neg
abbrev GQ:=@List.dropWhile_sublist
abbrev Q1:=@List.drop_append_of_le_length
abbrev ni:=@List.drop_drop
abbrev rQ:=@List.drop_eq_getElem_cons
abbrev NK:=@List.drop_eq_nil_iff
abbrev ug:=@List.drop_left
abbrev Kk:=@List.drop_length
abbrev uS:=@List.drop_of_length_le
abbrev Kl:=@List.drop_sublist
abbrev zI:=@List.drop_zero
abbrev zJ:=@List.eq_nil_of_length_eq_zero
abbrev Km:=@List.filterMap_append
abbrev rR:=@List.filterMap_cons
abbrev Kn:=@List.filterMap_eq_map'
abbrev qI:=@List.filter_append
abbrev rS:=@List.filter_cons
abbrev xh:=@List.filter_cons_of_pos
abbrev Q2:=@List.filter_eq_append_iff
abbrev Q3:=@List.filter_eq_cons_iff
abbrev uT:=@List.filter_eq_nil_iff
abbrev NN:=@List.find?_append
abbrev rT:=@List.find?_cons
abbrev GR:=@List.find?_eq_none
abbrev GU:=@List.findIdx?_eq_none_iff
abbrev NO:=@List.findIdx?_eq_some_iff_getElem
abbrev B_:=@List.flatMap_append
abbrev nu:=@List.flatMap_cons
abbrev B':=@List.flatten_cons
abbrev NP:=@List.foldl_cons
abbrev NQ:=@List.forIn_nil
abbrev uh:=@List.getD_eq_getElem?_getD
abbrev nv:=@List.getElem?_append_left
abbrev k3:=@List.getElem?_append_right
abbrev Q4:=@List.getElem?_cons_zero
abbrev xi:=@List.getElem?_drop
abbrev c_:=@List.getElem?_eq_getElem
abbrev Ko:=@List.getElem?_eq_none
abbrev dm:=@List.getElem?_eq_some_iff
abbrev gX:=@List.getElem?_map
abbrev xj:=@List.getElem?_of_mem
abbrev NR:=@List.getElem?_set_ne
abbrev NS:=@List.getElem?_set_self
abbrev Fc:=@List.getElem?_take
abbrev Q5:=@List.getElem?_take_of_lt
abbrev NT:=@List.getElem?_zip_eq_some
abbrev Kp:=@List.getElem_inj
abbrev GV:=@List.getElem_map
abbrev NU:=@List.getElem_mem
abbrev Q6:=@List.getLast?_eq_none_iff
abbrev Q7:=@List.getLast?_eq_some_getLast
abbrev Q8:=@List.getLast?_eq_some_iff
abbrev Q9:=@List.getLastD_eq_getLast?
abbrev Fd:=@List.head?_drop
abbrev NV:=@List.isEmpty_iff
abbrev Q_:=@List.isPrefixOf_iff_prefix
abbrev bb:=@List.length_append
abbrev cn:=@List.length_cons
abbrev dD:=@List.length_drop
abbrev GW:=@List.length_dropLast
abbrev DG:=@List.length_eq_zero_iff
abbrev DH:=@List.length_filterMap_le
abbrev lE:=@List.length_filter_le
abbrev aT:=@List.length_map
abbrev GX:=@List.length_nil
abbrev tw:=@List.length_reverse
abbrev bj:=@List.length_take
abbrev tD:=@List.lookup_cons
abbrev cX:=@List.map_append
abbrev iX:=@List.map_congr_left
abbrev cA:=@List.map_cons
abbrev jR:=@List.map_drop
abbrev uU:=@List.map_id
abbrev iq:=@List.map_map
abbrev DI:=@List.map_reverse
abbrev mV:=@List.map_take
abbrev dZ:=@List.mem_append
abbrev dA:=@List.mem_append_left
abbrev eM:=@List.mem_append_right
abbrev bZ:=@List.mem_cons
abbrev bz:=@List.mem_cons_of_mem
abbrev cw:=@List.mem_cons_self
abbrev gY:=@List.mem_filter
abbrev GY:=@List.mem_filterMap
abbrev GZ:=@List.mem_iff_getElem
abbrev fc:=@List.mem_map
abbrev zK:=@List.mem_map_of_mem
abbrev xy:=@List.mem_of_find?_eq_some
abbrev cJ:=@List.mem_of_getElem?
abbrev zL:=@List.mem_of_mem_drop
abbrev kx:=@List.mem_of_mem_take
abbrev G0:=@List.mem_range'_1
abbrev uV:=@List.mem_reverse
abbrev G1:=@List.mem_singleton
abbrev uW:=@List.nil_append
abbrev xA:=@List.nodup_append
abbrev tE:=@List.nodup_cons
abbrev zM:=@List.not_mem_nil
abbrev DJ:=@List.of_mem_zip
abbrev xB:=@List.pairwise_cons
abbrev DK:=@List.pairwise_iff_getElem
abbrev Mw:=@List.perm_append_comm_assoc
abbrev zN:=@List.prefix_iff_eq_take
abbrev G2:=@List.replicate_succ
abbrev zO:=@List.reverse_append
abbrev uX:=@List.reverse_cons
abbrev d5:=@List.size_toArray
abbrev Mx:=@List.sublist_append_right
abbrev My:=@List.takeWhile_append_dropWhile
abbrev tF:=@List.takeWhile_append_of_pos
abbrev mW:=@List.takeWhile_cons
abbrev DL:=@List.takeWhile_cons_of_neg
abbrev DM:=@List.takeWhile_cons_of_pos
abbrev G3:=@List.takeWhile_prefix
abbrev pz:=@List.takeWhile_sublist
abbrev G4:=@List.take_add_one
abbrev DN:=@List.take_append_drop
abbrev tG:=@List.take_left
abbrev DO:=@List.take_left'
abbrev fm:=@List.take_length
abbrev pA:=@List.take_of_length_le
abbrev zP:=@List.take_sublist
abbrev zQ:=@List.toList_toArray
abbrev DP:=@PySem.MeetsSeq3.plain_eq_loop
abbrev zR:=@Nat.add_assoc
abbrev DQ:=@Nat.add_comm
abbrev xC:=@Nat.add_sub_cancel_left
abbrev uY:=@Nat.le_add_right
abbrev xD:=@Nat.le_of_eq
abbrev eX:=@Nat.le_of_lt
abbrev DR:=@Nat.le_of_succ_le
abbrev aS:=@Nat.le_refl
abbrev zS:=@Nat.le_succ
abbrev uZ:=@Nat.le_succ_of_le
abbrev bq:=@Nat.le_trans
abbrev mX:=@Nat.lt_irrefl
abbrev u0:=@Nat.lt_of_le_of_lt
abbrev dH:=@Nat.lt_of_lt_of_le
abbrev tH:=@Nat.lt_succ_of_lt
abbrev mY:=@Nat.lt_succ_self
abbrev iY:=@Nat.min_eq_left
abbrev zT:=@Nat.min_eq_right
abbrev zU:=@Nat.min_le_right
abbrev DS:=@Nat.mul_le_mul_left
abbrev zV:=@Nat.mul_succ
abbrev u1:=@Nat.ne_of_gt
abbrev cE:=@Nat.ne_of_lt
abbrev tI:=@Nat.sub_self
abbrev zW:=@Nat.succ_le_succ
abbrev a_:=@Nat.zero_le
abbrev mZ:=@Ne.symm
abbrev G5:=@Option.getD_none
abbrev u4:=@Option.getD_some
abbrev DT:=@Option.isNone_some
abbrev G6:=@Option.isSome_iff_exists
abbrev tJ:=@Option.map_some
abbrev di:=@Option.some.inj
abbrev u5:=@PySem.Paired.length
abbrev xE:=@PyProof.Rows.callWith_type1
abbrev Mz:=@PySem.F.args_dict_get_3
abbrev eN:=@PySem.F.plainAttrs_list
abbrev G7:=@PySem.F.slot_dict_get
abbrev iZ:=@PySem.F.slot_list_append
abbrev qJ:=@PySem.F.slot_list_extend
abbrev MA:=@PySem.F.slot_list_index
abbrev i0:=@PySem.F.type_list_append
abbrev qK:=@PySem.F.type_list_extend
abbrev MB:=@PySem.W.length_le_weightAllW
abbrev zX:=@PySem.boot_len
abbrev jS:=@PySem.mem_of_lookup
abbrev xF:=@PySem.Value.type.inj
abbrev ny:=@beq_eq_false_iff_ne
abbrev qL:=@beq_iff_eq
abbrev zY:=@PySem.call_meets
abbrev zZ:=@PySem.codeAny_mono
abbrev da:=@congrArg
abbrev qM:=@decide_eq_decide
abbrev cR:=@decide_eq_false
abbrev m3:=@decide_eq_false_iff_not
abbrev aR:=@decide_eq_true
abbrev qN:=@decide_eq_true_eq
abbrev d8:=@decide_eq_true_iff
abbrev jT:=@if_false
abbrev ak:=@if_neg
abbrev ao:=@if_pos
abbrev m4:=@if_true
abbrev pB:=@PySem.W.mg_none_of
abbrev i4:=@of_decide_eq_true
abbrev DU:=@PySem.pushCells_keeps
abbrev nz:=@PySem.sizeLine_eq
abbrev DV:=@PySem.tupleKind_room_in1
abbrev u6:=@PySem.wpAny_Call_Name_kw
abbrev a5:=@PySem.wpAny_bind
abbrev DW:=@PySem.wpAny_execs_nil
abbrev DX:=@PySem.wpAny_ite_split
abbrev jU:=@PySem.wpAny_loadPart'
abbrev ir:=@PySem.wpAny_mono
abbrev G8:=@PySem.wpAny_newObj_type
abbrev u7:=@PySem.wpAny_passesOwn
abbrev cY:=@PySem.wpAny_pure
abbrev DY:=@PySem.wpAny_pyIter_enum
abbrev pC:=@PySem.wpAny_truthy_bool
section
open VanbknNeutral (encode asked1 callOf whole60)
open PyVanbkn (shape answers_asked)
open PyFlat (rows played)
open Vanbkn (nodeNo DEEP full usedUp depthIn Text wrapped NODES LONG sibling digit natOf shownWith upFrom outside labelIn holds readNode goodText textByte nodeFault readNodes Answer ofNat stepFrom Node refused inside isText decimal refs doNew textOf withNode shifted tellView visible tellStep labels dotted labelsFrom tell nats tellNodes firstLine nodeLine checked lessText)
open PySem.W (instObj methodObj lookIn plainGet hasDictIn findIn handedIn plainOver takerIn Looks makesIn typeIn emptyDict keepIn callWith_K isFn cellsFrom_some fnOf codeIn WRecords tabIn WalkOS tab_of nsIn mg_of mg_none_of)
namespace L2
open PySem PySem.Spec PyProof.Rows
abbrev Key:=Sum Int Str
def tK:Key->Value->Bool
 | .inl k,v=>Value.isInt k v
 | .inr x,v=>Value.isStrOf x v
def U5(w:World):Key->Int
 | .inl k=>hashInt k
 | .inr x=>hashStr w x
theorem dB:∀{k:Key}{v:Value},tK k v=true->(∃i t,k=Sum.inl i/\v=Value.int i t)\/(∃x t,k=Sum.inr x/\v=Value.str x t)
 | .inl i,v,h=>by obtain⟨t,e⟩:=Value.isInt_shape (k:=i) (v:=v) h;exact .inl ⟨i,t,rfl,e⟩
 | .inr x,v,h=>by obtain⟨t,e⟩:=Value.isStrOf_shape (x:=x) (v:=v) h;exact .inr ⟨x,t,rfl,e⟩
theorem Fe(i:Int)(t:Tok):tK (.inl i) (.int i t)=true:=by simp[tK,Value.isInt]
theorem Ff(x:Str)(t:Tok):tK (.inr x) (.str x t)=true:=by simp[tK,Value.isStrOf]
theorem NW(a b:Int):decide ((Sum.inl a:Key)=Sum.inl b)=(a==b):=by
 by_cases e:a=b
 .subst e;simp
 .have h:¬(Sum.inl a:Key)=Sum.inl b:=λq=>e (Sum.inl.inj q);rw[cR h];exact(ny.mpr e).symm
theorem NX(a b:Str):decide ((Sum.inr a:Key)=Sum.inr b)=decide (a=b):=by
 by_cases e:a=b
 .subst e;simp
 .have h:¬(Sum.inr a:Key)=Sum.inr b:=λq=>e (Sum.inr.inj q);rw[cR h,cR e]
theorem NY(a:Int)(b:Str):decide ((Sum.inl a:Key)=Sum.inr b)=false:=cR (λq=>nomatch q)
theorem NZ(a:Str)(b:Int):decide ((Sum.inr a:Key)=Sum.inl b)=false:=cR (λq=>nomatch q)
def dN(prog:Program)(w:World):PySem.KeyKind prog w Key where
 is:=tK
 hash:=U5 w
 inj:=λv a b ha hb=>by
  rcases dB ha with⟨i,t,rfl,rfl⟩|⟨x,t,rfl,rfl⟩
  .rcases dB hb with⟨j,u,rfl,e⟩|⟨y,u,rfl,e⟩
   .injection e with e1 _;rw[e1]
   .exact nomatch e
  .rcases dB hb with⟨j,u,rfl,e⟩|⟨y,u,rfl,e⟩
   .exact nomatch e
   .injection e with e1 _;rw[e1]
 byValue:=λk v h=>by rcases dB h with⟨i,t,rfl,rfl⟩|⟨x,t,rfl,rfl⟩<;>rfl
 pyHash:=λhv h=>by
  rcases dB hv with⟨i,t,rfl,rfl⟩|⟨x,t,rfl,rfl⟩
  .exact wpAny_pyHash_int h
  .exact wpAny_pyHash_str h
 eqBool:=λhu hv h=>by
  rcases dB hu with⟨i,t,rfl,rfl⟩|⟨x,t,rfl,rfl⟩
  .rcases dB hv with⟨j,u,rfl,rfl⟩|⟨y,u,rfl,rfl⟩
   .rw[NW] at h;exact wpAny_eqBool_int h
   .rw[NY] at h;exact SeqAt.EqAt.int_str i t y u _ _ _ _ h
  .rcases dB hv with⟨j,u,rfl,rfl⟩|⟨y,u,rfl,rfl⟩
   .rw[NZ] at h;exact SeqAt.EqAt.str_int x t j u _ _ _ _ h
   .rw[NX] at h;exact wpAny_eqBool_str h
 «strs»:=λk x t v h=>by
  rcases dB h with⟨i,u,rfl,e⟩|⟨y,u,rfl,e⟩
  .exact nomatch e
  .injection e with e1 _;subst e1;cases v<;>rfl
theorem z0(prog:Program)(w:World)(i:Int)(t:Tok):(dN prog w).is (.inl i) (.int i t)=true:=Fe i t
theorem z_(prog:Program)(w:World)(x:Str)(t:Tok):(dN prog w).is (.inr x) (.str x t)=true:=Ff x t
inductive V where
 |fb|bl(b:Bool)|int(i:Int)|str(x:Str)|B1(b:Array UInt8)|Tw(b:UInt64)|ref(a:Addr)|ty(n:String)
 deriving DecidableEq
def RelV:V->Value->Prop
 | .fb,u=>u=Value.none
 | .bl b,u=>u=Value.bool b
 | .int i,u=>∃t,u=Value.int i t
 | .str x,u=>∃t,u=Value.str x t
 | .B1 b,u=>∃t,u=Value.bytes b t
 | .Tw b,u=>∃t,u=Value.float b t
 | .ref a,u=>u=Value.ref a
 | .ty n,u=>u=Value.type n
abbrev Vals:List V->List Value->Prop:=Paired RelV
theorem Vals.length{xs:List V}{us:List Value}(r:Vals xs us):xs.length=us.length:=u5 r
theorem Vals.get:∀{xs:List V}{us:List Value}{i:Nat}{x:V},Vals xs us->xs[i]?=some x->∃u,us[i]?=some u/\RelV x u
 |_,_,_,_,.nil,e=>by simp at e
 |_,_,0,_,.cons r _,e=>by simp at e;subst e;exact⟨_,rfl,r⟩
 |_,_,i+1,x,.cons _ t,e=>by obtain⟨u,h1,h2⟩:=Vals.get (i:=i) (x:=x) t (by simpa using e);exact⟨u,by simpa using h1,h2⟩
theorem Vals.append:∀{xs ys:List V}{us ws:List Value},Vals xs us->Vals ys ws->Vals (xs++ys) (us++ws)
 |_,_,_,_,.nil,s=>s
 |_,_,_,_,.cons r t,s=> .cons r (Vals.append t s)
theorem Vals.take:∀{xs:List V}{us:List Value}(n:Nat),Vals xs us->Vals (xs.take n) (us.take n)
 |_,_,0,_=> .nil
 |_,_,_+1,.nil=> .nil
 |_,_,n+1,.cons r t=> .cons r (Vals.take n t)
theorem Vals.drop:∀{xs:List V}{us:List Value}(n:Nat),Vals xs us->Vals (xs.drop n) (us.drop n)
 |_,_,0,r=>r
 |_,_,_+1,.nil=> .nil
 |_,_,n+1,.cons _ t=>Vals.drop n t
def pN:Option V->Option Value->Prop
 |some v,some u=>RelV v u
 |none,none=>True
 |_,_=>False
def KV{κ:Type}:List (κ×V)->List (κ×Value)->Prop:=Paired λ(p:κ×V)(q:κ×Value)=>p.1=q.1/\RelV p.2 q.2
def kV:Key->V
 | .inl i=> .int i
 | .inr x=> .str x
inductive HO where
 |lst(xs:List V)
 |tup(xs:List V)
 |dK(a8:List (Key×V))|dT(a8:List (List Key×V))
 |set(S:Int->Bool)(n:Nat)
 |ins(C dx:Addr)(fs:List (Str×V))
 |own(x:Addr)
 |xd(fs:List (Str×V))
 |met(f x:Addr)
 |U6(lo hi:Int)
 |jO(o:Obj)(u:HO)
 |o1(ps:Array Value)
 |ext(φ:Heap->Prop)
abbrev Hp:=Addr->Option HO
def upd(H:Hp)(a:Addr)(o:HO):Hp:=λb=>if b=a then some o else H b
variable{H:Hp}{a:Addr}{o:HO}
theorem ah:upd H a o a=some o:=by unfold upd;rw[ao rfl]
variable{b:Addr}
theorem az(h:b≠a):upd H a o b=H b:=by unfold upd;rw[ak h]
theorem kz{u:HO}:upd (upd H a o) a u=upd H a u:=by funext b;unfold upd;split<;>rfl
theorem jz{u:HO}(h:H a=some o)(h':H b=some u)(d:o≠u):a≠b:=by intro e;subst e;rw[h] at h';exact d (di h')
theorem bc(h:H a=some o)(h':H b=none):a≠b:=by intro e;subst e;rw[h] at h';cases h'
section
variable(P:Program)(w:World)
def dj(H:Hp)(h:Heap)(a:Addr):HO->Prop
 | .lst xs=>xs.length<=sizeLine/\∃(its:List Value)(n:Nat),Vals xs its/\h.get? a=some {cls:= .type "list",data:= .seq its.toArray n}
 | .tup xs=>xs.length<=sizeLine/\∃its:List Value,Vals xs its/\IsTup h a its.toArray
 | .dK a8=>a8.length<=sizeLine/\(a==sysModules)=false/\∃vs,KV a8 vs/\h.DictOf (dN P w) a vs
 | .dT a8=>a8.length<=sizeLine/\(a==sysModules)=false/\∃xs:List (List Key×Addr×Value),
  Paired (λ(p:List Key×V)(q:List Key×Addr×Value)=>p.1=q.1/\H q.2.1=some (.tup (p.1.map kV))/\RelV p.2 q.2.2) a8 xs/\
  ∃o es ep,h.get? a=some o/\o.ExactDict/\o.data= .dict es ep/\es.toList=xs.map (entryOfKey (tupleKind (dN P w)))/\(xs.map (·.1)).Nodup
 | .set S n=>h.SetOf (intKind P w) a S n
 | .ins C dx fs=>H dx=some (.own a)/\fs.length<=1000/\dx≠a/\h.get? a=some (instObj C dx)/\
  ∃mA,h.Ns1 dx mA/\(∀f,pN (fs.lookup f) (mA f))/\PySem.Within mA (fs.map (·.1))
 | .own _=>∃o,h.get? a=some o
 | .xd fs=>∃mA,h.Ns1 a mA/\∀f,pN (fs.lookup f) (mA f)
 | .U6 lo hi=>∃t u v,h.get? a=some {cls:= .type "range",data:= .fields #[.int lo t,.int hi u,.int 1 v]}
 | .jO o u=>h.get? a=some o/\dj H h a u
 | .o1 ps=>h.get? a=some {cls:= .none,data:= .fields ps}
 | .met f x=>h.get? a=some (methodObj (.ref f) (.ref x))
 | .ext φ=>φ h/\(∃o,h.get? a=some o)/\∀h1 h2:Heap,φ h1->(∀o,h1.get? a=some o->h2.get? a=some o)->φ h2
def nj(H:Hp)(h:Heap):Prop:=∀a o,H a=some o->dj P w H h a o
end
section
variable{P:Program}{w:World}{H H':Hp}{h h':Heap}{a:Addr}{o:HO}
theorem dj.lt(x:dj P w H h a o):a<h.objs.size:=by
 cases o with
 |lst xs=>obtain⟨_,_,_,_,e⟩:=x;exact dh e
 |tup xs=>obtain⟨_,_,_,p⟩:=x;exact p.lt
 |dK a8=>obtain⟨_,_,_,_,o,_,_,e,_⟩:=x;exact dh e
 |dT a8=>obtain⟨_,_,_,_,o,_,_,e,_⟩:=x;exact dh e
 |set S n=>obtain⟨o,_,_,_,e,_⟩:=x;exact dh e
 |ins C dx fs=>obtain⟨_,_,_,e,_⟩:=x;exact dh e
 |own y=>obtain⟨_,e⟩:=x;exact dh e
 |xd fs=>obtain⟨_,⟨_,_,_,e,_⟩,_⟩:=x;exact dh e
 |U6 lo hi=>obtain⟨_,_,_,e⟩:=x;exact dh e
 |jO ob u=>obtain⟨e,_⟩:=x;exact dh e
 |o1 ps=>exact dh (show h.get? a=some _ from x)
 |met f y=>exact dh (show h.get? a=some _ from x)
 |ext φ=>obtain⟨_,⟨_,e⟩,_⟩:=x;exact dh e
theorem Paired.N5{α β:Type}{F G:α->β->Prop}:∀{l₁:List α}{l₂:List β},Paired F l₁ l₂->(∀a b,F a b->G a b)->Paired G l₁ l₂
 |_,_,.nil,_=> .nil
 |_,_,.cons r t,f=> .cons (f _ _ r) (Paired.N5 t f)
theorem dj.ui(x:dj P w H h a o)(k:∀b u,(b=a\/H b=some (.own a))->h.get? b=some u->h'.get? b=some u)(ho:∀b,H b=some (.own a)->H' b=some (.own a))(ht:∀b xs,H b=some (.tup xs)->H' b=some (.tup xs)):dj P w H' h' a o:=by
 induction o with
 |lst xs=>obtain⟨z,its,n,r,e⟩:=x;exact⟨z,its,n,r,k _ _ (.inl rfl) e⟩
 |tup xs=>obtain⟨z,its,r,ob,e,c⟩:=x;exact⟨z,its,r,ob,k _ _ (.inl rfl) e,c⟩
 |dK a8=>obtain⟨z,y,vs,r,ob,es,ep,e,c⟩:=x;exact⟨z,y,vs,r,ob,es,ep,k _ _ (.inl rfl) e,c⟩
 |dT a8=>obtain⟨z,y,xs,r,ob,es,ep,e,c⟩:=x;exact⟨z,y,xs,Paired.N5 r λp q z=>⟨z.1,ht _ _ z.2.1,z.2.2⟩,ob,es,ep,k _ _ (.inl rfl) e,c⟩
 |set S n=>obtain⟨ob,es,ep,t,e,c⟩:=x;exact⟨ob,es,ep,t,k _ _ (.inl rfl) e,c⟩
 |ins C dx fs=>obtain⟨d,z,ne,e,mA,⟨od,es,ep,e2,c⟩,r⟩:=x;exact⟨ho _ d,z,ne,k _ _ (.inl rfl) e,mA,⟨od,es,ep,k _ _ (.inr d) e2,c⟩,r⟩
 |own y=>obtain⟨ob,e⟩:=x;exact⟨ob,k _ _ (.inl rfl) e⟩
 |xd fs=>obtain⟨mA,⟨od,es,ep,e,c⟩,r⟩:=x;exact⟨mA,⟨od,es,ep,k _ _ (.inl rfl) e,c⟩,r⟩
 |U6 lo hi=>obtain⟨t,u,v,e⟩:=x;exact⟨t,u,v,k _ _ (.inl rfl) e⟩
 |jO ob u ih=>obtain⟨e,q⟩:=x;exact⟨k _ _ (.inl rfl) e,ih q⟩
 |o1 ps=>have e:h.get? a=some {cls:= .none,data:= .fields ps}:=x;show h'.get? a=some {cls:= .none,data:= .fields ps};exact k a _ (.inl rfl) e
 |met f y=>have e:h.get? a=some (methodObj (.ref f) (.ref y)):=x;show h'.get? a=some (methodObj (.ref f) (.ref y));exact k a _ (.inl rfl) e
 |ext φ=>obtain⟨p,⟨o,e⟩,st⟩:=x;exact⟨st _ _ p λo q=>k _ _ (.inl rfl) q,⟨o,k _ _ (.inl rfl) e⟩,st⟩
theorem nj.lt(x:nj P w H h)(e:H a=some o):a<h.objs.size:=(x a o e).lt
theorem nj.fresh(x:nj P w H h)(e:h.objs.size<=a):H a=none:=by
 cases q:H a with
 |none=>rfl
 |some u=>exact absurd (dH (x.lt q) e) (mX _)
theorem nj.kept(x:nj P w H h)(k:∀b u,h.get? b=some u->h'.get? b=some u):nj P w H h':=λa o e=>(x a o e).ui (λb u _ q=>k b u q) (λ_ q=>q) λ_ _ q=>q
theorem nj.laid(x:nj P w H h)(k:∀b u,h.get? b=some u->h'.get? b=some u)(hp:h.objs.size<=a)(new:dj P w (upd H a o) h' a o):nj P w (upd H a o) h':=λb u e=>by
 have hn:=x.fresh hp;by_cases hb:b=a
 .subst hb;rw[ah] at e;cases e;exact new
 .rw[az hb] at e;exact(x b u e).ui (λc v _ q=>k c v q) (λc q=>by rw[az (bc q hn)];exact q) λc xs q=>by rw[az (bc q hn)];exact q
end
def Rd(H:Hp)(a:Addr)(u:HO):Prop:=H a=some u\/∃o,H a=some (.jO o u)
variable{P:Program}{w:World}{h:Heap}
theorem Rd.ok{u:HO}(r:Rd H a u)(x:nj P w H h):dj P w H h a u:=by
 rcases r with r|⟨o,r⟩
 .exact x a u r
 .obtain⟨_,q⟩:=x a _ r;exact q
def Kq:Option HO->Prop
 |some (.lst _)=>True
 |some (.dK _)=>True
 |some (.dT _)=>True
 |some (.set _ _)=>True
 |some (.ins _ _ _)=>True
 |some (.ext _)=>True
 |_=>False
section
variable{P:Program}{w:World}{H:Hp}{h h':Heap}{x e:Addr}{o':HO}
theorem nj.write(ok:nj P w H h)(mu:Kq (H x))(he:e=x\/H e=some (.own x))(k:∀b u,b≠e->h.get? b=some u->h'.get? b=some u)(Qp:∃u,h'.get? e=some u)(new:dj P w (upd H x o') h' x o'):nj P w (upd H x o') h':=λb u q=>by
 have Ra:∀c y,H c=some (.own y)->c≠x:=λc y r z=>by subst z;rw[r] at mu;exact mu
 have U7:∀c xs,H c=some (.tup xs)->c≠x:=λc xs r z=>by subst z;rw[r] at mu;exact mu
 by_cases hb:b=x
 .subst hb;rw[ah] at q;cases q;exact new
 .rw[az hb] at q;by_cases N_:b=e
  .have q':H b=some (.own x):=by
    rcases he with z|z
    .exact absurd (N_.trans z) hb
    .rw[N_];exact z
   rw[q] at q';cases q';obtain⟨v,hv⟩:=Qp;exact⟨v,by rw[N_];exact hv⟩
  .refine(ok b u q).ui (λc v hc r=>k c v ?_ r) (λc r=>by rw[az (Ra c b r)];exact r) λc xs r=>by rw[az (U7 c xs r)];exact r
   rcases hc with rfl|hc
   .exact N_
   .rintro rfl;rcases he with z|z
    .exact Ra c b hc z
    .rw[hc] at z;cases z;exact hb rfl
end
structure Un(fs ex:List Addr)(H H':Hp)(h h':Heap):Prop where
 keep:∀b o,h.get? b=some o->H b=none->b∉fs->b∉ex->h'.get? b=some o
 slot:∀b o,h.get? b=some o->H b=none->b∈fs->b∉ex->∃sl,h'.get? b=some {o with slots:=sl}
 free:∀b o,h.get? b=some o->H b=none->b∉ex->H' b=none
 there:∀b o,h.get? b=some o->b∉ex->∃o',h'.get? b=some o'
 xk:∀b xs,H b=some (.tup xs)->H' b=some (.tup xs)
 uj:∀b o u,H b=some (.jO o u)->H' b=some (.jO o u)
 u9:∀b ps,H b=some (.o1 ps)->∃more,H' b=some (.o1 (ps++more))
section
variable{fs Kr ex ex':List Addr}{H H1 H2:Hp}{h h1 h2 h':Heap}{a x e:Addr}{o:HO}
theorem Un.any(u:Un fs ex H H1 h h1){ob:Obj}(q:h.get? b=some ob)(n:H b=none)(hx:b∉ex):∃sl,h1.get? b=some {ob with slots:=sl}:=by
 by_cases hb:b∈fs
 .exact u.slot b ob q n hb hx
 .exact⟨ob.slots,u.keep b ob q n hb hx⟩
theorem Un.kept(k:∀b u,h.get? b=some u->h'.get? b=some u):Un fs ex H H h h':=
 ⟨λb ob q _ _ _=>k b ob q,λb ob q _ _ _=>⟨ob.slots,k b ob q⟩,λ_ _ _ n _=>n,λb ob q _=>⟨ob,k b ob q⟩,λ_ _ q=>q,λ_ _ _ q=>q,λ_ ps q=>⟨#[],by rw[q];simp⟩⟩
theorem Un.refl:Un fs ex H H h h:=Un.kept λ_ _ q=>q
theorem Un.laid(k:∀b u,h.get? b=some u->h'.get? b=some u)(hp:h.objs.size<=a)(hn:H a=none):Un fs ex H (upd H a o) h h' where
 keep:=λb u q _ _ _=>k b u q
 slot:=λb u q _ _ _=>⟨u.slots,k b u q⟩
 free:=λb u q n _=>by rw[az (cE (dH (dh q) hp))];exact n
 there:=λb u q _=>⟨u,k b u q⟩
 xk:=λb xs q=>by rw[az (bc q hn)];exact q
 uj:=λb u xs q=>by rw[az (bc q hn)];exact q
 u9:=λb ps q=>⟨#[],by rw[az (bc q hn),q];simp⟩
theorem Un.write(mu:Kq (H x))(he:e=x\/H e=some (.own x))(k:∀b u,b≠e->h.get? b=some u->h'.get? b=some u)(Qp:∃u,h'.get? e=some u):Un fs ex H (upd H x o) h h':=by
 have hx:∀b,H b=none->b≠x:=λb n z=>by subst z;rw[n] at mu;exact mu
 have hb:∀b,H b=none->b≠e:=λb n z=>by
  subst z;rcases he with r|r
  .exact hx b n r
  .rw[n] at r;cases r
 have hm:∀b u,H b=some u->¬Kq (some u)->b≠x:=λb u q nm z=>by subst z;rw[q] at mu;exact nm mu
 refine⟨λb u q n _ _=>k b u (hb b n) q,λb u q n _ _=>⟨u.slots,k b u (hb b n) q⟩,λb u q n _=>by rw[az (hx b n)];exact n,λb u q _=>?_,
  λb xs q=>by rw[az (hm b _ q λz=>z)];exact q,λb u xs q=>by rw[az (hm b _ q λz=>z)];exact q,λb ps q=>⟨#[],by rw[az (hm b _ q λz=>z),q];simp⟩⟩
 by_cases N_:b=e
 .subst N_;exact Qp
 .exact⟨u,k b u N_ q⟩
end
def Tx(h:Heap)(H:Hp):List Addr:=(List.range h.objs.size).filter λa=>(H a).isSome
def u_(h:Heap)(H:Hp):Heap:=PySem.W.hideAll h (Tx h H)
theorem Fg(h:Heap)(H:Hp):(u_ h H).objs.size=h.objs.size:=PySem.W.hideAll_size _ _
theorem G9{o:Obj}(e:h.get? b=some o)(n:H b=none):(u_ h H).get? b=some o:=
 PySem.W.hideAll_get _ e λhm=>by have q:(H b).isSome=true:=(gY.mp hm).2;rw[n] at q;simp at q
theorem Ks{o:Obj}(e:(u_ h H).get? b=some o):h.get? b=some o/\H b=none:=by
 have e':h.get? b=some o:=PySem.W.of_hideAll (Tx h H) e;refine⟨e',?_⟩;cases q:H b with
 |none=>rfl
 |some x=>have hm:b∈Tx h H:=gY.mpr ⟨List.mem_range.mpr (dh e'),by simp[q]⟩;have z:(u_ h H).get? b=none:=PySem.W.hideAll_none (Tx h H) hm;rw[z] at e;cases e
structure Mod(K:PySem.W.Frag)(mg:Str->Option Value)(base:Heap):Prop where
 Tz:K.In base
 glob:base.Ns mainGlobals mg
 blt:∃mb,base.Ns builtinsNs mb/\∀x:Str,x≠"__name__"->mb x=bootBuiltins x
 nolimit:base.NoLimit
structure Cx where
 prog:Program
 w:World
 K:PySem.W.Frag
 mg:Str->Option Value
 base:Heap
 A:Around
 N:List Str
 xb:Shared
 Oa:Hp
 env:Env
 outer:List Env
 stack:List Env
 ex:List Addr
 fn:Str->Bool
 calm:Bool
 pn:List (Addr×Obj)
 xe:Value->Shared->Prop
def Fh(l:List Env):List Addr:=l.filterMap (·.frame)
abbrev Cx.fs(X:Cx):List Addr:=Fh X.outer
def Qq(sc:Scope)(x:Str):Prop:=sc.names.lookup x=some .local\/sc.names.lookup x=some .cell\/sc.names.lookup x=some .free
def Loc(sc:Scope)(x:Str):Prop:=sc.names.lookup x=some .local\/sc.names.lookup x=some .cell
def Look(env:Env)(h:Heap)(m:Str->Option Value)(x:Str)(u:Value):Prop:=
 (env.kindOf x=some .local/\m x=some u)\/((env.kindOf x=some .cell\/env.kindOf x=some .free)/\∃c,env.cells.lookup x=some c/\h.IsCell c (some u))
structure Cx.Ok(X:Cx):Prop where
 mod:Mod X.K X.mg X.base
 kind:X.env.scope.kind= .function
 glob:X.env.globals=mainGlobals
 blt:X.env.builtins=builtinsNs
 above:X.xb.heap.objs.size<=X.env.locals
 inj:∀x y c,X.env.cells.lookup x=some c->X.env.cells.lookup y=some c->x=y
 has:∀x,(X.env.kindOf x=some .cell\/X.env.kindOf x=some .free)->∃c,X.env.cells.lookup x=some c
 Rb:∀x c,X.fn x=true->X.env.cells.lookup x=some c->X.xb.heap.objs.size<=c
 hd:X.calm=true->X.A.handled=none
 frames:X.A.frames=some X.stack
 TC:X.stack=X.outer\/(X.stack=X.env::X.outer/\X.env.frame=some X.env.locals)
 TF:∀b∈X.ex,b≠X.env.locals/\∀x c,X.env.cells.lookup x=some c->c≠b
 bs:∀b o,X.base.get? b=some o->X.xb.heap.get? b=some o/\X.Oa b=none
 J3:X.base.objs.size<=X.xb.heap.objs.size
 G_:∀b o,X.base.get? b=some o->b∉X.ex
 G':∀b∈X.ex,b∉X.fs
 rV:X.xb.heap.FunFrames X.base X.outer
 MC:∀b∈X.fs,X.Oa b=none
structure Inv(X:Cx)(aq:List (Addr×Obj))(σ:List (Option V))(H:Hp)(s:Shared):Prop where
 ok:X.Ok
 os:s.os=X.xb.os
 bare:AllBare s.gens
 base:Un X.fs X.ex X.Oa H X.xb.heap s.heap
 loc:∃m,s.heap.Ns X.env.locals m/\∀(i:Nat)(x:Str)(v:V),X.N[i]?=some x->σ[i]?=some (some v)->Qq X.env.scope x->∃u,RelV v u/\Look X.env s.heap m x u
 cell:∀x c,X.env.cells.lookup x=some c->∃v,s.heap.IsCell c v
 free:H X.env.locals=none
 kC:∀x c,X.env.cells.lookup x=some c->H c=none
 pin:∀p∈X.pn++aq,s.heap.get? p.1=some p.2/\H p.1=none/\p.1≠X.env.locals/\p.1∉X.fs/\∀v,p.2.data≠ .cell v
 cx:nj X.prog X.w H s.heap
 len:σ.length=X.N.length
variable{g':Array GenState}{t':Nat}{d':Drawn}{ch:List Addr}
variable{it:Addr}
variable{N:List Str}{i j:Nat}{x:Str}
variable{M:Model}{A:Around}{E:Value->Shared->Prop}{v:V}{u:Value}
section
variable{X:Cx}{aq:List (Addr×Obj)}{σ:List (Option V)}{H H':Hp}{s:Shared}{h':Heap}
theorem Cx.Ok.U8(ok:X.Ok){o:Obj}(e:X.base.get? b=some o):b∉X.fs:=λhb=>by have:=(ok.rV.mem hb).1;rw[e] at this;cases this
theorem Inv.bs(I:Inv X aq σ H s):∀b o,X.base.get? b=some o->s.heap.get? b=some o/\H b=none:=λb o e=>⟨I.base.keep b o (I.ok.bs b o e).1 (I.ok.bs b o e).2 (I.ok.U8 e) (I.ok.G_ b o e),I.base.free b o (I.ok.bs b o e).1 (I.ok.bs b o e).2 (I.ok.G_ b o e)⟩
theorem Inv.bk(I:Inv X aq σ H s):∀b o,X.base.get? b=some o->s.heap.get? b=some o:=λb o e=>(I.bs b o e).1
theorem Inv.mod(I:Inv X aq σ H s):Mod X.K X.mg X.base:=I.ok.mod
theorem Inv.GF(I:Inv X aq σ H s):X.K.In s.heap:=I.ok.mod.Tz.keeps I.bk
theorem Inv.lt(I:Inv X aq σ H s):X.env.locals<s.heap.objs.size:=let ⟨_,hn,_⟩:=I.loc;hn.lt
theorem Inv.sz(I:Inv X aq σ H s):X.xb.heap.objs.size<=s.heap.objs.size:=bq I.ok.above (eX I.lt)
theorem Inv.U9(I:Inv X aq σ H s)(h:s.heap.objs.size<=a):a∉X.fs:=λhb=>by obtain⟨_,o,ho,_⟩:=I.ok.rV.mem hb;exact absurd (dH (dh ho) (bq I.sz h)) (mX _)
theorem Inv.Oc(I:Inv X aq σ H s):∀x c,X.env.cells.lookup x=some c->c≠X.env.locals:=λx c e z=>by obtain⟨v,o,ho,hd⟩:=I.cell x c e;obtain⟨m,⟨o',es,ep,DZ,MD,_⟩,_⟩:=I.loc;rw[z,DZ] at ho;cases ho;rw[MD] at hd;cases hd
theorem Inv.rV(I:Inv X aq σ H s):s.heap.FunFrames X.base X.outer:=by
 have all:∀(l:List Env),(∀b∈Fh l,b∈X.fs)->X.xb.heap.FunFrames X.base l->s.heap.FunFrames X.base l:=by
  intro l;induction l with
  |nil=>intro _ _;trivial
  |cons env r ih=>intro hs hl;obtain⟨hk,⟨L,o,hf,hn,ho,hd⟩,hr⟩:=hl;have hL:L∈X.fs:=hs L (by unfold Fh;rw[rR,hf];exact cw);obtain⟨sl,e⟩:=I.base.slot L o ho (I.ok.MC L hL) hL λz=>I.ok.G' L z hL;exact⟨hk,⟨L,_,hf,hn,e,hd⟩,ih (λb hb=>hs b (by unfold Fh;rw[rR,hf];exact bz _ hb)) hr⟩
 exact all X.outer (λ_ hb=>hb) I.ok.rV
theorem Inv.stack(I:Inv X aq σ H s):s.heap.FunFrames X.base X.stack:=by
 rcases I.ok.TC with e|⟨e,hf⟩
 .rw[e];exact I.rV
 .rw[e];obtain⟨m,hn,_⟩:=I.loc;refine .cons (by rw[I.ok.kind];decide) hf hn ?_ I.rV;exact Heap.get?_none_of_le (bq I.ok.J3 I.ok.above)
theorem Inv.Ca(I:Inv X aq σ H s):∀b∈Fh X.stack,b∈X.env.locals::X.fs:=λb hb=>by
 rcases I.ok.TC with e|⟨e,hf⟩
 .rw[e] at hb;exact bz _ hb
 .rw[e] at hb;unfold Fh at hb;rw[rR,hf] at hb;exact hb
theorem Inv.D0(I:Inv X aq σ H s):∀b∈Fh X.stack,H b=none:=λb hb=>by
 rcases bZ.mp (I.Ca b hb) with e|hb
 .rw[e];exact I.free
 .obtain⟨_,o,ho,_⟩:=I.ok.rV.mem hb;exact I.base.free b o ho (I.ok.MC b hb) λz=>I.ok.G' b z hb
theorem Inv.step(I:Inv X aq σ H s)(J4:∀b∈ch,(b∈X.ex\/X.xb.heap.objs.size<=b)/\b≠X.env.locals/\(∀x c,X.env.cells.lookup x=some c->c≠b)/\∀p∈X.pn++aq,p.1≠b)(keep:∀b o,b≠X.env.locals->b∉X.fs->b∉ch->s.heap.get? b=some o->H b=none->h'.get? b=some o)(slot:∀b o,b≠X.env.locals->b∈X.fs->b∉ch->s.heap.get? b=some o->H b=none->∃sl,h'.get? b=some {o with slots:=sl})(free:∀b o,b∉ch->s.heap.get? b=some o->H b=none->H' b=none)(there:∀b o,b∉ch->s.heap.get? b=some o->∃o',h'.get? b=some o')(xk:∀b xs,H b=some (.tup xs)->H' b=some (.tup xs))(uj:∀b o u,H b=some (.jO o u)->H' b=some (.jO o u))(u9:∀b ps,H b=some (.o1 ps)->∃more,H' b=some (.o1 (ps++more)))(ns:∀m,s.heap.Ns X.env.locals m->h'.Ns X.env.locals m)(cx:nj X.prog X.w H' h')(hg:AllBare g'):
 Inv X aq σ H' {s with heap:=h',gens:=g',drawn:=d',toks:=t'}:=by
 have Xy:∀b o,X.xb.heap.get? b=some o->b≠X.env.locals:=λb o e=>cE (dH (dh e) I.ok.above);have TH:∀b o,X.xb.heap.get? b=some o->b∉X.ex->b∉ch:=λb o e hx hb=>by
  rcases(J4 b hb).1 with z|z
  .exact hx z
  .exact absurd (dH (dh e) z) (mX _)
 have cellK:∀x c,X.env.cells.lookup x=some c->∀v,s.heap.IsCell c v->h'.IsCell c v:=λx c e v ⟨o,ho,hd⟩=>by
  have Rc:c∉ch:=λz=>(J4 c z).2.2.1 x c e rfl;by_cases hc:c∈X.fs
  .obtain⟨sl,q⟩:=slot c o (I.Oc x c e) hc Rc ho (I.kC x c e);exact⟨_,q,hd⟩
  .exact⟨o,keep c o (I.Oc x c e) hc Rc ho (I.kC x c e),hd⟩
 refine⟨I.ok,I.os,hg,⟨λb o e n hb hx=>?_,λb o e n hb hx=>?_,λb o e n hx=>?_,λb o e hx=>?_,λb xs e=>xk b xs (I.base.xk b xs e),λb o xs e=>uj b o xs (I.base.uj b o xs e),λb ps e=>?_⟩,?_,λx c e=>?_,?_,λx c e=>?_,λp hp=>?_,cx,I.len⟩
 .exact keep b o (Xy b o e) hb (TH b o e hx) (I.base.keep b o e n hb hx) (I.base.free b o e n hx)
 .obtain⟨sl,e1⟩:=I.base.slot b o e n hb hx;obtain⟨YL,e2⟩:=slot b _ (Xy b o e) hb (TH b o e hx) e1 (I.base.free b o e n hx);exact⟨YL,e2⟩
 .obtain⟨o',e1⟩:=I.base.there b o e hx;exact free b o' (TH b o e hx) e1 (I.base.free b o e n hx)
 .obtain⟨o',e1⟩:=I.base.there b o e hx;exact there b o' (TH b o e hx) e1
 .obtain⟨m1,e1⟩:=I.base.u9 b ps e;obtain⟨m2,e2⟩:=u9 b _ e1;exact⟨m1++m2,by rw[e2,Array.append_assoc]⟩
 .obtain⟨m,hn,hl⟩:=I.loc;refine⟨m,ns m hn,λi x v e1 e2 e3=>?_⟩;obtain⟨u,r,l⟩:=hl i x v e1 e2 e3;refine⟨u,r,?_⟩;rcases l with l|⟨k,c,e,z⟩
  .exact .inl l
  .exact .inr ⟨k,c,e,cellK x c e _ z⟩
 .obtain⟨v,z⟩:=I.cell x c e;exact⟨v,cellK x c e v z⟩
 .obtain⟨m,⟨o,_,_,ho,_⟩,_⟩:=I.loc;exact free _ o (λz=>(J4 _ z).2.1 rfl) ho I.free
 .obtain⟨v,o,ho,hd⟩:=I.cell x c e;exact free c o (λz=>(J4 c z).2.2.1 x c e rfl) ho (I.kC x c e)
 .obtain⟨e,n,ne,nf,d⟩:=I.pin p hp;have Rc:p.1∉ch:=λz=>(J4 p.1 z).2.2.2 p hp rfl;exact⟨keep p.1 p.2 ne nf Rc e n,free p.1 p.2 Rc e n,ne,nf,d⟩
theorem Inv.un(I:Inv X aq σ H s)(u:Un X.fs [] H H' s.heap h')(cx:nj X.prog X.w H' h'):Inv X aq σ H' {s with heap:=h',toks:=t'}:=by obtain⟨m,⟨o,es,ep,ho,r⟩,_⟩:=id I.loc;obtain⟨sl,hL⟩:=u.any ho I.free (by simp);exact I.step (g':=s.gens) (d':=s.drawn) (ch:=[]) (λ_ z=>nomatch z) (λb o _ hb _ e n=>u.keep b o e n hb (by simp)) (λb o _ hb _ e n=>u.slot b o e n hb (by simp)) (λb o _ e n=>u.free b o e n (by simp)) (λb o _ e=>u.there b o e (by simp)) u.xk u.uj u.u9 (λm' hm=>by obtain⟨o',ME,MF,DZ,r'⟩:=hm;rw[ho] at DZ;cases DZ;exact⟨_,ME,MF,hL,r'⟩) cx I.bare
theorem Inv.call(I:Inv X aq σ H s)(u:Un (Fh X.stack) ch H H' s.heap h')(cx:nj X.prog X.w H' h')(hg:AllBare g')(J4:∀b∈ch,(b∈X.ex\/X.xb.heap.objs.size<=b)/\b≠X.env.locals/\(∀x c,X.env.cells.lookup x=some c->c≠b)/\∀p∈X.pn++aq,p.1≠b):
 Inv X aq σ H' {s with heap:=h',gens:=g',drawn:=d',toks:=t'}:=by
 obtain⟨m,⟨o,es,ep,ho,r⟩,_⟩:=id I.loc;obtain⟨sl,hL⟩:=u.any ho I.free λz=>(J4 _ z).2.1 rfl;exact I.step (ch:=ch) J4 (λb o hL hb hc e n=>u.keep b o e n (λz=>(bZ.mp (I.Ca b z)).elim hL hb) hc) (λb o _ _ hc e n=>u.any e n hc) (λb o hc e n=>u.free b o e n hc) (λb o hc e=>u.there b o e hc) u.xk u.uj u.u9 (λm' hm=>by obtain⟨o',ME,MF,DZ,r'⟩:=hm;rw[ho] at DZ;cases DZ;exact⟨_,ME,MF,hL,r'⟩) cx hg
theorem Inv.turned(I:Inv X aq σ H s)(k:∀b o,b≠it->s.heap.get? b=some o->h'.get? b=some o)(hn:H it=none)(hL:it≠X.env.locals)(h1:it∈X.ex\/X.xb.heap.objs.size<=it)(h2:∀x c,X.env.cells.lookup x=some c->c≠it)(h3:∀p∈X.pn++aq,p.1≠it):Inv X aq σ H {s with heap:=h',toks:=t'}:=by
 have Rf:∀b u,H b=some u->b≠it:=λb u e z=>by rw[z,hn] at e;cases e
 refine I.step (g':=s.gens) (d':=s.drawn) (ch:=[it]) (λb hb=>?_) (λb o _ _ hc e _=>k b o (λz=>hc (by simp[z])) e) (λb o _ _ hc e _=>⟨o.slots,k b o (λz=>hc (by simp[z])) e⟩) (λ_ _ _ _ n=>n)
  (λb o hc e=>⟨o,k b o (λz=>hc (by simp[z])) e⟩) (λ_ _ e=>e) (λ_ _ _ e=>e) (λb ps e=>⟨#[],by rw[e];simp⟩) (λm hm=>?_) (λb u e=>?_) I.bare
 .have e:b=it:=by simpa using hb
  subst e;exact⟨h1,hL,h2,h3⟩
 .obtain⟨o,es,ep,ho,r⟩:=hm;exact⟨o,es,ep,k _ o (mZ hL) ho,r⟩
 .refine(I.cx b u e).ui (λc v hc q=>k c v ?_ q) (λ_ q=>q) λ_ _ q=>q;rcases hc with z|z
  .rw[z];exact Rf b u e
  .exact Rf c _ z
theorem Inv.tok(I:Inv X aq σ H s)(t:Nat):Inv X aq σ H {s with toks:=t}:=I.un (h':=s.heap) (t':=t) Un.refl I.cx
theorem Inv.kept{t':Nat}(I:Inv X aq σ H s)(k:∀b u,s.heap.get? b=some u->h'.get? b=some u):Inv X aq σ H {s with heap:=h',toks:=t'}:=I.un (Un.kept k) (I.cx.kept k)
theorem Inv.laid{a:Addr}{o:HO}{t':Nat}(I:Inv X aq σ H s)(k:∀b u,s.heap.get? b=some u->h'.get? b=some u)(hp:s.heap.objs.size<=a)(new:dj X.prog X.w (upd H a o) h' a o):
 Inv X aq σ (upd H a o) {s with heap:=h',toks:=t'}:=I.un (Un.laid k hp (I.cx.fresh hp)) (I.cx.laid k hp new)
theorem Inv.write{x e:Addr}{o:HO}{t':Nat}(I:Inv X aq σ H s)(mu:Kq (H x))(he:e=x\/H e=some (.own x))(k:∀b u,b≠e->s.heap.get? b=some u->h'.get? b=some u)(Qp:∃u,h'.get? e=some u)(new:dj X.prog X.w (upd H x o) h' x o):Inv X aq σ (upd H x o) {s with heap:=h',toks:=t'}:=I.un (Un.write mu he k Qp) (I.cx.write mu he k Qp new)
theorem Inv.weak{σ':List (Option V)}(I:Inv X aq σ H s)(hl:σ'.length=σ.length)(w:∀(i:Nat) v,σ'[i]?=some (some v)->σ[i]?=some (some v)):Inv X aq σ' H s:=
 ⟨I.ok,I.os,I.bare,I.base,let ⟨m,hn,YM⟩:=I.loc;⟨m,hn,λi x v e1 e2 e3=>YM i x v e1 (w i v e2) e3⟩,I.cell,I.free,I.kC,I.pin,I.cx,hl.trans I.len⟩
theorem Inv.D1{MG:List (Addr×Obj)}(I:Inv X aq σ H s)(h:∀p∈MG,s.heap.get? p.1=some p.2/\H p.1=none/\p.1≠X.env.locals/\p.1∉X.fs/\∀v,p.2.data≠ .cell v):Inv X MG σ H s:=
 ⟨I.ok,I.os,I.bare,I.base,I.loc,I.cell,I.free,I.kC,λp hp=>(dZ.mp hp).elim (λz=>I.pin p (dA _ z)) (h p),I.cx,I.len⟩
theorem va(hN:N.Nodup)(a:N[i]?=some x)(b:N[j]?=some x):i=j:=by obtain⟨h1,e1⟩:=dm.mp a;obtain⟨h2,e2⟩:=dm.mp b;exact(Kp hN).mp (e1.trans e2.symm)
theorem xG{Q:Unit->Shared->Prop}(I:Inv X aq σ H s)(hN:X.N.Nodup)(hi:X.N[i]?=some x)(hx:Loc X.env.scope x)(r:RelV v u)(h:∀s',Inv X aq (σ.set i (some v)) H s'->(∃a,Heap.SameBut a s.heap s'.heap/\(a=X.env.locals\/X.env.cells.lookup x=some a))->Q () s')(hf:X.fn x=true\/X.env.scope.names.lookup x=some .local:=by first|exact .inl rfl|exact .inr rfl|assumption):wpAny M A (storeName X.env x u) Q E s:=by
 obtain⟨m,hn,hl⟩:=id I.loc;have U_:(X.env.scope.kind== .class||(X.env.scope.kind== .module&&X.env.locals !=X.env.globals))=false:=by rw[I.ok.kind];rfl
 have Rg:i<σ.length:=by rw[I.len];exact(dm.mp hi).1
 have Oc:=I.Oc;have tracked:∀{a:Addr}{h':Heap},(∃o,s.heap.get? a=some o/\H a=none)->Heap.SameBut a s.heap h'->nj X.prog X.w H h':=λ{a h'} ha hs b ob e=>by
  obtain⟨_,_,xH⟩:=ha;refine(I.cx b ob e).ui (λc w' hc q=>(hs.2 c ?_).trans q) (λ_ q=>q) λ_ _ q=>q;rintro rfl;rcases hc with rfl|hc
  .rw[xH] at e;cases e
  .rw[xH] at hc;cases hc
 rcases hx with hk|hk
 .refine wpAny_storeName_local hk hn (λh' Rh hs=>?_) U_;obtain⟨oL,_,_,TJ,_⟩:=id hn;refine h _ ⟨I.ok,I.os,I.bare,⟨λb o e n hb hx=>?_,λb o e n hb hx=>?_,I.base.free,λb o e hx=>?_,I.base.xk,I.base.uj,I.base.u9⟩,⟨_,Rh,λj y v' e1 e2 e3=>?_⟩,λy c e=>?_,I.free,I.kC,λp hp=>?_,tracked ⟨oL,TJ,I.free⟩ hs,by simpa using I.len⟩ ⟨_,hs,.inl rfl⟩
  .exact(hs.2 b (cE (dH (dh e) I.ok.above))).trans (I.base.keep b o e n hb hx)
  .obtain⟨sl,e1⟩:=I.base.slot b o e n hb hx;exact⟨sl,(hs.2 b (cE (dH (dh e) I.ok.above))).trans e1⟩
  .obtain⟨o',e1⟩:=I.base.there b o e hx;exact⟨o',(hs.2 b (cE (dH (dh e) I.ok.above))).trans e1⟩
  .by_cases hj:j=i
   .subst hj;rw[hi] at e1;cases e1;rw[NS Rg] at e2;cases e2;exact⟨u,r,.inl ⟨hk,by simp⟩⟩
   .rw[NR (mZ hj)] at e2;obtain⟨u',r',q⟩:=hl j y v' e1 e2 e3;refine⟨u',r',?_⟩;rcases q with⟨k,e⟩|⟨k,c,e,z⟩
    .refine .inl ⟨k,?_⟩;have:y≠x:=λe=>hj (va hN e1 (e▸hi));simp[this,e]
    .exact .inr ⟨k,c,e,z.sameBut hs (Oc y c e)⟩
  .obtain⟨w',z⟩:=I.cell y c e;exact⟨w',z.sameBut hs (Oc y c e)⟩
  .obtain⟨e,n,ne,nf,d⟩:=I.pin p hp;exact⟨(hs.2 p.1 ne).trans e,n,ne,nf,d⟩
 .have U':X.fn x=true:=by
   rcases hf with z|z
   .exact z
   .rw[z] at hk;cases hk
  obtain⟨c,hc⟩:=I.ok.has x (.inl hk);obtain⟨w',z⟩:=I.cell x c hc;refine wpAny_storeName_cell I.ok.kind hk hc z (λh' xI hs=>?_);obtain⟨oc,Xz,Va⟩:=id z;refine h {s with heap:=h'} ⟨I.ok,I.os,I.bare,⟨λb o e n hb hx=>?_,λb o e n hb hx=>?_,I.base.free,λb o e hx=>?_,I.base.xk,I.base.uj,I.base.u9⟩,⟨m,hn.sameBut hs (mZ (Oc x c hc)),λj y v' e1 e2 e3=>?_⟩,λy c' e=>?_,I.free,I.kC,λp hp=>?_,tracked ⟨oc,Xz,I.kC x c hc⟩ hs,by simpa using I.len⟩ ⟨c,hs,.inr hc⟩
  .exact(hs.2 b (cE (dH (dh e) (I.ok.Rb x c U' hc)))).trans (I.base.keep b o e n hb hx)
  .obtain⟨sl,e1⟩:=I.base.slot b o e n hb hx;exact⟨sl,(hs.2 b (cE (dH (dh e) (I.ok.Rb x c U' hc)))).trans e1⟩
  .obtain⟨o',e1⟩:=I.base.there b o e hx;exact⟨o',(hs.2 b (cE (dH (dh e) (I.ok.Rb x c U' hc)))).trans e1⟩
  .by_cases hj:j=i
   .subst hj;rw[hi] at e1;cases e1;rw[NS Rg] at e2;cases e2;exact⟨u,r,.inr ⟨.inl hk,c,hc,xI⟩⟩
   .rw[NR (mZ hj)] at e2;obtain⟨u',r',q⟩:=hl j y v' e1 e2 e3;refine⟨u',r',?_⟩;rcases q with q|⟨k,c',e,z'⟩
    .exact .inl q
    .refine .inr ⟨k,c',e,z'.sameBut hs ?_⟩;rintro rfl;exact hj (va hN e1 (I.ok.inj _ _ _ e hc▸hi))
  .by_cases MH:c'=c
   .subst MH;exact⟨_,xI⟩
   .obtain⟨w2,z2⟩:=I.cell y c' e;exact⟨w2,z2.sameBut hs MH⟩
  .obtain⟨e,n,ne,nf,d⟩:=I.pin p hp;refine⟨(hs.2 p.1 ?_).trans e,n,ne,nf,d⟩;intro q;rw[q,Xz] at e;have q':oc=p.2:=di e;exact d w' (by rw[<-q'];exact Va)
theorem vb{Q:Unit->Shared->Prop}(I:Inv X aq σ H s)(hN:X.N.Nodup)(hi:X.N[i]?=some x)(hx:Loc X.env.scope x)(r:RelV v u)(h:∀s',Inv X aq (σ.set i (some v)) H s'->Q () s')(hf:X.fn x=true\/X.env.scope.names.lookup x=some .local:=by first|exact .inl rfl|exact .inr rfl|assumption):wpAny M A (storeName X.env x u) Q E s:=
 xG I hN hi hx r (λs' I' _=>h s' I') hf
theorem Inv.Ri{s':Shared}(I:Inv X aq σ H s)(ho:s'.os=s.os)(u:Un (Fh X.stack) ch H H' s.heap s'.heap)(cx:nj X.prog X.w H' s'.heap)(hg:AllBare s'.gens)(J4:∀b∈ch,(b∈X.ex\/X.xb.heap.objs.size<=b)/\b≠X.env.locals/\(∀x c,X.env.cells.lookup x=some c->c≠b)/\∀p∈X.pn++aq,p.1≠b):Inv X aq σ H' s':=by obtain⟨h',g',d',t',o'⟩:=s';have e:o'=s.os:=ho;subst e;exact I.call (g':=g') (t':=t') (d':=d') u cx hg J4
end
abbrev XK:=Value->Option Addr->Hp->Prop
abbrev St:=List (Option V)
abbrev VK:=V->Hp->Prop
abbrev TE:=St->Hp->VK->Prop
abbrev TT:=St->Hp->(Bool->Hp->Prop)->Prop
abbrev TA:=St->Hp->(List V->Hp->Prop)->Prop
structure Ends where
 nx:St->Hp->Prop
 rt:VK
 bk:St->Hp->Prop:=λ_ _=>False
 ct:St->Hp->Prop:=λ_ _=>False
abbrev TS:=Ends->St->Hp->Prop
def EP(X:Cx)(aq:List (Addr×Obj))(σ:St)(Q:VK)(u:Value)(s':Shared):Prop:=∃v H',Inv X aq σ H' s'/\RelV v u/\Q v H'
def TP(X:Cx)(aq:List (Addr×Obj))(σ:St)(Q:Bool->Hp->Prop)(b:Bool)(s':Shared):Prop:=∃H',Inv X aq σ H' s'/\Q b H'
def AP(X:Cx)(aq:List (Addr×Obj))(σ:St)(Q:List V->Hp->Prop)(us:List Value)(s':Shared):Prop:=∃vs H',Inv X aq σ H' s'/\Vals vs us/\Q vs H'
def SP(X:Cx)(aq:List (Addr×Obj))(D:Ends)(f:Flow)(s':Shared):Prop:=
 match f with
 | .next=>∃σ' H',Inv X aq σ' H' s'/\D.nx σ' H'
 | .brk=>∃σ' H',Inv X aq σ' H' s'/\D.bk σ' H'
 | .cont=>∃σ' H',Inv X aq σ' H' s'/\D.ct σ' H'
 | .ret u=>∃v σ' H',Inv X aq σ' H' s'/\RelV v u/\D.rt v H'
def PE(X:Cx)(e:Expr)(t:TE):Prop:=
 ∀(aq:List (Addr×Obj))(s:Shared)(σ:St)(H:Hp)(Q:VK),Inv X aq σ H s->t σ H Q->wpAny (model X.prog X.w) X.A (eval e X.env) (EP X aq σ Q) X.xe s
def PT(X:Cx)(e:Expr)(t:TT):Prop:=
 ∀(aq:List (Addr×Obj))(s:Shared)(σ:St)(H:Hp)(Q:Bool->Hp->Prop),Inv X aq σ H s->t σ H Q->wpAny (model X.prog X.w) X.A (isTrue e X.env (eval e X.env)) (TP X aq σ Q) X.xe s
def PW(X:Cx)(e:Expr)(t:TT):Prop:=
 ∀(whole:Sem Value)(aq:List (Addr×Obj))(s:Shared)(σ:St)(H:Hp)(Q:Bool->Hp->Prop),Inv X aq σ H s->t σ H Q->wpAny (model X.prog X.w) X.A (isTrue e X.env whole) (TP X aq σ Q) X.xe s
variable{X:Cx}{e:Expr}
theorem PW.pt{t:TT}(h:PW X e t):PT X e t:=h _
def PA(X:Cx)(es:List Expr)(t:TA):Prop:=
 ∀(pos:Pos)(aq:List (Addr×Obj))(s:Shared)(σ:St)(H:Hp)(Q:List V->Hp->Prop),Inv X aq σ H s->t σ H Q->wpAny (model X.prog X.w) X.A (spliced (backTo pos (starEach es X.env))) (AP X aq σ Q) X.xe s
def PS(X:Cx)(st:Stmt)(t:TS):Prop:=
 ∀(aq:List (Addr×Obj))(s:Shared)(σ:St)(H:Hp)(D:Ends),Inv X aq σ H s->t D σ H->wpAny (model X.prog X.w) X.A (exec st X.env) (SP X aq D) X.xe s
def Cb(X:Cx)(st:List Stmt)(t:TS):Prop:=
 ∀(aq:List (Addr×Obj))(s:Shared)(σ:St)(H:Hp)(D:Ends),Inv X aq σ H s->t D σ H->wpAny (model X.prog X.w) X.A (execs st X.env) (SP X aq D) X.xe s
variable{s:Shared}
theorem dU{α:Type}{t:Sem α}{Q Q':α->Shared->Prop}(h:wpAny M A t Q E s)(hQ:∀a s,Q a s->Q' a s):wpAny M A t Q' E s:=ir h hQ λ_ _ x=>x
variable{aq:List (Addr×Obj)}{σ:St}{Q:Value->Shared->Prop}
variable{op:CmpOp}{t:TE}
variable{c:Expr}
section
variable{X:Cx}
def cK(i:Nat):TE:=λσ H Q=>∃v,σ[i]?=some (some v)/\Q v H
def tC(v:V):TE:=λ_ H Q=>Q v H
theorem Od{pos:Pos}(hN:X.N[i]?=some x)(hv:Qq X.env.scope x)(hd:(x==("__debug__":Str))=false:=by decide)(Ha:(x==("__classdict__":Str))=false:=by decide):PE X (.Name x pos) (cK i):=by
 intro aq s σ H Q I h;obtain⟨v,e,h⟩:=h;obtain⟨m,hn,hl⟩:=I.loc;obtain⟨u,r,l⟩:=hl i x v hN e hv;have fin:EP X aq σ Q u s:=⟨v,H,I,r,h⟩;rcases l with⟨hk,hm⟩|⟨hk,c,hc,bS⟩
 .exact wpAny_Name (wpAny_loadName_local I.ok.kind hk hn hm fin) hd
 .rcases hk with hk|hk
  .exact wpAny_Name (wpAny_loadName_cell I.ok.kind hk hc bS fin) hd
  .exact wpAny_Name (wpAny_loadName_free I.ok.kind hk hc bS fin Ha) hd
theorem au{i j pos}:PE X (.Constant (.int i) j pos) (tC (.int i)):=λ_ _ _ H _ I h=>wpAny_Constant_int ⟨.int i,H,I.tok _,⟨_,rfl⟩,h⟩
theorem D2{b j pos}:PE X (.Constant (.bool b) j pos) (tC (.bl b)):=λ_ _ _ H _ I h=>Constant_bool ⟨.bl b,H,I,rfl,h⟩
theorem a6{j pos}:PE X (.Constant .none j pos) (tC .fb):=λ_ _ _ H _ I h=>Constant_none ⟨.fb,H,I,rfl,h⟩
theorem bO{x j pos}:PE X (.Constant (.str x) j pos) (tC (.str x)):=λ_ _ _ H _ I h=>Calls.Constant_str ⟨.str x,H,I.tok _,⟨_,rfl⟩,h⟩
def Gl(X:Cx)(x:Str):Prop:=X.env.kindOf x=some .globalImplicit
theorem ux{pos:Pos}(I:Inv X aq σ H s)(hg:Gl X x)(hm:X.mg x=some u)(h:Q u s)(hd:(x==("__debug__":Str))=false:=by decide):wpAny (model X.prog X.w) X.A (eval (.Name x pos) X.env) Q E s:=
 Calls.Name_function_global I.ok.kind hg (Calls.loadGlobal_global (by rw[I.ok.glob];exact I.mod.glob.keeps I.bk) hm h) hd
theorem nA{pos:Pos}(I:Inv X aq σ H s)(hg:Gl X x)(hm:X.mg x=none)(hv:bootBuiltins x=some u)(h:Q u s)(hn:x≠"__name__":=by decide)(hd:(x==("__debug__":Str))=false:=by decide):wpAny (model X.prog X.w) X.A (eval (.Name x pos) X.env) Q E s:=by obtain⟨mb,h1,h2⟩:=I.mod.blt;exact Calls.Name_function_global I.ok.kind hg (Calls.loadGlobal_builtin (by rw[I.ok.glob];exact I.mod.glob.keeps I.bk) hm (by rw[I.ok.blt];exact h1.keeps I.bk) ((h2 x hn).trans hv) h) hd
theorem yI{pos:Pos}(hg:Gl X x)(hm:X.mg x=some u)(r:RelV v u)(hd:(x==("__debug__":Str))=false:=by decide):PE X (.Name x pos) (tC v):=
 λ_ _ _ H _ I h=>ux I hg hm ⟨v,H,I,r,h⟩ hd
variable{a b:Expr}{ta tb:TE}{pos:Pos}
def PC(X:Cx)(op:CmpOp)(a b:Expr)(t:TE):Prop:=
 ∀(aq:List (Addr×Obj))(s:Shared)(σ:St)(H:Hp)(Q:VK),Inv X aq σ H s->t σ H Q->
  wpAny (model X.prog X.w) X.A (eval a X.env) (λv s₁=>wpAny (model X.prog X.w) X.A (eval b X.env) (λu s₂=>wpAny (model X.prog X.w) X.A (compareOp op v u) (EP X aq σ Q) X.xe s₂) X.xe s₁) X.xe s
def tB(t:TE):TT:=λσ H Q=>t σ H λx H1=>∃c,x= .bl c/\Q c H1
theorem Oe(h:PC X op a b t)(h1:behindInMarks op b=false:=by first|exact Rj _ (by decide) (by decide)|rfl):PT X (.Compare a [op] [b] pos) (tB t):=by intro aq s σ H Q I hw;refine wpAny_isTrue_Compare1 (dU (h aq s σ H _ I hw) λv s1 h1=>dU h1 λu s2 h2=>dU h2 λc s3 ⟨x,H1,I1,r1,q1⟩=>?_) h1;obtain⟨d,rfl,q⟩:=q1;cases r1;exact pC ⟨H1,I1,q⟩
theorem gk(h:PE X e t)(he:∀whole,isTrue e X.env whole=(do let v<-whole;standAt e.pos;holding [v] (truthy v)):=by intro _;rfl):PT X e (tB t):=by intro aq s σ H Q I hw;refine isTrue_plain (dU (h aq s σ H _ I hw) λv s1 ⟨x,H1,I1,r1,q1⟩=>?_) (he _);obtain⟨d,rfl,q⟩:=q1;cases r1;exact pC ⟨H1,I1,q⟩
variable{tA TK:TT}{rest:List Expr}
def Of(t u:TT):TT:=λσ H Q=>t σ H λc H1=>if c=true then u σ H1 Q else Q false H1
def MI(t u:TT):TT:=λσ H Q=>t σ H λc H1=>if c=true then Q true H1 else u σ H1 Q
def Og(t:TT):TT:=λσ H Q=>t σ H λc H1=>Q (!c) H1
theorem fX(ha:PT X a tA):PW X (.BoolOp .And [a] pos) tA:=by
 intro wh aq s σ H Q I h;refine isTrue_and (dU (ha aq s σ H Q I h) λc s1 e=>?_);cases c with
 |true=>exact isTrue_and_nil e
 |false=>exact e
theorem gz(ha:PT X a tA):PW X (.BoolOp .Or [a] pos) tA:=by
 intro wh aq s σ H Q I h;refine isTrue_or (dU (ha aq s σ H Q I h) λc s1 e=>?_);cases c with
 |false=>exact isTrue_or_nil e
 |true=>exact e
theorem gZ(ha:PT X a tA)(hb:PW X (.BoolOp .And (b::rest) pos) TK):PW X (.BoolOp .And (a::b::rest) pos) (Of tA TK):=by
 intro wh aq s σ H Q I h;refine isTrue_and (dU (ha aq s σ H _ I h) λc s1 ⟨H1,I1,q1⟩=>?_);cases c with
 |true=>exact hb wh aq s1 σ H1 Q I1 q1
 |false=>exact⟨H1,I1,q1⟩
theorem gh(ha:PT X a tA)(hb:PW X (.BoolOp .Or (b::rest) pos) TK):PW X (.BoolOp .Or (a::b::rest) pos) (MI tA TK):=by
 intro wh aq s σ H Q I h;refine isTrue_or (dU (ha aq s σ H _ I h) λc s1 ⟨H1,I1,q1⟩=>?_);cases c with
 |true=>exact⟨H1,I1,q1⟩
 |false=>exact hb wh aq s1 σ H1 Q I1 q1
theorem vc(ha:PT X a tA):PT X (.UnaryOp .Not a pos) (Og tA):=by intro aq s σ H Q I h;exact isTrue_not (ha aq s σ H (λc H1=>Q (!c) H1) I h)
def MJ(ta tb:TE):TE:=λσ H Q=>ta σ H λx H1=>∃c,x= .bl c/\if c=true then tb σ H1 Q else Q (.bl false) H1
def Rk(ta tb:TE):TE:=λσ H Q=>ta σ H λx H1=>∃c,x= .bl c/\if c=true then Q (.bl true) H1 else tb σ H1 Q
theorem Cc{op}(h:PE X a t):PE X (.BoolOp op [a] pos) t:=λaq s σ H Q I hw=>BoolOp_one (h aq s σ H Q I hw)
theorem Hb(ha:PE X a ta)(hb:PE X (.BoolOp .And (b::rest) pos) tb):PE X (.BoolOp .And (a::b::rest) pos) (MJ ta tb):=by
 intro aq s σ H Q I h;refine BoolOp_and (dU (ha aq s σ H _ I h) λv s1 ⟨x,H1,I1,r1,q1⟩=>?_);obtain⟨c,rfl,q1⟩:=q1;cases r1;refine pC ?_;cases c with
 |true=>exact hb aq s1 σ H1 Q I1 q1
 |false=>exact⟨.bl false,H1,I1,rfl,q1⟩
theorem Rl(ha:PE X a ta)(hb:PE X (.BoolOp .Or (b::rest) pos) tb):PE X (.BoolOp .Or (a::b::rest) pos) (Rk ta tb):=by
 intro aq s σ H Q I h;refine BoolOp_or (dU (ha aq s σ H _ I h) λv s1 ⟨x,H1,I1,r1,q1⟩=>?_);obtain⟨c,rfl,q1⟩:=q1;cases r1;refine pC ?_;cases c with
 |false=>exact hb aq s1 σ H1 Q I1 q1
 |true=>exact⟨.bl true,H1,I1,rfl,q1⟩
def Vb(t:TT)(ta tb:TE):TE:=λσ H Q=>t σ H λc H1=>if c=true then ta σ H1 Q else tb σ H1 Q
theorem g0(hc:PT X c tA)(ha:PE X a ta)(hb:PE X b tb):PE X (.IfExp c a b pos) (Vb tA ta tb):=by
 intro aq s σ H Q I h;refine wpAny_IfExp (dU (hc aq s σ H _ I h) λd s1 ⟨H1,I1,q1⟩=>?_);cases d with
 |true=>exact ha aq s1 σ H1 Q I1 q1
 |false=>exact hb aq s1 σ H1 Q I1 q1
end
def bf(K:PySem.W.Frag)(H:Hp)(a:Addr)(xs:List V):Prop:=
 Rd H a (.lst xs)\/
  ∃(o:Obj)(its:Array Value)(n:Nat),K.lookup a=some o/\o.cls= .type "list"/\o.dict=none/\o.data= .seq its n/\its.size<=sizeLine/\Vals xs its.toList
def iu(K:PySem.W.Frag)(H:Hp)(a:Addr)(xs:List V):Prop:=
 Rd H a (.tup xs)\/
  ∃(o:Obj)(its:Array Value)(n:Nat),K.lookup a=some o/\o.cls= .type "tuple"/\o.data= .seq its n/\its.size<=sizeLine/\Vals xs its.toList
def Vc:Value->Option V
 | .none=>some .fb
 | .bool b=>some (.bl b)
 | .int i _=>some (.int i)
 | .str x _=>some (.str x)
 | .bytes b _=>some (.B1 b)
 | .float b _=>some (.Tw b)
 | .ref a=>some (.ref a)
 | .type n=>some (.ty n)
 |_=>none
theorem RelV.abs{x:V}(r:RelV x u):Vc u=some x:=by
 cases x with
 |fb=>cases r;rfl
 |bl _=>cases r;rfl
 |int _=>obtain⟨t,rfl⟩:=r;rfl
 |str _=>obtain⟨t,rfl⟩:=r;rfl
 |B1 _=>obtain⟨t,rfl⟩:=r;rfl
 |Tw _=>obtain⟨t,rfl⟩:=r;rfl
 |ref _=>cases r;rfl
 |ty _=>cases r;rfl
theorem RelV.inj{x y:V}{u:Value}(r:RelV x u)(q:RelV y u):x=y:=di (r.abs.symm.trans q.abs)
theorem Vals.inj:∀{xs ys:List V}{us:List Value},Vals xs us->Vals ys us->xs=ys
 |_,_,_,.nil,.nil=>rfl
 |_,_,_,.cons r t,.cons r' t'=>by rw[r.inj r',Vals.inj t t']
variable{K:PySem.W.Frag}
section
variable{X:Cx}{aq:List (Addr×Obj)}{σ:St}{H:Hp}{s:Shared}{a:Addr}{xs ys:List V}
theorem bf.of(h:H a=some (.lst xs)):bf K H a xs:= .inl (.inl h)
theorem iu.of(h:H a=some (.tup xs)):iu K H a xs:= .inl (.inl h)
theorem Inv.list(I:Inv X aq σ H s)(h:bf X.K H a xs):∃its:List Value,Vals xs its/\PlainL s.heap a its.toArray/\xs.length<=sizeLine:=by
 rcases h with h|⟨o,its,n,hk,hc,hd,hs,hz,r⟩
 .obtain⟨z,its,n,r,e⟩:=h.ok I.cx;exact⟨its,r,⟨_,n,e,rfl,rfl,rfl⟩,z⟩
 .refine⟨its.toList,r,⟨o,n,I.GF a o hk,hc,hd,by simpa using hs⟩,?_⟩;have e:=r.length;simp only[QZ] at e;omega
theorem Inv.tuple(I:Inv X aq σ H s)(h:iu X.K H a xs):∃its:List Value,Vals xs its/\IsTup s.heap a its.toArray/\xs.length<=sizeLine:=by
 rcases h with h|⟨o,its,n,hk,hc,hs,hz,r⟩
 .obtain⟨z,its,r,p⟩:=h.ok I.cx;exact⟨its,r,p,z⟩
 .refine⟨its.toList,r,⟨o,I.GF a o hk,hc,n,by simpa using hs⟩,?_⟩;have e:=r.length;simp only[QZ] at e;omega
theorem Inv.Aa(I:Inv X aq σ H s)(h:bf X.K H a xs)(h':bf X.K H a ys):xs=ys:=by
 obtain⟨its,r,⟨o,n,e,_,_,d⟩,_⟩:=I.list h;obtain⟨its',r',⟨o',n',e',_,_,d'⟩,_⟩:=I.list h';rw[e] at e';cases e';rw[d] at d';injection d' with d1 _;have:its=its':=by simpa using da Array.toList d1
 subst this;exact r.inj r'
theorem Inv.Fi(I:Inv X aq σ H s)(h:iu X.K H a xs)(h':iu X.K H a ys):xs=ys:=by
 obtain⟨its,r,⟨o,e,_,n,d⟩,_⟩:=I.tuple h;obtain⟨its',r',⟨o',e',_,n',d'⟩,_⟩:=I.tuple h';rw[e] at e';cases e';rw[d] at d';injection d' with d1 _;have:its=its':=by simpa using da Array.toList d1
 subst this;exact r.inj r'
end
abbrev Cx.xl(X:Cx)(E:Value->Shared->Prop):Cx:={X with xe:=E}
abbrev Cx.Oh(X:Cx):Cx:=X.xl λ_ _=>False
theorem Cx.Ok.xl{X:Cx}(ok:X.Ok)(E:Value->Shared->Prop):(X.xl E).Ok:=
 ⟨ok.mod,ok.kind,ok.glob,ok.blt,ok.above,ok.inj,ok.has,ok.Rb,ok.hd,ok.frames,ok.TC,ok.TF,ok.bs,ok.J3,ok.G_,ok.G',ok.rV,ok.MC⟩
theorem Cx.Ok.nB(ok:(X.xl E).Ok):X.Ok:=
 ⟨ok.mod,ok.kind,ok.glob,ok.blt,ok.above,ok.inj,ok.has,ok.Rb,ok.hd,ok.frames,ok.TC,ok.TF,ok.bs,ok.J3,ok.G_,ok.G',ok.rV,ok.MC⟩
section
variable{X:Cx}{aq:List (Addr×Obj)}{σ:St}{H:Hp}{s:Shared}{E:Value->Shared->Prop}
theorem Inv.xl(I:Inv X aq σ H s)(E:Value->Shared->Prop):Inv (X.xl E) aq σ H s:=⟨I.ok.xl E,I.os,I.bare,I.base,I.loc,I.cell,I.free,I.kC,I.pin,I.cx,I.len⟩
theorem Inv.nB(I:Inv (X.xl E) aq σ H s):Inv X aq σ H s:=⟨I.ok.nB,I.os,I.bare,I.base,I.loc,I.cell,I.free,I.kC,I.pin,I.cx,I.len⟩
theorem SP.nB{D:Ends}{f:Flow}{s':Shared}(h:SP (X.xl E) aq D f s'):SP X aq D f s':=by
 cases f with
 |next=>obtain⟨σ',H',I,q⟩:=h;exact⟨σ',H',I.nB,q⟩
 |brk=>obtain⟨σ',H',I,q⟩:=h;exact⟨σ',H',I.nB,q⟩
 |cont=>obtain⟨σ',H',I,q⟩:=h;exact⟨σ',H',I.nB,q⟩
 |ret u=>obtain⟨v,σ',H',I,r,q⟩:=h;exact⟨v,σ',H',I.nB,r,q⟩
theorem Cb.Oh{st:List Stmt}{t:TS}(h:Cb X.Oh st t):Cb X st t:=λaq s σ H D I hw=>ir (h aq s σ H D (I.xl _) hw) (λ_ _ q=>q.nB) λ_ _ z=>False.elim z
end
variable{tc:TT}
section
variable{X:Cx}{st:Stmt}{rest:List Stmt}{t u:TS}{e:Expr}{te:TE}{pos:Pos}
def kD:TS:=λD σ H=>D.nx σ H
def qO(t u:TS):TS:=λD σ H=>t {D with nx:=u D} σ H
theorem aA:Cb X [] kD:=λ_ _ σ H _ I h=>DW ⟨σ,H,I,h⟩
theorem ae(h1:PS X st t)(h2:Cb X rest u):Cb X (st::rest) (qO t u):=by
 intro aq s σ H D I h;refine wpAny_execs_cons (dU (h1 aq s σ H {D with nx:=u D} I h) λf s1 q=>?_);cases f with
 |next=>obtain⟨σ',H',I',q⟩:=q;exact h2 aq s1 σ' H' D I' q
 |ret v=>exact q
 |brk=>exact q
 |cont=>exact q
theorem aj(h1:PS X st t):Cb X [st] t:=by
 intro aq s σ H D I h;refine wpAny_execs_cons (dU (h1 aq s σ H D I h) λf s1 q=>?_);cases f with
 |next=>exact DW q
 |ret v=>exact q
 |brk=>exact q
 |cont=>exact q
theorem Inv.quiet(I:Inv X aq σ H s):interactive X.env=false:=by simp[interactive,I.ok.kind]
def MK(te:TE):TS:=λD σ H=>te σ H λ_ H1=>D.nx σ H1
theorem bF(he:PE X e te)(hs:swapsWith e none pos.line X.env=pure false:=by rfl):PS X (.Expr e pos) (MK te):=by intro aq s σ H D I h;exact wpAny_Expr_any (dU (he aq s σ H _ I h) λv s1 ⟨x,H1,I1,r1,q1⟩=>⟨σ,H1,I1,q1⟩) I.quiet hs
def yJ(te:TE):TS:=λD σ H=>te σ H D.rt
theorem aw(he:PE X e te):PS X (.Return (some e) pos) (yJ te):=by intro aq s σ H D I h;exact wpAny_Return_some (dU (he aq s σ H _ I h) λv s1 ⟨x,H1,I1,r1,q1⟩=>⟨x,σ,H1,I1,r1,q1⟩)
def Ab(c:TT)(t u:TS):TS:=λD σ H=>c σ H λb H1=>if b=true then t D σ H1 else u D σ H1
theorem aM{a b:List Stmt}(hc:PT X c tc)(ha:Cb X a t)(hb:Cb X b u):PS X (.If c a b pos) (Ab tc t u):=by
 intro aq s σ H D I h;refine wpAny_If (dU (hc aq s σ H _ I h) λd s1 ⟨H1,I1,q1⟩=>?_);cases d with
 |true=>exact ha aq s1 σ H1 D I1 q1
 |false=>exact hb aq s1 σ H1 D I1 q1
end
abbrev TG:=V->St->Hp->(St->Hp->Prop)->Prop
abbrev ML:=List V->St->Hp->(St->Hp->Prop)->Prop
def PG(X:Cx)(target:Expr)(t:TG):Prop:=
 ∀(aq:List (Addr×Obj))(s:Shared)(σ:St)(H:Hp)(v:V)(u:Value)(Q:St->Hp->Prop),Inv X aq σ H s->RelV v u->t v σ H Q->
  wpAny (model X.prog X.w) X.A (assign target X.env u) (λ_ s'=>∃σ' H',Inv X aq σ' H' s'/\Q σ' H') X.xe s
def Rn(X:Cx)(ts:List Expr)(t:ML):Prop:=
 ∀(aq:List (Addr×Obj))(s:Shared)(σ:St)(H:Hp)(vs:List V)(us:List Value)(Q:St->Hp->Prop),Inv X aq σ H s->Vals vs us->t vs σ H Q->
  wpAny (model X.prog X.w) X.A (assignInOrder ((assignEach ts X.env).map (·.2)) us) (λ_ s'=>∃σ' H',Inv X aq σ' H' s'/\Q σ' H') X.xe s
abbrev TM:=V->V->Hp->VK->Prop
def Vd(X:Cx)(op:Operator)(t:TM):Prop:=
 ∀(aq:List (Addr×Obj))(s:Shared)(σ:St)(H:Hp)(x y:V)(v u:Value)(Q:VK),Inv X aq σ H s->RelV x v->RelV y u->t x y H Q->
  wpAny (model X.prog X.w) X.A (inplaceOp op v u) (EP X aq σ Q) X.xe s
variable{es:List Expr}
variable{n:Nat}
variable{te:TE}{pos':Pos}
variable{body:List Stmt}{tb:TS}
section
variable{X:Cx}{pos:Pos}
def fK(i:Nat):TG:=λv σ H Q=>Q (σ.set i (some v)) H
theorem Kt(hN:X.N.Nodup)(hi:X.N[i]?=some x)(hx:Loc X.env.scope x)(hf:X.fn x=true\/X.env.scope.names.lookup x=some .local:=by first|exact .inl rfl|exact .inr rfl|assumption):PG X (.Name x pos) (fK i):=by intro aq s σ H v u Q I r h;exact wpAny_assign_Name (vb I hN hi hx r (λs' I'=>⟨_,H,I',h⟩) hf)
def Ve:ML:=λvs σ H Q=>vs=[]/\Q σ H
def Ro(t:TG)(u:ML):ML:=λvs σ H Q=>∃v r,vs=v::r/\t v σ H λσ' H'=>u r σ' H' Q
theorem jE:Rn X [] Ve:=by intro aq s σ H vs us Q I r h;obtain⟨e,h⟩:=h;subst e;cases r;exact assignInOrder_nil ⟨σ,H,I,h⟩
theorem b_{t:TG}{u:ML}(h1:PG X e t)(h2:Rn X es u)(hs:(assignEach (e::es) X.env).map (·.2)=assign e X.env::(assignEach es X.env).map (·.2):=by rfl):Rn X (e::es) (Ro t u):=by
 intro aq s σ H vs us Q I r h;obtain⟨v,vr,e1,h⟩:=h;subst e1;cases r with
 |cons r rr=>rw[hs];refine assignInOrder_cons (dU (h1 aq s σ H _ _ _ I r h) λ_ s1 ⟨σ1,H1,I1,q1⟩=>?_);exact h2 aq s1 σ1 H1 _ _ Q I1 rr q1
def Rp(K:PySem.W.Frag)(n:Nat)(t:ML):TG:=λv σ H Q=>∃a xs,v= .ref a/\iu K H a xs/\xs.length=n/\t xs σ H Q
theorem nD{k:Nat}{t:ML}(hc:X.calm=true)(h:Rn X es t)(hn:(assignEach es X.env).length=n:=by rfl)(m5:(assignEach es X.env).findIdx? (·.1)=none:=by rfl):PG X (.Tuple es k pos) (Rp X.K n t):=by intro aq s σ H v u Q I r hw;obtain⟨a,xs,e1,hq,hl,hw⟩:=hw;subst e1;cases r;obtain⟨its,rv,ht,hz⟩:=I.tuple hq;refine assign_Tuple_tuple (I.ok.hd hc) ht (by simp[hn,<-hl,rv.length]) m5 λh' hx=>?_;have I1:Inv X aq σ H {s with heap:=h'}:=I.kept (t':=s.toks) λb o e=>hx b o (cE (dh e)) e;exact h aq _ σ H xs _ Q I1 (by simpa using rv) hw
def yK(te:TE)(g:TG):TS:=λD σ H=>te σ H λx H1=>g x σ H1 D.nx
theorem Oi(hN:X.N.Nodup)(hi:X.N[i]?=some x)(hx:Loc X.env.scope x)(he:PE X e te)(hs:swapsWith e (some (.Name x pos')) pos.line X.env=pure false:=by rfl)(hf:X.fn x=true\/X.env.scope.names.lookup x=some .local:=by first|exact .inl rfl|exact .inr rfl|assumption):
 PS X (.Assign [.Name x pos'] e pos) (yK te (fK i)):=by
 intro aq s σ H D I h;refine wpAny_Assign_Name (dU (he aq s σ H _ I h) λv s1 ⟨y,H1,I1,r1,q1⟩=>?_) hs;exact vb I1 hN hi hx r1 (λs2 I2=>⟨_,H1,I2,q1⟩) hf
def Rq(i:Nat)(te:TE)(ti:TM):TS:=λD σ H=>∃x,σ[i]?=some (some x)/\te σ H λy H1=>ti x y H1 λz H2=>D.nx (σ.set i (some z)) H2
theorem k4{op:Operator}{ti:TM}(hN:X.N.Nodup)(hi:X.N[i]?=some x)(hx:Loc X.env.scope x)(he:PE X e te)(ho:Vd X op ti)(hf:X.fn x=true\/X.env.scope.names.lookup x=some .local:=by first|exact .inl rfl|exact .inr rfl|assumption):
 PS X (.AugAssign (.Name x pos') op e pos) (Rq i te ti):=by
 intro aq s σ H D I h;obtain⟨v,e1,h⟩:=h;obtain⟨m,hn,hl⟩:=I.loc;have YN:Qq X.env.scope x:=by rcases hx with k|k;exact .inl k;exact .inr (.inl k)
 obtain⟨u,r,l⟩:=hl i x v hi e1 YN;refine wpAny_AugAssign_Name ?_;have go:wpAny (model X.prog X.w) X.A (eval e X.env) (λw s₂=>wpAny (model X.prog X.w) X.A (inplaceOp op u w) (λr s₃=>wpAny (model X.prog X.w) X.A (storeName X.env x r) (λ_=>SP X aq D .next) X.xe s₃) X.xe s₂) X.xe s:=by refine dU (he aq s σ H _ I h) λw s1 ⟨y,H1,I1,r1,q1⟩=>?_;refine dU (ho aq s1 σ H1 v y u w _ I1 r r1 q1) λz s2 ⟨zv,H2,I2,r2,q2⟩=>?_;exact vb I2 hN hi hx r2 (λs3 I3=>⟨_,H2,I3,q2⟩) hf
 rcases l with⟨hk,hm⟩|⟨hk,c,hc,bS⟩
 .exact wpAny_loadName_local I.ok.kind hk hn hm go
 .rcases hk with hk|hk
  .exact wpAny_loadName_cell I.ok.kind hk hc bS go
  .rcases hx with k|k
   .have:X.env.scope.names.lookup x=some .free:=hk;rw[k] at this;cases this
   .have:X.env.scope.names.lookup x=some .free:=hk;rw[k] at this;cases this
def Vf(f:Int->Int->Int):TM:=λx y H Q=>∃i j,x= .int i/\y= .int j/\Q (.int (f i j)) H
theorem nE:Vd X .Add (Vf λi j=>i+j):=by intro aq s σ H x y v u Q I r1 r2 h;obtain⟨i,j,e1,e2,q⟩:=h;subst e1;subst e2;obtain⟨t,rfl⟩:=r1;obtain⟨t',rfl⟩:=r2;exact iadd_int ⟨.int _,H,I.tok _,⟨_,rfl⟩,q⟩
theorem Hc:Vd X .Sub (Vf λi j=>i - j):=by intro aq s σ H x y v u Q I r1 r2 h;obtain⟨i,j,e1,e2,q⟩:=h;subst e1;subst e2;obtain⟨t,rfl⟩:=r1;obtain⟨t',rfl⟩:=r2;exact isub_int ⟨.int _,H,I.tok _,⟨_,rfl⟩,q⟩
def Hd(c:TT)(tb:TS):TS:=λD σ H=>∃W:Nat->St->Hp->Prop,(∃m,W m σ H)/\∀m σ H,W m σ H->
 c σ H λb H1=>if b=true then∃N:St->Hp->Prop,(∀σ' H',N σ' H'->∃m',m'<m/\W m' σ' H')/\tb {D with nx:=N,ct:=N,bk:=D.nx} σ H1 else D.nx σ H1
theorem fo(hp:PassesOwn (model X.prog X.w) X.A X.env X.xe)(hc:PT X c tc)(hb:Cb X body tb):PS X (.While c body [] pos) (Hd tc tb):=by
 intro aq s σ H D I h;obtain⟨W,⟨m0,w0⟩,turn⟩:=h;refine wpAny_While (codeAny_whileLoop (λn s'=>∃σ' H',Inv X aq σ' H' s'/\W n σ' H') ?_ m0 ⟨σ,H,I,w0⟩);rintro n s1 ⟨σ1,H1,I1,w1⟩;refine u7 hp (dU (hc aq s1 σ1 H1 _ I1 (turn n σ1 H1 w1)) λb s2 ⟨H2,I2,q2⟩=>?_);cases b with
 |true=>
  obtain⟨N,hN,q2⟩:=q2;rw[ao rfl];refine u7 hp (dU (hb aq s2 σ1 H2 _ I2 q2) λf s3 q3=>?_);cases f with
  |next=>obtain⟨σ3,H3,I3,n3⟩:=q3;obtain⟨m',hm,w3⟩:=hN σ3 H3 n3;exact⟨m',hm,σ3,H3,I3,w3⟩
  |cont=>obtain⟨σ3,H3,I3,n3⟩:=q3;obtain⟨m',hm,w3⟩:=hN σ3 H3 n3;exact⟨m',hm,σ3,H3,I3,w3⟩
  |brk=>exact q3
  |ret v=>exact q3
 |false=>rw[ak w_];exact DW ⟨σ1,H2,I2,q2⟩
end
structure It where
 go:Nat->Hp->Prop
 GG:Nat->Hp->V->Hp->Prop
 stop:Nat->Hp->Prop
def vd(X:Cx)(aq:List (Addr×Obj))(H:Hp)(b:Addr):Prop:=
 H b=none/\b≠X.env.locals/\b∉X.fs/\(b∈X.ex\/X.xb.heap.objs.size<=b)/\(∀x c,X.env.cells.lookup x=some c->c≠b)/\∀p∈X.pn++aq,p.1≠b
theorem Inv.Fj{H':Hp}(I:Inv X aq σ H s)(hb:s.heap.objs.size<=b)(hn:H' b=none):vd X aq H' b:=by
 refine⟨hn,u1 (dH I.lt hb),I.U9 hb,.inr (bq I.sz hb),λx c e z=>?_,λp hp z=>?_⟩
 .obtain⟨v,q⟩:=I.cell x c e;exact absurd (dH q.lt (by rw[z];exact hb)) (mX _)
 .exact absurd (dH (dh (I.pin p hp).1) (by rw[z];exact hb)) (mX _)
structure Turn(P:Program)(w:World)(K:PySem.W.Frag)(tg:Expr)(J:It)(fp:List Addr)(it:Addr)(tn:Nat->Heap->Prop):Prop where
 mem:it∈fp
 obj:∀i h,tn i h->∀b∈fp,∃o,h.get? b=some o/\∀v,o.data≠ .cell v
 keep:∀i h h',tn i h->(∀b∈fp,∀o,h.get? b=some o->h'.get? b=some o)->tn i h'
 item:∀(X:Cx),X.prog=P->X.w=w->X.K=K->X.calm=true->∀(i:Nat)(aq:List (Addr×Obj))(s:Shared)(σ:St)(H:Hp)(E:Value->Shared->Prop),Inv X aq σ H s->(∀b∈fp,vd X aq H b)->tn i s.heap->J.go i H->
  wpAny (model P w) X.A (pyNext (.ref it)) (λr s1=>∃u,r=some u/\
   wpAny (model P w) X.A (letOwnedTupleGo tg (.ref it) u) (λ_ s2=>∃x H',Inv X aq σ H' s2/\RelV x u/\J.GG i H x H'/\tn (i+1) s2.heap/\∀b∈fp,H' b=none) E s1) E s
 done:∀(X:Cx),X.prog=P->X.w=w->X.K=K->X.calm=true->∀(i:Nat)(aq:List (Addr×Obj))(s:Shared)(σ:St)(H:Hp)(E:Value->Shared->Prop),Inv X aq σ H s->(∀b∈fp,vd X aq H b)->tn i s.heap->J.stop i H->
  wpAny (model P w) X.A (pyNext (.ref it)) (λr s1=>r=none/\Inv X aq σ H s1) E s
 self:∀(A:Around)(i:Nat)(s:Shared)(Q:Value->Shared->Prop)(E:Value->Shared->Prop),tn i s.heap->Q (.ref it) s->wpAny (model P w) A (pyIter (.ref it)) Q E s
abbrev TI:=St->Hp->(It->Hp->Prop)->Prop
def TN(X:Cx)(aq:List (Addr×Obj))(σ:St)(tg:Expr)(R:It->Hp->Prop)(Vg:Value)(s2:Shared):Prop:=
 ∃(it:Addr)(fp:List Addr)(tn:Nat->Heap->Prop)(J:It)(H':Hp),Vg= .ref it/\Inv X aq σ H' s2/\Turn X.prog X.w X.K tg J fp it tn/\tn 0 s2.heap/\(∀b∈fp,vd X aq H' b)/\R J H'
def PI(X:Cx)(tg iter:Expr)(wi:TI):Prop:=
 ∀(aq:List (Addr×Obj))(s:Shared)(σ:St)(H:Hp)(R:It->Hp->Prop),Inv X aq σ H s->wi σ H R->
  wpAny (model X.prog X.w) X.A (eval iter X.env) (λv s1=>wpAny (model X.prog X.w) X.A (pyIter v) (TN X aq σ tg R) X.xe s1) X.xe s
variable{tg:Expr}
theorem He{o:Obj}{n:String}{vs:Array Value}{Q:Unit->Shared->Prop}(ho:s.heap.get? it=some o)(hc:o.cls= .type n)(hd:o.data= .fields vs)(hn:["enumerate","zip","dict_itemiterator","dict_reverseitemiterator","odict_iterator","itertools.zip_longest","itertools.pairwise"].contains n=false)(hQ:Q () s):wpAny M A (letOwnedTupleGo tg (.ref it) u) Q E s:=by
 unfold letOwnedTupleGo;cases tg<;>first
  |exact cY hQ
  |(cases u<;>first
   |exact cY hQ
   |(refine a5 (wpAny_load ho ?_);rw[hc,hd];show wpAny M A (if(["enumerate","zip","dict_itemiterator","dict_reverseitemiterator","odict_iterator","itertools.zip_longest","itertools.pairwise"].contains n&&vs[0]?==some (rawInt _))=true then _ else _) Q E s;rw[ak (by intro h;rw[hn,Bool.false_and] at h;cases h)];exact cY hQ))
def Hf(K:PySem.W.Frag)(a:Addr):It:=
 ⟨λi H=>∃xs x,bf K H a xs/\xs[i]?=some x,λi H x H'=>H'=H/\∀xs,bf K H a xs->xs[i]?=some x,λi H=>∃xs,bf K H a xs/\xs.length<=i⟩
def Ku(lo:Int)(n:Nat):It:=⟨λi _=>i<n,λi H x H'=>H'=H/\x= .int (lo+i),λi _=>n<=i⟩
theorem Fl(a it:Addr):Turn P w K tg (Hf K a) [it] it (λi h=>h.IsListIter it a i) where
 mem:=by simp
 obj:=λi h st b hb=>by
  have e:b=it:=by simpa using hb
  subst e;obtain⟨o,e,c,d⟩:=st;exact⟨o,e,λv z=>by rw[d] at z;cases z⟩
 keep:=λi h h' st k=>st.at λo e=>k it (by simp) o e
 item:=by intro X hP hw hK hc i aq s σ H E I hf st hg;subst hP hw hK;obtain⟨xs,x,hq,hx⟩:=hg;obtain⟨its,rv,p,hz⟩:=I.list hq;obtain⟨u,hu,ru⟩:=rv.get hx;obtain⟨f0,f1,f2,f3,f4,f5⟩:=hf it (by simp);refine wpAny_pyNext_list_item st p.isList (x:=u) (by simpa using hu) λh' Fm sb=>?_;have I1:Inv X aq σ H {s with heap:=h'}:=I.turned (t':=s.toks) (λb o hb e=>(sb.2 b hb).trans e) f0 f1 f3 f4 f5;obtain⟨o,e,c,d⟩:=id Fm;exact⟨u,rfl,He (s:={s with heap:=h'}) e c d (by decide) ⟨x,H,I1,ru,⟨rfl,λys hy=>by rw[I.Aa hy hq];exact hx⟩,Fm,λb hb=>(hf b hb).1⟩⟩
 done:=by intro X hP hw hK hc i aq s σ H E I hf st hg;subst hP hw hK;obtain⟨xs,hq,hx⟩:=hg;obtain⟨its,rv,p,hz⟩:=I.list hq;obtain⟨f0,f1,f2,f3,f4,f5⟩:=hf it (by simp);have hl:=rv.length;exact wpAny_pyNext_list_end (I.ok.hd hc) st p.isList (by simp;omega) λh' eb=>⟨rfl,I.turned (t':=s.toks) (λb o hb e=>eb b o hb e) f0 f1 f3 f4 f5⟩
 self:=λ_ _ _ _ _ st h=>wpAny_pyIter_listiter st h
theorem Cd(it:Addr)(lo:Int)(n:Nat):Turn P w K tg (Ku lo n) [it] it (λi h=>IsRangeIter h it (lo+(i:Nat)*1) ((n:Int) - (i:Nat)) 1) where
 mem:=by simp
 obj:=λi h st b hb=>by
  have e:b=it:=by simpa using hb
  subst e;exact⟨_,st,λv z=>by have z':Data.fields _=Data.cell v:=z;cases z'⟩
 keep:=λi h h' st k=>k it (by simp) _ st
 item:=by intro X hP hw hK hc i aq s σ H E I hf st hg;subst hP hw hK;obtain⟨f0,f1,f2,f3,f4,f5⟩:=hf it (by simp);have W:=Walks.range (prog:=X.prog) (w:=X.w) (I.ok.hd hc) it lo 1 n;refine W.item i s _ _ hg st λv h' tk hv Fm kk=>?_;obtain⟨t,rfl⟩:=hv;have I1:Inv X aq σ H {s with heap:=h',toks:=tk}:=I.turned (λb o hb e=>kk b o (by simpa using hb) e) f0 f1 f3 f4 f5;refine⟨_,rfl,He (s:={s with heap:=h',toks:=tk}) (n:="range_iterator") Fm rfl rfl (by decide) ⟨.int (lo+i),H,I1,⟨t,?_⟩,⟨rfl,rfl⟩,Fm,λb hb=>(hf b hb).1⟩⟩;rw[Int.mul_one]
 done:=by intro X hP hw hK hc i aq s σ H E I hf st hg;subst hP hw hK;obtain⟨f0,f1,f2,f3,f4,f5⟩:=hf it (by simp);exact wpAny_pyNext_range_end (I.ok.hd hc) st (by have:n<=i:=hg;omega) λh' eb=>⟨rfl,I.turned (t':=s.toks) (λb o hb e=>eb b o hb e) f0 f1 f3 f4 f5⟩
 self:=λ_ _ _ _ _ st h=>wpAny_pyIter_rangeiter st h
variable{lo:Int}
variable{pos:Pos}
variable{fp:List Addr}
variable{g:TG}
section
variable{X:Cx}{tg:Expr}
def Rt(K:PySem.W.Frag)(tl:TE):TI:=λσ H R=>tl σ H λx H1=>∃a,x= .ref a/\(∃xs,bf K H1 a xs)/\R (Hf K a) H1
theorem bM{l:Expr}{tl:TE}(hl:PE X l tl):PI X tg l (Rt X.K tl):=by
 intro aq s σ H R I h;refine dU (hl aq s σ H _ I h) λv s1 ⟨x,H1,I1,r1,q1⟩=>?_;obtain⟨a,e,⟨xs,hq⟩,q⟩:=q1;subst e;cases r1;obtain⟨its,rv,p,hz⟩:=I1.list hq;refine wpAny_pyIter_list p.isList ?_;refine⟨s1.heap.objs.size,[s1.heap.objs.size],_,_,H1,rfl,I1.kept (t':=s1.toks) λb o e=>gq _ e,Fl a _,⟨_,jD _ rfl,rfl,rfl⟩,λb hb=>?_,q⟩;have e:b=s1.heap.objs.size:=by simpa using hb
 subst e;exact I1.Fj (aS _) (I1.cx.fresh (aS _))
theorem Hg{R:It->Hp->Prop}{hi:Int}{t u v:Tok}{tk:Nat}(I:Inv X aq σ H s)(h1:-(2 ^ 62)<=lo)(h2:lo<2 ^ 62)(h3:-(2 ^ 62)<=hi)(h4:hi<2 ^ 62)(q:R (Ku lo (hi - lo).toNat) H):wpAny (model X.prog X.w) X.A (pyIter (.ref s.heap.objs.size)) (TN X aq σ tg R) E {s with heap:=s.heap.push {cls:= .type "range",data:= .fields #[.int lo t,.int hi u,.int 1 v]},toks:=tk}:=by
 refine wpAny_pyIter_range (IsRange.new ..) (small_one h1 h2 h3 h4) ?_;have I1:Inv X aq σ H {s with heap:=s.heap.push {cls:= .type "range",data:= .fields #[.int lo t,.int hi u,.int 1 v]},toks:=tk}:=I.kept λb o e=>gq _ e;refine⟨(s.heap.push {cls:= .type "range",data:= .fields #[.int lo t,.int hi u,.int 1 v]}).objs.size,[(s.heap.push {cls:= .type "range",data:= .fields #[.int lo t,.int hi u,.int 1 v]}).objs.size],_,_,H,rfl,
  I1.kept (t':=tk) λb o e=>gq _ e,Cd _ lo (hi - lo).toNat,?_,λb hb=>?_,q⟩
 .have e1:lo+((0:Nat):Int)*1=lo:=by simp
  have e2:(((hi - lo).toNat:Nat):Int) - ((0:Nat):Int)=Builtin.Range.rangeSize lo hi 1:=by rw[rangeSize_one];split<;>omega
  show IsRangeIter _ _ (lo+((0:Nat):Int)*1) ((((hi - lo).toNat:Nat):Int) - ((0:Nat):Int)) 1;rw[e1,e2];exact jD _ rfl
 .have e:b=(s.heap.push {cls:= .type "range",data:= .fields #[.int lo t,.int hi u,.int 1 v]}).objs.size:=by simpa using hb
  subst e;exact I1.Fj (aS _) (I1.cx.fresh (aS _))
def Ru(ta:TA):TI:=λσ H R=>ta σ H λvs H1=>∃j:Int,vs=[.int j]/\-(2 ^ 62)<=j/\j<2 ^ 62/\R (Ku 0 j.toNat) H1
theorem xJ{a:Expr}{ta:TA}{p:Pos}(hg:Gl X "range")(hm:X.mg "range"=none)(ha:PA X [a] ta)(hs:starEach [a] X.env=[(false,eval a X.env)]:=by rfl):PI X tg (.Call (.Name "range" p) [a] [] pos) (Ru ta):=by
 intro aq s σ H R I h;refine Call_ (nA I hg hm boot_range (xE (dU (ha pos aq s σ H _ I h) λus s1 ⟨vs,H1,I1,r1,q1⟩=>?_) hs rfl));obtain⟨j,e,q1,q2,q⟩:=q1;subst e;cases r1 with
 |cons r rr=>cases rr;obtain⟨t,rfl⟩:=r;exact call_range_1 (Hg I1 (by omega) (by omega) q1 q2 (by simpa using q))
def Vh(wi:TI)(g:TG)(tb:TS):TS:=λD σ H=>wi σ H λJ H1=>∃W:Nat->Nat->St->Hp->Prop,(∃m,W 0 m σ H1)/\∀i m σ H,W i m σ H->
 (J.stop i H/\D.nx σ H)\/(J.go i H/\∃N:St->Hp->Prop,(∀σ' H',N σ' H'->∃m',m'<m/\W (i+1) m' σ' H')/\∀x H',J.GG i H x H'->g x σ H' λσ2 H2=>tb {D with nx:=N,ct:=N,bk:=D.nx} σ2 H2)
def ve(fp:List Addr)(h:Heap):List (Addr×Obj):=fp.filterMap λb=>(h.get? b).map λo=>(b,o)
theorem pO{o:Obj}(hb:b∈fp)(e:h.get? b=some o):(b,o)∈ve fp h:=GY.mpr ⟨b,hb,by rw[e];rfl⟩
theorem Fn{p:Addr×Obj}(hp:p∈ve fp h):p.1∈fp/\h.get? p.1=some p.2:=by
 obtain⟨b,hb,e⟩:=GY.mp hp;cases q:h.get? b with
 |none=>rw[q] at e;cases e
 |some o=>rw[q] at e;have e':(b,o)=p:=di e;subst e';exact⟨hb,q⟩
theorem Inv.pinned(I:Inv X aq σ H s)(hf:∀b∈fp,vd X aq H b)(ho:∀b∈fp,∃o,s.heap.get? b=some o/\∀v,o.data≠ .cell v):Inv X (aq++ve fp s.heap) σ H s:=
 I.D1 λp hp=>(dZ.mp hp).elim (λz=>I.pin p (eM _ z)) λz=>by obtain⟨hb,e⟩:=Fn z;obtain⟨f0,f1,f2,_⟩:=hf p.1 hb;obtain⟨o,e',d⟩:=ho p.1 hb;rw[e] at e';cases e';exact⟨e,f0,f1,f2,d⟩
theorem Inv.qP{pl:List (Addr×Obj)}(I:Inv X (aq++pl) σ H s):Inv X aq σ H s:=I.D1 λp hp=>I.pin p (eM _ (dA _ hp))
theorem eE{iter:Expr}{wi:TI}(hp:PassesOwn (model X.prog X.w) X.A X.env X.xe)(hc:X.calm=true)(hi:PI X tg iter wi)(hg:PG X tg g)(hb:Cb X body tb)(hs:∀x,foldedSetIterable iter X.env x=pure x:=by intro _;rfl):PS X (.For tg iter body [] pos) (Vh wi g tb):=by
 intro aq s σ H D I h;refine wpAny_For (dU (hi aq s σ H _ I h) λv s1 h1=>dU h1 λVg s2 h2=>?_) hs;obtain⟨it,fp,tn,J,H2,e,I2,T,TQ,f2,W,⟨m0,w0⟩,turn⟩:=h2;subst e;have Ce:∀{H':Hp},(∀b∈fp,H' b=none)->∀b∈fp,vd X aq H' b:=λhn b hb=>⟨hn b hb,(f2 b hb).2⟩;refine codeAny_forLoop_any (λn s'=>∃i σ' H',Inv X aq σ' H' s'/\tn i s'.heap/\(∀b∈fp,H' b=none)/\W i n σ' H') ?_ m0 ⟨0,σ,H2,I2,TQ,λb hb=>(f2 b hb).1,w0⟩;rintro n s3 ⟨i,σ3,H3,I3,TU,XA,w3⟩;rcases turn i n σ3 H3 w3 with⟨stop,qn⟩|⟨go,N,hN,step⟩
 .refine u7 hp (dU (T.done X rfl rfl rfl hc i aq s3 σ3 H3 X.xe I3 (Ce XA) TU stop) λr s4 ⟨hr,I4⟩=>?_);subst hr;exact DW ⟨σ3,H3,I4,qn⟩
 .refine u7 hp (dU (T.item X rfl rfl rfl hc i aq s3 σ3 H3 X.xe I3 (Ce XA) TU go) λr s4 ⟨u,hr,h4⟩=>?_);subst hr;refine u7 hp (dU h4 λ_ s5 ⟨x,H5,I5,r5,y5,Qr,YO⟩=>?_);have YQ:=I5.pinned (Ce YO) (T.obj _ _ Qr);refine u7 hp (dU (hg _ s5 σ3 H5 x u _ YQ r5 (step x H5 y5)) λ_ s6 ⟨σ6,H6,I6,q6⟩=>?_);refine u7 hp (dU (hb _ s6 σ6 H6 _ I6 q6) λf s7 q7=>?_);have again:∀{σ7:St}{H7:Hp},Inv X (aq++ve fp s5.heap) σ7 H7 s7->N σ7 H7->∃m,m<n/\∃i σ' H',Inv X aq σ' H' s7/\tn i s7.heap/\(∀b∈fp,H' b=none)/\W i m σ' H':=λ{σ7 H7} I7 n7=>by obtain⟨m',hm,w7⟩:=hN σ7 H7 n7;refine⟨m',hm,i+1,σ7,H7,I7.qP,T.keep _ _ _ Qr λb hb o e=>(I7.pin (b,o) (eM _ (eM _ (pO hb e)))).1,λb hb=>?_,w7⟩;obtain⟨o,e,d⟩:=T.obj _ _ Qr b hb;exact(I7.pin (b,o) (eM _ (eM _ (pO hb e)))).2.1
  cases f with
  |next=>obtain⟨σ7,H7,I7,n7⟩:=q7;exact again I7 n7
  |cont=>obtain⟨σ7,H7,I7,n7⟩:=q7;exact again I7 n7
  |brk=>obtain⟨σ7,H7,I7,q7⟩:=q7;exact⟨σ7,H7,I7.qP,q7⟩
  |ret v=>obtain⟨x7,σ7,H7,I7,r7,q7⟩:=q7;exact⟨x7,σ7,H7,I7.qP,r7,q7⟩
end
variable{D:Ends}
theorem dI{xs:List V}(Pv:Nat->St->Hp->Prop)(h0:Pv 0 σ H)(hl:∀i σ H,i<=xs.length->Pv i σ H->bf K H a xs)(hs:∀i x σ H,xs[i]?=some x->Pv i σ H->g x σ H λσ2 H2=>tb {D with nx:=Pv (i+1),ct:=Pv (i+1),bk:=D.nx} σ2 H2)(hd:∀σ H,Pv xs.length σ H->D.nx σ H):
 ∃W:Nat->Nat->St->Hp->Prop,(∃m,W 0 m σ H)/\∀i m σ H,W i m σ H->
  ((Hf K a).stop i H/\D.nx σ H)\/((Hf K a).go i H/\∃N:St->Hp->Prop,(∀σ' H',N σ' H'->∃m',m'<m/\W (i+1) m' σ' H')/\∀x H',(Hf K a).GG i H x H'->g x σ H' λσ2 H2=>tb {D with nx:=N,ct:=N,bk:=D.nx} σ2 H2):=by
 refine⟨λi m σ H=>m=xs.length - i/\i<=xs.length/\Pv i σ H,⟨xs.length,by simp,a_ _,h0⟩,?_⟩;rintro i m σ H ⟨rfl,hi,p⟩;have q:=hl i σ H hi p;by_cases fD:i<xs.length
 .refine .inr ⟨⟨xs,xs[i],q,by simp[fD]⟩,Pv (i+1),λσ' H' p'=>⟨xs.length - (i+1),by omega,rfl,fD,p'⟩,λx H' y=>?_⟩;obtain⟨e,y⟩:=y;subst e;exact hs i x σ _ (y xs q) p
 .have e:i=xs.length:=by omega
  subst e;exact .inl ⟨⟨xs,q,aS _⟩,hd σ H p⟩
theorem Fo(Pv:Nat->St->Hp->Prop)(h0:Pv 0 σ H)(hs:∀i σ H,i<n->Pv i σ H->g (.int (lo+i)) σ H λσ2 H2=>tb {D with nx:=Pv (i+1),ct:=Pv (i+1),bk:=D.nx} σ2 H2)(hd:∀σ H,Pv n σ H->D.nx σ H):
 ∃W:Nat->Nat->St->Hp->Prop,(∃m,W 0 m σ H)/\∀i m σ H,W i m σ H->
  ((Ku lo n).stop i H/\D.nx σ H)\/((Ku lo n).go i H/\∃N:St->Hp->Prop,(∀σ' H',N σ' H'->∃m',m'<m/\W (i+1) m' σ' H')/\∀x H',(Ku lo n).GG i H x H'->g x σ H' λσ2 H2=>tb {D with nx:=N,ct:=N,bk:=D.nx} σ2 H2):=by
 refine⟨λi m σ H=>m=n - i/\i<=n/\Pv i σ H,⟨n,by simp,a_ _,h0⟩,?_⟩;rintro i m σ H ⟨rfl,hi,p⟩;by_cases fD:i<n
 .refine .inr ⟨fD,Pv (i+1),λσ' H' p'=>⟨n - (i+1),by omega,rfl,fD,p'⟩,λx H' y=>?_⟩;obtain⟨e,y⟩:=y;subst e y;exact hs i σ _ fD p
 .have e:i=n:=by omega
  subst e;exact .inl ⟨aS _,hd σ H p⟩
abbrev R2:=V->V->Hp->VK->Prop
def qF(X:Cx)(f:Value->Value->Sem Value)(r:R2):Prop:=
 ∀(aq:List (Addr×Obj))(s:Shared)(σ:St)(H:Hp)(x y:V)(v u:Value)(Q:VK),Inv X aq σ H s->RelV x v->RelV y u->r x y H Q->
  wpAny (model X.prog X.w) X.A (f v u) (EP X aq σ Q) X.xe s
def Vi(X:Cx)(f:Value->Sem Value)(r:V->Hp->VK->Prop):Prop:=
 ∀(aq:List (Addr×Obj))(s:Shared)(σ:St)(H:Hp)(x:V)(v:Value)(Q:VK),Inv X aq σ H s->RelV x v->r x H Q->
  wpAny (model X.prog X.w) X.A (f v) (EP X aq σ Q) X.xe s
def qQ(X:Cx)(f:Value)(r:List V->Hp->VK->Prop):Prop:=
 ∀(aq:List (Addr×Obj))(s:Shared)(σ:St)(H:Hp)(xs:List V)(us:List Value)(Q:VK),Inv X aq σ H s->Vals xs us->r xs H Q->
  wpAny (model X.prog X.w) X.A (call f us) (EP X aq σ Q) X.xe s
def tL(r:R2)(ta tb:TE):TE:=λσ H Q=>ta σ H λx H1=>tb σ H1 λy H2=>r x y H2 Q
def YR(r:V->Hp->VK->Prop)(ta:TE):TE:=λσ H Q=>ta σ H λx H1=>r x H1 Q
def rI(C:Int->Int->Prop)(g:Int->Int->V):R2:=λx y H Q=>∃i j,x= .int i/\y= .int j/\C i j/\Q (g i j) H
def xK(g:Int->Int->V):R2:=λx y H Q=>∃i j,x= .int i/\y= .int j/\Q (g i j) H
def rU(g:Int->V):V->Hp->VK->Prop:=λx H Q=>∃i,x= .int i/\Q (g i) H
variable{f:Value->Value->Sem Value}
variable{r:R2}
section
variable{X:Cx}{a b c:Expr}{ta tb tc:TE}{pos:Pos}
theorem Oj(ha:PE X a ta)(hb:PE X b tb){R:V->V->Hp->Prop}(I:Inv X aq σ H s)(h:ta σ H λx H1=>tb σ H1 λy H2=>R x y H2)(hf:∀v u s2 x y H2,Inv X aq σ H2 s2->RelV x v->RelV y u->R x y H2->wpAny (model X.prog X.w) X.A (f v u) Q X.xe s2):
 wpAny (model X.prog X.w) X.A (eval a X.env) (λv s₁=>wpAny (model X.prog X.w) X.A (eval b X.env) (λu s₂=>wpAny (model X.prog X.w) X.A (f v u) Q X.xe s₂) X.xe s₁) X.xe s:=by
 refine dU (ha aq s σ H _ I h) λv s1 ⟨x,H1,I1,r1,q1⟩=>?_;refine dU (hb aq s1 σ H1 _ I1 q1) λu s2 ⟨y,H2,I2,r2,q2⟩=>?_;exact hf v u s2 x y H2 I2 r1 r2 q2
theorem bh{op:Operator}(ho:qF X (binaryOp op) r)(ha:PE X a ta)(hb:PE X b tb):PE X (.BinOp a op b pos) (tL r ta tb):=by intro aq s σ H Q I h;exact wpAny_BinOp (Oj ha hb I h λv u s2 x y H2 I2 rx ry q=>ho aq s2 σ H2 x y v u Q I2 rx ry q)
theorem vf{op:UnaryOp}{r:V->Hp->VK->Prop}(ho:Vi X (unaryOp op) r)(ha:PE X a ta):PE X (.UnaryOp op a pos) (YR r ta):=by intro aq s σ H Q I h;exact UnaryOp_ (dU (ha aq s σ H _ I h) λv s1 ⟨x,H1,I1,r1,q1⟩=>ho aq s1 σ H1 x v Q I1 r1 q1)
theorem YS{C:Int->Int->Prop}{g:Int->Int->Int}(rule:∀(i j:Int)(t u:Tok)(s:Shared)(Q:Value->Shared->Prop)(E:Value->Shared->Prop),C i j->Q (.int (g i j) s.toks) {s with toks:=s.toks+1}->wpAny (model X.prog X.w) X.A (f (.int i t) (.int j u)) Q E s):
 qF X f (rI C λi j=> .int (g i j)):=by
 intro aq s σ H x y v u Q I rx ry h;obtain⟨i,j,rfl,rfl,hc,q⟩:=h;obtain⟨t,rfl⟩:=rx;obtain⟨t',rfl⟩:=ry;exact rule i j t t' s _ _ hc ⟨.int (g i j),H,I.tok _,⟨_,rfl⟩,q⟩
theorem Rv{g:Int->Int->Int}(rule:∀(i j:Int)(t u:Tok)(s:Shared)(Q:Value->Shared->Prop)(E:Value->Shared->Prop),Q (.int (g i j) s.toks) {s with toks:=s.toks+1}->wpAny (model X.prog X.w) X.A (f (.int i t) (.int j u)) Q E s):
 qF X f (xK λi j=> .int (g i j)):=by
 intro aq s σ H x y v u Q I rx ry h;obtain⟨i,j,rfl,rfl,q⟩:=h;obtain⟨t,rfl⟩:=rx;obtain⟨t',rfl⟩:=ry;exact rule i j t t' s _ _ ⟨.int (g i j),H,I.tok _,⟨_,rfl⟩,q⟩
theorem Kv{g:Int->Int->Bool}(rule:∀(i j:Int)(t u:Tok)(s:Shared)(Q:Value->Shared->Prop)(E:Value->Shared->Prop),Q (.bool (g i j)) s->wpAny (model X.prog X.w) X.A (f (.int i t) (.int j u)) Q E s):
 qF X f (xK λi j=> .bl (g i j)):=by
 intro aq s σ H x y v u Q I rx ry h;obtain⟨i,j,rfl,rfl,q⟩:=h;obtain⟨t,rfl⟩:=rx;obtain⟨t',rfl⟩:=ry;exact rule i j t t' s _ _ ⟨.bl (g i j),H,I,rfl,q⟩
def Ol(i j:Int):Prop:=(-(2 ^ 64)<i/\i<2 ^ 64)\/(-(2 ^ 64)<j/\j<2 ^ 64)
theorem Ol.ok{i j:Int}(h:Ol i j):IntMulOk i j:=by
 rcases h with⟨h1,h2⟩|⟨h1,h2⟩
 .exact .of_left (intBits_le_64 h1 h2)
 .exact .of_right (intBits_le_64 h1 h2)
theorem bP:qF X (binaryOp .Add) (xK λi j=> .int (i+j)):=Rv λ_ _ _ _ _ _ _ q=>add_int q
theorem gm:qF X (binaryOp .Sub) (xK λi j=> .int (i - j)):=Rv λ_ _ _ _ _ _ _ q=>sub_int q
theorem Om:qF X (binaryOp .Mult) (rI Ol λi j=> .int (i*j)):=YS λ_ _ _ _ _ _ _ hc q=>mul_int q hc.ok
theorem YT{f:Value->Sem Value}{g:Int->Int}(rule:∀(i:Int)(t:Tok)(s:Shared)(Q:Value->Shared->Prop)(E:Value->Shared->Prop),Q (.int (g i) s.toks) {s with toks:=s.toks+1}->wpAny (model X.prog X.w) X.A (f (.int i t)) Q E s):
 Vi X f (rU λi=> .int (g i)):=by
 intro aq s σ H x v Q I rx h;obtain⟨i,rfl,q⟩:=h;obtain⟨t,rfl⟩:=rx;exact rule i t s _ _ ⟨.int (g i),H,I.tok _,⟨_,rfl⟩,q⟩
theorem pP:Vi X (unaryOp .USub) (rU λi=> .int (-i)):=YT λ_ _ _ _ _ q=>neg_int q
end
def Rw:V->V->Bool
 | .fb,.fb=>true| .fb,.int _=>true| .int _,.fb=>true| .fb,.bl _=>true| .bl _,.fb=>true| .fb,.str _=>true| .str _,.fb=>true
 | .int _,.int _=>true| .bl _,.bl _=>true| .str _,.str _=>true| .B1 _,.B1 _=>true
 | .int _,.str _=>true| .str _,.int _=>true| .bl _,.str _=>true| .str _,.bl _=>true
 |_,_=>false
def Vj:R2:=λx y H Q=>Rw x y=true/\Q (.bl (decide (x=y))) H
def YU:R2:=λx y H Q=>Rw x y=true/\Q (.bl (!decide (x=y))) H
theorem D3{i j:Int}:decide (V.int i=V.int j)=(i==j):=by rw[GD];simp
theorem Hh{i j:Bool}:decide (V.bl i=V.bl j)=(i==j):=by rw[GD];simp
theorem D4{i j:Str}:decide (V.str i=V.str j)=(i==j):=by rw[GD];simp
theorem D5{i j:Array UInt8}:decide (V.B1 i=V.B1 j)=(i.toList==j.toList):=by rw[GD];cases i;cases j;simp
variable{Qs:CmpOp}{r':R2}
variable{us:List Value}
section
variable{X:Cx}{a b c:Expr}{ta tb tc:TE}{pos:Pos}
theorem cq{Q:VK}{k k':Bool}(I:Inv X aq σ H s)(q:Q (.bl k) H)(e:k=k'):EP X aq σ Q (.bool k') s:=by subst e;exact⟨.bl k,H,I,rfl,q⟩
theorem bw:qF X (compareOp .Eq) Vj:=by
 intro aq s σ H x y v u Q I rx ry h;obtain⟨hs,q⟩:=h;cases x with
 |fb=>
  cases rx;cases y with
  |fb=>cases ry;exact PySem.EqNone.eq_none_none (cq I q (by simp))
  |bl j=>cases ry;exact PySem.EqNone.eq_none_bool (cq I q (by simp))
  |int j=>obtain⟨t',rfl⟩:=ry;exact PySem.EqNone.eq_none_int (cq I q (by simp))
  |str j=>obtain⟨t',rfl⟩:=ry;exact PySem.EqNone.eq_none_str (cq I q (by simp))
  |_=>exact absurd (show false=true from hs) w_
 |bl i=>
  cases rx;cases y with
  |fb=>cases ry;exact PySem.EqNone.eq_bool_none (cq I q (by simp))
  |bl j=>cases ry;exact eq_bool (cq I q Hh)
  |str j=>obtain⟨t',rfl⟩:=ry;exact PySem.EqMixed.eq_bool_str (cq I q (by simp))
  |_=>exact absurd (show false=true from hs) w_
 |int i=>
  obtain⟨t,rfl⟩:=rx;cases y with
  |fb=>cases ry;exact PySem.EqNone.eq_int_none (cq I q (by simp))
  |int j=>obtain⟨t',rfl⟩:=ry;exact eq_int (cq I q D3)
  |str j=>obtain⟨t',rfl⟩:=ry;exact PySem.EqMixed.eq_int_str (cq I q (by simp))
  |_=>exact absurd (show false=true from hs) w_
 |str i=>
  obtain⟨t,rfl⟩:=rx;cases y with
  |fb=>cases ry;exact PySem.EqNone.eq_str_none (cq I q (by simp))
  |bl j=>cases ry;exact PySem.EqMixed.eq_str_bool (cq I q (by simp))
  |int j=>obtain⟨t',rfl⟩:=ry;exact PySem.EqMixed.eq_str_int (cq I q (by simp))
  |str j=>obtain⟨t',rfl⟩:=ry;exact eq_str (cq I q D4)
  |_=>exact absurd (show false=true from hs) w_
 |B1 i=>
  obtain⟨t,rfl⟩:=rx;cases y with
  |B1 j=>obtain⟨t',rfl⟩:=ry;exact PySem.W.eq_bytes (cq I q D5)
  |_=>exact absurd (show false=true from hs) w_
 |_=>cases y<;>exact absurd (show false=true from hs) w_
theorem lF:qF X (compareOp .NotEq) YU:=by
 intro aq s σ H x y v u Q I rx ry h;obtain⟨hs,q⟩:=h;cases x with
 |fb=>
  cases rx;cases y with
  |fb=>cases ry;exact PySem.EqNone.ne_none_none (cq I q (by simp))
  |bl j=>cases ry;exact PySem.EqNone.ne_none_bool (cq I q (by simp))
  |int j=>obtain⟨t',rfl⟩:=ry;exact PySem.EqNone.ne_none_int (cq I q (by simp))
  |str j=>obtain⟨t',rfl⟩:=ry;exact PySem.EqNone.ne_none_str (cq I q (by simp))
  |_=>exact absurd (show false=true from hs) w_
 |bl i=>
  cases rx;cases y with
  |fb=>cases ry;exact PySem.EqNone.ne_bool_none (cq I q (by simp))
  |bl j=>cases ry;exact ne_bool (cq I q (da not Hh))
  |str j=>obtain⟨t',rfl⟩:=ry;exact PySem.EqMixed.ne_bool_str (cq I q (by simp))
  |_=>exact absurd (show false=true from hs) w_
 |int i=>
  obtain⟨t,rfl⟩:=rx;cases y with
  |fb=>cases ry;exact PySem.EqNone.ne_int_none (cq I q (by simp))
  |int j=>obtain⟨t',rfl⟩:=ry;exact ne_int (cq I q (da not D3))
  |str j=>obtain⟨t',rfl⟩:=ry;exact PySem.EqMixed.ne_int_str (cq I q (by simp))
  |_=>exact absurd (show false=true from hs) w_
 |str i=>
  obtain⟨t,rfl⟩:=rx;cases y with
  |fb=>cases ry;exact PySem.EqNone.ne_str_none (cq I q (by simp))
  |bl j=>cases ry;exact PySem.EqMixed.ne_str_bool (cq I q (by simp))
  |int j=>obtain⟨t',rfl⟩:=ry;exact PySem.EqMixed.ne_str_int (cq I q (by simp))
  |str j=>obtain⟨t',rfl⟩:=ry;exact ne_str (cq I q (da not D4))
  |_=>exact absurd (show false=true from hs) w_
 |B1 i=>
  obtain⟨t,rfl⟩:=rx;cases y with
  |B1 j=>obtain⟨t',rfl⟩:=ry;exact PySem.W.ne_bytes (cq I q (da not D5))
  |_=>exact absurd (show false=true from hs) w_
 |_=>cases y<;>exact absurd (show false=true from hs) w_
theorem g7:qF X (compareOp .Lt) (xK λi j=> .bl (decide (i<j))):=Kv λ_ _ _ _ _ _ _ q=>lt_int q
theorem vg:qF X (compareOp .LtE) (xK λi j=> .bl (decide (i<=j))):=Kv λ_ _ _ _ _ _ _ q=>le_int q
theorem gL:qF X (compareOp .Gt) (xK λi j=> .bl (decide (j<i))):=Kv λ_ _ _ _ _ _ _ q=>gt_int q
theorem nF:qF X (compareOp .GtE) (xK λi j=> .bl (decide (j<=i))):=Kv λ_ _ _ _ _ _ _ q=>ge_int q
theorem bC:qF X (compareOp .Is) (λx y H Q=>y= .fb/\Q (.bl (decide (x= .fb))) H):=by
 intro aq s σ H x y v u Q I rx ry h;obtain⟨rfl,q⟩:=h;cases ry;refine is_none_gen (cq I q ?_);cases x<;>first
  |(cases rx;rfl)
  |(obtain⟨t,rfl⟩:=rx;rfl)
theorem uz:qF X (compareOp .IsNot) (λx y H Q=>y= .fb/\Q (.bl (!decide (x= .fb))) H):=by
 intro aq s σ H x y v u Q I rx ry h;obtain⟨rfl,q⟩:=h;cases ry;refine isnot_none_gen (cq I q ?_);cases x<;>first
  |(cases rx;rfl)
  |(obtain⟨t,rfl⟩:=rx;rfl)
theorem k5(b:Expr)(h:op≠ .In:=by decide)(h2:op≠ .NotIn:=by decide):behindInMarks op b=false:=by
 have e1:(op==CmpOp.In)=false:=by cases op<;>first|rfl|exact absurd rfl h
 have e2:(op==CmpOp.NotIn)=false:=by cases op<;>first|rfl|exact absurd rfl h2
 cases b<;>simp[behindInMarks,e1,e2]
theorem jF(ho:qF X (compareOp op) r)(ha:PE X a ta)(hb:PE X b tb)(hm:behindInMarks op b=false):PE X (.Compare a [op] [b] pos) (tL r ta tb):=by intro aq s σ H Q I h;exact wpAny_Compare1 (Oj ha hb I h λv u s2 x y H2 I2 rx ry q=>ho aq s2 σ H2 x y v u Q I2 rx ry q) hm
def lG(t:TE):TT:=λσ H Q=>t σ H λx H'=>∃k,x= .bl k/\Q k H'
theorem Kw(ho:qF X (compareOp op) r)(ha:PE X a ta)(hb:PE X b tb)(hm:behindInMarks op b=false):PT X (.Compare a [op] [b] pos) (lG (tL r ta tb)):=by
 intro aq s σ H Q I h;refine wpAny_isTrue_Compare1 (dU (ha aq s σ H _ I h) λv s1 ⟨x,H1,I1,r1,q1⟩=>dU (hb aq s1 σ H1 _ I1 q1) λu s2 ⟨y,H2,I2,r2,q2⟩=>dU (ho aq s2 σ H2 x y v u _ I2 r1 r2 q2) λc s3 ⟨z,H3,I3,r3,k,e,q3⟩=>?_) hm
 subst e;cases r3;exact pC ⟨H3,I3,q3⟩
def Hi(r r':R2)(ta tb tc:TE):TE:=λσ H Q=>ta σ H λx H1=>tb σ H1 λy H2=>r x y H2 λz H3=>∃k,z= .bl k/\
 (if k=true then tc σ H3 λw' H4=>r' y w' H4 Q else Q (.bl false) H3)
theorem Hj(ho:qF X (compareOp op) r)(DZ:qF X (compareOp Qs) r')(ha:PE X a ta)(hb:PE X b tb)(hc:PE X c tc)(hm:lastMarks [op,Qs] [b,c]=false:=by with_unfolding_all rfl):PE X (.Compare a [op,Qs] [b,c] pos) (Hi r r' ta tb tc):=by
 intro aq s σ H Q I h;refine Compare_chain (dU (ha aq s σ H _ I h) λv s1 ⟨x,H1,I1,r1,q1⟩=>chain_link (dU (hb aq s1 σ H1 _ I1 q1) λu s2 ⟨y,H2,I2,r2,q2⟩=>dU (ho aq s2 σ H2 x y v u _ I2 r1 r2 q2) λd s3 ⟨z,H3,I3,r3,k,e,q3⟩=>?_)) hm
 subst e;cases r3;refine pC ?_;cases k with
 |false=>exact ite_ff ⟨.bl false,H3,I3,rfl,q3⟩
 |true=>exact ite_tt (chain_last (dU (hc aq s3 σ H3 _ I3 q3) λw' s4 ⟨z',H4,I4,r4,q4⟩=>DZ aq s4 σ H4 y z' u w' Q I4 r2 r4 q4))
theorem Ac(ho:qF X (compareOp op) r)(DZ:qF X (compareOp Qs) r')(ha:PE X a ta)(hb:PE X b tb)(hc:PE X c tc)(hm:lastMarks [op,Qs] [b,c]=false:=by with_unfolding_all rfl):PT X (.Compare a [op,Qs] [b,c] pos) (lG (Hi r r' ta tb tc)):=by
 intro aq s σ H Q I h;refine isTrue_chain (dU (ha aq s σ H _ I h) λv s1 ⟨x,H1,I1,r1,q1⟩=>test_link (dU (hb aq s1 σ H1 _ I1 q1) λu s2 ⟨y,H2,I2,r2,q2⟩=>dU (ho aq s2 σ H2 x y v u _ I2 r1 r2 q2) λd s3 ⟨z,H3,I3,r3,k,e,q3⟩=>?_)) hm
 subst e;cases r3;refine pC ?_;cases k with
 |false=>obtain⟨k',e',q'⟩:=q3;cases e';exact ite_ff ⟨H3,I3,q'⟩
 |true=>refine ite_tt (test_last (dU (hc aq s3 σ H3 _ I3 q3) λw' s4 ⟨z',H4,I4,r4,q4⟩=>dU (DZ aq s4 σ H4 y z' u w' _ I4 r2 r4 q4) λd' s5 ⟨z2,H5,I5,r5,k2,e2,q5⟩=>?_));subst e2;cases r5;exact pC ⟨H5,I5,q5⟩
theorem yL:(sizeLine:Nat)<2 ^ 63:=by rw[nz];decide
theorem jV:qF X (binaryOp .Add) (λx y H Q=>∃i j,x= .str i/\y= .str j/\i.length+j.length<=sizeLine/\Q (.str (i++j)) H):=by intro aq s σ H x y v u Q I rx ry h;obtain⟨i,j,rfl,rfl,hz,q⟩:=h;obtain⟨t,rfl⟩:=rx;obtain⟨t',rfl⟩:=ry;exact add_str (λt' tk=>⟨.str (i++j),H,I.tok _,⟨_,rfl⟩,q⟩) hz
theorem vals1{x:V}(r:Vals [x] us):∃u,us=[u]/\RelV x u:=by
 cases r with
 |cons r1 r2=>cases r2;exact⟨_,rfl,r1⟩
theorem g8:qQ X (.type "str") (λxs H Q=>∃i,xs=[.int i]/\i.natAbs.log2<1920/\Q (.str (toString i)) H):=by intro aq s σ H xs us Q I r h;obtain⟨i,rfl,hz,q⟩:=h;obtain⟨u,rfl,t,rfl⟩:=vals1 r;exact PySem.P.str_of_int hz ⟨.str _,H,I.tok _,⟨_,rfl⟩,q⟩
theorem Hk:qQ X (.builtin "ord") (λxs H Q=>∃x,xs=[.str x]/\x.length=1/\Q (.int (x.cps.getD 0 0:Nat)) H):=by intro aq s σ H xs us Q I r h;obtain⟨x,rfl,hz,q⟩:=h;obtain⟨u,rfl,t,rfl⟩:=vals1 r;exact ord_of_one hz ⟨.int _,H,I.tok _,⟨_,rfl⟩,q⟩
end
structure Fp(h:Heap)(x dx C:Addr)(mA:Str->Option Value):Prop where
 obj:h.get? x=some (instObj C dx)
 ns:h.Ns1 dx mA
 ne:dx≠x
variable{dx:Addr}{mA:Str->Option Value}
theorem Fq(n:h.Ns1 dx mA):∃od,h.get? dx=some od/\∀name,lookIn name od=some (mA name):=by
 obtain⟨o,es,ep,ho,hd,hk,_,hm⟩:=n;refine⟨o,ho,λname=>?_⟩;have e:=hm name;unfold nsFind findBy at e;rw[<-Array.find?_toList] at e;unfold lookIn;rw[hd];dsimp only;split
 .rename_i y q;rw[q] at e;exact da some e
 .rename_i q;rw[q] at e;have a:es.toList.any (·.refKey)=false:=by rw[Fb];intro y hy;obtain⟨z,t,Oo⟩:=hk y (Array.mem_toList_iff.mp hy);simp[DictEntry.refKey,Oo]
  have a':¬es.toList.any (·.refKey)=true:=by rw[a];exact w_
  rw[ak a'];exact da some e
variable{C:Addr}
theorem Fp.look{x:Addr}(I:Fp h x dx C mA):∃od,PySem.W.InstAt h x (instObj C dx) C (some od)/\∀name,lookIn name od=some (mA name):=
 let ⟨od,ho,hl⟩:=Fq I.ns
 ⟨od,⟨I.obj,rfl,rfl,ho⟩,hl⟩
variable{kw:List (Str×Value)}
section
variable{prog:Program}{w:World}{A:Around}{E:Value->Shared->Prop}{s:Shared}{K:PySem.W.Frag}{x dx C f:Addr}{mA:Str->Option Value}{name:Str}{v:Value}
theorem get_map{expr:Bool}(X:K.In s.heap)(I:Fp s.heap x dx C mA)(hg:plainGet K C name=true)(hh:hasDictIn K C=true)(ha:findIn K (.ref C) name=some none)(hv:mA name=some v)(TV:handedIn v=true)(h:Q v {s with toks:=s.toks+1}):
 wpAny (model prog w) A (getAttr (.ref x) name expr) Q E s:=by
 obtain⟨od,J,hl⟩:=I.look;exact PySem.W.get_value X J (PySem.W.plainGet_of hg).1 (PySem.W.findObj_own hh ha rfl (by rw[hl,hv])) TV h
theorem Kx{ns:List Str}{Q:Unit->Shared->Prop}(X:K.In s.heap)(I:Fp s.heap x dx C mA)(hs:findIn K (.ref C) "__setattr__"=some (some (.builtin "object.__setattr__")))(hp:plainOver K C=true)(ht:takerIn K C name=some none)(hh:hasDictIn K C=true)(hw:PySem.Within mA ns)(hsz:ns.length<=sizeLine)(h:∀h',Fp h' x dx C (λy=>if y=name then some v else mA y)->Heap.SameBut dx s.heap h'->Q () {s with heap:=h',toks:=s.toks+2}):
 wpAny (model prog w) A (setAttr (.ref x) name v) Q E s:=by
 obtain⟨od,J,hl⟩:=I.look;refine PySem.W.set_plain X J hs (PySem.W.osa_open (s:={s with toks:=s.toks+1}) (r:=none) X J hp ht λb=>?_);obtain⟨cd,hc,MD⟩:=PySem.W.any_some hh;have hx:s.heap.get? x=some ⟨.ref C,some dx,.plain,#[]⟩:=I.obj;refine a5 (cY (a5 (a5 (wpAny_loadPart hx (a5 (Looks.here (s:={s with toks:=s.toks+1}) (PySem.W.looks_clsIn X hc) ?_))))));rw[MD];refine cY (a:=some dx) (a5 (cY (a5 ?_)));refine wpAny_nsSet1 (s:={s with toks:=s.toks+1}) I.ns λh' Ad Rx=>?_;obtain⟨oD,esD,epD,YV,YW,YX⟩:=Ad.count (PySem.Within.cons name v hw);refine a5 (wpAny_lookBehind YV (by rw[YW];exact pastItsLine_dict (bq YX (by rw[cn];omega))) ?_);exact cY (h _ ⟨(Rx.2 _ (mZ I.ne)).trans I.obj,Ad,I.ne⟩ Rx)
theorem Hl{R:Result->Shared->Prop}{vs:List Value}(X:K.In s.heap)(hm:makesIn K C=true)(hi:findIn K (.ref C) "__init__"=some (some (.ref f)))(hf:typeIn K (.ref f)=some (.type "function"))(h:codeAny (model prog w) (A.under (.builtin "type.__call__" ⟨.ref C::vs,kw⟩)) (.call (.ref f) ⟨.ref (s.heap.objs.size+1)::vs,kw⟩) (PySem.W.InitBack (s.heap.objs.size+1) R)
 {s with heap:=(s.heap.push emptyDict).push (instObj C s.heap.objs.size)}):
 codeAny (model prog w) A (.call (.ref C) ⟨vs,kw⟩) R s:=by
 obtain⟨hh,g,d,t,os⟩:=s;exact PySem.W.make_core (PySem.W.makes_of X hm) (PySem.W.looks_findIn X hi) (λself=>PySem.W.bind_fn X self hf) (.inl rfl) h
end
def eR(f:Str)(v:V):List (Str×V)->List (Str×V)
 |[]=>[(f,v)]
 |(g,x)::r=>if g=f then(g,v)::r else(g,x)::eR f v r
theorem tM(f g:Str)(v:V):∀fs:List (Str×V),(eR f v fs).lookup g=if g=f then some v else fs.lookup g
 |[]=>by
  show List.lookup g [(f,v)]=_;by_cases h:g=f
  .have hb:(g==f)=true:=qL.mpr h;simp only[List.lookup,hb,ao h]
  .have hb:(g==f)=false:=ny.mpr h;simp only[List.lookup,hb,ak h]
 |(k,x)::r=>by
  have ih:=tM f g v r;rw[show eR f v ((k,x)::r)=(if k=f then(k,v)::r else(k,x)::eR f v r) from rfl];by_cases hk:k=f
  .rw[ao hk];by_cases h:g=k
   .have hb:(g==k)=true:=qL.mpr h;simp only[List.lookup,hb,ao (h.trans hk)]
   .have hb:(g==k)=false:=ny.mpr h;simp only[List.lookup,hb,ak (λe:g=f=>h (e.trans hk.symm))]
  .rw[ak hk];by_cases h:g=k
   .have hb:(g==k)=true:=qL.mpr h;simp only[List.lookup,hb,ak (λe:g=f=>hk (h.symm.trans e))]
   .have hb:(g==k)=false:=ny.mpr h;simp only[List.lookup,hb];exact ih
theorem rW(f:Str)(v:V):∀fs:List (Str×V),f∈(eR f v fs).map (·.1)/\∀g,g∈fs.map (·.1)->g∈(eR f v fs).map (·.1)
 |[]=>⟨by simp[eR],λg h=>by simp at h⟩
 |(k,x)::r=>by
  obtain⟨i1,i2⟩:=rW f v r;rw[show eR f v ((k,x)::r)=(if k=f then(k,v)::r else(k,x)::eR f v r) from rfl];by_cases hk:k=f
  .rw[ao hk];subst hk;exact⟨by simp,λg h=>by simpa using h⟩
  .rw[ak hk];refine⟨?_,λg h=>?_⟩
   .rw[cA];exact bz _ i1
   .rw[cA] at h⊢;rcases bZ.mp h with e|e
    .exact bZ.mpr (.inl e)
    .exact bz _ (i2 g e)
theorem tN(f:Str)(v:V):∀fs:List (Str×V),(eR f v fs).length<=fs.length+1
 |[]=>by simp[eR]
 |(k,x)::r=>by
  have ih:=tN f v r;rw[show eR f v ((k,x)::r)=(if k=f then(k,v)::r else(k,x)::eR f v r) from rfl];by_cases hk:k=f
  .rw[ao hk,cn,cn];omega
  .rw[ak hk,cn,cn];omega
theorem pN.some_of{o:Option Value}(r:pN (some v) o):∃u,o=some u/\RelV v u:=by
 cases o with
 |none=>exact(show False from r).elim
 |some u=>exact⟨u,rfl,r⟩
theorem Fs(r:RelV v u):handedIn u=true:=by
 cases v with
 |fb=>cases(show u=Value.none from r);rfl
 |bl b=>cases(show u=Value.bool b from r);rfl
 |int i=>obtain⟨t,e⟩:=(show∃t,u=Value.int i t from r);cases e;rfl
 |str x=>obtain⟨t,e⟩:=(show∃t,u=Value.str x t from r);cases e;rfl
 |B1 b=>obtain⟨t,e⟩:=(show∃t,u=Value.bytes b t from r);cases e;rfl
 |Tw b=>obtain⟨t,e⟩:=(show∃t,u=Value.float b t from r);cases e;rfl
 |ref a=>cases(show u=Value.ref a from r);rfl
 |ty n=>cases(show u=Value.type n from r);rfl
section
variable{P:Program}{w:World}{H H':Hp}{h h':Heap}{a C dx:Addr}{fs Kr:List (Str×V)}
theorem D7(cx:nj P w H h)(e:H a=some (.ins C dx fs)):∃mA,Fp h a dx C mA/\(∀f,pN (fs.lookup f) (mA f))/\PySem.Within mA (fs.map (·.1))/\fs.length<=1000/\H dx=some (.own a):=by obtain⟨d,z,ne,ob,mA,n,r,q⟩:=(show dj P w H h a (.ins C dx fs) from cx a _ e);exact⟨mA,⟨ob,n,ne⟩,r,q,z,d⟩
end
structure tO(K:PySem.W.Frag)(C:Addr):Prop where
 pg:plainGet K C Str.empty=true
 hd:hasDictIn K C=true
 po:plainOver K C=true
 sa:findIn K (.ref C) "__setattr__"=some (some (.builtin "object.__setattr__"))
theorem tO.get(c:tO K C)(f:Str):plainGet K C f=true:=c.pg
def cb(K:PySem.W.Frag)(C:Addr)(f:Str):Prop:=findIn K (.ref C) f=some none
theorem cb.Ry{f:Str}(n:cb K C f):takerIn K C f=some none:=by unfold takerIn;rw[show findIn K (.ref C) f=some none from n];rfl
section
variable{X:Cx}{aq:List (Addr×Obj)}{σ:St}{H:Hp}{s:Shared}{a C dx:Addr}{fs:List (Str×V)}{f:Str}{v:V}{A:Around}{E:Value->Shared->Prop}
theorem vh{b:Bool}(I:Inv X aq σ H s)(e:H a=some (.ins C dx fs))(c:tO X.K C)(n:cb X.K C f)(l:fs.lookup f=some v)(h:∀u s',Inv X aq σ H s'->RelV v u->Q u s'):wpAny (model X.prog X.w) A (getAttr (.ref a) f b) Q E s:=by obtain⟨mA,O,r,_,_,_⟩:=D7 I.cx e;obtain⟨u,hu,ru⟩:=pN.some_of (v:=v) (o:=mA f) (by rw[<-l];exact r f);exact get_map I.GF O (c.get f) c.hd n hu (Fs ru) (h u _ (I.tok _) ru)
theorem vi{y:V}{Q:Unit->Shared->Prop}(I:Inv X aq σ H s)(e:H a=some (.ins C dx fs))(c:tO X.K C)(n:cb X.K C f)(hl:fs.length<1000)(ry:RelV y u)(h:∀s',Inv X aq σ (upd H a (.ins C dx (eR f y fs))) s'->Q () s'):wpAny (model X.prog X.w) A (setAttr (.ref a) f u) Q E s:=by
 obtain⟨mA,O,r,wi,_,ho⟩:=D7 I.cx e;have hz:(fs.map (·.1)).length<=sizeLine:=by rw[aT,nz];omega
 refine Kx I.GF O c.sa c.po n.Ry c.hd wi hz λh' O' sb=>h _ ?_;have hd:∃o,h'.get? dx=some o:=let ⟨o,_,_,e',_⟩:=O'.ns;⟨o,e'⟩;refine I.write (x:=a) (e:=dx) (by rw[e];exact True.intro) (.inr ho) (λb q hb z=>(sb.2 b hb).trans z) hd ?_;refine⟨by rw[az O.ne];exact ho,?_,O.ne,O'.obj,_,O'.ns,λg=>?_,λg hg=>?_⟩
 .have:=tN f y fs;omega
 .show pN ((eR f y fs).lookup g) (if g=f then some u else mA g);rw[tM];by_cases q:g=f
  .rw[ao q,ao q];exact ry
  .rw[ak q,ak q];exact r g
 .by_cases q:g=f
  .rw[q];exact(rW f y fs).1
  .refine(rW f y fs).2 g (wi g λz=>hg ?_);show(if g=f then some u else mA g)=none;rw[ak q];exact z
theorem Inv.made(I:Inv X aq σ H s):Inv X aq σ (upd (upd H s.heap.objs.size (.own (s.heap.objs.size+1))) (s.heap.objs.size+1) (.ins C s.heap.objs.size []))
 {s with heap:=(s.heap.push emptyDict).push (instObj C s.heap.objs.size)}:=by
 have e1:(s.heap.push emptyDict).get? s.heap.objs.size=some emptyDict:=jD s.heap rfl;have e2:((s.heap.push emptyDict).push (instObj C s.heap.objs.size)).get? (s.heap.objs.size+1)=some (instObj C s.heap.objs.size):=by
  have:=jD (s.heap.push emptyDict) (o:=instObj C s.heap.objs.size) rfl
  rwa [pM] at this
 have e3:(s.heap.push emptyDict).Ns s.heap.objs.size (λ_=>none):=⟨emptyDict,#[],_,e1,rfl,(λe he=>absurd he (by simp)),λ_=>rfl⟩;have I1:=I.laid (a:=s.heap.objs.size) (o:= .own (s.heap.objs.size+1)) (h':=s.heap.push emptyDict) (t':=s.toks) (λb u q=>gq _ q) (aS _) ⟨_,e1⟩;refine I1.laid (a:=s.heap.objs.size+1) (o:= .ins C s.heap.objs.size []) (t':=s.toks) (λb u q=>gq _ q) (xD (pM _ _)) ?_;have ne:s.heap.objs.size≠s.heap.objs.size+1:=cE (mY _);refine⟨by rw[az ne,ah],a_ _,ne,e2,λ_=>none,(Heap.Ns1.of_empty e3).at λo q=>gq _ q,λ_=>True.intro,λy hy=>absurd rfl hy⟩
theorem Ky{prog:Program}{env:Env}{f:Str}{s:Shared}(hb:attributeBase e f env (eval e env)=eval e env)(h:wpAny (model prog w) A (eval e env) (λo s₁=>wpAny (model prog w) A (getAttr o f true) Q E s₁) E s):wpAny (model prog w) A (eval (.Attribute e f pos) env) Q E s:=
 Attribute_any_ h (by rw[arm_eval_Attribute,hb])
end
def xm(K:PySem.W.Frag)(ta:TE)(f:Str):TE:=λσ H Q=>ta σ H λx H1=>∃a C dx fs v,x= .ref a/\H1 a=some (.ins C dx fs)/\tO K C/\cb K C f/\fs.lookup f=some v/\Q v H1
def Rz(K:PySem.W.Frag)(ta tv:TE)(f:Str):TS:=λD σ H=>tv σ H λy H1=>ta σ H1 λx H2=>∃a C dx fs,x= .ref a/\H2 a=some (.ins C dx fs)/\tO K C/\cb K C f/\fs.length<1000/\
 D.nx σ (upd H2 a (.ins C dx (eR f y fs)))
def RA(X:Cx)(op:Operator)(rd:V->V->Hp->VK->Prop):Prop:=
 ∀(aq:List (Addr×Obj))(s:Shared)(σ:St)(H:Hp)(x y:V)(u v:Value)(Q:VK),Inv X aq σ H s->RelV x u->RelV y v->rd x y H Q->wpAny (model X.prog X.w) X.A (inplaceOp op u v) (EP X aq σ Q) X.xe s
def Kz(K:PySem.W.Frag)(ta tv:TE)(rd:V->V->Hp->VK->Prop)(f:Str):TS:=λD σ H=>ta σ H λx H1=>∃a C dx fs v,x= .ref a/\H1 a=some (.ins C dx fs)/\tO K C/\cb K C f/\fs.lookup f=some v/\
 tv σ H1 λy H2=>rd v y H2 λz H3=>∃vj Kr,H3 a=some (.ins C vj Kr)/\Kr.length<1000/\D.nx σ (upd H3 a (.ins C vj (eR f z Kr)))
section
variable{X:Cx}{o e value:Expr}{f:Str}{pos pos' vk:Pos}{ta tv:TE}
theorem aB(he:PE X e ta)(hb:attributeBase e f X.env (eval e X.env)=eval e X.env):PE X (.Attribute e f pos) (xm X.K ta f):=by intro aq s σ H Q I h;refine Ky hb (dU (he aq s σ H _ I h) λu s1 ⟨x,H1,I1,rx,a,C,dx,fs,v,ex,ea,c,n,l,q⟩=>?_);subst ex;obtain rfl:u=Value.ref a:=rx;exact vh I1 ea c n l λu' s2 I2 ru=>⟨v,H1,I2,ru,q⟩
theorem df(ha:PE X o ta)(hv:PE X value tv)(hs:swapsWith value (some (.Attribute o f pos')) pos.line X.env=pure false):PS X (.Assign [.Attribute o f pos'] value pos) (Rz X.K ta tv f):=by intro aq s σ H D I h;refine plainObj_wpAny_Assign_Attribute (dU (hv aq s σ H _ I h) λu s1 ⟨y,H1,I1,ry,q⟩=>dU (ha aq s1 σ H1 _ I1 q) λov s2 ⟨x,H2,I2,rx,a,C,dx,fs,ex,ea,c,n,l,q2⟩=>?_) hs;subst ex;obtain rfl:ov=Value.ref a:=rx;exact vi I2 ea c n l ry λs3 I3=>⟨σ,_,I3,q2⟩
theorem rX{op:Operator}{rd:V->V->Hp->VK->Prop}(ha:PE X o ta)(hv:PE X value tv)(Vk:RA X op rd):PS X (.AugAssign (.Attribute o f vk) op value pos) (Kz X.K ta tv rd f):=by intro aq s σ H D I h;refine wpAny_AugAssign_AttributeAny (dU (ha aq s σ H _ I h) λov s1 ⟨x,H1,I1,rx,a,C,dx,fs,v,ex,ea,c,n,l,q⟩=>?_);subst ex;obtain rfl:ov=Value.ref a:=rx;refine vh I1 ea c n l λu s2 I2 ru=>dU (hv aq s2 σ H1 _ I2 q) λw3 s3 ⟨y,H2,I3,ry,q3⟩=>dU (Vk aq s3 σ H2 v y u w3 _ I3 ru ry q3) λw4 s4 ⟨z,H3,I4,rz,vj,Kr,YY,l',q4⟩=>?_;exact vi I4 YY c n l' rz λs5 I5=>⟨σ,_,I5,q4⟩
def Vl:V->V->Hp->VK->Prop:=λx y H Q=>∃i j,x= .int i/\y= .int j/\Q (.int (i+j)) H
theorem Cf:RA X .Add Vl:=by rintro aq s σ H x y u v Q I rx ry ⟨i,j,rfl,rfl,q⟩;obtain⟨t,rfl⟩:=(show∃t,u=Value.int i t from rx);obtain⟨t',rfl⟩:=(show∃t',v=Value.int j t' from ry);exact PyProof.Rows.iadd_int ⟨.int (i+j),H,I.tok _,⟨_,rfl⟩,q⟩
end
structure fL(k:Nat)(A:Around):Prop where
 hd:A.handled=none
 dp:A.depth+3*k+5<recursionLimit
 un:A.units+16*k+200<cLine
theorem fL.mono{k:Nat}(r:fL k A)(h:j<=k):fL j A:=⟨r.hd,by have:=r.dp;omega,by have:=r.un;omega⟩
theorem fL.deeper{k:Nat}{A:Around}(r:fL (k+1) A)(env:Env):fL k (A.deeper env):=
 ⟨r.hd,by have:=r.dp;show A.depth+1+3*k+5<_;omega,by have:=r.un;show A.units+3+16*k+200<_;omega⟩
theorem fL.in1{k:Nat}{A:Around}(r:fL (k+1) A):fL k A.in1:=
 ⟨r.hd,by have:=r.dp;show A.depth+3*k+5<_;omega,by have:=r.un;show A.units+1+16*k+200<_;omega⟩
theorem Cg:(A.under (.builtin "type.__call__" ⟨.ref C::us,kw⟩)).depth=A.depth+1:=by first|rfl|simp[Around.under,Code.weight,Code.isCreation,Code.isGuard,Code.isCaller,Code.frames,Code.isFrame,guardIds]
theorem Ci:(A.under (.builtin "type.__call__" ⟨.ref C::us,kw⟩)).units=A.units+1:=by first|rfl|simp[Around.under,Code.cUnits,Code.frames,Code.isFrame]
theorem fL.make{k:Nat}(r:fL (k+1) A)(C:Addr)(us:List Value)(kw:List (Str×Value)):fL k (A.under (.builtin "type.__call__" ⟨.ref C::us,kw⟩)):=
 ⟨r.hd,by have:=r.dp;rw[Cg];omega,by have:=r.un;rw[Ci];omega⟩
theorem fL.depth{k:Nat}{A:Around}(r:fL k A):A.depth<recursionLimit:=by have:=r.dp;omega
theorem fL.units{k:Nat}{A:Around}(r:fL k A):A.units+64<cLine:=by have:=r.un;omega
def k6:TA:=λ_ H Q=>Q [] H
def dk(ta:TE)(tr:TA):TA:=λσ H Q=>ta σ H λx H1=>tr σ H1 λxs H2=>Q (x::xs) H2
section
variable{X:Cx}{e:Expr}{es:List Expr}{te:TE}{t:TA}{pos:Pos}
theorem ag:PA X [] k6:=λ_ _ _ _ H Q I h=>Ke ⟨[],H,I,.nil,h⟩
theorem aa(ha:PE X e te)(hr:PA X es t)(hs:starEach (e::es) X.env=(false,eval e X.env)::starEach es X.env:=by rfl):PA X (e::es) (dk te t):=by intro pos aq s σ H Q I h;rw[hs];show wpAny _ _ (spliced ((false,eval e X.env)::backTo pos (starEach es X.env))) _ _ s;refine GO (dU (ha aq s σ H _ I h) λu s1 ⟨x,H1,I1,r1,q1⟩=>?_);exact dU (hr pos aq s1 σ H1 _ I1 q1) λus s2 ⟨xs,H2,I2,r2,q2⟩=>⟨x::xs,H2,I2,.cons r1 r2,q2⟩
def Oq(t:TA):TE:=λσ H Q=>t σ H λxs H1=>xs.length<=sizeLine/\∀p,H1 p=none->Q (.ref p) (upd H1 p (.tup xs))
def Cj(t:TA):TE:=λσ H Q=>t σ H λxs H1=>xs.length<=sizeLine/\∀p,H1 p=none->Q (.ref p) (upd H1 p (.lst xs))
theorem l9{x1}(h:PA X es t):PE X (.Tuple es x1 pos) (Oq t):=by intro aq s σ H Q I hq;refine wpAny_Tuple_spliced (dU (h pos aq s σ H _ I hq) λus s1 ⟨xs,H1,I1,r,z,q⟩=>⟨by rw[<-r.length];exact z,?_⟩);have hf:H1 s1.heap.objs.size=none:=I1.cx.fresh (aS _);refine⟨.ref s1.heap.objs.size,upd H1 s1.heap.objs.size (.tup xs),I1.laid (t':=s1.toks) (λb u e=>gq _ e) (aS _) ?_,rfl,q _ hf⟩;exact⟨z,us,r,⟨_,jD _ rfl,rfl,_,rfl⟩⟩
theorem aL(h:PA X es t):PE X (.List es pos) (Cj t):=by intro aq s σ H Q I hq;refine wpAny_List_spliced (dU (h pos aq s σ H _ I hq) λus s1 ⟨xs,H1,I1,r,z,q⟩=>⟨by rw[<-r.length];exact z,?_⟩);have hf:H1 s1.heap.objs.size=none:=I1.cx.fresh (aS _);refine⟨.ref s1.heap.objs.size,upd H1 s1.heap.objs.size (.lst xs),I1.laid (t':=s1.toks) (λb u e=>gq _ e) (aS _) ?_,rfl,q _ hf⟩;exact⟨z,us,0,r,jD _ rfl⟩
end
abbrev Sp:=List V->Hp->VK->XK->Prop
abbrev KA:=List Env->Hp->Shared->XK->Value->Shared->Prop
structure vm(P:Program)(w:World)(K:PySem.W.Frag)(mg:Str->Option Value)(base:Heap)(A:Around)(outer:List Env)(s:Shared)(H:Hp):Prop where
 frames:A.frames=some outer
 mod:Mod K mg base
 bs:∀b o,base.get? b=some o->s.heap.get? b=some o/\H b=none
 J3:base.objs.size<=s.heap.objs.size
 rV:s.heap.FunFrames base outer
 MC:∀b∈Fh outer,H b=none
 cx:nj P w H s.heap
 bare:AllBare s.gens
def CE(outer:List Env)(P:Program)(w:World)(H:Hp)(s:Shared)(Q:VK)(u:Value)(s':Shared):Prop:=
 ∃v H',s'.os=s.os/\AllBare s'.gens/\Un (Fh outer) [] H H' s.heap s'.heap/\nj P w H' s'.heap/\RelV v u/\Q v H'
def CR(CX:KA)(outer:List Env)(P:Program)(w:World)(H:Hp)(s:Shared)(Q:VK)(E:XK)(r:Result)(s':Shared):Prop:=
 match r with
 | .ok (.ret u)=>CE outer P w H s Q u s'
 | .ok _=>False
 | .error e=>CX outer H s E e s'
structure nq(P:Program)(w:World)(K:PySem.W.Frag)(mg:Str->Option Value)(base:Heap)(CX:KA)(k:Nat)(f:Addr)(fd:FuncData)(ps:List Str)(sp:Sp):Prop where
 len:∀vs H Q E,sp vs H Q E->vs.length=ps.length
 run:∀(A:Around)(outer:List Env)(s:Shared)(H:Hp)(args:Args)(us:List Value)(vs:List V)(Q:VK)(E:XK),fL k A->vm P w K mg base A outer s H->BindsTo s fd args (ps.zip us)->Vals vs us->sp vs H Q E->
  codeAny (model P w) A (.call (.ref f) args) (CR CX outer P w H s Q E) s
variable{mg:Str->Option Value}{base:Heap}{outer:List Env}
theorem vm.make(e:vm P w K mg base A outer s H)(C:Addr)(us:List Value)(kw:List (Str×Value)):
 vm P w K mg base (A.under (.builtin "type.__call__" ⟨.ref C::us,kw⟩)) outer s H:=⟨by first|exact e.frames|(simpa[Around.under,Code.envs,Code.isFrame,pushEnvs] using e.frames),e.mod,e.bs,e.J3,e.rV,e.MC,e.cx,e.bare⟩
theorem vm.in1{P:Program}{w:World}{K:PySem.W.Frag}{mg:Str->Option Value}{base:Heap}{A:Around}{outer:List Env}{s:Shared}{H:Hp}(e:vm P w K mg base A outer s H):
 vm P w K mg base A.in1 outer s H:=⟨e.frames,e.mod,e.bs,e.J3,e.rV,e.MC,e.cx,e.bare⟩
section
variable{X:Cx}{aq:List (Addr×Obj)}{σ:St}{H:Hp}{s s':Shared}
theorem Inv.Ot(I:Inv X aq σ H s):vm X.prog X.w X.K X.mg X.base X.A X.stack s H:=
 ⟨I.ok.frames,I.ok.mod,I.bs,bq I.ok.J3 I.sz,I.stack,I.D0,I.cx,I.bare⟩
theorem Inv.after{Q:VK}(I:Inv X aq σ H s)(h:CE X.stack X.prog X.w H s Q u s'):EP X aq σ Q u s':=by obtain⟨v,H',os,bare,un,cx,r,q⟩:=h;obtain⟨hh,g,d,t,YZ⟩:=s';obtain rfl:YZ=s.os:=os;exact⟨v,H',I.call (h':=hh) (g':=g) (d':=d) (t':=t) (ch:=[]) un cx bare (λb z=>absurd z (by simp)),r,q⟩
end
def pD(sp:Sp)(Ae:List V)(E:XK)(t:TA):TE:=λσ H Q=>t σ H λvs H1=>sp (vs++Ae) H1 Q E
def D8(C:Addr)(sp:Sp)(Ae:List V)(E:XK)(t:TA):TE:=λσ H Q=>t σ H λvs H1=>∀x dx,H1 x=none->H1 dx=none->dx≠x->
 sp (.ref x::(vs++Ae)) (upd (upd H1 dx (.own x)) x (.ins C dx [])) (λv H2=>v= .fb/\Q (.ref x) H2) E
def Binds(K:PySem.W.Frag)(fd:FuncData)(ps:List Str)(ds:List Value):Prop:=
 ∀(s:Shared)(us:List Value),K.In s.heap->(us++ds).length=ps.length->BindsTo s fd ⟨us,[]⟩ (ps.zip (us++ds))
variable{ps:List Str}
theorem Binds.all{fd:FuncData}(h:∀us:List Value,us.length=ps.length->bindArgs fd ⟨us,[]⟩=pure (ps.zip us)):Binds K fd ps []:=λs us _ hl=>by rw[pw] at hl⊢;exact .of_eq (h us hl)
def Passes(CX:KA)(X:Cx)(E:XK):Prop:=∀(aq:List (Addr×Obj))(σ:St)(H:Hp)(s:Shared)(e:Value)(s':Shared),Inv X aq σ H s->CX X.stack H s E e s'->X.xe e s'
variable{vs:List V}
section
variable{X:Cx}{CX:KA}{k:Nat}{f C:Addr}{fd:FuncData}{ps:List Str}{sp:Sp}{Ae:List V}{ds:List Value}{E:XK}{x m:Str}{p pos apos:Pos}{e o:Expr}{es:List Expr}{ta:TE}{t:TA}
theorem Ou{Q:VK}(F:nq X.prog X.w X.K X.mg X.base CX k f fd ps sp)(hr:fL k X.A)(hb:Binds X.K fd ps ds)(hd:Vals Ae ds)(hx:Passes CX X E)(I:Inv X aq σ H s)(r:Vals vs us)(h:sp (vs++Ae) H Q E):wpAny (model X.prog X.w) X.A (call (.ref f) us) (EP X aq σ Q) X.xe s:=by
 have r2:Vals (vs++Ae) (us++ds):=r.append hd;have hl:(us++ds).length=ps.length:=by rw[<-r2.length];exact F.len _ _ _ _ h
 refine wpAny_call (zZ (F.run X.A X.stack s H ⟨us,[]⟩ (us++ds) (vs++Ae) Q E hr I.Ot (hb s us I.GF hl) r2 h) λr s' hq=>?_);cases r with
 |error e=>exact hx aq σ H s e s' I hq
 |ok fl=>
  cases fl with
  |ret u=>exact I.after hq
  |next=>exact False.elim hq
  |brk=>exact False.elim hq
  |cont=>exact False.elim hq
theorem KC(F:nq X.prog X.w X.K X.mg X.base CX k f fd ps sp)(hr:fL k X.A)(hg:Gl X x)(hm:X.mg x=some (.ref f))(hk:keepIn X.K (.ref f)=true)(hb:Binds X.K fd ps ds)(hd:Vals Ae ds)(hx:Passes CX X E)(ha:PA X (e::es) t)(Af:(x==("__debug__":Str))=false:=by decide)(he:starEach (e::es) X.env=(false,eval e X.env)::starEach es X.env:=by rfl)(rN:(backTo pos (starEach es X.env)).any (·.1)=false:=by rfl):
 PE X (.Call (.Name x p) (e::es) [] pos) (pD sp Ae E t):=by
 intro aq s σ H Q I h;refine u6 (ux I hg hm ?_ Af);refine callWith_K (h₀:=X.base) I.ok.mod.Tz hk (dU (ha pos aq s σ H _ I h) λus s1 ⟨vs,H1,I1,r,q⟩=>⟨I1.GF,?_⟩) he rN;exact Ou F hr hb hd hx I1 r q
structure Mk(K:PySem.W.Frag)(C f:Addr):Prop where
 makes:makesIn K C=true
 init:findIn K (.ref C) "__init__"=some (some (.ref f))
 fn:isFn K (.ref f)=true
 kp:keepIn K (.ref C)=true
theorem Ag{Q:VK}(M:Mk X.K C f)(F:nq X.prog X.w X.K X.mg X.base CX k f fd ps sp)(hr:fL (k+1) X.A)(hb:Binds X.K fd ps ds)(hd:Vals Ae ds)(hx:Passes CX X E)(I:Inv X aq σ H s)(r:Vals vs us)(h:∀x dx,H x=none->H dx=none->dx≠x->sp (.ref x::(vs++Ae)) (upd (upd H dx (.own x)) x (.ins C dx [])) (λv H2=>v= .fb/\Q (.ref x) H2) E):
 wpAny (model X.prog X.w) X.A (call (.ref C) us) (EP X aq σ Q) X.xe s:=by
 have hq:=h (s.heap.objs.size+1) s.heap.objs.size (I.cx.fresh (zS _)) (I.cx.fresh (aS _)) (cE (mY _));have I2:=Inv.made (C:=C) I;have r2:Vals (V.ref (s.heap.objs.size+1)::(vs++Ae)) (Value.ref (s.heap.objs.size+1)::(us++ds)):= .cons rfl (r.append hd);have hl:(Value.ref (s.heap.objs.size+1)::us++ds).length=ps.length:=by have e:=r2.length;rw[F.len _ _ _ _ hq] at e;exact e.symm
 refine wpAny_call (Hl (f:=f) I.GF M.makes M.init (qL.mp M.fn) (zZ (F.run _ X.stack _ _ ⟨Value.ref (s.heap.objs.size+1)::us,[]⟩ (Value.ref (s.heap.objs.size+1)::(us++ds)) _ _ E (hr.make C us [])
  (I2.Ot.make C us []) (hb _ (Value.ref (s.heap.objs.size+1)::us) I2.GF hl) r2 hq) λr s' B2=>?_))
 cases r with
 |error e=>exact hx aq σ _ _ e s' I2 B2
 |ok fl=>
  cases fl with
  |ret u=>obtain⟨v,H',I3,rv,ev,q3⟩:=I2.after B2;subst ev;exact⟨rv,⟨V.ref (s.heap.objs.size+1),H',I3,rfl,q3⟩⟩
  |next=>exact False.elim B2
  |brk=>exact False.elim B2
  |cont=>exact False.elim B2
theorem KD(M:Mk X.K C f)(F:nq X.prog X.w X.K X.mg X.base CX k f fd ps sp)(hr:fL (k+1) X.A)(hg:Gl X x)(hm:X.mg x=some (.ref C))(hb:Binds X.K fd ps ds)(hd:Vals Ae ds)(hx:Passes CX X E)(ha:PA X (e::es) t)(Af:(x==("__debug__":Str))=false:=by decide)(he:starEach (e::es) X.env=(false,eval e X.env)::starEach es X.env:=by rfl)(rN:(backTo pos (starEach es X.env)).any (·.1)=false:=by rfl):
 PE X (.Call (.Name x p) (e::es) [] pos) (D8 C sp Ae E t):=by
 intro aq s σ H Q I h;refine u6 (ux I hg hm ?_ Af);refine callWith_K (h₀:=X.base) I.ok.mod.Tz M.kp (dU (ha pos aq s σ H _ I h) λus s1 ⟨vs,H1,I1,r,q⟩=>⟨I1.GF,?_⟩) he rN;exact Ag M F hr hb hd hx I1 r q
theorem Hm(M:Mk X.K C f)(F:nq X.prog X.w X.K X.mg X.base CX k f fd ps sp)(hr:fL (k+1) X.A)(hg:Gl X x)(hm:X.mg x=some (.ref C))(hb:Binds X.K fd ps ds)(hd:Vals Ae ds)(hx:Passes CX X E)(Af:(x==("__debug__":Str))=false:=by decide):PE X (.Call (.Name x p) [] [] pos) (D8 C sp Ae E k6):=by intro aq s σ H Q I h;refine u6 (ux I hg hm ?_ Af);exact PySem.W.callWith_K0 I.GF M.kp (Ag (us:=[]) M F hr hb hd hx I .nil h)
end
structure aG(N P:List Str)(sc:Scope):Prop where
 kind:sc.kind= .function
 co:sc.isCoroutine=false
 gen:sc.isGenerator=false
 nd:N.Nodup
 pre:N.take P.length=P
 par:∀x∈P,sc.names.lookup x=some .local\/sc.names.lookup x=some .cell
 Ov:∀y∈sc.names,y.2≠ .free
theorem xM{kindOf:Str->Option NameKind}{x:Str}:∀{binds:List (Str×Value)}{m:Str->Option Value},(∀v,(x,v)∉binds)->bindL kindOf binds m x=m x
 |[],_,_=>rfl
 |(n,v)::r,m,h=>by
  unfold bindL;rw[xM λw hw=>h w (bz _ hw)];split
  .have:x≠n:=by rintro rfl;exact h v cw
   simp[this]
  .rfl
theorem xN{kindOf:Str->Option NameKind}{x:Str}:∀{binds:List (Str×Value)}{m:Str->Option Value},(∀v,(x,v)∉binds)->bindC kindOf binds m x=m x
 |[],_,_=>rfl
 |(n,v)::r,m,h=>by
  unfold bindC;rw[xN λw hw=>h w (bz _ hw)];split
  .rfl
  .have:x≠n:=by rintro rfl;exact h v cw
   simp[this]
theorem xO{kindOf:Str->Option NameKind}{x:Str}{v:Value}:∀{P:List Str}{vs:List Value}{i:Nat}{m:Str->Option Value},P.Nodup->P[i]?=some x->vs[i]?=some v->kindOf x=some .local->
 bindL kindOf (P.zip vs) m x=some v
 |[],_,_,_,_,h,_,_=>by simp at h
 |_::_,[],_,_,_,_,h,_=>by simp at h
 |p::P,w::vs,0,m,nd,h1,h2,hk=>by simp at h1 h2;subst h1;subst h2;show bindL kindOf ((p,w)::P.zip vs) m p=_;unfold bindL;rw[xM λv hv=>(tE.mp nd).1 (DJ hv).1,ao hk];simp
 |p::P,w::vs,i+1,m,nd,h1,h2,hk=>by show bindL kindOf ((p,w)::P.zip vs) m x=_;unfold bindL;exact xO (i:=i) (tE.mp nd).2 (by simpa using h1) (by simpa using h2) hk
theorem xP{kindOf:Str->Option NameKind}{x:Str}{v:Value}:∀{P:List Str}{vs:List Value}{i:Nat}{m:Str->Option Value},P.Nodup->P[i]?=some x->vs[i]?=some v->kindOf x≠some .local->
 bindC kindOf (P.zip vs) m x=some v
 |[],_,_,_,_,h,_,_=>by simp at h
 |_::_,[],_,_,_,_,h,_=>by simp at h
 |p::P,w::vs,0,m,nd,h1,h2,hk=>by simp at h1 h2;subst h1;subst h2;show bindC kindOf ((p,w)::P.zip vs) m p=_;unfold bindC;rw[xN λv hv=>(tE.mp nd).1 (DJ hv).1,ak hk];simp
 |p::P,w::vs,i+1,m,nd,h1,h2,hk=>by show bindC kindOf ((p,w)::P.zip vs) m x=_;unfold bindC;exact xP (i:=i) (tE.mp nd).2 (by simpa using h1) (by simpa using h2) hk
def start(N:List Str)(vs:List V):St:=vs.map some++List.replicate (N.length - vs.length) none
def xn(CX:KA)(P:Program)(w:World)(K:PySem.W.Frag)(mg:Str->Option Value)(base:Heap)(N:List Str)(qual:Str)(scope:Scope)(f:Addr)(cd:Value)(A:Around)(outer:List Env)(s:Shared)(H:Hp)(E:XK):Cx where
 prog:=P
 w:=w
 K:=K
 mg:=mg
 base:=base
 A:=A.deeper (envOfC qual scope s.heap.objs.size f cd)
 N:=N
 xb:=s
 Oa:=H
 env:=envOfC qual scope s.heap.objs.size f cd
 outer:=outer
 stack:=envOfC qual scope s.heap.objs.size f cd::outer
 ex:=[]
 calm:=true
 fn:=λ_=>true
 pn:=[]
 xe:=λe s'=>wpAny (model P w) (A.deeper (envOfC qual scope s.heap.objs.size f cd)) (leaving (envOfC qual scope s.heap.objs.size f cd) e) (λ_ xp=>CX outer H s E e xp) (λe' xp=>CX outer H s E e' xp) s'
theorem Ah{sc:Scope}(h:sc.names.lookup x=some .cell):∃c,(cellsFrom n sc.names []).lookup x=some c:=by have q:=cellsFrom_some sc.names n [] (.inl h);exact G6.mp q
variable{CX:KA}{qual:Str}{scope:Scope}
theorem xQ{f:Addr}{cd:Value}{s1:Shared}{E:XK}(S:aG N ps scope)(hd:A.handled=none)(e0:vm P w K mg base A outer s H)(hl:vs.length=ps.length)(r:Vals vs us)(x:InCallC s s.heap.objs.size (bindL (envOfC qual scope s.heap.objs.size f cd).kindOf (ps.zip us) λ_=>none) (cellsFrom (s.heap.objs.size+1) scope.names []) (bindC (envOfC qual scope s.heap.objs.size f cd).kindOf (ps.zip us) λ_=>none) s1):
 Inv (xn CX P w K mg base N qual scope f cd A outer s H E) [] (start N vs) H s1:=by
 have rN:ps.length<=N.length:=by have:=da List.length S.pre;rw[bj] at this;omega
 obtain⟨h1,tk,rfl,hk⟩:=x.done;have KG:∀b:Addr,b∉(xn CX P w K mg base N qual scope f cd A outer s H E).ex:=λb z=>absurd (show b∈([]:List Addr) from z) (by simp);refine⟨⟨e0.mod,S.kind,rfl,rfl,aS _,λy z c h1 h2=>?_,λy hy=>?_,λy c _ h=>?_,λ_=>hd,Around.frames_deeper e0.frames,.inr ⟨rfl,rfl⟩,λb z=>absurd z (KG b),e0.bs,e0.J3,λb _ _=>KG b,λb z=>absurd z (KG b),e0.rV,e0.MC⟩,
  rfl,e0.bare,Un.kept hk,⟨_,x.toInCall.ns,λi y v h1 h2 h3=>?_⟩,λy c h=>⟨_,x.cell y c h⟩,e0.cx.fresh (aS _),λy c h=>?_,λp hp=>absurd (show p∈([]:List (Addr×Obj)) from hp) (by simp),e0.cx.kept hk,?_⟩
 .exact name_of_addr x.apart (jS h1) (jS h2)
 .have hy:scope.names.lookup y=some .cell\/scope.names.lookup y=some .free:=hy;rcases hy with hy|hy
  .exact Ah hy
  .exact absurd rfl (S.Ov _ (jS hy))
 .exact eX (x.above y c (jS h))
 .have hi:i<vs.length:=by
   unfold start at h2;by_cases hi:i<vs.length
   .exact hi
   .rw[k3 (by simpa using hi)] at h2;rw[List.getElem?_replicate] at h2;split at h2<;>cases h2
  have ha:vs[i]?=some v:=by
   unfold start at h2;rw[nv (by simpa using hi),gX] at h2;cases e:vs[i]? with
   |none=>rw[e] at h2;cases h2
   |some a=>rw[e] at h2;cases h2;rfl
  obtain⟨u,hu,rv⟩:=r.get ha;have hp:ps[i]?=some y:=by rw[<-S.pre,Q5 (by omega)];exact h1
  have XB:ps.Nodup:=by rw[<-S.pre];exact S.nd.sublist (zP _ _)
  refine⟨u,rv,?_⟩;rcases S.par y (cJ hp) with k|k
  .exact .inl ⟨k,xO XB hp hu k⟩
  .obtain⟨c,e⟩:=Ah (n:=s.heap.objs.size+1) k;refine .inr ⟨.inl k,c,e,?_⟩;have q:=x.cell y c e;rw[xP XB hp hu (by show scope.names.lookup y≠_;rw[k];decide)] at q;exact q
 .exact e0.cx.fresh (eX (x.above y c (jS h)))
 .unfold start;show _=N.length;rw[bb,aT,List.length_replicate];omega
theorem MM{k:Nat}{f:Addr}{name:Str}{params:Arguments}{dV kV doc pm nr ct oc:Value}{an od:Option Addr}{Hn:Array (Option Value)}{sp:Sp}(lk:K.lookup f=some ⟨oc,od,.func (fnOf name qual params body scope dV kV doc pm an nr ct),Hn⟩)(Ha:codeIn K nr qual=true)(S:aG N ps scope)(len:∀vs H Q E,sp vs H Q E->vs.length=ps.length)(Ai:∀(A:Around)(outer:List Env)(s:Shared)(H:Hp)(vs:List V)(Q:VK)(E:XK),fL k (A.deeper (envOfC qual scope s.heap.objs.size f nr))->sp vs H Q E->
 ∃t,Cb (xn CX P w K mg base N qual scope f nr A outer s H E) body t/\t {nx:=λ_ H'=>Q .fb H',rt:=Q} (start N vs) H):
 nq P w K mg base CX (k+1) f (fnOf name qual params body scope dV kV doc pm an nr ct) ps sp:=by
 refine⟨len,λA outer s H args us vs Q E hr e0 hb r B3=>?_⟩;have hl:=len _ _ _ _ B3;have KX:K.In s.heap:=e0.mod.Tz.keeps λb o e=>(e0.bs b o e).1;have lim:s.heap.NoLimit:=e0.mod.nolimit.keeps λb o e=>(e0.bs b o e).1;have Ho:∀y∈ps.zip us,scope.names.lookup y.1=some .local\/(scope.names.lookup y.1=some .cell/\((cellsFrom (s.heap.objs.size+1) scope.names []).lookup y.1).isSome=true):=λ⟨n,v⟩ hy=>by
  rcases S.par n (DJ hy).1 with q|q
  .exact .inl q
  .exact .inr ⟨q,cellsFrom_some _ _ _ (.inl q)⟩
 refine codeAny_call_function hr.depth (KX _ _ lk) rfl S.co S.gen rfl (PySem.W.codeRec_of KX Ha) (hb _ _ _ _ ?_);refine wpAny_newFunctionEnv_cells S.kind Ho λenv he s1 x=>?_;subst he;refine⟨lim.keeps x.toInCall.keep,codeAny_func ?_⟩;obtain⟨t,ht,hq⟩:=Ai A outer s H vs Q E (hr.deeper _) B3;have I:Inv (xn CX P w K mg base N qual scope f nr A outer s H E) [] (start N vs) H s1:=xQ S hr.hd e0 hl r x;refine ir (ht [] s1 (start N vs) H _ I hq) (λfl s' hs=>?_) λe s' hs=>hs;have fin:∀{σ':St}{H':Hp}{v:V}{u:Value},Inv (xn CX P w K mg base N qual scope f nr A outer s H E) [] σ' H' s'->RelV v u->Q v H'->CE outer P w H s Q u s':=
  λ{σ' H' v u} J rv q=>⟨v,H',J.os,J.bare,J.base,J.cx,rv,q⟩
 cases fl with
 |ret u=>obtain⟨v,σ',H',J,rv,q⟩:=hs;exact fin J rv q
 |next=>obtain⟨σ',H',J,q⟩:=hs;exact fin (v:=V.fb) (u:=Value.none) J rfl q
 |brk=>obtain⟨_,_,_,q⟩:=hs;exact False.elim q
 |cont=>obtain⟨_,_,_,q⟩:=hs;exact False.elim q
section
variable{X:Cx}{x:Str}{p pos:Pos}{e:Expr}{es:List Expr}{t:TA}{id T:String}{r:List V->Hp->VK->Prop}
def TX(r:List V->Hp->VK->Prop)(t:TA):TE:=λσ H Q=>t σ H λvs H1=>r vs H1 Q
theorem fM(hc:qQ X (.builtin id) r)(hg:Gl X x)(hm:X.mg x=none)(hv:bootBuiltins x=some (.builtin id))(ha:PA X (e::es) t)(hn:x≠"__name__":=by decide)(Af:(x==("__debug__":Str))=false:=by decide)(he:starEach (e::es) X.env=(false,eval e X.env)::starEach es X.env:=by rfl)(rN:(backTo pos (starEach es X.env)).any (·.1)=false:=by rfl):PE X (.Call (.Name x p) (e::es) [] pos) (TX r t):=by intro aq s σ H Q I h;refine u6 (nA I hg hm hv ?_ hn Af);exact PyProof.Rows.callWith_builtin1 (dU (ha pos aq s σ H _ I h) λus s1 ⟨vs,H1,I1,r1,q1⟩=>hc aq s1 σ H1 vs us Q I1 r1 q1) he rN
theorem lH(hc:qQ X (.type T) r)(hg:Gl X x)(hm:X.mg x=none)(hv:bootBuiltins x=some (.type T))(ha:PA X (e::es) t)(hn:x≠"__name__":=by decide)(Af:(x==("__debug__":Str))=false:=by decide)(he:starEach (e::es) X.env=(false,eval e X.env)::starEach es X.env:=by rfl)(rN:(backTo pos (starEach es X.env)).any (·.1)=false:=by rfl):PE X (.Call (.Name x p) (e::es) [] pos) (TX r t):=by intro aq s σ H Q I h;refine u6 (nA I hg hm hv ?_ hn Af);exact xE (dU (ha pos aq s σ H _ I h) λus s1 ⟨vs,H1,I1,r1,q1⟩=>hc aq s1 σ H1 vs us Q I1 r1 q1) he rN
end
end L2
namespace HT
open PySem PyProof.Rows
section
variable{prog:Program}{w:World}{A:Around}{E:Value->Shared->Prop}{s:Shared}
def qG(n d:Nat):Option Int->Nat
 |none=>d
 |some v=>if v<0 then(v+(n:Int)).toNat else min v.toNat n
theorem kE(n d k:Nat):qG n d (some (k:Int))=min k n:=by show(if(k:Int)<0 then((k:Int)+(n:Int)).toNat else min (k:Int).toNat n)=min k n;rw[ak (by omega),zH]
end
end HT
namespace L2
open PySem PySem.Spec PyProof.Rows
abbrev TO:=St->Hp->(Option Int->Hp->Prop)->Prop
def PO(X:Cx)(e:Option Expr)(t:TO):Prop:=
 ∀(aq:List (Addr×Obj))(s:Shared)(σ:St)(H:Hp)(Q:Option Int->Hp->Prop),Inv X aq σ H s->t σ H Q->
  wpAny (model X.prog X.w) X.A (evalPart e X.env) (λu s'=>∃o H',Inv X aq σ H' s'/\IsPart u o/\Q o H') X.xe s
def KH:TO:=λ_ H Q=>Q none H
def Aj(t:TE):TO:=λσ H Q=>t σ H λx H1=>∃i,x= .int i/\Q (some i) H1
theorem intsAre_of{ns:List Int}:∀{us:List Value},Vals (ns.map V.int) us->IntsAre us ns:=by
 induction ns with
 |nil=>intro us r;rw[List.map_nil] at r;cases r;exact .nil
 |cons n ns ih=>
  intro us r;rw[cA] at r;cases r with
  |cons r1 r2=>obtain⟨t,e⟩:=r1;subst e;exact .cons n t (ih r2)
section
variable{X:Cx}{e:Expr}{te:TE}{lo hi:Option Expr}{tl th:TO}{pos p2:Pos}
theorem eS:PO X none KH:=by intro aq s σ H Q I h;rw[evalPart_none];exact cY ⟨none,H,I,.none,h⟩
theorem aX(h:PE X e te):PO X (some e) (Aj te):=by intro aq s σ H Q I hw;rw[evalPart_some];refine dU (h aq s σ H _ I hw) λu s1 ⟨x,H1,I1,r1,q1⟩=>?_;obtain⟨i,rfl,q⟩:=q1;obtain⟨t,rfl⟩:=r1;exact⟨some i,H1,I1,.int i t,q⟩
def XC(X:Cx)(r:V->Option Int->Option Int->Hp->VK->Prop):Prop:=
 ∀(aq:List (Addr×Obj))(s:Shared)(σ:St)(H:Hp)(x:V)(v vl vu:Value)(lo hi:Option Int)(sl:Addr)(Q:VK),Inv X aq σ H s->RelV x v->s.heap.IsSliceOf sl vl vu .none->IsPart vl lo->IsPart vu hi->r x lo hi H Q->
  ∃T id,typeLookup (.type T) "__getitem__"=pure (some (.builtin id))/\s.TypeIs v T/\wpAny (model X.prog X.w) X.A (getItem v (.ref sl)) (EP X aq σ Q) X.xe s
def Vm(r:V->Option Int->Option Int->Hp->VK->Prop)(te:TE)(tl th:TO):TE:=λσ H Q=>te σ H λx H1=>tl σ H1 λl H2=>th σ H2 λu H3=>r x l u H3 Q
theorem bo{r:V->Option Int->Option Int->Hp->VK->Prop}(hr:XC X r)(he:PE X e te)(hl:PO X lo tl)(hu:PO X hi th):PE X (.Subscript e (.Slice lo hi none p2) pos) (Vm r te tl th):=by intro aq s σ H Q I h;refine Subscript_ (dU (he aq s σ H _ I h) λv s1 ⟨x,H1,I1,r1,q1⟩=>?_);refine wpAny_Slice (dU (hl aq s1 σ H1 _ I1 q1) λvl s2 ⟨l,H2,I2,pl,q2⟩=>dU (hu aq s2 σ H2 _ I2 q2) λvu s3 ⟨u,H3,I3,pu,q3⟩=>?_);rw[evalPart_none];refine cY ?_;have I4:Inv X aq σ H3 {s3 with heap:=s3.heap.push {cls:= .type "slice",data:= .fields #[vl,vu,.none]}}:=I3.kept (t':=s3.toks) λb ob q=>gq _ q;obtain⟨T,id,hT,ht,hg⟩:=hr aq {s3 with heap:=s3.heap.push {cls:= .type "slice",data:= .fields #[vl,vu,.none]}} σ H3 x v vl vu l u s3.heap.objs.size Q I4 r1 (Heap.IsSliceOf.new ..) pl pu q3;show wpAny (model X.prog X.w) X.A (subscriptTail e (.Slice lo hi none p2) v (.ref s3.heap.objs.size)) (EP X aq σ Q) X.xe {s3 with heap:=s3.heap.push {cls:= .type "slice",data:= .fields #[vl,vu,.none]}};exact tail_any (ops:=[.ref s3.heap.objs.size,v]) ht hT hg (by with_unfolding_all rfl)
def d_(xs:List V)(lo hi:Option Int):List V:=(xs.drop (HT.qG xs.length 0 lo)).take (HT.qG xs.length xs.length hi - HT.qG xs.length 0 lo)
theorem Ak(xs:List V)(lo hi:Option Int):(d_ xs lo hi).length<=xs.length:=by unfold d_;rw[bj,dD];omega
end
def KI(n:Nat)(i:Int):Option Nat:=if 0<=i then(if i<n then some i.toNat else none) else if -(n:Int)<=i then some (i+n).toNat else none
def B4{α:Type}(xs:List α)(i:Int):Option α:=(KI xs.length i).bind λj=>xs[j]?
variable{n j:Nat}{i:Int}
theorem KJ(h:KI n i=some j):seqIndex? i n=some j/\j<n/\-(n:Int)<=i/\i<n:=by
 unfold KI at h;by_cases h0:0<=i
 .rw[ao h0] at h;by_cases h1:i<n
  .rw[ao h1] at h;have e:i.toNat=j:=di h;exact⟨by rw[seqIndex_of h0 h1,e],by omega,by omega,h1⟩
  .rw[ak h1] at h;cases h
 .rw[ak h0] at h;by_cases h1:-(n:Int)<=i
  .rw[ao h1] at h;have e:(i+n).toNat=j:=di h;exact⟨by rw[seqIndex_neg (by omega) h1,e],by omega,h1,by omega⟩
  .rw[ak h1] at h;cases h
theorem D9{α:Type}{xs:List α}{v:α}(h:B4 xs i=some v):∃j,seqIndex? i xs.length=some j/\xs[j]?=some v/\j<xs.length/\-(xs.length:Int)<=i/\i<xs.length:=by
 unfold B4 at h;cases e:KI xs.length i with
 |none=>rw[e] at h;cases h
 |some j=>rw[e] at h;obtain⟨h1,h2,h3,h4⟩:=KJ e;exact⟨j,h1,h,h2,h3,h4⟩
theorem bU{α:Type}{xs:List α}{v:α}(h:xs[j]?=some v):B4 xs (j:Int)=some v:=by
 have hj:j<xs.length:=(dm.mp h).1;have e:KI xs.length (j:Int)=some j:=by unfold KI;rw[ao (by omega),ao (by omega)];simp
 unfold B4;rw[e];exact h
theorem Hq{α:Type}(xs:List α)(v:α):B4 (xs++[v]) (-1)=some v:=by
 have hl:(xs++[v]).length=xs.length+1:=by simp
 have e:KI (xs++[v]).length (-1)=some xs.length:=by unfold KI;rw[hl,ak (by decide),ao (by omega)];congr 1;omega
 unfold B4;rw[e];show(xs++[v])[xs.length]?=some v;simp
def D_(b:Expr):Prop:=∀o i,subscripted b false o i=operate [o,i] (getItem o i)
def RB(X:Cx)(r:R2):Prop:=
 ∀(value slice:Expr)(aq:List (Addr×Obj))(s:Shared)(σ:St)(H:Hp)(x y:V)(v u:Value)(Q:VK),Inv X aq σ H s->RelV x v->RelV y u->r x y H Q->
  subscripted slice false v u=operate [v,u] (getItem v u)->wpAny (model X.prog X.w) X.A (subscriptTail value slice v u) (EP X aq σ Q) X.xe s
def RC(X:Cx)(id:String)(r:V->List V->Hp->VK->Prop):Prop:=
 ∀(aq:List (Addr×Obj))(s:Shared)(σ:St)(H:Hp)(x:V)(xs:List V)(v:Value)(us:List Value)(Q:VK),Inv X aq σ H s->RelV x v->Vals xs us->r x xs H Q->
  wpAny (model X.prog X.w) X.A (call (.builtin id) (v::us)) (EP X aq σ Q) X.xe s
variable{A:Around}{s:Shared}{y x:V}{u v:Value}
variable{aq:List (Addr×Obj)}{σ:St}{H:Hp}
section
variable{X:Cx}{a b:Expr}{ta tb:TE}{pos:Pos}
theorem MN{r:R2}(hr:RB X r)(ha:PE X a ta)(hb:PE X b tb)(hs:D_ b):PE X (.Subscript a b pos) (tL r ta tb):=by intro aq s σ H Q I h;exact Subscript_ (Oj ha hb I h λv u s2 x y H2 I2 rx ry q=>hr a b aq s2 σ H2 x y v u Q I2 rx ry q (hs _ _))
def Ft(K:PySem.W.Frag):R2:=λx y H Q=>∃p xs i v,x= .ref p/\y= .int i/\bf K H p xs/\B4 xs i=some v/\Q v H
def Vn(K:PySem.W.Frag):R2:=λx y H Q=>∃p xs i v,x= .ref p/\y= .int i/\iu K H p xs/\B4 xs i=some v/\Q v H
theorem aJ:RB X (Ft X.K):=by
 intro value slice aq s σ H x y v u Q I rx ry h hs;obtain⟨p,xs,i,z,rfl,rfl,hq,he,q⟩:=h;cases rx;obtain⟨t,rfl⟩:=ry;obtain⟨its,r,pl,hz⟩:=I.list hq;obtain⟨j,h1,h2,h3,h4,h5⟩:=D9 he;obtain⟨w,ew,Fu⟩:=r.get h2;have hl:=r.length;have hn:=yL;have fin:EP X aq σ Q w s:=⟨z,H,I,Fu,q⟩;by_cases h0:0<=i
 .have hj:i.toNat=j:=by rw[seqIndex_of h0 h5] at h1;exact di h1
  exact item_listR pl.isList h0 (by omega) (by rw[hj];simpa using ew) fin hs
 .have hj:(i+(its.toArray.size:Int)).toNat=j:=by rw[seqIndex_neg (by omega) h4] at h1;rw[d5,<-hl];exact di h1
  exact subscriptTail_builtinR (x:=w) pl.isList.typeIs slot_list_getitem.lookup
   (wpAny_getItem_list_neg (Q:=λr s'=>r=w/\EP X aq σ Q r s') pl.isList (by omega) (by rw[d5]<;>omega) (by omega) (by rw[hj];simpa using ew) ⟨rfl,fin⟩) hs
theorem dR:RB X (Vn X.K):=by
 intro value slice aq s σ H x y v u Q I rx ry h hs;obtain⟨p,xs,i,z,rfl,rfl,hq,he,q⟩:=h;cases rx;obtain⟨t,rfl⟩:=ry;obtain⟨its,r,pl,hz⟩:=I.tuple hq;obtain⟨j,h1,h2,h3,h4,h5⟩:=D9 he;obtain⟨w,ew,Fu⟩:=r.get h2;have hl:=r.length;have hn:=yL;have fin:EP X aq σ Q w s:=⟨z,H,I,Fu,q⟩;exact subscriptTail_builtinR (x:=w) pl.typeIs slot_tuple_getitem.lookup
  (getItem_tuple (j:=j) (Q:=λr s'=>r=w/\EP X aq σ Q r s') pl (by omega) (by omega) (by rw[d5,<-hl];exact h1) (by simpa using ew) ⟨rfl,fin⟩) hs
theorem yM(lo hi:Option Int)(n:Nat):(sliceBounds lo hi none n).1=((HT.qG n 0 lo:Nat):Int)/\(sliceBounds lo hi none n).2.1=((HT.qG n n hi:Nat):Int)/\(sliceBounds lo hi none n).2.2=1:=by
 refine⟨?_,?_,rfl⟩
 .cases lo with
  |none=>simp[sliceBounds,HT.qG]
  |some i=>
   simp only[sliceBounds,HT.qG,G5,show(1:Int)>0 by decide,m4];by_cases h:i<0
   .simp only[h,m4]<;>omega
   .simp only[h,jT]<;>omega
 .cases hi with
  |none=>simp[sliceBounds,HT.qG]
  |some i=>
   simp only[sliceBounds,HT.qG,G5,show(1:Int)>0 by decide,m4];by_cases h:i<0
   .simp only[h,m4]<;>omega
   .simp only[h,jT]<;>omega
theorem xq(its:List Value)(lo hi:Option Int):slicePick its.toArray lo hi none=((its.drop (HT.qG its.length 0 lo)).take (HT.qG its.length its.length hi - HT.qG its.length 0 lo)).toArray:=by obtain⟨h1,h2,h3⟩:=yM lo hi its.toArray.size;unfold slicePick;rw[h1,h2,h3];simp only[sliceRange_one,pick_run,d5]<;>rfl
def Ow(K:PySem.W.Frag):V->Option Int->Option Int->Hp->VK->Prop:=λx lo hi H Q=>∃a xs,x= .ref a/\bf K H a xs/\∀p,H p=none->Q (.ref p) (upd H p (.lst (d_ xs lo hi)))
theorem bA:XC X (Ow X.K):=by intro aq s σ H x v vl vu lo hi sl Q I rx hs pl pu h;obtain⟨a,xs,rfl,hx,q⟩:=h;cases rx;obtain⟨its,r,ht,hz⟩:=I.list hx;have hlen:=r.length;refine⟨"list",_,slot_list_getitem.lookup,ht.isList.typeIs,?_⟩;refine wpAny_getItem_list_slice ht.isList hs pl pu .none (by simp) ?_ (by rw[d5]<;>omega);rw[xq,<-hlen];refine⟨.ref s.heap.objs.size,_,I.laid (t':=s.toks) (o:= .lst (d_ xs lo hi)) (λb ob q=>gq _ q) (aS _) ?_,rfl,q _ (I.cx.fresh (aS _))⟩;exact⟨bq (Ak xs lo hi) hz,_,0,(r.drop (HT.qG xs.length 0 lo)).take (HT.qG xs.length xs.length hi - HT.qG xs.length 0 lo),jD _ rfl⟩
def lI:V->Bool
 | .fb=>true
 | .bl _=>true
 | .int _=>true
 | .str _=>true
 |_=>false
def J5:V->V->Bool
 | .fb,.fb=>true
 | .bl a,.bl b=>a==b
 | .bl a,.int b=>(if a then 1 else 0)==b
 | .int a,.bl b=>a==(if b then 1 else 0)
 | .int a,.int b=>a==b
 | .str a,.str b=>a==b
 |_,_=>false
theorem Ox(ry:RelV y u)(rx:RelV x v)(fy:lI y=true)(fx:lI x=true):SeqAt.EqAt A s u v (J5 y x):=by
 cases y with
 |fb=>
  cases ry;cases x with
  |fb=>cases rx;exact SeqAt.EqAt.same _
  |bl b=>cases rx;exact SeqAt.EqAt.none_bool b
  |int b=>obtain⟨t,rfl⟩:=rx;exact SeqAt.EqAt.none_int b t
  |str b=>obtain⟨t,rfl⟩:=rx;exact SeqAt.EqAt.none_str b t
  |_=>exact absurd (show false=true from fx) w_
 |bl a=>
  cases ry;cases x with
  |fb=>cases rx;exact SeqAt.EqAt.bool_none a
  |bl b=>cases rx;exact SeqAt.EqAt.bool_bool a b
  |int b=>obtain⟨t,rfl⟩:=rx;exact SeqAt.EqAt.bool_int a b t
  |str b=>obtain⟨t,rfl⟩:=rx;exact SeqAt.EqAt.bool_str a b t
  |_=>exact absurd (show false=true from fx) w_
 |int a=>
  obtain⟨t',rfl⟩:=ry;cases x with
  |fb=>cases rx;exact SeqAt.EqAt.int_none a t'
  |bl b=>cases rx;exact SeqAt.EqAt.int_bool a t' b
  |int b=>obtain⟨t,rfl⟩:=rx;exact SeqAt.EqAt.int_int a t' b t
  |str b=>obtain⟨t,rfl⟩:=rx;exact SeqAt.EqAt.int_str a t' b t
  |_=>exact absurd (show false=true from fx) w_
 |str a=>
  obtain⟨t',rfl⟩:=ry;cases x with
  |fb=>cases rx;exact SeqAt.EqAt.str_none a t'
  |bl b=>cases rx;exact SeqAt.EqAt.str_bool a t' b
  |int b=>obtain⟨t,rfl⟩:=rx;exact SeqAt.EqAt.str_int a t' b t
  |str b=>obtain⟨t,rfl⟩:=rx;exact SeqAt.EqAt.str_str a t' b t
  |_=>exact absurd (show false=true from fx) w_
 |_=>exact absurd (show false=true from fy) w_
def B5(x:V)(u:Value):Bool:=match u with
 | .none=>J5 .fb x
 | .bool b=>J5 (.bl b) x
 | .int i _=>J5 (.int i) x
 | .str z _=>J5 (.str z) x
 |_=>false
theorem yN(r:RelV y u)(f:lI y=true):B5 x u=J5 y x:=by
 cases y with
 |fb=>cases r;rfl
 |bl b=>cases r;rfl
 |int i=>obtain⟨t,rfl⟩:=r;rfl
 |str z=>obtain⟨t,rfl⟩:=r;rfl
 |_=>exact absurd (show false=true from f) w_
theorem qR{x:V}:∀{xs:List V}{us:List Value},Vals xs us->xs.all lI=true->us.any (B5 x)=xs.any λy=>J5 y x
 |_,_,.nil,_=>rfl
 |y::xs,u::us,.cons r t,f=>by rw[Kg,uQ] at f;rw[uR,uR,yN r f.1,qR t f.2]
theorem lK{A:Around}{s:Shared}{x:V}{v:Value}(rx:RelV x v)(fx:lI x=true):∀{xs:List V}{us:List Value},Vals xs us->xs.all lI=true->∀u∈us,SeqAt.EqAt A s u v (B5 x u)
 |_,_,.nil,_=>λu hu=>by cases hu
 |y::xs,u::us,.cons r t,f=>λu' hu=>by
  rw[Kg,uQ] at f;rcases bZ.mp hu with rfl|hu
  .rw[yN r f.1];exact Ox r rx f.1 fx
  .exact lK rx fx t f.2 u' hu
def RD(x:V)(xs:List V):Bool:=xs.any λy=>J5 y x
def TY(K:PySem.W.Frag)(neg:Bool):R2:=λx y H Q=>∃p xs,y= .ref p/\(bf K H p xs\/iu K H p xs)/\lI x=true/\xs.all lI=true/\Q (.bl (if neg then !RD x xs else RD x xs)) H
theorem Fv:qF X (compareOp .In) (TY X.K false):=by
 intro aq s σ H x y v u Q I rx ry h;obtain⟨p,xs,rfl,hq,fx,fs,q⟩:=h;cases ry;rcases hq with hq|hq
 .obtain⟨its,r,pl,hz⟩:=I.list hq;refine SeqAt.in_listAt (B5 x) pl.isList (λw hw=>lK rx fx r fs w (by simpa using hw)) ⟨.bl _,H,I,rfl,?_⟩;rw[show its.toArray.any (B5 x)=its.any (B5 x) by simp,qR r fs];exact q
 .obtain⟨its,r,pl,hz⟩:=I.tuple hq;refine SeqAt.in_tupleAt (B5 x) pl (λw hw=>lK rx fx r fs w (by simpa using hw)) ⟨.bl _,H,I,rfl,?_⟩;rw[show its.toArray.any (B5 x)=its.any (B5 x) by simp,qR r fs];exact q
theorem yO:qF X (compareOp .NotIn) (TY X.K true):=by
 intro aq s σ H x y v u Q I rx ry h;obtain⟨p,xs,rfl,hq,fx,fs,q⟩:=h;cases ry;rcases hq with hq|hq
 .obtain⟨its,r,pl,hz⟩:=I.list hq;refine SeqAt.notIn_listAt (B5 x) pl.isList (λw hw=>lK rx fx r fs w (by simpa using hw)) ⟨.bl _,H,I,rfl,?_⟩;rw[show its.toArray.any (B5 x)=its.any (B5 x) by simp,qR r fs];exact q
 .obtain⟨its,r,pl,hz⟩:=I.tuple hq;refine SeqAt.notIn_tupleAt (B5 x) pl (λw hw=>lK rx fx r fs w (by simpa using hw)) ⟨.bl _,H,I,rfl,?_⟩;rw[show its.toArray.any (B5 x)=its.any (B5 x) by simp,qR r fs];exact q
theorem qS:qQ X (.builtin "len") (λxs H Q=>∃p ys,xs=[.ref p]/\(bf X.K H p ys\/iu X.K H p ys)/\Q (.int ys.length) H):=by
 intro aq s σ H xs us Q I r h;obtain⟨p,ys,rfl,hq,q⟩:=h;obtain⟨u,rfl,rx⟩:=vals1 r;cases rx;have hn:=yL;rcases hq with hq|hq
 .obtain⟨its,r',pl,hz⟩:=I.list hq;have hlen:=r'.length;exact Calls.call_len_list pl.isList (by simp only[d5]<;>omega) ⟨.int ys.length,H,I.tok _,⟨s.toks+1,by rw[d5,hlen]⟩,q⟩
 .obtain⟨its,r',pl,hz⟩:=I.tuple hq;have hlen:=r'.length;exact len_tuple pl (by simp only[d5]<;>omega) ⟨.int ys.length,H,I.tok _,⟨s.toks+1,by rw[d5,hlen]⟩,q⟩
theorem l_:qQ X (.builtin "len") (λxs H Q=>∃z,xs=[.str z]/\z.length<=sizeLine/\Q (.int z.length) H):=by intro aq s σ H xs us Q I r h;obtain⟨z,rfl,hz,q⟩:=h;obtain⟨u,rfl,t,rfl⟩:=vals1 r;have hn:=yL;exact len_str (by omega) ⟨.int z.length,H,I.tok _,⟨_,rfl⟩,q⟩
def Vo(K:PySem.W.Frag)(T:String)(x:V)(H:Hp):Prop:=match x with
 | .str _=>T="str"
 | .int _=>T="int"
 | .ref p=>(T="list"/\∃xs,bf K H p xs)\/(T="tuple"/\∃o,K.lookup p=some o/\o.cls= .type "tuple"/\o.dict=none)\/
  (T="dict"/\((∃a8,H p=some (.dK a8))\/∃a8,H p=some (.dT a8)))\/(T="set"/\∃S n,H p=some (.set S n))
 |_=>False
theorem Hr{T:String}(I:Inv X aq σ H s)(r:RelV x v)(ty:Vo X.K T x H):
 s.TypeIs v T/\∀a,v= .ref a->∃ob,s.heap.get? a=some ob/\ob.dict=none:=by
 cases x with
 |str z=>obtain⟨t,rfl⟩:=r;cases(show T="str" from ty);exact⟨typeIs_str s z t,λ_ e=>nomatch e⟩
 |int i=>obtain⟨t,rfl⟩:=r;cases(show T="int" from ty);exact⟨typeIs_int s i t,λ_ e=>nomatch e⟩
 |ref p=>
  cases r;rcases ty with⟨rfl,xs,hq⟩|⟨rfl,o,hk,hc,hd⟩|⟨rfl,hk⟩|⟨rfl,S,n,hk⟩
  .obtain⟨its,_,pl,_⟩:=I.list hq;refine⟨pl.isList.typeIs,λa e=>?_⟩;cases e;obtain⟨o,n,e,c,hd,_⟩:=pl;exact⟨o,e,hd⟩
  .refine⟨⟨o,I.GF p o hk,hc⟩,λa e=>?_⟩;cases e;exact⟨o,I.GF _ o hk,hd⟩
  .have z:∃o,s.heap.get? p=some o/\o.ExactDict:=by
    rcases hk with⟨a8,hk⟩|⟨a8,hk⟩
    .obtain⟨_,_,_,_,o,_,_,e,ex,_⟩:=I.cx p _ hk;exact⟨o,e,ex⟩
    .obtain⟨_,_,_,_,o,_,_,e,ex,_⟩:=I.cx p _ hk;exact⟨o,e,ex⟩
   obtain⟨o,e,ex⟩:=z;refine⟨⟨o,e,ex.1⟩,λa e2=>?_⟩;cases e2;exact⟨o,e,ex.2.1⟩
  .obtain⟨o,_,_,_,e,ex,_⟩:=I.cx p _ hk;refine⟨⟨o,e,ex.1⟩,λa e2=>?_⟩;cases e2;exact⟨o,e,ex.2.1⟩
 |_=>exact False.elim ty
def Vp(K:PySem.W.Frag)(T:String)(r:V->List V->Hp->VK->Prop)(to:TE):TE:=λσ H Q=>to σ H λx H1=>Vo K T x H1/\r x [] H1 Q
def Vq(K:PySem.W.Frag)(T:String)(r:V->List V->Hp->VK->Prop)(to:TE)(t:TA):TE:=λσ H Q=>to σ H λx H1=>Vo K T x H1/\t σ H1 λxs H2=>r x xs H2 Q
variable{o e:Expr}{es:List Expr}{to:TE}{t:TA}{name:Str}{apos k7:Pos}{T id:String}{r:V->List V->Hp->VK->Prop}
theorem Oy(pa:PlainAttrs T)(slot:Slot T name id)(MO:typeOf (.builtin id)=pure (.type "method_descriptor"))(hm:RC X id r)(ho:PE X o to)(qT:attributeBase o name X.env (eval o X.env)=eval o X.env:=by rfl)(qU:(apos.endLine==k7.line)=true:=by rfl):PE X (.Call (.Attribute o name apos) [] [] k7) (Vp X.K T r to):=by intro aq s σ H Q I h;refine wpAny_Call_method0_late qT qU (dU (ho aq s σ H _ I h) λv s1 ⟨x,H1,I1,r1,ty,q1⟩=>?_);obtain⟨h1,h2⟩:=Hr I1 r1 ty;exact⟨T,id,pa,slot,MO,h1,h2,Kd rfl (PySem.evalArgs_none (hm aq s1 σ H1 x [] v [] Q I1 r1 .nil q1))⟩
theorem eY(pa:PlainAttrs T)(slot:Slot T name id)(MO:typeOf (.builtin id)=pure (.type "method_descriptor"))(hm:RC X id r)(ho:PE X o to)(ha:PA X (e::es) t)(qT:attributeBase o name X.env (eval o X.env)=eval o X.env:=by rfl)(Vr:((backTo k7 (starEach (e::es) X.env)).all (λx=> !x.1)&&(backToKw k7 (keywordEach [] X.env)).all (λx=>x.1.isSome)
 &&decide ((e::es).length+([]:List Keyword).length+(if([]:List Keyword).isEmpty then 0 else 1)<30))=true:=by rfl)(qU:(apos.endLine==k7.line)=true:=by rfl)(hs:starEach (e::es) X.env=(false,eval e X.env)::starEach es X.env:=by rfl)(Oz:(backTo k7 (starEach es X.env)).any (·.1)=false:=by rfl):
 PE X (.Call (.Attribute o name apos) (e::es) [] k7) (Vq X.K T r to t):=by
 intro aq s σ H Q I h;refine wpAny_Call_method_late qT Vr qU rfl (dU (ho aq s σ H _ I h) λv s1 ⟨x,H1,I1,r1,ty,q1⟩=>?_);obtain⟨h1,h2⟩:=Hr I1 r1 ty;refine⟨T,id,pa,slot,MO,h1,h2,?_⟩;have hA:=ha k7 aq s1 σ H1 _ I1 q1;rw[hs] at hA⊢;refine Kd (by show(false||(backTo k7 (starEach es X.env)).any (·.1))=false;rw[Oz]<;>rfl) (ND ?_);exact dU hA λus s2 ⟨vs,H2,I2,r2,q2⟩=>hm aq s2 σ H2 x vs v us Q I2 r1 r2 q2
end
def Vs(X:Cx)(id:String)(r:V->List V->Hp->VK->Prop):Prop:=
 ∀(aq:List (Addr×Obj))(s:Shared)(σ:St)(H:Hp)(x:V)(xs:List V)(v:Value)(us:List Value)(Q:VK),Inv X aq σ H s->RelV x v->Vals xs us->r x xs H Q->
  wpAny (model X.prog X.w) X.A (call (.builtin id) (v::us)) (EP X aq σ Q) X.xe s
theorem Vals.one:∀{x:V}{us:List Value},Vals [x] us->∃u,us=[u]/\RelV x u
 |_,_,.cons r .nil=>⟨_,rfl,r⟩
theorem Vals.zero:∀{us:List Value},Vals [] us->us=[]
 |_,.nil=>rfl
theorem Vals.dropLast{xs:List V}{us:List Value}(h:Vals xs us):Vals xs.dropLast us.dropLast:=by
 induction h with
 |nil=>exact .nil
 |cons r t ih=>
  cases t with
  |nil=>exact .nil
  |cons q t'=>exact .cons r ih
theorem Vals.reverse{xs:List V}{us:List Value}(h:Vals xs us):Vals xs.reverse us.reverse:=by
 induction h with
 |nil=>exact .nil
 |cons r t ih=>rw[uX,uX];exact Vals.append ih (.cons r .nil)
theorem Ck{α:Type}(l:List α):l.eraseIdx (l.length - 1)=l.dropLast:=by
 induction l with
 |nil=>rfl
 |cons a r ih=>
  cases r with
  |nil=>rfl
  |cons b r=>
   have e:(a::b::r).length - 1=((b::r).length - 1)+1:=by have h1:(a::b::r).length=r.length+2:=rfl;have h2:(b::r).length=r.length+1:=rfl;omega
   rw[e,List.eraseIdx_cons_succ,ih]
   all_goals rfl
variable{its:List Value}{t':Nat}
section
variable{X:Cx}{aq:List (Addr×Obj)}{σ:St}{H:Hp}{s:Shared}{l b:Addr}{xs ys zs:List V}
theorem Inv.OA{its':List Value}{f:Array Value->Array Value}(I:Inv X aq σ H s)(hH:H l=some (.lst xs))(e:s.heap.get? l=some {cls:= .type "list",data:= .seq its.toArray n})(hf:f its.toArray=its'.toArray)(hv:Vals ys its')(hz:ys.length<=sizeLine):
 Inv X aq σ (upd H l (.lst ys)) {s with heap:=s.heap.update l (Obj.mapSeq f),toks:=t'}:=by
 have q:=PySem.IsL.update e f;rw[hf] at q;refine I.write (x:=l) (e:=l) (by rw[hH];exact trivial) (.inl rfl) (λb' u hb hu=>(Heap.get?_update_other s.heap (Obj.mapSeq f) (mZ hb)).trans hu) ⟨_,q⟩ ?_;exact⟨hz,its',_,hv,q⟩
theorem Inv.Vt(I:Inv X aq σ H s)(hv:Vals ys its)(hz:ys.length<=sizeLine):
 Inv X aq σ (upd H s.heap.objs.size (.lst ys)) {s with heap:=s.heap.push {cls:= .type "list",data:= .seq its.toArray},toks:=t'}:=
 I.laid (λ_ _ q=>gq _ q) (aS _) ⟨hz,its,0,hv,jD _ rfl⟩
theorem Inv.fresh(I:Inv X aq σ H s):H s.heap.objs.size=none:=I.cx.fresh (aS _)
theorem Inv.Fw(I:Inv X aq σ H s)(hH:H l=some (.lst xs)):xs.length<=sizeLine/\∃(its:List Value)(n:Nat),Vals xs its/\xs.length=its.length/\s.heap.get? l=some {cls:= .type "list",data:= .seq its.toArray n}:=by obtain⟨z,its,n,r,e⟩:=I.cx l _ hH;exact⟨z,its,n,r,r.length,e⟩
theorem Hs(h:n<=sizeLine):Builtin.List.listTooLong n=false:=by unfold Builtin.List.listTooLong;exact cR (by omega)
end
section
variable{X:Cx}
def KL:V->List V->Hp->VK->Prop:=λx vs H Q=>∃l xs y,x= .ref l/\vs=[y]/\H l=some (.lst xs)/\xs.length<sizeLine/\Q .fb (upd H l (.lst (xs++[y])))
theorem cy:Vs X "list.append" KL:=by intro aq s σ H x vs v us Q I rx rv h;obtain⟨l,xs,y,rfl,rfl,hH,hz,q⟩:=h;cases rx;obtain⟨u,rfl,ru⟩:=rv.one;obtain⟨z,its,n,r,hl,e⟩:=I.Fw hH;refine zY F.slot_list_append ⟨_,e,rfl⟩ F.entry_list_append (F.args_list_append_2 _ _) (PySem.list_append l its.toArray n u (by rw[d5];omega)) ⟨e,?_⟩;refine⟨.fb,_,I.OA (its':=its++[u]) hH e (by simp) (r.append (.cons ru .nil)) ?_,rfl,q⟩;rw[bb,List.length_singleton];omega
def Ea:V->List V->Hp->VK->Prop:=λx vs H Q=>∃l b xs zs,x= .ref l/\vs=[.ref b]/\H l=some (.lst xs)/\H b=some (.lst zs)/\xs.length+zs.length<=sizeLine/\Q .fb (upd H l (.lst (xs++zs)))
theorem fY:Vs X "list.extend" Ea:=by
 intro aq s σ H x vs v us Q I rx rv h;obtain⟨l,b,xs,zs,rfl,rfl,hH,hB,hz,q⟩:=h;cases rx;obtain⟨u,rfl,ru⟩:=rv.one;cases ru;obtain⟨z,its,n,r,hl,e⟩:=I.Fw hH;obtain⟨z2,jb,n2,r2,B6,e2⟩:=I.Fw hB;have hsz:its.toArray.size+jb.toArray.size<=sizeLine:=by rw[d5,d5];omega
 have RE:¬(!its.toArray.isEmpty&&Builtin.List.listTooLong (its.toArray.size+jb.toArray.size))=true:=by rw[Hs hsz,Bool.and_false];exact w_
 refine zY F.slot_list_extend ⟨_,e,rfl⟩ F.entry_list_extend (F.args_list_extend_2 _ _)
  (AutoSeq1.list_extend_list_list_0 l its.toArray n b jb.toArray n2 RE (by rw[d5];omega) (by omega)) ⟨e,e2,?_⟩
 refine⟨.fb,_,I.OA (its':=its++jb) hH e (by simp) (r.append r2) ?_,rfl,q⟩;rw[bb];omega
def Vu:V->List V->Hp->VK->Prop:=λx vs H Q=>∃l xs y,x= .ref l/\vs=[]/\H l=some (.lst xs)/\xs[xs.length - 1]?=some y/\Q y (upd H l (.lst xs.dropLast))
theorem OB:Vs X "list.pop" Vu:=by
 intro aq s σ H x vs v us Q I rx rv h;obtain⟨l,xs,y,rfl,rfl,hH,hy,q⟩:=h;cases rx;have OC:=rv.zero;subst OC;obtain⟨z,its,n,r,hl,e⟩:=I.Fw hH;obtain⟨u,hu,ru⟩:=r.get hy;have RF:its.toArray[its.toArray.size - 1]?=some u:=by show its.toArray[its.length - 1]?=some u;rw[<-Array.getElem?_toList,<-hl];exact hu
 refine zY F.slot_list_pop ⟨_,e,rfl⟩ F.entry_list_pop (F.args_list_pop_1 _) (MeetsSeq.list_pop_last l its.toArray n u RF (by rw[d5];omega)) ⟨e,?_⟩;refine⟨y,_,I.OA (its':=its.dropLast) hH e ?_ r.dropLast ?_,ru,q⟩
 .show its.toArray.eraseIdxIfInBounds (its.toArray.size - 1)=its.dropLast.toArray;rw[d5,List.eraseIdxIfInBounds_toArray,Ck]
 .rw[GW];omega
def Vv:R2:=λx y H Q=>∃l b xs zs,x= .ref l/\y= .ref b/\H l=some (.lst xs)/\H b=some (.lst zs)/\xs.length+zs.length<=sizeLine/\∀p,H p=none->Q (.ref p) (upd H p (.lst (xs++zs)))
theorem g9:qF X (binaryOp .Add) Vv:=by
 intro aq s σ H x y v u Q I rx ry h;obtain⟨l,b,xs,zs,rfl,rfl,hH,hB,hz,q⟩:=h;cases rx;cases ry;obtain⟨z,its,n,r,hl,e⟩:=I.Fw hH;obtain⟨z2,jb,n2,r2,B6,e2⟩:=I.Fw hB;refine PySem.P.add_list e e2 ?_ (by rw[d5,d5];omega);have ea:its.toArray++jb.toArray=(its++jb).toArray:=by simp
 rw[ea];exact⟨.ref _,_,I.Vt (t':=s.toks) (r.append r2) (by rw[bb];omega),rfl,q _ I.fresh⟩
end
theorem Vals.Vw:∀{bs:List Bool}{us:List Value},Vals (bs.map V.bl) us->us=bs.map Value.bool
 |[],us,h=>by rw[List.map_nil] at h;cases h;rfl
 |b::bs,us,h=>by
  rw[cA] at h;cases h with
  |cons r t=>cases r;rw[Vals.Vw t,cA]
variable{a:Addr}
theorem Vals.RG{us:List Value}(r:Vals [V.ref a] us):us=[Value.ref a]:=by
 cases r with
 |cons r t=>cases t;cases r;rfl
section
variable{X:Cx}
def Ht(K:PySem.W.Frag):V->List V->Hp->VK->Prop:=λx xs H Q=>∃(a:Addr)(ys:List V)(y:V)(j:Nat)(z:V),x=V.ref a/\xs=[y]/\bf K H a ys/\lI y=true/\ys.all lI=true/\ys[j]?=some z/\J5 z y=true/\
 (∀(m:Nat)(z':V),m<j->ys[m]?=some z'->J5 z' y=false)/\Q (.int (j:Nat)) H
theorem Eb{ys:List V}(f:ys.all lI=true){z:V}(h:ys[j]?=some z):lI z=true:=yH.mp f z (cJ h)
theorem Hu:RC X "list.index" (Ht X.K):=by
 intro aq s σ H x xs v us Q I rx Y0 h;obtain⟨a,ys,y,j,z,rfl,rfl,hs,fy,Vx,hz,Y1,rO,q⟩:=h;cases rx;cases Y0 with
 |cons ry rt=>
  rename_i uy ut;cases rt;obtain⟨its,rv,⟨⟨cls,dd,data,sl⟩,n,ho,hc,GH,hd⟩,hlen⟩:=I.list hs;simp only at hc hd;subst hc hd;obtain⟨u,hu,ru⟩:=rv.get hz;obtain⟨Cm,Qt⟩:=dm.mp hu;have Vy:=rv.length;have hj:j<its.toArray.size:=by simpa using Cm
  have TZ:=nz;refine zY MA ⟨_,ho,rfl⟩ PySem.F.entry_list_index (PySem.F.args_list_index_2 _ _)
   (SeqAt.list_indexAt a its.toArray n dd sl uy (B5 y) j hj (by omega) ?_ ?_) ⟨ho,λu' OD=>lK ry fy rv Vx u' (by simpa using OD),?_⟩
  .have e1:its.toArray[j]=u:=by simpa using Qt
   rw[e1,yN ru (Eb Vx hz)];exact Y1
  .intro m hm Y2;have pE:m<its.length:=by simpa using hm
   have Y3:m<ys.length:=by omega
   have RF:ys[m]?=some ys[m]:=c_ Y3;obtain⟨u2,Y4,Y5⟩:=rv.get RF;obtain⟨_,Vz⟩:=dm.mp Y4;have e1:its.toArray[m]=u2:=by simpa using Vz
   rw[e1,yN Y5 (Eb Vx RF)];exact rO m _ Y2 RF
  .exact⟨.int (j:Nat),H,I.tok _,⟨_,rfl⟩,q⟩
end
variable{prog:Program}{w:World}{E Q:Value->Shared->Prop}
theorem Al{l:Addr}{items:Array Value}(hl:s.heap.IsList l items)(h:∀s₂:Shared,s₂={s with heap:=s.heap.push {cls:= .type "list_iterator",data:= .fields #[.ref l,.int 0 0]}}->
 (s₂.heap.IsListIter s.heap.objs.size l 0/\s₂.heap.IsList l items)->l≠s.heap.objs.size->Q (.ref s.heap.objs.size) s₂):wpAny (model prog w) A (pyIter (.ref l)) Q E s:=by
 have fD:l<s.heap.objs.size:=by obtain⟨_,e,_⟩:=hl;exact dh e
 exact wpAny_pyIter_list hl (h _ rfl ⟨⟨_,jD _ rfl,rfl,rfl⟩,hl.push _⟩ (cE fD))
theorem tP{bs:List Bool}(e:its=bs.map Value.bool):
 TruthOf prog w A (λi v=>its.toArray[i]?=some v) (λi=>bs.getD i false):=λi v s Q E hv hq=>by
 have TV:its[i]?=some v:=by simpa using hv
 rw[e,gX] at TV;obtain⟨b,hb,rfl⟩:=Option.map_eq_some_iff.mp TV;have hg:bs.getD i false=b:=by rw[uh,hb]<;>rfl
 have B2:Q (bs.getD i false) s:=hq;rw[hg] at B2;exact pC B2
theorem any_range:∀bs:List Bool,(List.range bs.length).any (λi=>bs.getD i false)=bs.any id
 |[]=>rfl
 |b::bs=>by
  rw[cn,List.range_succ_eq_map,uR,B9,uR,<-any_range bs]
  all_goals rfl
theorem all_range:∀bs:List Bool,(List.range bs.length).all (λi=>bs.getD i false)=bs.all id
 |[]=>rfl
 |b::bs=>by
  rw[cn,List.range_succ_eq_map,Kg,Kh,Kg,<-all_range bs]
  all_goals rfl
section
variable{X:Cx}
def VA(K:PySem.W.Frag):List V->Hp->VK->Prop:=λvs H Q=>∃(a:Addr)(bs:List Bool),vs=[V.ref a]/\bf K H a (bs.map V.bl)/\Q (.bl (bs.any id)) H
def VB(K:PySem.W.Frag):List V->Hp->VK->Prop:=λvs H Q=>∃(a:Addr)(bs:List Bool),vs=[V.ref a]/\bf K H a (bs.map V.bl)/\Q (.bl (bs.all id)) H
theorem Cn(hc:X.calm=true):qQ X (.builtin "any") (VA X.K):=by
 intro aq s σ H vs us Q I r h;obtain⟨a,bs,rfl,hs,q⟩:=h;obtain⟨its,rv,hl,_⟩:=I.list hs;rw[Vals.RG r];have hb:=rv.Vw;refine call_any_walk (Al hl.isList λs₂ e2 st fk=>?_);subst e2;refine⟨_,_,_,_,_,_,_,rfl,Walks.list (A:=X.A.in1) (I.ok.hd hc) _ a fk its.toArray,st,tP hb,λh' tk hk=>?_⟩;refine⟨.bl _,H,I.kept λb o eo=>hk b o (λgS=>?_) (gq _ eo),?_,q⟩
 .rcases bZ.mp gS with e1|gS
  .exact absurd (e1▸dh eo) (mX _)
  .cases gS
 .show Value.bool _=Value.bool _;rw[<-any_range,hb,d5,aT]
theorem Hv(hc:X.calm=true):qQ X (.builtin "all") (VB X.K):=by
 intro aq s σ H vs us Q I r h;obtain⟨a,bs,rfl,hs,q⟩:=h;obtain⟨its,rv,hl,_⟩:=I.list hs;rw[Vals.RG r];have hb:=rv.Vw;refine call_all_walk (Al hl.isList λs₂ e2 st fk=>?_);subst e2;refine⟨_,_,_,_,_,_,_,rfl,Walks.list (A:=X.A.in1) (I.ok.hd hc) _ a fk its.toArray,st,tP hb,λh' tk hk=>?_⟩;refine⟨.bl _,H,I.kept λb o eo=>hk b o (λgS=>?_) (gq _ eo),?_,q⟩
 .rcases bZ.mp gS with e1|gS
  .exact absurd (e1▸dh eo) (mX _)
  .cases gS
 .show Value.bool _=Value.bool _;rw[<-all_range,hb,d5,aT]
end
mutual
inductive Dp (K:PySem.W.Frag) (H:Hp):V->PyData->Prop
 |fb:Dp K H .fb .none
 |bl (b:Bool):Dp K H (.bl b) (.bool b)
 |int (i:Int):Dp K H (.int i) (.int i)
 |str (x:Str):Dp K H (.str x) (.str x)
 |lst {a:Addr} {xs:List V} {ds:List PyData}:bf K H a xs->vn K H xs ds->Dp K H (.ref a) (.list ds)
 |tup {a:Addr} {xs:List V} {ds:List PyData}:iu K H a xs->vn K H xs ds->Dp K H (.ref a) (.tuple ds)
inductive vn (K:PySem.W.Frag) (H:Hp):List V->List PyData->Prop
 |nil:vn K H [] []
 |cons {v:V} {vs:List V} {d:PyData} {ds:List PyData}:Dp K H v d->vn K H vs ds->vn K H (v::vs) (d::ds)
end
section
variable{X:Cx}{aq:List (Addr×Obj)}{σ:St}{H:Hp}{s:Shared}
mutual
theorem Dp.reads (I:Inv X aq σ H s):∀(d:PyData)(v:V)(u:Value),Dp X.K H v d->RelV v u->∃as,Reads s.heap u d as
 | .none,_,_,h,r=>by cases h;cases r;exact⟨_,Reads.none⟩
 | .bool b,_,_,h,r=>by cases h;cases r;exact⟨_,Reads.bool b⟩
 | .int i,_,_,h,r=>by cases h;obtain⟨t,rfl⟩:=r;exact⟨_,Reads.int i t⟩
 | .str x,_,_,h,r=>by cases h;obtain⟨t,rfl⟩:=r;exact⟨_,Reads.str x t⟩
 | .list ds,_,_,h,r=>by
  cases h with
  |lst hs ha=>cases r;obtain⟨its,rv,⟨o,n,ho,hc,_,hd⟩,_⟩:=I.list hs;obtain⟨as,hr⟩:=Dp.readsAll I ds _ its ha rv;exact⟨_,Reads.list ho hc hd hr⟩
 | .tuple ds,_,_,h,r=>by
  cases h with
  |tup hs ha=>cases r;obtain⟨its,rv,⟨o,ho,hc,n,hd⟩,_⟩:=I.tuple hs;obtain⟨as,hr⟩:=Dp.readsAll I ds _ its ha rv;exact⟨_,Reads.tuple ho hc hd hr⟩
 | .dict _,_,_,h,_=>by cases h
theorem Dp.readsAll (I:Inv X aq σ H s):∀(ds:List PyData)(vs:List V)(us:List Value),vn X.K H vs ds->Vals vs us->∃as,ReadsAll s.heap us ds as
 |[],_,_,h,r=>by cases h;cases r;exact⟨_,ReadsAll.nil⟩
 |d::ds,_,_,h,r=>by
  cases h with
  |cons h1 h2=>
   cases r with
   |cons r1 r2=>obtain⟨as,q1⟩:=Dp.reads I d _ _ h1 r1;obtain⟨bs,q2⟩:=Dp.readsAll I ds _ _ h2 r2;exact⟨_,ReadsAll.cons q1 q2⟩
end
end
section
variable{X:Cx}
def VC(K:PySem.W.Frag):R2:=λx y H Q=>∃d e,Dp K H x d/\Dp K H y e/\SeqAt.shaped d=true/\SeqAt.shaped e=true/\Q (.bl (PyData.eqv d e)) H
theorem OE(hu:X.A.units+64<cLine):qF X (compareOp .Eq) (VC X.K):=by intro aq s σ H x y v u Q I rx ry h;obtain⟨d,e,hd,he,sd,se,q⟩:=h;obtain⟨as,r1⟩:=Dp.reads I d x v hd rx;obtain⟨bs,r2⟩:=Dp.reads I e y u he ry;exact SeqAt.compareEq_shaped r1 r2 sd se hu ⟨.bl _,H,I,rfl,q⟩
end
abbrev Hw(h:Heap)(c:Addr)(v:Option Value):Prop:=h.IsCell c v
def VD(scope sc:Scope):Scope:=
 {scope with names:=scope.names.map λ(n,k)=>if(k== .free&&sc.kind== .function&&sc.names.lookup n==some .cell) then(n,.cell) else(n,k)}
def cS(cells:List (Str×Addr)):List (Str×NameKind)->List (Str×Addr)->List (Str×Addr)
 |[],acc=>acc
 |(n,k)::r,acc=>if k== .free then cS cells r ((n,(cells.lookup n).getD 0)::acc) else cS cells r acc
theorem qV(env:Env)(f:Str×NameKind->List (Str×Addr)->Sem (ForInStep (List (Str×Addr))))(hf:∀n k c,f (n,k) c=if k== .free then(do let a<-cellOf env n;pure (.yield ((n,a)::c))) else pure (.yield c)):
 ∀(names:List (Str×NameKind))(acc:List (Str×Addr)),(∀y∈names,y.2= .free->∃c,env.cells.lookup y.1=some c)->forIn names acc f=pure (cS env.cells names acc)
 |[],acc,_=>by rw[NQ];rfl
 |(n,k)::r,acc,h=>by
  rw[List.forIn_cons,hf];have ih:=λacc=>qV env f hf r acc λy hy=>h y (bz _ hy);unfold cS;by_cases hk:(k==NameKind.free)=true
  .rw[ao hk,ao hk];obtain⟨c,hc⟩:=h (n,k) cw (by simpa using hk);have e:cellOf env n=pure c:=by unfold cellOf;rw[hc]
   rw[e];have e2:(env.cells.lookup n).getD 0=c:=by rw[hc];rfl
   rw[e2];exact ih _
  .rw[ak hk,ak hk];exact ih _
variable{scope:Scope}{env:Env}
theorem Co(h:∀y∈scope.names,y.2= .free->∃c,env.cells.lookup y.1=some c):closureFor scope env=pure (cS env.cells scope.names []):=by simp only[closureFor];rw[qV env _ (λn k c=>rfl) scope.names [] h];rfl
theorem mem_lookup{α:Type}:∀{l:List (Str×α)}{n:Str}{c:α},(n,c)∈l->∃c',l.lookup n=some c'
 |(k,v)::r,n,c,h=>by
  rw[tD];cases hb:n==k with
  |true=>exact⟨_,rfl⟩
  |false=>
   rcases bZ.mp h with e|h
   .cases e;simp at hb
   .exact mem_lookup h
theorem kF{cells:List (Str×Addr)}:∀{names:List (Str×NameKind)}{acc:List (Str×Addr)}{n:Str}{c:Addr},(n,c)∈cS cells names acc->(n,c)∈acc\/((n,.free)∈names/\c=(cells.lookup n).getD 0)
 |[],_,_,_,h=> .inl h
 |(m,k)::r,acc,n,c,h=>by
  unfold cS at h;split at h
  .rename_i hk;have hk:k= .free:=by simpa using hk
   rcases kF h with h|⟨h1,h2⟩
   .rcases bZ.mp h with e|h
    .cases e;exact .inr ⟨hk▸cw,rfl⟩
    .exact .inl h
   .exact .inr ⟨bz _ h1,h2⟩
  .rcases kF h with h|⟨h1,h2⟩
   .exact .inl h
   .exact .inr ⟨bz _ h1,h2⟩
theorem nG{cells:List (Str×Addr)}:∀{names:List (Str×NameKind)}{acc:List (Str×Addr)}{p:Str×Addr},p∈acc->p∈cS cells names acc
 |[],_,_,h=>h
 |(m,k)::r,acc,p,h=>by
  unfold cS;split
  .exact nG (bz _ h)
  .exact nG h
theorem nH{cells:List (Str×Addr)}:∀{names:List (Str×NameKind)}{acc:List (Str×Addr)}{n:Str},(n,.free)∈names->(n,(cells.lookup n).getD 0)∈cS cells names acc
 |(m,k)::r,acc,n,h=>by
  unfold cS;rcases bZ.mp h with e|h
  .cases e;exact nG cw
  .split
   .exact nH h
   .exact nH h
theorem lL:∀{names:List (Str×NameKind)}{h:Heap}{acc:List (Str×Addr)}{x:Str}{c:Addr},(x,c)∈cellsFrom h.objs.size names acc->
 (x,c)∈acc\/((x,.cell)∈names/\h.objs.size<=c/\Hw (pushCells h names) c none)
 |[],_,_,_,_,h=> .inl h
 |(n,k)::r,h,acc,x,c,hm=>by
  unfold cellsFrom at hm;unfold pushCells;split at hm
  .rename_i hk;rw[ao hk];have hk:k= .cell:=by simpa using hk
   rw[<-pM h {cls:= .type "cell",data:= .cell none}] at hm;rcases lL hm with hm|⟨h1,h2,h3⟩
   .rcases bZ.mp hm with e|hm
    .cases e;exact .inr ⟨hk▸cw,aS _,_,DU r _ _ _ (jD _ rfl),rfl⟩
    .exact .inl hm
   .rw[pM] at h2;exact .inr ⟨bz _ h1,DR h2,h3⟩
  .rename_i hk;rw[ak hk];rcases lL hm with hm|⟨h1,h2,h3⟩
   .exact .inl hm
   .exact .inr ⟨bz _ h1,h2,h3⟩
theorem o2:∀{names:List (Str×NameKind)}{n:Nat}{acc:List (Str×Addr)}{p:Str×Addr},p∈acc->p∈cellsFrom n names acc
 |[],_,_,_,h=>h
 |(m,k)::r,n,acc,p,h=>by
  unfold cellsFrom;split
  .exact o2 (bz _ h)
  .exact o2 h
theorem rY:∀{names:List (Str×NameKind)}{n:Nat}{acc:List (Str×Addr)}{x:Str},(x,.cell)∈names->∃c,(x,c)∈cellsFrom n names acc
 |(m,k)::r,n,acc,x,h=>by
  unfold cellsFrom;rcases bZ.mp h with e|h
  .cases e;exact⟨n,o2 cw⟩
  .split
   .exact rY h
   .exact rY h
theorem rZ:∀{names:List (Str×NameKind)}{h:Heap}{acc:List (Str×Addr)}{x y:Str}{c:Addr},(∀p∈acc,p.2<h.objs.size)->(∀x y c,(x,c)∈acc->(y,c)∈acc->x=y)->
 (x,c)∈cellsFrom h.objs.size names acc->(y,c)∈cellsFrom h.objs.size names acc->x=y
 |[],_,_,_,_,_,_,hi,h1,h2=>hi _ _ _ h1 h2
 |(n,k)::r,h,acc,x,y,c,hl,hi,h1,h2=>by
  unfold cellsFrom at h1 h2;split at h1
  .rename_i hk;rw[ao hk] at h2;rw[<-pM h {cls:= .type "cell",data:= .cell none}] at h1 h2;refine rZ (h:=h.push _) (λp hp=>?_) (λx y c a b=>?_) h1 h2
   .rw[pM];rcases bZ.mp hp with rfl|hp
    .exact mY _
    .exact tH (hl p hp)
   .rcases bZ.mp a with e|a<;>rcases bZ.mp b with e'|b
    .cases e;cases e';rfl
    .cases e;exact absurd (hl _ b) (mX _)
    .cases e';exact absurd (hl _ a) (mX _)
    .exact hi _ _ _ a b
  .rename_i hk;rw[ak hk] at h2;exact rZ hl hi h1 h2
variable{M:Model}
theorem Am{globals:Addr}{closure:List (Str×Addr)}{qual:Str}{func:Option Addr}{code:Value}{around:Env}{builtins:Addr}{Q:Env->Shared->Prop}(h:Q (newEnv scope s.heap.objs.size globals (cellsFrom (s.heap.objs.size+1) scope.names closure) qual func code (some around) builtins)
 {s with heap:=pushCells (s.heap.push {cls:= .type "dict",data:= .dict #[]}) scope.names}):
 wpAny M A (newFunctionEnv scope globals closure [] qual func code (some around) builtins) Q E s:=by
 simp only[newFunctionEnv,Option.isSome_some,m4];refine a5 (wpAny_alloc ?_);refine a5 (wpAny_layCells _ (λn k c=>rfl) scope.names closure _ _ ?_);rw[show({s with heap:=s.heap.push {cls:= .type "dict",data:= .dict #[]}}:Shared).heap.objs.size=s.heap.objs.size+1 from pM ..];rw[NQ];exact a5 (cY (cY h))
theorem nJ{sc:Scope}:∀{names:List (Str×NameKind)}{x:Str}{k:NameKind},
 (names.map λ(n,k)=>if(k==NameKind.free&&sc.kind== .function&&sc.names.lookup n==some .cell) then(n,NameKind.cell) else(n,k)).lookup x=some k->
 ∃k',names.lookup x=some k'/\(k=k'\/(k'= .free/\k= .cell))
 |[],_,_,h=>by simp at h
 |(n,k₀)::r,x,k,h=>by
  have ih:=@nJ sc r x k;have h':List.lookup x ((if(k₀==NameKind.free&&sc.kind== .function&&sc.names.lookup n==some .cell)=true then(n,NameKind.cell) else(n,k₀))::(r.map _))=some k:=h;cases hx:x==n with
  |true=>
   simp only[tD,hx];by_cases hc:(k₀==NameKind.free&&sc.kind== .function&&sc.names.lookup n==some .cell)=true
   .rw[ao hc] at h';simp only[tD,hx] at h';cases h';simp only[uQ,qL] at hc;exact⟨k₀,rfl,.inr ⟨hc.1.1,rfl⟩⟩
   .rw[ak hc] at h';simp only[tD,hx] at h';cases h';exact⟨_,rfl,.inl rfl⟩
  |false=>
   simp only[tD,hx];by_cases hc:(k₀==NameKind.free&&sc.kind== .function&&sc.names.lookup n==some .cell)=true
   .rw[ao hc] at h';simp only[tD,hx] at h';exact ih h'
   .rw[ak hc] at h';simp only[tD,hx] at h';exact ih h'
structure xR(N:List Str)(sc scope:Scope)(own:List (Str×Nat)):Prop where
 kind:scope.kind= .function
 uniq:∀y∈scope.names,scope.names.lookup y.1=some y.2
 ix:∀p∈own,N[p.2]?=some p.1
 free:∀y∈scope.names,y.2= .free->sc.names.lookup y.1=some .cell\/sc.names.lookup y.1=some .free
 own:∀y∈scope.names,y.2= .local\/y.2= .cell->y.1∈own.map (·.1)\/y.1∉N
def wipe(σ:St):List Nat->St
 |[]=>σ
 |v::vs=>(wipe σ vs).set v none
theorem nL(σ:St):∀vs:List Nat,(wipe σ vs).length=σ.length
 |[]=>rfl
 |v::vs=>by unfold wipe;rw[List.length_set,nL σ vs]
theorem r0{σ:St}{i:Nat}{x:V}:∀{vs:List Nat},(wipe σ vs)[i]?=some (some x)->σ[i]?=some (some x)/\i∉vs
 |[],h=>⟨h,by simp⟩
 |v::vs,h=>by
  unfold wipe at h;by_cases hi:v=i
  .subst hi;by_cases hv:v<(wipe σ vs).length
   .rw[NS hv] at h;cases h
   .rw[Ko (by simpa using hv)] at h;cases h
  .rw[NR hi] at h;obtain⟨h1,h2⟩:=r0 h;exact⟨h1,by simp only[bZ,not_or];exact⟨λe=>hi e.symm,h2⟩⟩
abbrev Cx.yP(X:Cx)(s:Shared)(H:Hp)(scope:Scope)(gT:Env)(fp:List Addr):Cx:={X with xb:=s,Oa:=H,env:=gT,outer:=X.stack,ex:=fp,fn:=λx=>scope.names.lookup x==some .cell,pn:=[],xe:=λ_ _=>False}
variable{own:List (Str×Nat)}
variable{D:Addr}
section
variable{X:Cx}{aq:List (Addr×Obj)}{σ:St}{H:Hp}{s:Shared}
theorem An{fp:List Addr}(I:Inv X aq σ H s)(ok:xR X.N X.env.scope scope own)(hN:X.N.Nodup)(Qu:∀b∈fp,vd X aq H b/\b<s.heap.objs.size):
 Inv (X.yP s H scope (compEnvC scope (cellsFrom (s.heap.objs.size+1) scope.names (cS X.env.cells scope.names [])) s.heap.objs.size X.env) fp) [] (wipe σ (own.map (·.2))) H {s with heap:=pushCells (s.heap.push {cls:= .type "dict",data:= .dict #[]}) scope.names}:=by
 have xH:∀y∈scope.names,y.2= .free->∃c,X.env.cells.lookup y.1=some c:=λy hy e=>by
  rcases ok.free y hy e with k|k
  .exact I.ok.has _ (.inl k)
  .exact I.ok.has _ (.inr k)
 generalize Ao:compEnvC scope (cellsFrom (s.heap.objs.size+1) scope.names (cS X.env.cells scope.names [])) s.heap.objs.size X.env=gT;have kp:∀b o,s.heap.get? b=some o->(pushCells (s.heap.push {cls:= .type "dict",data:= .dict #[]}) scope.names).get? b=some o:=λb o e=>DU _ _ _ _ (gq _ e);have hL:gT.locals=s.heap.objs.size:=by rw[<-Ao];rfl
 have zE:gT.cells=cellsFrom (s.heap.objs.size+1) scope.names (cS X.env.cells scope.names []):=by rw[<-Ao];rfl
 have VE:gT.scope=VD scope X.env.scope:=by rw[<-Ao];rfl
 rw[<-pM s.heap {cls:= .type "dict",data:= .dict #[]}] at zE;have cm:∀{y c},(y,c)∈cS X.env.cells scope.names []->X.env.cells.lookup y=some c/\c<s.heap.objs.size:=λ{y c} hm=>by
  rcases kF hm with hm|⟨h1,rfl⟩
  .cases hm
  .obtain⟨c,hc⟩:=xH _ h1 rfl;rw[hc];obtain⟨w,z⟩:=I.cell _ _ hc;exact⟨rfl,z.lt⟩
 have mem:∀{y c},gT.cells.lookup y=some c->(X.env.cells.lookup y=some c/\c<s.heap.objs.size)\/(s.heap.objs.size+1<=c/\Hw (pushCells (s.heap.push {cls:= .type "dict",data:= .dict #[]}) scope.names) c none):=λ{y c} e=>by
  rw[zE] at e;rcases lL (jS e) with hm|⟨_,h2,h3⟩
  .exact .inl (cm hm)
  .rw[pM] at h2;exact .inr ⟨h2,h3⟩
 have look:∀{y},scope.names.lookup y=some .free->∃c,gT.cells.lookup y=some c/\X.env.cells.lookup y=some c:=λ{y} hl=>by
  have hy:(y,NameKind.free)∈scope.names:=jS hl;obtain⟨c',e'⟩:=mem_lookup (o2 (names:=scope.names) (n:=(s.heap.push {cls:= .type "dict",data:= .dict #[]}).objs.size) (nH (cells:=X.env.cells) (acc:=[]) hy));rw[<-zE] at e';refine⟨c',e',?_⟩;rw[zE] at e';rcases lL (jS e') with hm|⟨h1,_,_⟩
  .exact(cm hm).1
  .have:=ok.uniq _ h1;rw[hl] at this;cases this
 have Y6:(X.yP s H scope gT fp).Ok:=by
  refine⟨I.ok.mod,by show gT.scope.kind=_;rw[VE];exact ok.kind,by show gT.globals=_;rw[<-Ao];exact I.ok.glob,by show gT.builtins=_;rw[<-Ao];exact I.ok.blt,by show s.heap.objs.size<=gT.locals;rw[hL];exact aS _,
   λy z c e1 e2=>?_,λy hy=>?_,λy c z e=>?_,I.ok.hd,I.ok.frames,.inl rfl,λb hb=>⟨?_,λy c e z=>?_⟩,I.bs,bq I.ok.J3 I.sz,λb o e hb=>?_,λb hb z=>?_,I.stack,I.D0⟩
  .have e1:gT.cells.lookup y=some c:=e1;have e2:gT.cells.lookup z=some c:=e2;rw[zE] at e1 e2;refine rZ (λp hp=>?_) (λy z c a b=>I.ok.inj y z c (cm a).1 (cm b).1) (jS e1) (jS e2);rw[pM];exact tH (cm (y:=p.1) (c:=p.2) hp).2
  .show∃c,gT.cells.lookup y=some c;have key:∀k,gT.kindOf y=some k->(k= .cell\/k= .free)->∃c,gT.cells.lookup y=some c:=λk hk Qv=>by
    unfold Env.kindOf at hk;rw[VE] at hk;obtain⟨k',e,r⟩:=nJ hk;have:k'= .cell\/k'= .free:=by
     rcases r with rfl|⟨rfl,_⟩
     .exact Qv
     .exact .inr rfl
    rcases this with rfl|rfl
    .obtain⟨c,hm⟩:=rY (n:=(s.heap.push {cls:= .type "dict",data:= .dict #[]}).objs.size) (acc:=cS X.env.cells scope.names []) (jS e);obtain⟨c',e'⟩:=mem_lookup hm;exact⟨c',by rw[zE];exact e'⟩
    .obtain⟨c,h1,_⟩:=look e;exact⟨c,h1⟩
   rcases hy with hy|hy
   .exact key _ hy (.inl rfl)
   .exact key _ hy (.inr rfl)
  .have z:(scope.names.lookup y==some NameKind.cell)=true:=z;have z:scope.names.lookup y=some .cell:=by simpa using z
   have e:gT.cells.lookup y=some c:=e;rw[zE] at e;rcases lL (jS e) with hm|⟨_,h2,_⟩
   .rcases kF hm with hm|⟨h1,_⟩
    .cases hm
    .have q:=ok.uniq _ h1;rw[z] at q;cases q
   .rw[pM] at h2;exact DR h2
  .show b≠gT.locals;rw[hL];exact cE (Qu b hb).2
  .have e:gT.cells.lookup y=some c:=e;rcases mem e with⟨h1,_⟩|⟨h1,_⟩
   .exact(Qu b hb).1.2.2.2.2.1 y c h1 z
   .have h2:s.heap.objs.size+1<=b:=by rw[<-z];exact h1
    exact absurd (dH (Qu b hb).2 (DR h2)) (mX _)
  .rcases(Qu b hb).1.2.2.2.1 with z|z
   .exact I.ok.G_ b o e z
   .exact absurd (dH (dh e) (bq I.ok.J3 z)) (mX _)
  .rcases bZ.mp (I.Ca b z) with z|z
   .exact(Qu b hb).1.2.1 z
   .exact(Qu b hb).1.2.2.1 z
 refine⟨Y6,rfl,I.bare,Un.kept kp,⟨λ_=>none,?_,λi y av e1 e2 e3=>?_⟩,λy c e=>?_,?_,λy c e=>?_,λp hp=>?_,I.cx.kept kp,by rw[nL];exact I.len⟩
 .show Heap.Ns _ gT.locals _;rw[hL];exact Heap.Ns.keeps (Heap.Ns.new ..) λb o e=>DU _ _ _ _ e
 .obtain⟨e2,fk⟩:=r0 e2;have Fx:scope.names.lookup y=some .free/\(gT.kindOf y=some .cell\/gT.kindOf y=some .free):=by
   have key:∀k,gT.scope.names.lookup y=some k->k= .local\/k= .cell\/k= .free->scope.names.lookup y=some .free/\(gT.kindOf y=some .cell\/gT.kindOf y=some .free):=λk hk Qv=>by
    have T2:=hk;rw[VE] at hk;obtain⟨k',e,r⟩:=nJ hk;have no:¬(k'= .local\/k'= .cell):=λhh=>by
     rcases ok.own _ (jS e) hh with e'|e'
     .obtain⟨p,hp,Y7⟩:=fc.mp e';have e3:=ok.ix p hp;have:p.1=y:=Y7;rw[this] at e3;exact fk (fc.mpr ⟨p,hp,va hN e3 e1⟩)
     .exact e' (cJ e1)
    rcases r with rfl|⟨rfl,rfl⟩
    .rcases Qv with rfl|rfl|rfl
     .exact absurd (.inl rfl) no
     .exact absurd (.inr rfl) no
     .exact⟨e,.inr T2⟩
    .exact⟨e,.inl T2⟩
   have e3:Qq gT.scope y:=e3;rcases e3 with e3|e3|e3
   .exact key _ e3 (.inl rfl)
   .exact key _ e3 (.inr (.inl rfl))
   .exact key _ e3 (.inr (.inr rfl))
  obtain⟨m,hn,hl⟩:=I.loc;have VF:Qq X.env.scope y:=(ok.free _ (jS Fx.1) rfl).elim (λk=> .inr (.inl k)) (λk=> .inr (.inr k));obtain⟨w,r,q⟩:=hl i y av e1 e2 VF;refine⟨w,r,.inr ⟨Fx.2,?_⟩⟩;obtain⟨c,h1,h2⟩:=look Fx.1;rcases q with⟨k,_⟩|⟨_,c',e',z⟩
  .have k:X.env.scope.names.lookup y=some .local:=k;rcases ok.free _ (jS Fx.1) rfl with k'|k'<;>rw[show X.env.scope.names.lookup y=_ from k'] at k<;>cases k
  .rw[h2] at e';cases e';exact⟨c,h1,z.keeps kp⟩
 .have e:gT.cells.lookup y=some c:=e;rcases mem e with⟨h1,_⟩|⟨_,z⟩
  .obtain⟨w,z⟩:=I.cell y c h1;exact⟨w,z.keeps kp⟩
  .exact⟨_,z⟩
 .show H gT.locals=none;rw[hL];exact I.cx.fresh (aS _)
 .have e:gT.cells.lookup y=some c:=e;rcases mem e with⟨h1,_⟩|⟨h1,_⟩
  .exact I.kC y c h1
  .exact I.cx.fresh (DR h1)
 .exact absurd (show p∈([]:List (Addr×Obj))++[] from hp) (by simp)
theorem OF{xs:List V}(I:Inv X aq σ H s)(hD:H D=some (.lst xs))(hz:xs.length<sizeLine)(r:RelV y v)(h:∀s',Inv X aq σ (upd H D (.lst (xs++[y]))) s'->Q .none s'):wpAny (model X.prog X.w) X.A (call (.builtin "list.append") [.ref D,v]) Q E s:=by obtain⟨KN,its,n,ri,e⟩:=I.cx D _ hD;have hl:=ri.length;refine append_at (hsz:=by rw[d5];omega) e λh' sb DZ=>?_;refine h {s with heap:=h'} (I.write (t':=s.toks) (by rw[hD];trivial) (.inl rfl) (λb u hb q=>(sb.2 b hb).trans q) ⟨_,DZ⟩ ⟨by rw[bb];exact hz,its++[v],n+1,ri.append (.cons r .nil),?_⟩);rw[DZ];simp
def RH(X:Cx)(ifs:List Expr)(t:TT):Prop:=
 ∀(aq:List (Addr×Obj))(s:Shared)(σ:St)(H:Hp)(Q:Bool->Hp->Prop),Inv X aq σ H s->t σ H Q->
  wpAny (model X.prog X.w) X.A (forIn ifs true λc r=>if r=true then do let ok<-isTrue c X.env (eval c X.env);pure (ForInStep.yield ok) else pure (ForInStep.yield r)) (TP X aq σ Q) X.xe s
def RI:TT:=λ_ H Q=>Q true H
theorem kG:RH X [] RI:=λ_ _ _ H _ I h=>wpAny_tests_nil ⟨H,I,h⟩
theorem kH{c:Expr}{t:TT}(h:PT X c t):RH X [c] t:=λaq s σ H Q I hw=>wpAny_tests_one (h aq s σ H Q I hw)
end
theorem Fy{α:Type}{t:Sem α}{Q Q':α->Shared->Prop}(h:wpAny M A t Q (λ_ _=>False) s)(hQ:∀a s,Q a s->Q' a s):wpAny M A t Q' E s:=ir h hQ λ_ _ z=>False.elim z
variable{elt iter:Expr}{ifs:List Expr}{pos:Pos}
theorem yQ{R:Result->Shared->Prop}{target:Expr}{it acc:Value}(I:Nat->Shared->Prop)(turn:∀n s,I n s->wpAny (model prog w) A (pyNext it) (λr s₁=>match r with
 |none=>R (.ok .next) s₁
 |some v=>wpAny (model prog w) A (letOwnedTupleGo target it v) (λ_ MP=>wpAny (model prog w) A (assign target env v) (λ_ s₂=>
  wpAny (model prog w) A (forIn ifs true λc r=>if r=true then do let ok<-isTrue c env (eval c env);pure (ForInStep.yield ok) else pure (ForInStep.yield r)) (λok s₃=>
   if ok=true then wpAny (model prog w) A (eval elt env) (λx s₄=>wpAny (model prog w) A (call (.builtin "list.append") [acc,x]) (λ_ s₅=>∃m,m<n/\I m s₅) (notedBy (model prog w) A env λe s'=>R (.error e) s') s₄) (notedBy (model prog w) A env λe s'=>R (.error e) s') s₃
   else∃m,m<n/\I m s₃) (notedBy (model prog w) A env λe s'=>R (.error e) s') s₂) (notedBy (model prog w) A env λe s'=>R (.error e) s') MP) (notedBy (model prog w) A env λe s'=>R (.error e) s') s₁) (notedBy (model prog w) A env λe s'=>R (.error e) s') s)(n:Nat)(h:I n s):
 codeAny (model prog w) A (.compLoop (.ListComp elt [⟨target,iter,ifs,0⟩] scope pos) 0 it acc env) R s:=by
 refine codeAny_loop rfl I (λn s hI=>?_) n h;show wpAny _ A ((compTurn (.ListComp elt [⟨target,iter,ifs,0⟩] scope pos) 0 it acc env).onRaise (λx=>do noteFrame x env;theTreesLotGoes x)) _ _ s;refine wpAny_noted ?_;rw[compTurn_list];refine a5 (wpAny_standAt (a5 (ir (turn n s hI) (λr s₁ h₁=>?_) λ_ _ h'=>h')));cases r with
 |none=>exact cY h₁
 |some v=>
  refine a5 (ir h₁ (λ_ MP RJ=>?_) λ_ _ h'=>h');refine a5 (ir RJ (λ_ s₂ h₂=>a5 (ir h₂ (λok s₃ h₃=>?_) λ_ _ h'=>h')) λ_ _ h'=>h');cases ok with
  |false=>exact cY ⟨rfl,h₃⟩
  |true=>exact a5 (a5 (ir h₃ (λx s₄ h₄=>a5 (ir h₄ (λ_ s₅ h₅=>cY (cY ⟨rfl,h₅⟩)) λ_ _ h'=>h')) λ_ _ h'=>h'))
variable{tg:Expr}{wi:TI}{g:TG}{tt:TT}{te:TE}
variable{py:Pos}
section
variable{X:Cx}
def T3(wi:TI)(g:TG)(tt:TT)(te:TE)(vs:List Nat):TE:=λσ H Q=>wi σ H λJ H1=>∀D,H1 D=none->∃W:Nat->Nat->Hp->Prop,(∃m,W 0 m (upd H1 D (.lst [])))/\∀i m H,W i m H->
 (J.stop i H/\Q (.ref D) H)\/(J.go i H/\∃Nx:Hp->Prop,(∀H',Nx H'->∃m',m'<m/\W (i+1) m' H')/\∀x H',J.GG i H x H'->g x (wipe σ vs) H' λσ2 H2=>wipe σ2 vs=wipe σ vs/\tt σ2 H2 λb H3=>if b=true then te σ2 H3 λy H4=>∃acc,H4 D=some (.lst acc)/\acc.length<sizeLine/\Nx (upd H4 D (.lst (acc++[y]))) else Nx H3)
theorem Ec{Q:VK}{pos':Pos}{use:Option (Value->Sem Unit)}{Qf:Value->Shared->Prop}(hc:X.calm=true)(hN:X.N.Nodup)(I:Inv X aq σ H s)(hi:PI X tg iter wi)(ok:xR X.N X.env.scope scope own)(hg:∀(s:Shared)(H:Hp)(C:Addr)(cl:List (Str×Addr))(fp:List Addr),PG (X.yP s H scope (compEnvC scope cl C X.env) fp) tg g)(ht:∀(s:Shared)(H:Hp)(C:Addr)(cl:List (Str×Addr))(fp:List Addr),RH (X.yP s H scope (compEnvC scope cl C X.env) fp) ifs tt)(he:∀(s:Shared)(H:Hp)(C:Addr)(cl:List (Str×Addr))(fp:List Addr),PE (X.yP s H scope (compEnvC scope cl C X.env) fp) elt te)(hs:∀x,foldedSetIterable iter X.env x=pure x)(h:T3 wi g tt te (own.map (·.2)) σ H Q)(Y8:∀D C s' m H',Inv X aq σ H' s'->Q (.ref D) H'->s'.heap.Ns C m->vd X aq H' C->compPost (model X.prog X.w) X.A X.xe use Qf (.ref D) C (.ok .next) s'):
 wpAny (model X.prog X.w) X.A (comprehension (.ListComp elt [⟨tg,iter,ifs,0⟩] scope pos) scope X.env pos' (newList []) false (eval iter X.env) use) Qf X.xe s:=by
 have xH:∀y∈scope.names,y.2= .free->∃c,X.env.cells.lookup y.1=some c:=λy hy e=>by
  rcases ok.free y hy e with k|k
  .exact I.ok.has _ (.inl k)
  .exact I.ok.has _ (.inr k)
 refine wpAny_comprehension_free (use:=use) rfl hs (Co xH) ok.kind (λy hy e=>by rw[ok.uniq y hy,e])
  (dU (hi aq s σ H _ I h) λxv s1 hx=>dU hx λVg s2 h2=>?_)
 obtain⟨it,fp,tn,J,H2,e,I2,T,TQ,f2,q⟩:=h2;subst e;refine G8 (Am ?_) (by show 0<=sizeLine;decide);generalize hD:s2.heap.objs.size=D;have Y9:H2 D=none:=I2.cx.fresh (xD hD);obtain⟨W,⟨m0,w0⟩,turn⟩:=q D Y9;generalize XD:({s2 with heap:=s2.heap.push {cls:= .type "list",data:= .seq ([]:List Value).toArray}}:Shared)=s3;have I3:Inv X aq σ (upd H2 D (.lst [])) s3:=by rw[<-XD];refine I2.laid (t':=s2.toks) (λb o e=>gq _ e) (xD hD) ⟨a_ _,[],0,.nil,?_⟩;rw[<-hD];exact jD _ rfl
 have h3:s3.heap=s2.heap.push {cls:= .type "list",data:= .seq ([]:List Value).toArray}:=by rw[<-XD]
 have sz:∀b∈fp,b<s2.heap.objs.size:=λb hb=>by obtain⟨o,e,_⟩:=T.obj _ _ TQ b hb;exact dh e
 have f3:∀b∈fp,vd X aq (upd H2 D (.lst [])) b/\b<s3.heap.objs.size:=λb hb=>by have fD:=sz b hb;refine⟨⟨?_,(f2 b hb).2⟩,by rw[h3,pM];exact tH fD⟩;rw[az (by rw[<-hD];exact cE fD)];exact(f2 b hb).1
 have TU:tn 0 s3.heap:=T.keep _ _ _ TQ λb _ o e=>by rw[h3];exact gq _ e
 have I4:=An I3 ok hN f3;have pg:=hg s3 (upd H2 D (.lst [])) s3.heap.objs.size (cellsFrom (s3.heap.objs.size+1) scope.names (cS X.env.cells scope.names [])) fp;have pt:=ht s3 (upd H2 D (.lst [])) s3.heap.objs.size (cellsFrom (s3.heap.objs.size+1) scope.names (cS X.env.cells scope.names [])) fp;have pe:=he s3 (upd H2 D (.lst [])) s3.heap.objs.size (cellsFrom (s3.heap.objs.size+1) scope.names (cS X.env.cells scope.names [])) fp;show codeAny _ _ (.compStart (.ListComp elt [⟨tg,iter,ifs,0⟩] scope pos) 0 (.ref it) (.ref D) (compEnvC scope (cellsFrom (s3.heap.objs.size+1) scope.names (cS X.env.cells scope.names [])) s3.heap.objs.size X.env)) (compPost (model X.prog X.w) X.A X.xe use Qf (.ref D) s3.heap.objs.size) {s3 with heap:=pushCells (s3.heap.push {cls:= .type "dict",data:= .dict #[]}) scope.names};have XE:∀b∈fp,(upd H2 D (.lst [])) b=none:=λb hb=>(f3 b hb).1.1;generalize Y_:compEnvC scope (cellsFrom (s3.heap.objs.size+1) scope.names (cS X.env.cells scope.names [])) s3.heap.objs.size X.env=ce at I4 pg pt pe⊢;have cL:ce.locals=s3.heap.objs.size:=by subst Y_;rfl
 generalize hH3:upd H2 D (.lst [])=H3 at I3 I4 pg pt pe w0 XE f3;generalize Y':({s3 with heap:=pushCells (s3.heap.push {cls:= .type "dict",data:= .dict #[]}) scope.names}:Shared)=s4 at I4⊢;have XF:tn 0 s4.heap:=T.keep _ _ _ TU λb _ o e=>by rw[<-Y'];exact DU _ _ _ _ (gq _ e)
 have Ce:∀{σ':St}{H':Hp}{s':Shared},Inv (X.yP s3 H3 scope ce fp) [] σ' H' s'->(∀b∈fp,H' b=none)->∀b∈fp,vd (X.yP s3 H3 scope ce fp) [] H' b:=λ{σ' H' s'} I' hn b hb=>⟨hn b hb,(I'.ok.TF b hb).1,I'.ok.G' b hb,.inl hb,λx c e=>(I'.ok.TF b hb).2 x c e,λp hp=>absurd (show p∈([]:List (Addr×Obj))++[] from hp) (by simp)⟩
 have loop:codeAny (model X.prog X.w) X.A (.compLoop (.ListComp elt [⟨tg,iter,ifs,0⟩] scope pos) 0 (.ref it) (.ref D) ce) (compPost (model X.prog X.w) X.A X.xe use Qf (.ref D) s3.heap.objs.size) s4:=by
  refine yQ (λn s'=>∃i H',Inv (X.yP s3 H3 scope ce fp) [] (wipe σ (own.map (·.2))) H' s'/\tn i s'.heap/\(∀b∈fp,H' b=none)/\W i n H') ?_ m0 ⟨0,H3,I4,XF,XE,w0⟩;rintro n s5 ⟨i,H5,I5,Qr,n5,w5⟩;rcases turn i n H5 w5 with⟨stop,qq⟩|⟨go,Nx,Za,step⟩
  .have td:=T.done (X.yP s3 H3 scope ce fp) rfl rfl rfl hc i [] s5 _ H5 (λ_ _=>False) I5 (Ce I5 n5) Qr stop;refine Fy td λr s6 ⟨hr,I6⟩=>?_;subst hr;have I7:Inv X aq σ H5 s6:=I3.Ri (ch:=fp) I6.os I6.base I6.cx I6.bare λb hb=>⟨(f3 b hb).1.2.2.2.1,(f3 b hb).1.2.1,(f3 b hb).1.2.2.2.2.1,(f3 b hb).1.2.2.2.2.2⟩;have nC:H5 s3.heap.objs.size=none:=by have z:H5 ce.locals=none:=I6.free;rw[cL] at z;exact z
   obtain⟨m,hn,_⟩:=I6.loc;have hn:s6.heap.Ns ce.locals m:=hn;rw[cL] at hn;exact Y8 D s3.heap.objs.size s6 m H5 I7 qq hn (I3.Fj (aS _) nC)
  .have ti:=T.item (X.yP s3 H3 scope ce fp) rfl rfl rfl hc i [] s5 _ H5 (λ_ _=>False) I5 (Ce I5 n5) Qr go;refine Fy ti λr s6 ⟨u,hr,h6⟩=>?_;subst hr;refine Fy h6 λ_ s7 ⟨x,H7,I7,r7,y7,VG,n7⟩=>?_;have Zb:=I7.pinned (Ce I7 n7) (T.obj _ _ VG);refine Fy (pg _ s7 _ H7 x u _ Zb r7 (step x H7 y7)) λ_ s8 ⟨σ8,H8,I8,XG,q8⟩=>?_;refine Fy (pt _ s8 σ8 H8 _ I8 q8) λb s9 ⟨H9,I9,q9⟩=>?_;have fin:∀{s':Shared}{H':Hp},Inv (X.yP s3 H3 scope ce fp) ([]++ve fp s7.heap) σ8 H' s'->Nx H'->∃m,m<n/\∃i H',Inv (X.yP s3 H3 scope ce fp) [] (wipe σ (own.map (·.2))) H' s'/\tn i s'.heap/\(∀b∈fp,H' b=none)/\W i m H':=λ{s' H'} I' nx=>by
    obtain⟨m',hm,w'⟩:=Za H' nx;have RK:∀b∈fp,∀o,s7.heap.get? b=some o->s'.heap.get? b=some o/\H' b=none:=λb hb o e=>
     let z:=I'.pin (b,o) (eM _ (eM _ (pO hb e)))
     ⟨z.1,z.2.1⟩
    have hl:(wipe σ (own.map (·.2))).length=σ8.length:=by rw[<-XG,nL]
    refine⟨m',hm,i+1,H',(I'.qP (aq:=[])).weak hl (λj v e=>?_),T.keep _ _ _ VG λb hb o e=>(RK b hb o e).1,λb hb=>?_,w'⟩
    .rw[<-XG] at e;exact(r0 e).1
    .obtain⟨o,e,_⟩:=T.obj _ _ VG b hb;exact(RK b hb o e).2
   cases b with
   |false=>simp only[GN,jT] at q9⊢;exact fin I9 q9
   |true=>simp only[m4] at q9⊢;refine Fy (pe _ s9 σ8 H9 _ I9 q9) λz MQ ⟨yv,T4,Zc,Zd,acc,VH,VI,nx⟩=>?_;exact OF (X:=X.yP s3 H3 scope ce fp) Zc VH VI Zd λs11 Ze=>fin Ze nx
 exact codeAny_compStart_list loop (T.self X.A 0 _ _ _ XF loop)
theorem kI(hc:X.calm=true)(hN:X.N.Nodup)(hi:PI X tg iter wi)(ok:xR X.N X.env.scope scope own)(hg:∀(s:Shared)(H:Hp)(C:Addr)(cl:List (Str×Addr))(fp:List Addr),PG (X.yP s H scope (compEnvC scope cl C X.env) fp) tg g)(ht:∀(s:Shared)(H:Hp)(C:Addr)(cl:List (Str×Addr))(fp:List Addr),RH (X.yP s H scope (compEnvC scope cl C X.env) fp) ifs tt)(he:∀(s:Shared)(H:Hp)(C:Addr)(cl:List (Str×Addr))(fp:List Addr),PE (X.yP s H scope (compEnvC scope cl C X.env) fp) elt te)(hs:∀x,foldedSetIterable iter X.env x=pure x:=by intro _;rfl):
 PE X (.ListComp elt [⟨tg,iter,ifs,0⟩] scope pos) (T3 wi g tt te (own.map (·.2))):=by
 intro aq s σ H Q I h;rw[eval_ListComp];refine Ec hc hN I hi ok hg ht he hs h λD C s' m H' I' q hn f=>⟨m,hn,λMR sb=>?_⟩;obtain⟨f0,f1,f2,f3,f4,f5⟩:=f;exact⟨.ref D,H',I'.turned (t':=s'.toks) (λb o hb e=>(sb.2 b hb).trans e) f0 f1 f3 f4 f5,rfl,q⟩
theorem Ap{i:Nat}{y:Str}{RL:Pos}(hc:X.calm=true)(hN:X.N.Nodup)(hy:X.N[i]?=some y)(XH:X.env.scope.names.lookup y=some .local)(Zf:swapsWith (.ListComp elt [⟨tg,iter,ifs,0⟩] scope pos) (some (.Name y py)) RL.line X.env=pure true)(hi:PI X tg iter wi)(ok:xR X.N X.env.scope scope own)(hg:∀(s:Shared)(H:Hp)(C:Addr)(cl:List (Str×Addr))(fp:List Addr),PG (X.yP s H scope (compEnvC scope cl C X.env) fp) tg g)(ht:∀(s:Shared)(H:Hp)(C:Addr)(cl:List (Str×Addr))(fp:List Addr),RH (X.yP s H scope (compEnvC scope cl C X.env) fp) ifs tt)(he:∀(s:Shared)(H:Hp)(C:Addr)(cl:List (Str×Addr))(fp:List Addr),PE (X.yP s H scope (compEnvC scope cl C X.env) fp) elt te)(hs:∀x,foldedSetIterable iter X.env x=pure x:=by intro _;rfl):
 PS X (.Assign [.Name y py] (.ListComp elt [⟨tg,iter,ifs,0⟩] scope pos) RL) (yK (T3 wi g tt te (own.map (·.2))) (fK i)):=by
 intro aq s σ H D I h;rw[exec_Assign_Name_used _ _ _ _ Zf];refine a5 (wpAny_standAt (a5 ?_));show wpAny _ X.A (do let _<-comprehension (.ListComp elt [⟨tg,iter,ifs,0⟩] scope pos) scope X.env (firstIterPos [⟨tg,iter,ifs,0⟩] pos) (newList []) false (eval iter X.env) (some (assign (.Name y py) X.env))) _ _ s;have h:T3 wi g tt te (own.map (·.2)) σ H (λx H1=>fK i x σ H1 D.nx):=h;refine a5 (dU (Ec (Qf:=λ_ s'=>SP X aq D .next s') hc hN I hi ok hg ht he hs h λL C s' m H' I' q hn f=>?_) λ_ s' hq=>cY (cY hq));show wpAny _ _ (assign (.Name y py) X.env (.ref L)) _ _ _;refine wpAny_assign_Name (xG (v:=V.ref L) I' hN hy (.inl XH) rfl (λs2 I2 ⟨a,sb,ha⟩=>?_) (.inr XH));obtain⟨f0,f1,f2,f3,f4,f5⟩:=f;have Zg:C≠a:=by
  rcases ha with z|z
  .rw[z];exact f1
  .exactλe=>f4 y a z e.symm
 refine⟨m,hn.sameBut sb Zg,λh3 Zh=>?_⟩;exact⟨_,H',I2.turned (t':=s2.toks) (λb o hb e=>(Zh.2 b hb).trans e) f0 f1 f3 f4 f5,q⟩
theorem Ed{gs:List Comprehension}{y:Str}{l:Nat}(hk:env.scope.kind= .function)(hy:env.scope.names.lookup y=some .local)(hl:(py.line==pos.line)=true)(ha:(scope.names.any λ(n,k)=>n==y&&(k== .local||k== .cell))=false):swapsWith (.ListComp elt gs scope pos) (some (.Name y py)) l env=pure true:=by
 have ky:env.kindOf y=some .local:=hy;have hb:env.blockKind= .function:=by unfold Env.blockKind;rw[hk];rfl
 unfold swapsWith;simp only[hb,ky,ha,Expr.pos,hl];rfl
end
variable{vs:List Nat}{H1:Hp}{Qd:Hp->Prop}
theorem Hx{lo:Int}(Pv:Nat->Hp->Prop)(h0:Pv 0 (upd H1 D (.lst [])))(hs:∀i H,i<n->Pv i H->g (.int (lo+i)) (wipe σ vs) H λσ2 H2=>wipe σ2 vs=wipe σ vs/\tt σ2 H2 λb H3=>
 if b=true then te σ2 H3 λy H4=>∃acc,H4 D=some (.lst acc)/\acc.length<sizeLine/\Pv (i+1) (upd H4 D (.lst (acc++[y]))) else Pv (i+1) H3)(hd:∀H,Pv n H->Qd H):
 ∃W:Nat->Nat->Hp->Prop,(∃m,W 0 m (upd H1 D (.lst [])))/\∀i m H,W i m H->
  ((Ku lo n).stop i H/\Qd H)\/((Ku lo n).go i H/\∃Nx:Hp->Prop,(∀H',Nx H'->∃m',m'<m/\W (i+1) m' H')/\∀x H',(Ku lo n).GG i H x H'->g x (wipe σ vs) H' λσ2 H2=>wipe σ2 vs=wipe σ vs/\tt σ2 H2 λb H3=>if b=true then te σ2 H3 λy H4=>∃acc,H4 D=some (.lst acc)/\acc.length<sizeLine/\Nx (upd H4 D (.lst (acc++[y]))) else Nx H3):=by
 refine⟨λi m H=>m=n - i/\i<=n/\Pv i H,⟨n,by simp,a_ _,h0⟩,?_⟩;rintro i m H ⟨rfl,hi,p⟩;by_cases fD:i<n
 .refine .inr ⟨fD,Pv (i+1),λH' p'=>⟨n - (i+1),by omega,rfl,fD,p'⟩,λx H' y=>?_⟩;obtain⟨e,y⟩:=y;subst e y;exact hs i _ fD p
 .have e:i=n:=by omega
  subst e;exact .inl ⟨aS _,hd H p⟩
variable{K:PySem.W.Frag}
theorem Ee{xs:List V}(Pv:Nat->Hp->Prop)(h0:Pv 0 (upd H1 D (.lst [])))(hl:∀i H,i<=xs.length->Pv i H->bf K H a xs)(hs:∀i x H,xs[i]?=some x->Pv i H->g x (wipe σ vs) H λσ2 H2=>wipe σ2 vs=wipe σ vs/\tt σ2 H2 λb H3=>
 if b=true then te σ2 H3 λy H4=>∃acc,H4 D=some (.lst acc)/\acc.length<sizeLine/\Pv (i+1) (upd H4 D (.lst (acc++[y]))) else Pv (i+1) H3)(hd:∀H,Pv xs.length H->Qd H):
 ∃W:Nat->Nat->Hp->Prop,(∃m,W 0 m (upd H1 D (.lst [])))/\∀i m H,W i m H->
  ((Hf K a).stop i H/\Qd H)\/((Hf K a).go i H/\∃Nx:Hp->Prop,(∀H',Nx H'->∃m',m'<m/\W (i+1) m' H')/\∀x H',(Hf K a).GG i H x H'->g x (wipe σ vs) H' λσ2 H2=>wipe σ2 vs=wipe σ vs/\tt σ2 H2 λb H3=>if b=true then te σ2 H3 λy H4=>∃acc,H4 D=some (.lst acc)/\acc.length<sizeLine/\Nx (upd H4 D (.lst (acc++[y]))) else Nx H3):=by
 refine⟨λi m H=>m=xs.length - i/\i<=xs.length/\Pv i H,⟨xs.length,by simp,a_ _,h0⟩,?_⟩;rintro i m H ⟨rfl,hi,p⟩;have q:=hl i H hi p;by_cases fD:i<xs.length
 .refine .inr ⟨⟨xs,xs[i],q,by simp[fD]⟩,Pv (i+1),λH' p'=>⟨xs.length - (i+1),by omega,rfl,fD,p'⟩,λx H' y=>?_⟩;obtain⟨e,y⟩:=y;subst e;exact hs i x _ (y xs q) p
 .have e:i=xs.length:=by omega
  subst e;exact .inl ⟨⟨xs,q,aS _⟩,hd H p⟩
def OG(N:List Str)(sc scope:Scope)(own:List (Str×Nat)):Bool:=
 (match scope.kind with| .function=>true|_=>false)&&(scope.names.all λy=>decide (scope.names.lookup y.1=some y.2))&&(own.all λp=>decide (N[p.2]?=some p.1))&&
  (scope.names.all λy=>match y.2 with
   | .free=>(match sc.names.lookup y.1 with|some .cell=>true|some .free=>true|_=>false)
   | .local=>decide (y.1∈own.map (·.1))||decide (y.1∉N)
   | .cell=>decide (y.1∈own.map (·.1))||decide (y.1∉N)
   |_=>true)
theorem Hy{N:List Str}{sc:Scope}(h:OG N sc scope own=true):xR N sc scope own:=by
 unfold OG at h;simp only[uQ,yH,qN] at h;obtain⟨⟨⟨h1,h2⟩,h3⟩,h4⟩:=h;refine⟨?_,h2,h3,λy hy e=>?_,λy hy e=>?_⟩
 .split at h1
  .assumption
  .cases h1
 .have q:=h4 y hy;simp only[e] at q;split at q<;>first|exact .inl (by assumption)|exact .inr (by assumption)|cases q
 .have q:=h4 y hy;rcases e with e|e<;>(simp only[e,rP,qN] at q;exact q)
variable{o:Option V}
section
variable{κ:Type}[DecidableEq κ]
def gU(a8:List (κ×V))(k:κ):Option V:=(a8.find? λkv=>decide (kv.1=k)).map (·.2)
def putK(a8:List (κ×V))(k:κ)(v:V):List (κ×V):=
 if(a8.any λkv=>decide (kv.1=k))=true then a8.map (λkv=>if kv.1=k then(kv.1,v) else kv) else a8++[(k,v)]
theorem fq{p:κ×V}{r:List (κ×V)}{k:κ}(e:p.1=k):gU (p::r) k=some p.2:=by simp[gU,rT,e]
theorem ft{p:κ×V}{r:List (κ×V)}{k:κ}(e:¬p.1=k):gU (p::r) k=gU r k:=by simp[gU,rT,e]
theorem nM(k:κ):∀a8:List (κ×V),(a8.any λkv=>decide (kv.1=k))=(gU a8 k).isSome
 |[]=>rfl
 |p::r=>by
  rw[uR];by_cases e:p.1=k
  .simp only[fq e,aR e,Bool.true_or,Option.isSome_some]
  .rw[ft e,cR e,Qo];exact nM k r
theorem Aq(k j:κ)(y:V):∀a8:List (κ×V),gU (a8.map λkv=>if kv.1=k then(kv.1,y) else kv) j=(gU a8 j).map λx=>if j=k then y else x
 |[]=>rfl
 |p::r=>by
  have ih:=Aq k j y r;rw[cA];by_cases h:p.1=k
  .rw[ao h];by_cases e:p.1=j
   .rw[fq (p:=(p.1,y)) e,fq e,tJ,ao (e.symm.trans h)]
   .rw[ft (p:=(p.1,y)) e,ft e,ih]
  .rw[ak h];by_cases e:p.1=j
   .rw[fq (p:=p) e,fq e,tJ,ak (λz=>h (e.trans z))]
   .rw[ft (p:=p) e,ft e,ih]
theorem xS(k j:κ)(y:V):∀a8:List (κ×V),gU a8 k=none->gU (a8++[(k,y)]) j=if j=k then some y else gU a8 j
 |[],_=>by
  by_cases e:k=j
  .rw[ao e.symm];exact fq (p:=(k,y)) e
  .rw[ak (λz=>e z.symm)];exact ft (p:=(k,y)) e
 |p::r,hn=>by
  rw[iW];have hk:¬p.1=k:=λz=>by rw[fq z] at hn;cases hn
  rw[ft hk] at hn;have ih:=xS k j y r hn;by_cases e:p.1=j
  .rw[fq e,fq e,ak (λz=>hk (e.trans z))]
  .rw[ft e,ft e,ih]
theorem Hz(a8:List (κ×V))(k j:κ)(y:V):gU (putK a8 k y) j=if j=k then some y else gU a8 j:=by
 unfold putK;by_cases a:(a8.any λkv=>decide (kv.1=k))=true
 .rw[ao a,Aq];rw[nM] at a;by_cases e:j=k
  .obtain⟨x,hx⟩:=G6.mp a;rw[ao e,e,hx,tJ,ao rfl]
  .rw[ak e];cases gU a8 j with
   |none=>rfl
   |some x=>rw[tJ,ak e]
 .rw[ak a];refine xS k j y a8 ?_;rw[nM] at a;cases q:gU a8 k with
  |none=>rfl
  |some x=>rw[q] at a;exact(a rfl).elim
theorem tQ(a8:List (κ×V))(k:κ)(v:V):(putK a8 k v).length<=a8.length+1:=by
 unfold putK;split
 .rw[aT];omega
 .rw[bb,cn,GX];omega
theorem HA{a8:List (κ×V)}{k:κ}(v:V)(h:gU a8 k=none):putK a8 k v=a8++[(k,v)]:=by unfold putK;rw[nM,h];exact ak (by decide)
theorem pN.r9{u:Option Value}(r:pN o u):o.isSome=u.isSome:=by
 cases o with
 |none=>cases u with
  |none=>rfl
  |some _=>exact(show False from r).elim
 |some _=>cases u with
  |none=>exact(show False from r).elim
  |some _=>rfl
theorem pN.getD{o:Option V}{u:Option Value}{d:V}{d':Value}(r:pN o u)(rd:RelV d d'):RelV (o.getD d) (u.getD d'):=by
 cases o with
 |none=>cases u with
  |none=>exact rd
  |some _=>exact(show False from r).elim
 |some _=>cases u with
  |none=>exact(show False from r).elim
  |some _=>exact r
theorem KV.val{a8:List (κ×V)}{vs:List (κ×Value)}(r:KV a8 vs)(k:κ):pN (gU a8 k) (valueAt vs k):=by
 unfold KV at r;induction r with
 |nil=>exact True.intro
 |@cons p q ps qs h t ih=>
  obtain⟨h1,h2⟩:=h;by_cases e:p.1=k
  .have e':q.1=k:=h1.symm.trans e;have b:valueAt (q::qs) k=some q.2:=by simp[valueAt,rT,e']
   rw[fq e,b];exact h2
  .have e':¬q.1=k:=λz=>e (h1.trans z);have b:valueAt (q::qs) k=valueAt qs k:=by simp[valueAt,rT,e']
   rw[ft e,b];exact ih
theorem KV.any{a8:List (κ×V)}{vs:List (κ×Value)}(r:KV a8 vs)(k:κ):(a8.any λkv=>decide (kv.1=k))=vs.any λkv=>decide (kv.1=k):=by
 unfold KV at r;induction r with
 |nil=>rfl
 |cons h t ih=>rw[uR,uR,ih,h.1]
theorem KV.OH{a8:List (κ×V)}{vs:List (κ×Value)}(r:KV a8 vs)(k:κ)(ry:RelV y u):
 KV (a8.map λkv=>if kv.1=k then(kv.1,y) else kv) (vs.map λkv=>if kv.1=k then(kv.1,u) else kv):=by
 unfold KV at r⊢;induction r with
 |nil=>exact .nil
 |@cons p q ps qs h t ih=>
  rw[cA,cA];refine .cons ?_ ih;obtain⟨h1,h2⟩:=h;by_cases e:p.1=k
  .rw[ao e,ao (h1.symm.trans e)];exact⟨h1,ry⟩
  .rw[ak e,ak (λz=>e (h1.trans z))];exact⟨h1,h2⟩
theorem KV.put{a8:List (κ×V)}{vs:List (κ×Value)}(r:KV a8 vs)(k:κ)(ry:RelV y u):KV (putK a8 k y) (stored vs k u):=by
 unfold putK stored;rw[r.any k];by_cases e:(vs.any λkv=>decide (kv.1=k))=true
 .rw[ao e,ao e];exact r.OH k ry
 .rw[ak e,ak e];exact Paired.snoc r ⟨rfl,ry⟩
theorem KV.length{a8:List (κ×V)}{vs:List (κ×Value)}(r:KV a8 vs):a8.length=vs.length:=u5 r
end
variable{P:Program}
theorem Ar{k:Key}(r:RelV (kV k) u):(dN P w).is k u=true:=by
 cases k with
 |inl i=>obtain⟨t,e⟩:=(show∃t,u=Value.int i t from r);subst e;exact z0 P w i t
 |inr x=>obtain⟨t,e⟩:=(show∃t,u=Value.str x t from r);subst e;exact z_ P w x t
theorem xT{P:Program}{w:World}:∀{ks:List Key}{us:List Value},Vals (ks.map kV) us->ItemsAre (dN P w) ks us
 |[],_,r=>by rw[List.map_nil] at r;cases r;exact .nil
 |k::ks,_,r=>by
  rw[cA] at r;cases r with
  |cons h t=>exact .cons (Ar h) (xT t)
abbrev KT(H:Hp):List (List Key×V)->List (List Key×Addr×Value)->Prop:=Paired λp q=>p.1=q.1/\H q.2.1=some (.tup (p.1.map kV))/\RelV p.2 q.2.2
variable{a8:List (List Key×V)}{xs:List (List Key×Addr×Value)}
theorem KT.val(r:KT H a8 xs)(k:List Key):pN (gU a8 k) ((atKey xs k).map (·.2)):=by
 induction r with
 |nil=>exact True.intro
 |@cons p q ps qs h t ih=>
  obtain⟨h1,_,h2⟩:=h;by_cases e:p.1=k
  .have e':q.1=k:=h1.symm.trans e;have b:atKey (q::qs) k=some q.2:=by simp[atKey,rT,e']
   rw[fq e,b];exact h2
  .have e':¬q.1=k:=λz=>e (h1.trans z);have b:atKey (q::qs) k=atKey qs k:=by simp[atKey,rT,e']
   rw[ft e,b];exact ih
theorem KT.OH(r:KT H a8 xs)(k:List Key)(ry:RelV y u):
 KT H (a8.map λkv=>if kv.1=k then(kv.1,y) else kv) (xs.map (putAt k u)):=by
 induction r with
 |nil=>exact .nil
 |@cons p q ps qs h t ih=>
  rw[cA,cA];refine .cons ?_ ih;obtain⟨h1,h2,h3⟩:=h;unfold putAt;by_cases e:p.1=k
  .rw[ao e,ao (h1.symm.trans e)];exact⟨h1,h2,ry⟩
  .rw[ak e,ak (λz=>e (h1.trans z))];exact⟨h1,h2,h3⟩
theorem KT.put(r:KT H a8 xs)(k:List Key){b:Addr}(hb:H b=some (.tup (k.map kV)))(ry:RelV y u):
 KT H (putK a8 k y) (storedH xs k b u):=by
 have e:(a8.any λkv=>decide (kv.1=k))=(atKey xs k).isSome:=by rw[nM,(r.val k).r9,Option.isSome_map]
 unfold putK storedH;rw[e];by_cases q:(atKey xs k).isSome=true
 .rw[ao q,ao q];exact r.OH k ry
 .rw[ak q,ak q];exact Paired.snoc r ⟨rfl,hb,ry⟩
variable{H':Hp}
theorem KT.keeps(r:KT H a8 xs)(ht:∀b ys,H b=some (.tup ys)->H' b=some (.tup ys)):KT H' a8 xs:=
 Paired.N5 r λ_ _ z=>⟨z.1,ht _ _ z.2.1,z.2.2⟩
section
variable{P:Program}{w:World}{H:Hp}{h:Heap}{a:Addr}
theorem MS{u:HO}(ok:nj P w H h)(e:Rd H a u):dj P w H h a u:=e.ok ok
theorem xU{a8:List (Key×V)}(ok:nj P w H h)(e:Rd H a (.dK a8)):a8.length<=sizeLine/\(a==sysModules)=false/\∃vs,KV a8 vs/\h.DictOf (dN P w) a vs:=
 show dj P w H h a (.dK a8) from MS ok e
theorem RM{a8:List (Key×V)}(ok:nj P w H h)(e:H a=some (.dK a8)):a8.length<=sizeLine/\(a==sysModules)=false/\∃vs,KV a8 vs/\h.DictOf (dN P w) a vs:=xU ok (.inl e)
theorem vo{ks:List Key}(ok:nj P w H h)(e:H a=some (.tup (ks.map kV))):(tupleKind (dN P w)).is h ks a:=by obtain⟨_,its,r,o,h1,h2,n,h3⟩:=(show dj P w H h a (.tup (ks.map kV)) from ok a _ e);exact⟨o,its.toArray,n,h1,h2,h3,by simpa using xT r⟩
theorem xV(ok:nj P w H h)(e:Rd H a (.dT a8)):a8.length<=sizeLine/\(a==sysModules)=false/\
 ∃xs,KT H a8 xs/\h.DictOfH (tupleKind (dN P w)) a xs:=by
 obtain⟨z,y,xs,r,o,es,ep,h1,h2,h3,h4,h5⟩:=(show dj P w H h a (.dT a8) from MS ok e);refine⟨z,y,xs,r,o,es,ep,h1,h2,h3,h4,λx hx=>?_,h5⟩;have all:∀{l:List (List Key×V)}{m:List (List Key×Addr×Value)},KT H l m->∀x∈m,(tupleKind (dN P w)).is h x.1 x.2.1:=by
  intro l m q;induction q with
  |nil=>intro x hx;exact nomatch hx
  |@cons p q ps qs hq t ih=>
   intro x hx;rcases bZ.mp hx with e|hx
   .subst e;exact vo ok (by rw[<-hq.1];exact hq.2.1)
   .exact ih x hx
 exact all r x hx
theorem RN(ok:nj P w H h)(e:H a=some (.dT a8)):a8.length<=sizeLine/\(a==sysModules)=false/\
 ∃xs,KT H a8 xs/\h.DictOfH (tupleKind (dN P w)) a xs:=xV ok (.inl e)
end
def pQ(H:Hp)(a:Addr)(y:V)(r:Option V):Prop:=
 (∃a8 k,Rd H a (.dK a8)/\y=kV k/\r=gU a8 k)\/∃a8 k b,Rd H a (.dT a8)/\y= .ref b/\H b=some (.tup (k.map kV))/\r=gU a8 k
def Cp(H:Hp)(a:Addr)(y v:V)(H':Hp):Prop:=
 (∃a8 k,H a=some (.dK a8)/\y=kV k/\a8.length<sizeLine/\H'=upd H a (.dK (putK a8 k v)))\/
 ∃a8 k b,H a=some (.dT a8)/\y= .ref b/\H b=some (.tup (k.map kV))/\a8.length<sizeLine/\H'=upd H a (.dT (putK a8 k v))
theorem pQ.k{H:Hp}{a:Addr}{a8:List (Key×V)}{k:Key}(e:H a=some (.dK a8)):pQ H a (kV k) (gU a8 k):= .inl ⟨a8,k,.inl e,rfl,rfl⟩
theorem Cp.k{H:Hp}{a:Addr}{a8:List (Key×V)}{k:Key}{v:V}(e:H a=some (.dK a8))(hl:a8.length<sizeLine):Cp H a (kV k) v (upd H a (.dK (putK a8 k v))):= .inl ⟨a8,k,e,rfl,hl,rfl⟩
variable{h':Heap}{ob:HO}
section
variable{X:Cx}{aq:List (Addr×Obj)}{σ:St}{H:Hp}{s:Shared}{a:Addr}{y v:V}{u r:Value}{o:Option V}{A:Around}{E:Value->Shared->Prop}
theorem Inv.big(I:Inv X aq σ H s):sysModules<s.heap.objs.size:=by have h:mainGlobals<s.heap.objs.size:=(I.mod.glob.keeps I.bk).lt;exact Nat.lt_trans (by decide) h
theorem Fz(hu:A.units+1<cLine)(I:Inv X aq σ H s)(g:pQ H a y (some v))(ry:RelV y u)(h:∀w' s',Inv X aq σ H s'->RelV v w'->Q w' s'):
 wpAny (model X.prog X.w) A (getItem (.ref a) u) Q E s:=by
 rcases g with⟨a8,k,e,ey,l⟩|⟨a8,k,b,e,ey,eb,l⟩
 .subst ey;obtain⟨z,hd,vs,rel,dd⟩:=xU I.cx e;obtain⟨w',hw,Fu⟩:=pN.some_of (v:=v) (o:=valueAt vs k) (by rw[l];exact rel.val k);exact wpAny_getItem_of (Ar ry) dd.mapOf hw (h w' _ (I.tok _) Fu)
 .subst ey;cases(show u=Value.ref b from ry);obtain⟨z,hd,xs,rel,dd⟩:=xV I.cx e;obtain⟨w',hw,Fu⟩:=pN.some_of (v:=v) (o:=(atKey xs k).map (·.2)) (by rw[l];exact rel.val k);obtain⟨p,hp,Cq⟩:=Option.map_eq_some_iff.mp hw;refine wpAny_getItem_heap (DV hu) (vo I.cx eb) dd hp ?_;rw[Cq];exact h w' _ (I.tok _) Fu
theorem VJ(hu:A.units+1<cLine)(I:Inv X aq σ H s)(g:pQ H a y o)(ry:RelV y u)(h:∀s',Inv X aq σ H s'->Q (.bool o.isSome) s'):
 wpAny (model X.prog X.w) A (compareOp .In u (.ref a)) Q E s:=by
 rcases g with⟨a8,k,e,ey,l⟩|⟨a8,k,b,e,ey,eb,l⟩
 .subst ey;obtain⟨z,hd,vs,rel,dd⟩:=xU I.cx e;refine wpAny_in_of (Ar ry) hd dd.mapOf ?_;rw[<-(rel.val k).r9,<-l];exact h _ (I.tok _)
 .subst ey;cases(show u=Value.ref b from ry);obtain⟨z,hd,xs,rel,dd⟩:=xV I.cx e;refine wpAny_in_heap (DV hu) (vo I.cx eb) hd dd ?_;have q:=(rel.val k).r9;rw[Option.isSome_map] at q;rw[<-q,<-l];exact h _ (I.tok _)
theorem Ef(I:Inv X aq σ H s)(mu:Kq (H a))(hs:Heap.SameBut a s.heap h')(he:∃q,h'.get? a=some q)(new:dj X.prog X.w (upd H a ob) h' a ob):
 Inv X aq σ (upd H a ob) {s with heap:=h',toks:=t'}:=
 I.write (x:=a) (e:=a) mu (.inl rfl) (λb q hb z=>(hs.2 b hb).trans z) he new
theorem OI{a8:List (Key×V)}{vs:List (Key×Value)}(z:a8.length<=sizeLine)(hd:(a==sysModules)=false)(rel:KV a8 vs)(dd:h'.DictOf (dN P w) a vs):
 dj P w H' h' a (.dK a8):=⟨z,hd,vs,rel,dd⟩
theorem FA{Q:Unit->Shared->Prop}(hu:A.units+1<cLine)(I:Inv X aq σ H s)(g:Cp H a y v H')(ry:RelV y u)(rv:RelV v r)(h:∀s',Inv X aq σ H' s'->Q () s'):
 wpAny (model X.prog X.w) A (setItem (.ref a) u r) Q E s:=by
 rcases g with⟨a8,k,e,ey,l,eH⟩|⟨a8,k,b,e,ey,eb,l,eH⟩
 .subst ey eH;obtain⟨z,hd,vs,rel,dd⟩:=RM I.cx e;have hz:vs.length<=sizeLine:=by rw[<-rel.length];exact z
  have hl:(putK a8 k v).length<=sizeLine:=by have:=tQ a8 k v;omega
  refine wpAny_setItem_pairs (hsz:=hz) (Ar ry) dd λh' T5 hs=>h _ ?_;have he:∃q,h'.get? a=some q:=let ⟨q,_,_,hq,_⟩:=T5;⟨q,hq⟩;exact Ef I (by rw[e];exact True.intro) hs he (OI hl hd (rel.put k rv) T5)
 .subst ey eH;cases(show u=Value.ref b from ry);obtain⟨z,hd,xs,rel,dd⟩:=RN I.cx e;have hz:xs.length<=sizeLine:=by rw[<-u5 rel];exact z
  have hl:(putK a8 k v).length<=sizeLine:=by have:=tQ a8 k v;omega
  refine wpAny_setItem_heap (hsz:=hz) (DV hu) (vo I.cx eb) dd λh' T5 hs=>h _ ?_;obtain⟨q,es,ep,hq,h2,h3,h4,_,h5⟩:=T5;refine Ef I (by rw[e];exact True.intro) hs ⟨q,hq⟩ ⟨hl,hd,_,(rel.put k eb rv).keeps λc ys ec=>?_,q,es,ep,hq,h2,h3,h4,h5⟩;rw[az (jz ec e (λz=>nomatch z))];exact ec
end
def RO(i:Expr):Prop:=∀ov iv,subscripted i false ov iv=operate [ov,iv] (getItem ov iv)
theorem KO{value slice:Expr}{T id:String}(hl:typeLookup (.type T) "__getitem__"=pure (some (.builtin id)))(hs:RO slice)(h:wpAny (model prog w) A (eval value env) (λo s₁=>wpAny (model prog w) A (eval slice env) (λi s₂=>s₂.TypeIs o T/\wpAny (model prog w) A (getItem o i) Q E s₂) E s₁) E s):
 wpAny (model prog w) A (eval (.Subscript value slice pos) env) Q E s:=by
 refine Subscript_ (ir h (λo s₁ h₁=>ir h₁ (λi s₂ h₂=>?_) λ_ _ x=>x) λ_ _ x=>x);obtain⟨hT,h₂⟩:=h₂;unfold subscriptTail;refine a5 ?_;rw[getitemInPython_of_ne hT.not_modules];refine a5 (wpAny_specialOf hT hl ?_);have fin:wpAny (model prog w) A (subscripted slice false o i) (λr s₃=>wpAny (model prog w) A (letTemporaryGo value o r>>=λ_=>pure r) Q E s₃) E s₂:=by rw[hs o i];exact wpAny_operating (ir h₂ (λr s₃ h₃=>a5 (wpAny_letTemporaryGo (cY h₃))) λ_ _ x=>x)
 first
  |exact cY (a5 fin)
  |exact a5 (cY (a5 fin))
  |exact a5 fin
variable{X:Cx}
theorem As(I:Inv X aq σ H s)(g:pQ H a y o):s.TypeIs (.ref a) "dict":=by
 rcases g with⟨a8,k,e,_,_⟩|⟨a8,k,b,e,_,_,_⟩
 .obtain⟨_,_,vs,_,dd⟩:=xU I.cx e;exact dd.typeIs
 .obtain⟨_,_,xs,_,dd⟩:=xV I.cx e;exact dd.typeIs
def RP(td ty:TE):TE:=λσ H Q=>td σ H λx H1=>ty σ H1 λy H2=>∃a v,x= .ref a/\pQ H2 a y (some v)/\Q v H2
def VL(ty td:TE):TE:=λσ H Q=>ty σ H λy H1=>td σ H1 λx H2=>∃a o,x= .ref a/\pQ H2 a y o/\Q (.bl o.isSome) H2
def RQ(td ty tv:TE):TS:=λD σ H=>tv σ H λv H1=>td σ H1 λx H2=>ty σ H2 λy H3=>∃a H4,x= .ref a/\Cp H3 a y v H4/\D.nx σ H4
section
variable{X:Cx}{o i e value:Expr}{pos pos' vk:Pos}{td ty tv:TE}
theorem uA(hu:X.A.units+1<cLine)(ho:PE X o td)(hi:PE X i ty)(hs:RO i):PE X (.Subscript o i pos) (RP td ty):=by intro aq s σ H Q I h;refine KO PySem.F.slot_dict_getitem.lookup hs (dU (ho aq s σ H _ I h) λu s1 ⟨x,H1,I1,rx,q1⟩=>dU (hi aq s1 σ H1 _ I1 q1) λiv s2 ⟨y,H2,I2,ry,a,v,ex,g,q2⟩=>?_);subst ex;obtain rfl:u=Value.ref a:=rx;exact⟨As I2 g,Fz hu I2 g ry λw' s3 I3 Fu=>⟨v,H2,I3,Fu,q2⟩⟩
theorem OJ(hu:X.A.units+1<cLine)(hi:PE X i ty)(ho:PE X o td):PC X .In i o (VL ty td):=by intro aq s σ H Q I h;refine dU (hi aq s σ H _ I h) λiv s1 ⟨y,H1,I1,ry,q1⟩=>dU (ho aq s1 σ H1 _ I1 q1) λu s2 ⟨x,H2,I2,rx,a,ov,ex,g,q2⟩=>?_;subst ex;obtain rfl:u=Value.ref a:=rx;exact VJ hu I2 g ry λs3 I3=>⟨.bl ov.isSome,H2,I3,rfl,q2⟩
theorem yR(hu:X.A.units+1<cLine)(ho:PE X o td)(hi:PE X i ty)(hv:PE X value tv)(hs:swapsWith value (some (.Subscript o i pos')) pos.line X.env=pure false):
 PS X (.Assign [.Subscript o i pos'] value pos) (RQ td ty tv):=by
 intro aq s σ H D I h;refine wpAny_Assign_Subscript (dU (hv aq s σ H _ I h) λr s1 ⟨v,H1,I1,rv,q1⟩=>dU (ho aq s1 σ H1 _ I1 q1) λu s2 ⟨x,H2,I2,rx,q2⟩=>dU (hi aq s2 σ H2 _ I2 q2) λiv s3 ⟨y,H3,I3,ry,a,H4,ex,g,q3⟩=>?_) hs;subst ex;obtain rfl:u=Value.ref a:=rx;exact FA hu I3 g ry rv λs4 I4=>⟨σ,H4,I4,q3⟩
end
theorem HB(h:Heap)(hb:sysModules<h.objs.size):dj P w H (h.push {cls:= .type "dict",data:= .dict #[]}) h.objs.size (.dK []):=
 ⟨a_ _,ny.mpr (mZ (cE hb)),[],.nil,Heap.DictOf.new h⟩
def OK:TE:=λ_ H Q=>∀p,H p=none->Q (.ref p) (upd H p (.dK []))
section
variable{X:Cx}{pos:Pos}
theorem Au:PE X (.Dict [] [] pos) OK:=λaq s σ H Q I h=>wpAny_Dict_empty ⟨.ref s.heap.objs.size,_,I.laid (a:=s.heap.objs.size) (o:= .dK []) (t':=s.toks) (λ_ _ q=>gq _ q) (aS _) (HB s.heap I.big),rfl,h _ (I.cx.fresh (aS _))⟩
end
structure M2(X:Cx)(o:Expr)(m:Str)(apos:Pos)(e f:Expr)(k7:Pos):Prop where
 base:attributeBase o m X.env (eval o X.env)=eval o X.env
 Zi:((backTo k7 (starEach [e,f] X.env)).all (λx=> !x.1)&&(backToKw k7 (keywordEach [] X.env)).all (λx=>x.1.isSome)
  &&decide (([e,f]:List Expr).length+([]:List Keyword).length+(if([]:List Keyword).isEmpty then 0 else 1)<30))=true
 line:(apos.endLine==k7.line)=true
 trees:backTo k7 (starEach [e,f] X.env)=[(false,eval e X.env),(false,eval f X.env)]
def XI(H:Hp)(a:Addr):Prop:=(∃a8,Rd H a (.dK a8))\/∃a8,Rd H a (.dT a8)
theorem OM(I:Inv X aq σ H s)(d:XI H a):
 s.TypeIs (.ref a) "dict"/\(∀b,Value.ref a= .ref b->∃ob,s.heap.get? b=some ob/\ob.dict=none)/\(a==sysModules)=false:=by
 rcases d with⟨a8,e⟩|⟨a8,e⟩
 .obtain⟨_,hd,vs,_,dd⟩:=xU I.cx e;refine⟨dd.typeIs,λb q=>?_,hd⟩;cases q;obtain⟨ob,_,_,h1,h2,_⟩:=dd;exact⟨ob,h1,h2.2.1⟩
 .obtain⟨_,hd,xs,_,dd⟩:=xV I.cx e;refine⟨dd.typeIs,λb q=>?_,hd⟩;cases q;obtain⟨ob,_,_,h1,h2,_⟩:=dd;exact⟨ob,h1,h2.2.1⟩
section
variable{X:Cx}{aq:List (Addr×Obj)}{σ:St}{H:Hp}{s:Shared}{a:Addr}{y d:V}{u r:Value}{o:Option V}{A:Around}{E:Value->Shared->Prop}
theorem ON(hu:A.units+1<cLine)(I:Inv X aq σ H s)(g:pQ H a y o)(ry:RelV y u)(rd:RelV d r)(h:∀w' s',Inv X aq σ H s'->RelV (o.getD d) w'->Q w' s'):
 wpAny (model X.prog X.w) A (call (.builtin "dict.get") [.ref a,u,r]) Q E s:=by
 rcases g with⟨a8,k,e,ey,l⟩|⟨a8,k,b,e,ey,eb,l⟩
 .subst ey;obtain⟨z,hd,vs,rel,dd⟩:=xU I.cx e;refine call_meetsIn G7 dd.typeIs PySem.F.entry_dict_get (Mz _ _ _) (meets_dict_get_default (dN X.prog X.w) a (Ar ry) hd r) ⟨_,dd.mapOf,h _ _ (I.tok _) ?_⟩;rw[l];exact(rel.val k).getD rd
 .subst ey;cases(show u=Value.ref b from ry);obtain⟨z,hd,xs,rel,dd⟩:=xV I.cx e;refine call_meetsIn G7 dd.typeIs PySem.F.entry_dict_get (Mz _ _ _) (meetsH_dict_get_default (tupleKind (dN X.prog X.w)) a b hd r) ⟨DV hu,k,xs,vo I.cx eb,dd,h _ _ (I.tok _) ?_⟩;rw[l];exact(rel.val k).getD rd
end
def OP(td ty tx:TE):TE:=λσ H Q=>td σ H λx H1=>∃a,x= .ref a/\XI H1 a/\ty σ H1 λy H2=>tx σ H2 λz H3=>∃o,pQ H3 a y o/\Q (o.getD z) H3
section
variable{X:Cx}{o e f:Expr}{apos k7:Pos}{td ty tx:TE}
theorem HC(hu:X.A.units+1<cLine)(ho:PE X o td)(he:PE X e ty)(hf:PE X f tx)(m:M2 X o "get" apos e f k7):PE X (.Call (.Attribute o "get" apos) [e,f] [] k7) (OP td ty tx):=by
 intro aq s σ H Q I h;refine wpAny_Call_method m.base m.Zi m.line PySem.F.plainAttrs_dict G7 PySem.F.type_dict_get (dU (ho aq s σ H _ I h) λu s1 ⟨x,H1,I1,rx,a,ex,d,q1⟩=>?_);subst ex;obtain rfl:u=Value.ref a:=rx;obtain⟨t1,t2,_⟩:=OM I1 d;refine⟨t1,t2,?_⟩;rw[m.trees];refine Kd rfl (ND (GO (dU (he aq s1 σ H1 _ I1 q1) λiv s2 ⟨y,H2,I2,ry,q2⟩=>GO (dU (hf aq s2 σ H2 _ I2 q2) λfv s3 ⟨z,H3,I3,rz,ov,g,q3⟩=>Ke ?_))))
 exact ON hu I3 g ry rz λw' s4 I4 Fu=>⟨_,H3,I4,Fu,q3⟩
end
theorem vp:bootBuiltins "reversed"=some (.type "reversed"):=by decide+kernel
variable{d:Addr}
section
variable{X:Cx}{aq:List (Addr×Obj)}{σ:St}{H:Hp}{s:Shared}{h':Heap}
theorem Inv.r_{ch:List Addr}{T:Addr}(I:Inv X aq σ H s)(k:∀b o,b∉ch->s.heap.get? b=some o->h'.get? b=some o)(hf:∀b∈ch,vd X aq H b)(hT:s.heap.objs.size<=T)(new:dj X.prog X.w (upd H T ob) h' T ob):Inv X aq σ (upd H T ob) {s with heap:=h',toks:=t'}:=by
 have hn:H T=none:=I.cx.fresh hT;have Rf:∀b u,H b=some u->b∉ch:=λb u e z=>by have q:=(hf b z).1;rw[q] at e;cases e
 refine I.step (g':=s.gens) (d':=s.drawn) (ch:=ch) (λb hb=>⟨(hf b hb).2.2.2.1,(hf b hb).2.1,(hf b hb).2.2.2.2.1,(hf b hb).2.2.2.2.2⟩) (λb o _ _ hc e _=>k b o hc e) (λb o _ _ hc e _=>⟨o.slots,k b o hc e⟩)
  (λb o _ e n=>?_) (λb o hc e=>⟨o,k b o hc e⟩) (λb xs e=>?_) (λb o u e=>?_) (λb ps e=>⟨#[],?_⟩) (λm hm=>?_) (λb u e=>?_) I.bare
 .rw[az (cE (dH (dh e) hT))];exact n
 .rw[az (bc e hn)];exact e
 .rw[az (bc e hn)];exact e
 .rw[az (bc e hn),e];simp
 .obtain⟨o,es,ep,ho,r⟩:=hm;exact⟨o,es,ep,k _ o (λz=>(hf _ z).2.1 rfl) ho,r⟩
 .by_cases hb:b=T
  .subst hb;rw[ah] at e;cases e;exact new
  .rw[az hb] at e;refine(I.cx b u e).ui (λc v hc q=>k c v ?_ q) (λc q=>by rw[az (bc q hn)];exact q) λc xs q=>by rw[az (bc q hn)];exact q
   rcases hc with z|z
   .rw[z];exact Rf b u e
   .exact Rf c _ z
theorem Inv.lock{u:HO}(I:Inv X aq σ H s)(h:H d=some u)(mu:Kq (some u)):∃od,Inv X aq σ (upd H d (.jO od u)) s:=by
 have x:=I.cx d u h;have ex:∃od,s.heap.get? d=some od:=by
  cases u with
  |lst xs=>obtain⟨_,_,_,_,e⟩:=x;exact⟨_,e⟩
  |dK a8=>obtain⟨_,_,_,_,o,_,_,e,_⟩:=x;exact⟨o,e⟩
  |dT a8=>obtain⟨_,_,_,_,o,_,_,e,_⟩:=x;exact⟨o,e⟩
  |set S n=>obtain⟨o,_,_,_,e,_⟩:=x;exact⟨o,e⟩
  |ins C dx fs=>obtain⟨_,_,_,e,_⟩:=x;exact⟨_,e⟩
  |ext φ=>obtain⟨_,⟨_,e⟩,_⟩:=x;exact⟨_,e⟩
  |_=>exact False.elim mu
 obtain⟨od,e⟩:=ex;have new:dj X.prog X.w (upd H d (.jO od u)) s.heap d (.jO od u):=by
  refine⟨e,x.ui (λb v _ q=>q) (λb q=>?_) λb xs q=>?_⟩
  .rw[az (λz=>by rw[z,h] at q;cases q;exact mu)];exact q
  .rw[az (λz=>by rw[z,h] at q;cases q;exact mu)];exact q
 exact⟨od,I.write (x:=d) (e:=d) (t':=s.toks) (h':=s.heap) (by rw[h];exact mu) (.inl rfl) (λb v _ q=>q) ⟨od,e⟩ new⟩
theorem Inv.RR{u:HO}(I:Inv X aq σ H s)(h:H d=some u)(mu:Kq (some u)):∀o' u',X.Oa d≠some (.jO o' u'):=λo' u' e=>by have q:=I.base.uj d o' u' e;rw[h] at q;cases q;exact mu
theorem Inv.unlock{od:Obj}{u:HO}(I:Inv X aq σ H s)(h:H d=some (.jO od u))(hn:∀o' u',X.Oa d≠some (.jO o' u')):Inv X aq σ (upd H d u) s:=by
 have Qw:∀b o,H b=some o->(∀o' u',o≠ .jO o' u')->b≠d:=λb o e fk z=>by rw[z,h] at e;cases e;exact fk _ _ rfl
 have neN:∀b,H b=none->b≠d:=λb e z=>by rw[z,h] at e;cases e
 refine⟨I.ok,I.os,I.bare,⟨I.base.keep,I.base.slot,λb o e n hx=>?_,I.base.there,λb xs e=>?_,λb o x e=>?_,λb ps e=>?_⟩,I.loc,I.cell,?_,λx c e=>?_,λp hp=>?_,λb o e=>?_,I.len⟩
 .rw[az (neN b (I.base.free b o e n hx))];exact I.base.free b o e n hx
 .have q:=I.base.xk b xs e;rw[az (Qw b _ q (λ_ _ z=>nomatch z))];exact q
 .have q:=I.base.uj b o x e;rw[az (λz=>by rw[z] at e;exact hn _ _ e)];exact q
 .obtain⟨m,q⟩:=I.base.u9 b ps e;exact⟨m,by rw[az (Qw b _ q (λ_ _ z=>nomatch z))];exact q⟩
 .rw[az (neN _ I.free)];exact I.free
 .rw[az (neN c (I.kC x c e))];exact I.kC x c e
 .obtain⟨e,n,r⟩:=I.pin p hp;exact⟨e,by rw[az (neN _ n)];exact n,r⟩
 .by_cases hb:b=d
  .rw[hb,ah] at e;cases e;rw[hb];obtain⟨_,x⟩:=I.cx d _ h;exact x.ui (λc v _ q=>q) (λc q=>by rw[az (Qw c _ q (λ_ _ z=>nomatch z))];exact q) λc xs q=>by rw[az (Qw c _ q (λ_ _ z=>nomatch z))];exact q
  .rw[az hb] at e;exact(I.cx b o e).ui (λc v _ q=>q) (λc q=>by rw[az (Qw c _ q (λ_ _ z=>nomatch z))];exact q) λc xs q=>by rw[az (Qw c _ q (λ_ _ z=>nomatch z))];exact q
end
def OQ(t:TE):TE:=λσ H Q=>∃d u,H d=some u/\Kq (some u)/\∀od,t σ (upd H d (.jO od u)) λv H'=>H' d=some (.jO od u)/\Q v (upd H' d u)
variable{e:Expr}
section
variable{X:Cx}
theorem Eg{t:TE}(h:PE X e t):PE X e (OQ t):=by intro aq s σ H Q I hw;obtain⟨d,u,hd,mu,hw⟩:=hw;obtain⟨od,I1⟩:=I.lock hd mu;refine dU (h aq s σ _ _ I1 (hw od)) λv s1 ⟨x,H1,I2,r,e2,q⟩=>?_;exact⟨x,_,I2.unlock e2 (I.RR hd mu),r,q⟩
theorem Cr{R:It->Hp->Prop}{J:It}{tn:Nat->Heap->Prop}{tk:Nat}(I:Inv X aq σ H s)(o:Obj)(T:Turn X.prog X.w X.K tg J [s.heap.objs.size] s.heap.objs.size tn)(st:tn 0 (s.heap.push o))(q:R J H):TN X aq σ tg R (.ref s.heap.objs.size) {s with heap:=s.heap.push o,toks:=tk}:=by
 refine⟨s.heap.objs.size,[s.heap.objs.size],tn,J,H,rfl,I.kept λb ob e=>gq _ e,T,st,λb hb=>?_,q⟩;have e:b=s.heap.objs.size:=by simpa using hb
 subst e;exact I.Fj (aS _) (I.cx.fresh (aS _))
end
def RS(x:Str):It:=⟨λi _=>i<x.cps.size,λi H v H'=>H'=H/\∃c,x.cps[i]?=some c/\v= .str ⟨#[c]⟩,λi _=>x.cps.size<=i⟩
theorem Av(it:Addr)(x:Str)(t:Tok)(ty:String)(MO:ty="str_ascii_iterator"\/ty="str_iterator"):
 Turn P w K tg (RS x) [it] it (λi h=>h.IsStrIter it ty x t i) where
 mem:=by simp
 obj:=λi h st b hb=>by
  have e:b=it:=by simpa using hb
  subst e;obtain⟨o,e,c,d⟩:=st;exact⟨o,e,λv z=>by rw[d] at z;cases z⟩
 keep:=λi h h' st k=>let ⟨o,ho,r⟩:=st;⟨o,k it (by simp) o ho,r⟩
 item:=by
  intro X hP hw hK hc i aq s σ H E I hf st hg;subst hP hw hK;obtain⟨f0,f1,f2,f3,f4,f5⟩:=hf it (by simp);have W:Walks X.prog X.w X.A it [it] [it] x.cps.size (SignAt x) (λi h=>h.IsStrIter it ty x t i):=by
   rcases MO with e|e
   .rw[e];exact Walks.strAscii (I.ok.hd hc) it x t
   .rw[e];exact Walks.strWide (I.ok.hd hc) it x t
  have rO:["enumerate","zip","dict_itemiterator","dict_reverseitemiterator","odict_iterator","itertools.zip_longest","itertools.pairwise"].contains ty=false:=by
   rcases MO with e|e
   .rw[e];decide
   .rw[e];decide
  refine W.item i s _ _ hg st λv h' tk hv Fm kk=>?_;obtain⟨c,u,Zj,rfl⟩:=hv;have I1:Inv X aq σ H {s with heap:=h',toks:=tk}:=I.turned (λb o hb e=>kk b o (by simpa using hb) e) f0 f1 f3 f4 f5;obtain⟨oi,e,cc,dd⟩:=id Fm;exact⟨_,rfl,He (s:={s with heap:=h',toks:=tk}) e cc dd rO ⟨.str ⟨#[c]⟩,H,I1,⟨u,rfl⟩,⟨rfl,c,Zj,rfl⟩,Fm,λb hb=>(hf b hb).1⟩⟩
 done:=by
  intro X hP hw hK hc i aq s σ H E I hf st hg;subst hP hw hK;obtain⟨f0,f1,f2,f3,f4,f5⟩:=hf it (by simp);have hx:x.cps[i]?=none:=Array.getElem?_eq_none hg;rcases MO with e|e
  .rw[e] at st;exact wpAny_pyNext_ascii_end (I.ok.hd hc) st hx λh' eb=>⟨rfl,I.turned (t':=s.toks) (λb o hb e=>eb b o hb e) f0 f1 f3 f4 f5⟩
  .rw[e] at st;exact wpAny_pyNext_wide_end (I.ok.hd hc) st hx λh' eb=>⟨rfl,I.turned (t':=s.toks) (λb o hb e=>eb b o hb e) f0 f1 f3 f4 f5⟩
 self:=λA i s Q E st h=>by
  rcases MO with e|e
  .rw[e] at st;exact wpAny_pyIter_striter_ascii st h
  .rw[e] at st;exact wpAny_pyIter_striter_wide st h
def VM(te:TE):TI:=λσ H R=>te σ H λv H1=>∃x,v= .str x/\R (RS x) H1
theorem OR(he:PE X e te):PI X tg e (VM te):=by
 intro aq s σ H R I h;refine dU (he aq s σ H _ I h) λv s1 ⟨y,H1,I1,r1,x,ex,q⟩=>?_;subst ex;obtain⟨t,rfl⟩:=r1;cases ha:x.cps.all (·<128)
 .exact wpAny_pyIter_wide ha (Cr (tk:=s1.toks) I1 _ (Av _ x t "str_iterator" (.inr rfl)) ⟨_,jD _ rfl,rfl,rfl⟩ q)
 .exact wpAny_pyIter_ascii ha (Cr (tk:=s1.toks) I1 _ (Av _ x t "str_ascii_iterator" (.inl rfl)) ⟨_,jD _ rfl,rfl,rfl⟩ q)
theorem OS{κ:Type}{a8:List (κ×V)}{vs:List (κ×Value)}(h:KV a8 vs):∀{i:Nat}{k:κ}{v:V},a8[i]?=some (k,v)->∃u,vs[i]?=some (k,u)/\RelV v u:=by
 unfold KV at h;induction h with
 |nil=>intro i k v e;simp at e
 |@cons a b l₁ l₂ r t ih=>
  intro i k v e;cases i with
  |zero=>simp only[Q4,Option.some.injEq] at e;subst e;refine⟨b.2,?_,r.2⟩;simp only[Q4];exact da some (Prod.ext r.1.symm rfl)
  |succ j=>simp only[List.getElem?_cons_succ] at e⊢;exact ih e
theorem HD{k:Key}(h:tK k u=true):RelV (kV k) u:=by
 rcases dB h with⟨i,t,rfl,rfl⟩|⟨x,t,rfl,rfl⟩
 .exact⟨t,rfl⟩
 .exact⟨t,rfl⟩
section
variable{X:Cx}{aq:List (Addr×Obj)}{σ:St}{H:Hp}{s:Shared}{d:Addr}{o:Obj}
theorem Inv.OT{a8:List (Key×V)}(I:Inv X aq σ H s)(h:H d=some (.jO o (.dK a8))):
 (d==sysModules)=false/\s.heap.get? d=some o/\o.ExactDict/\∃(es:Array DictEntry)(ep:Nat)(vs:List (Key×Value)),o.data= .dict es ep/\es.size=a8.length/\KV a8 vs/\s.heap.DictAt (dN X.prog X.w) d vs ep:=by
 obtain⟨hd,z,hs,vs,kv,o',es,ep,ho,hx,J6,r⟩:=I.cx d _ h;rw[hd] at ho;cases ho;refine⟨hs,hd,hx,es,ep,vs,J6,?_,kv,o,es,hd,hx,J6,r⟩;have l1:=r.2.1.length;have l2:a8.length=vs.length:=u5 kv;rw[QZ] at l1;omega
end
def RT(d:Addr)(o:Obj)(a8:List (Key×V)):It:=
 ⟨λi H=>H d=some (.jO o (.dK a8))/\i<a8.length,λi H x H'=>∃T k v,a8[i]?=some (k,v)/\x= .ref T/\H T=none/\H'=upd H T (.tup [kV k,v]),λi H=>H d=some (.jO o (.dK a8))/\a8.length<=i⟩
theorem Eh{o:Obj}{es ME:Array DictEntry}{ep MF:Nat}(h:o.data= .dict es ep)(h':o.data= .dict ME MF):ME=es/\MF=ep:=by rw[h] at h';cases h';exact⟨rfl,rfl⟩
variable{elts:List Expr}{kk:Nat}{vk:Pos}
section
variable{P:Program}{w:World}{K:PySem.W.Frag}{tg:Expr}{d:Addr}{o:Obj}{es:Array DictEntry}{ep:Nat}
theorem Cs{a8:List (Key×V)}(it:Addr)(XJ:o.data= .dict es ep):
 Turn P w K (.Tuple elts kk vk) (RT d o a8) [it] it (λi h=>∃ok ov,IsItemIter h it d i a8.length ep ok ov) where
 mem:=by simp
 obj:=λi h st b hb=>by
  have e:b=it:=by simpa using hb
  subst e;obtain⟨ok,ov,e⟩:=st;exact⟨_,e,λv z=>nomatch z⟩
 keep:=λi h h' st k=>let ⟨ok,ov,e⟩:=st;⟨ok,ov,k it (by simp) _ e⟩
 item:=by
  intro X hP hw hK hc i aq s σ H E I hf st hg;subst hP hw hK;obtain⟨hd,hi⟩:=hg;obtain⟨hs,Qx,hx,ME,MF,vs,J6,hsz,kv,hm⟩:=I.OT hd;obtain⟨rfl,rfl⟩:=Eh XJ J6;obtain⟨⟨k,v⟩,MT⟩:∃p,a8[i]?=some p:=⟨a8[i],c_ hi⟩;obtain⟨u,hu,ru⟩:=OS kv MT;have hl:a8.length=vs.length:=u5 kv;obtain⟨ok,ov,he⟩:=st;rw[hl] at he;have fD:it<s.heap.objs.size:=dh he;refine wpAny_pyNext_items_item he hm hu λkey h' Oo ho hT hz hk=>?_;refine⟨_,rfl,wpAny_letOwnedTupleGo_items (s:={s with heap:=h'}) ho λMR RU sb=>?_⟩;have OU:MR.get? s.heap.objs.size=some {cls:= .type "tuple",data:= .seq #[key,u]}:=(sb.2 _ (u1 fD)).trans hT;have new:dj X.prog X.w (upd H s.heap.objs.size (.tup [kV k,v])) MR s.heap.objs.size (.tup [kV k,v]):=
   ⟨by show 2<=sizeLine;decide,[key,u],.cons (HD (show tK k key=true from Oo)) (.cons ru .nil),⟨_,OU,rfl,_,rfl⟩⟩
  have I1:Inv X aq σ (upd H s.heap.objs.size (.tup [kV k,v])) {s with heap:=MR}:=
   I.r_ (t':=s.toks) (ch:=[it]) (λb ob hb e=>(sb.2 b (by simpa using hb)).trans (hk b ob (by simpa using hb) e)) hf (aS _) new
  refine⟨.ref s.heap.objs.size,_,I1,rfl,⟨_,k,v,MT,rfl,I.cx.fresh (aS _),rfl⟩,⟨key,u,?_⟩,λb hb=>?_⟩
  .rw[hl];exact RU
  .have e:b=it:=by simpa using hb
   rw[e,az (cE fD)];exact(hf it (by simp)).1
 done:=by intro X hP hw hK hc i aq s σ H E I hf st hg;subst hP hw hK;obtain⟨hd,hi⟩:=hg;obtain⟨f0,f1,f2,f3,f4,f5⟩:=hf it (by simp);obtain⟨hs,Qx,hx,ME,MF,vs,J6,hsz,kv,hm⟩:=I.OT hd;obtain⟨rfl,rfl⟩:=Eh XJ J6;have hl:a8.length=vs.length:=u5 kv;obtain⟨ok,ov,he⟩:=st;rw[hl] at he;exact wpAny_pyNext_items_end (I.ok.hd hc) he hm (Ko (by omega)) λh' eb=>⟨rfl,I.turned (t':=s.toks) (λb ob hb e=>eb b ob hb e) f0 f1 f3 f4 f5⟩
 self:=λA i s Q E st h=>let ⟨_,_,e⟩:=st;PySem.W.kcp_self e h
end
def OV(td:TE):TI:=λσ H R=>td σ H λx H1=>∃d o a8,x= .ref d/\H1 d=some (.jO o (.dK a8))/\R (RT d o a8) H1
section
variable{X:Cx}{tg e:Expr}{td:TE}{apos k7:Pos}
theorem HE(he:PE X e td)(qT:attributeBase e "items" X.env (eval e X.env)=eval e X.env:=by rfl)(qU:(apos.endLine==k7.line)=true:=by rfl):
 PI X (.Tuple elts kk vk) (.Call (.Attribute e "items" apos) [] [] k7) (OV td):=by
 intro aq s σ H R I h;refine wpAny_Call_method (T:="dict") (id:="dict.items") qT rfl qU F.plainAttrs_dict F.slot_dict_items F.type_dict_items (dU (he aq s σ H _ I h) λu s1 ⟨x,H1,I1,rx,d,o,a8,ex,hd,q⟩=>?_);subst ex;obtain rfl:u=Value.ref d:=rx;obtain⟨hs,Qx,hx,es,ep,vs,J6,hsz,kv,hm⟩:=I1.OT hd;have hl:a8.length=vs.length:=u5 kv;refine⟨hm.dictOf.typeIs,hm.dictOf.mapOf.noDict,?_⟩;have I2:Inv X aq σ H1 {s1 with heap:=s1.heap.push {cls:= .type "dict_items",data:= .fields #[.ref d]}}:=I1.kept (t':=s1.toks) λb ob q=>gq _ q;have fin:wpAny (model X.prog X.w) X.A (pyIter (.ref s1.heap.objs.size)) (TN X aq σ (.Tuple elts kk vk) R) X.xe {s1 with heap:=s1.heap.push {cls:= .type "dict_items",data:= .fields #[.ref d]}}:=by refine wpAny_pyIter_items (d:=d) (knd:=dN X.prog X.w) ⟨_,jD _ rfl,rfl,rfl⟩ (hm.push _) (Cr (tk:=s1.toks) I2 _ (Cs _ J6) ⟨.none,.none,?_⟩ q);rw[hl];exact jD _ rfl
 show wpAny _ _ (callWith k7 (.builtin "dict.items") [.ref d] [] []) _ X.xe s1;exact method_meetsIn F.slot_dict_items F.entry_dict_items rfl (PySem.evalArgs_none ⟨rfl,hm.dictOf.typeIs,F.args_dict_items_1 _,_,meets_dict_items (dN X.prog X.w) d hs,⟨vs,hm.dictOf⟩,fin⟩)
end
def RV(K:PySem.W.Frag)(a:Addr):It:=
 ⟨λi H=>∃(xs:List V)(x:V),bf K H a xs/\xs[i]?=some x,λi H v H'=>∃T x,v= .ref T/\H T=none/\H'=upd H T (.tup [.int (i:Nat),x])/\∀xs,bf K H a xs->xs[i]?=some x,λi H=>∃xs:List V,bf K H a xs/\xs.length<=i⟩
theorem FC(a e it:Addr):
 Turn P w K (.Tuple elts kk vk) (RV K a) [e,it] e (λi h=>(∃old,IsEnum h e it ((i:Nat):Int) old)/\h.IsListIter it a i/\e≠it) where
 mem:=by simp
 obj:=λi h st b hb=>by
  obtain⟨⟨old,he⟩,⟨o,ho,hc,hd⟩,_⟩:=st;have e':b=e\/b=it:=by simpa using hb
  rcases e' with z|z
  .rw[z];exact⟨_,he,λv q=>nomatch q⟩
  .rw[z];exact⟨o,ho,λv q=>by rw[hd] at q;cases q⟩
 keep:=λi h h' st k=>let ⟨⟨old,he⟩,hi,fk⟩:=st;⟨⟨old,k e (by simp) _ he⟩,hi.at λo q=>k it (by simp) o q,fk⟩
 item:=by
  intro X hP hw hK hc i aq s σ H E I hf st hg;subst hP hw hK;obtain⟨⟨old,he⟩,hit,fk⟩:=st;obtain⟨xs,x,hq,hx⟩:=hg;obtain⟨its,rv,p,hz⟩:=I.list hq;obtain⟨u,hu,ru⟩:=rv.get hx;have RX:e<s.heap.objs.size:=dh he;have m6:it<s.heap.objs.size:=by obtain⟨_,q,_⟩:=hit;exact dh q
  refine wpAny_pyNext_enum_item he hit p.isList (x:=u) (by simpa using hu) fk λh' ho HF hT hsz hk=>?_;refine⟨_,rfl,wpAny_letOwnedTupleGo_enum (s:={s with heap:=h',toks:=s.toks+1}) ho λMR RU sb=>?_⟩;have OU:MR.get? s.heap.objs.size=some {cls:= .type "tuple",data:= .seq #[.int i s.toks,u]}:=(sb.2 _ (u1 RX)).trans hT;have new:dj X.prog X.w (upd H s.heap.objs.size (.tup [.int (i:Nat),x])) MR s.heap.objs.size (.tup [.int (i:Nat),x]):=
   ⟨by show 2<=sizeLine;decide,[.int i s.toks,u],.cons ⟨_,rfl⟩ (.cons ru .nil),⟨_,OU,rfl,_,rfl⟩⟩
  have I1:Inv X aq σ (upd H s.heap.objs.size (.tup [.int (i:Nat),x])) {s with heap:=MR,toks:=s.toks+1}:=
   I.r_ (ch:=[e,it]) (λb ob hb q=>(sb.2 b (λz=>hb (by simp[z]))).trans (hk b ob (λz=>hb (by simp[z])) (λz=>hb (by simp[z])) q)) hf (aS _) new
  refine⟨.ref s.heap.objs.size,_,I1,rfl,⟨_,x,rfl,I.cx.fresh (aS _),rfl,λys hy=>by rw[I.Aa hy hq];exact hx⟩,⟨⟨u,?_⟩,HF.at λo q=>(sb.2 it (mZ fk)).trans q,fk⟩,λb hb=>?_⟩
  .have e1:((i+1:Nat):Int)=(i:Int)+1:=by omega
   rw[e1];exact RU
  .have OW:b<s.heap.objs.size:=by
    have e':b=e\/b=it:=by simpa using hb
    rcases e' with z|z
    .rw[z];exact RX
    .rw[z];exact m6
   rw[az (cE OW)];exact(hf b hb).1
 done:=by intro X hP hw hK hc i aq s σ H E I hf st hg;subst hP hw hK;obtain⟨⟨old,he⟩,hit,fk⟩:=st;obtain⟨xs,hq,hx⟩:=hg;obtain⟨its,rv,p,hz⟩:=I.list hq;obtain⟨f0,f1,f2,f3,f4,f5⟩:=hf it (by simp);have hl:=rv.length;exact wpAny_pyNext_enum_end (I.ok.hd hc) he hit p.isList (by simp;omega) λh' eb=>⟨rfl,I.turned (t':=s.toks) (λb o hb q=>eb b o hb q) f0 f1 f3 f4 f5⟩
 self:=λA i s Q E st h=>let ⟨⟨_,he⟩,_⟩:=st;DY he h
def RY(K:PySem.W.Frag)(ta:TA):TI:=λσ H R=>ta σ H λvs H1=>∃a xs,vs=[.ref a]/\bf K H1 a xs/\R (RV K a) H1
theorem yS{ta:TA}{p:Pos}(hg:Gl X "enumerate")(hm:X.mg "enumerate"=none)(ha:PA X [e] ta)(hs:starEach [e] X.env=[(false,eval e X.env)]:=by rfl):
 PI X (.Tuple elts kk vk) (.Call (.Name "enumerate" p) [e] [] pos) (RY X.K ta):=by
 intro aq s σ H R I h;refine Call_ (nA I hg hm boot_enumerate (xE (dU (ha pos aq s σ H _ I h) λus s1 ⟨vs,H1,I1,r1,q1⟩=>?_) hs rfl));obtain⟨a,xs,ex,hq,q⟩:=q1;subst ex;cases r1 with
 |cons r rr=>
  cases rr;cases r;obtain⟨its,rv,p',hz⟩:=I1.list hq;refine call_enumerate_list p'.isList λh' he hit hsz hk=>DY he ?_;have I2:Inv X aq σ H1 {s1 with heap:=h'}:=I1.kept (t':=s1.toks) hk;refine⟨s1.heap.objs.size+1,[s1.heap.objs.size+1,s1.heap.objs.size],_,_,H1,rfl,I2,FC a (s1.heap.objs.size+1) s1.heap.objs.size,⟨⟨.none,he⟩,hit,Nat.succ_ne_self _⟩,λb hb=>?_,q⟩;have e':b=s1.heap.objs.size+1\/b=s1.heap.objs.size:=by simpa using hb
  have hle:s1.heap.objs.size<=b:=by
   rcases e' with z|z
   .rw[z];exact uY _ _
   .rw[z];exact aS _
  exact I1.Fj hle (I1.cx.fresh hle)
end L2
section
namespace TL
open PySem PySem.Builtin PySem.Builtin.Str PySem.StrLaws
abbrev tl(x:Str):List Nat:=x.cps.toList
theorem dq(x:Str):x.length=(tl x).length:=by simp[tl,Str.length]
theorem Ct{x y:Str}(h:tl x=tl y):x=y:=Str.ext' (Array.toList_inj.mp h)
theorem fE(x y:Str):tl (x++y)=tl x++tl y:=by show(x++y).cps.toList=_;rw[Str.cps_append,Tu]
def xW(S:List Nat):List (List Nat)->List Nat
 |[]=>[]
 |[p]=>p
 |p::q::r=>p++(S++xW S (q::r))
theorem uB(y:Str):∀parts:List Str,tl (Str.join y parts)=xW (tl y) (parts.map tl)
 |[]=>rfl
 |[_]=>rfl
 |x::z::r=>by show tl (x++y++Str.join y (z::r))=tl x++(tl y++xW (tl y) ((z::r).map tl));rw[fE,fE,uB y (z::r),dQ]
theorem join_eq(y:Str)(parts:List Str):Txt.join y parts=Str.join y parts:=glued_eq_join y parts
def Cu(n:Nat):List Nat:=(Nat.toDigits 10 n).map Char.toNat
theorem Cv(n:Nat):tl (Str.ofString (toString ((n:Nat):Int)))=Cu n:=PySem.W.KIN.signs_num n
end TL
end
namespace L2
open PySem PySem.Spec PyProof.Rows
theorem ma:∀{ys:List Str}{us:List Value},Vals (ys.map V.str) us->StrsAre us ys
 |[],_,.nil=> .nil
 |y::ys,_,.cons r t=>by obtain⟨k,rfl⟩:=r;exact .cons y k (ma t)
section
variable{X:Cx}
theorem KP:RC X "str.join" (λx xs H Q=>∃a p,∃ys:List Str,x= .str a/\xs=[.ref p]/\(bf X.K H p (ys.map V.str)\/iu X.K H p (ys.map V.str))/\
 (ys.map (·.length)).sum+ys.length*a.length<=16777216/\Q (.str (Txt.join a ys)) H):=by
 intro aq s σ H x xs v us Q I rx rs h;obtain⟨a,p,ys,rfl,rfl,hp,hz,h⟩:=h;obtain⟨t,rfl⟩:=rx;cases rs with
 |cons r1 rs=>
  cases rs;cases r1;rcases hp with hp|hp
  .obtain⟨its,r,⟨o,n,ho,hc,_,hd⟩,_⟩:=I.list hp;exact PyProof.Rows.join_list (items:=its.toArray) ⟨o,ho,hc,n,hd⟩ (by rw[zQ];exact ma r) hz λt' k=>⟨.str _,H,I.tok k,⟨t',rfl⟩,h⟩
  .obtain⟨its,r,ht,_⟩:=I.tuple hp;exact PyProof.Rows.join_tuple (items:=its.toArray) ht (by rw[zQ];exact ma r) hz λt' k=>⟨.str _,H,I.tok k,⟨t',rfl⟩,h⟩
end
variable{apos pos:Pos}
section
variable{X:Cx}{o e:Expr}{to te:TE}
def XM(r:V->List V->Hp->VK->Prop)(to te:TE):TE:=λσ H Q=>to σ H λx H1=>(∃a,x= .str a)/\te σ H1 λy H2=>r x [y] H2 Q
theorem RZ{id:String}{name:Str}{r:V->List V->Hp->VK->Prop}(slot:Slot "str" name id)(ty:typeOf (.builtin id)=pure (.type "method_descriptor"))(rule:RC X id r)(ho:PE X o to)(he:PE X e te)(hs:starEach [e] X.env=[(false,eval e X.env)]:=by rfl)(qT:attributeBase o name X.env (eval o X.env)=eval o X.env:=by rfl)(qU:(apos.endLine==pos.line)=true:=by rfl):
 PE X (.Call (.Attribute o name apos) [e] [] pos) (XM r to te):=by
 intro aq s σ H Q I h;refine PySem.Call_method1 qT hs qU (dU (ho aq s σ H _ I h) λv s1 ⟨x,H1,I1,r1,q1⟩=>?_);obtain⟨⟨a,rfl⟩,q1⟩:=q1;obtain⟨t,rfl⟩:=_root_.id r1;refine⟨"str",_,F.plainAttrs_str,slot,ty,typeIs_str _ _ _,(λ_ e=>nomatch e),Kd rfl (ND (GO ?_))⟩;exact dU (he aq s1 σ H1 _ I1 q1) λu s2 ⟨y,H2,I2,r2,q2⟩=>Ke (rule aq s2 σ H2 _ [y] _ [u] Q I2 r1 (.cons r2 .nil) q2)
theorem KQ(ho:PE X o to)(he:PE X e te)(hs:starEach [e] X.env=[(false,eval e X.env)]:=by rfl)(qT:attributeBase o "join" X.env (eval o X.env)=eval o X.env:=by rfl)(qU:(apos.endLine==pos.line)=true:=by rfl):
 PE X (.Call (.Attribute o "join" apos) [e] [] pos) (XM (λx xs H Q=>∃a p,∃ys:List Str,x= .str a/\xs=[.ref p]/\(bf X.K H p (ys.map V.str)\/iu X.K H p (ys.map V.str))/\
  (ys.map (·.length)).sum+ys.length*a.length<=16777216/\Q (.str (Txt.join a ys)) H) to te):=
 RZ F.slot_str_join F.type_str_join KP ho he hs qT qU
end
def inClass(s:Stmt)(j:Nat):Stmt:=match s with
 | .ClassDef _ _ _ body _ _ _ _ _ _ _=>body.getD j (.Pass ⟨0,0,0,0⟩)
 |_=> .Pass ⟨0,0,0,0⟩
def eU(s:Stmt):Arguments:=match s with
 | .FunctionDef _ a _ _ _ _ _ _ _ _=>a
 |_=>{posonlyargs:=[],args:=[],vararg:=none,kwonlyargs:=[],kw_defaults:=[],kwarg:=none,defaults:=[]}
def du(s:Stmt):List Stmt:=match s with
 | .FunctionDef _ _ b _ _ _ _ _ _ _=>b
 |_=>[]
def ay(s:Stmt):Scope:=match s with
 | .FunctionDef _ _ _ _ _ _ sc _ _ _=>sc
 |_=>{kind:= .function,names:=[],isGenerator:=false,isCoroutine:=false}
abbrev Aw:KA:=λ_ _ _ _ _ _=>False
abbrev E0:XK:=λ_ _ _=>False
theorem HG{X:Cx}:Passes Aw X E0:=λ_ _ _ _ _ _ _ h=>h.elim
structure HH(K:PySem.W.Frag)(x qual:Str)(st:Stmt)(f:Addr)(fd:FuncData):Prop where
 ex:∃(oc:Value)(od:Option Addr)(kV doc pm:Value)(an:Option Addr)(nr ct:Value)(Hn:Array (Option Value)),
  fd=fnOf x qual (eU st) (du st) (ay st) .none kV doc pm an nr ct/\K.lookup f=some ⟨oc,od,.func fd,Hn⟩/\codeIn K nr qual=true
 kp:keepIn K (.ref f)=true
variable{x qual:Str}{st:Stmt}{f:Addr}{fd:FuncData}{ps:List Str}
section
variable{P:Program}{w:World}{K:PySem.W.Frag}{mg:Str->Option Value}{base:Heap}
theorem HH.ok{N:List Str}{k:Nat}{sp:Sp}(F:HH K x qual st f fd)(S:aG N ps (ay st))(len:∀vs H Q E,sp vs H Q E->vs.length=ps.length)(Ai:∀(nr:Value)(A:Around)(outer:List Env)(s:Shared)(H:Hp)(vs:List V)(Q:VK)(E:XK),fL k (A.deeper (envOfC qual (ay st) s.heap.objs.size f nr))->sp vs H Q E->
 ∃t,Cb (xn Aw P w K mg base N qual (ay st) f nr A outer s H E).Oh (du st) t/\t {nx:=λ_ H'=>Q .fb H',rt:=Q} (start N vs) H):nq P w K mg base Aw (k+1) f fd ps sp:=by
 obtain⟨oc,od,kV,doc,pm,an,nr,ct,Hn,rfl,lk,Ha⟩:=F.ex;refine MM lk Ha S len λA outer s H vs Q E hr B3=>?_;obtain⟨t,h,q⟩:=Ai nr A outer s H vs Q E hr B3;exact⟨t,h.Oh,q⟩
theorem HH.binds(F:HH K x qual st f fd)(h:∀(kV doc pm:Value)(an:Option Addr)(nr ct:Value)(us:List Value),us.length=ps.length->bindArgs (fnOf x qual (eU st) (du st) (ay st) .none kV doc pm an nr ct) ⟨us,[]⟩=pure (ps.zip us)):Binds K fd ps []:=by obtain⟨oc,od,kV,doc,pm,an,nr,ct,Hn,rfl,lk,Ha⟩:=F.ex;exact .all (h kV doc pm an nr ct)
theorem sf{oc:Value}{od an:Option Addr}{Hn:Array (Option Value)}{kV doc pm nr ct:Value}(l:K.lookup f=some ⟨oc,od,.func (fnOf x qual (eU st) (du st) (ay st) .none kV doc pm an nr ct),Hn⟩)(c:codeIn K nr qual=true)(k:keepIn K (.ref f)=true):HH K x qual st f (fnOf x qual (eU st) (du st) (ay st) .none kV doc pm an nr ct):=⟨⟨oc,od,kV,doc,pm,an,nr,ct,Hn,rfl,l,c⟩,k⟩
end
theorem qW{A:Around}{k:Nat}(hr:fL k A):A.units+1<cLine:=u0 (Nat.add_le_add_left (by decide:1<=64) _) hr.units
section
variable{X:Cx}
theorem pv(i:Nat)(hN:X.N[i]?=some x:=by rfl)(hv:Qq X.env.scope x:=by first|exact Or.inl rfl|exact Or.inr (Or.inl rfl)|exact Or.inr (Or.inr rfl))(hd:(x==("__debug__":Str))=false:=by decide)(Ha:(x==("__classdict__":Str))=false:=by decide):PE X (.Name x pos) (cK i):=Od hN hv hd Ha
end
variable{A B:Prop}
theorem fJ(h:B):if false=true then A else B:=by rw[ak w_];exact h
theorem eG(h:A):if true=true then A else B:=by rw[ao rfl];exact h
theorem aK{c:Prop}[Decidable c](h1:c->A)(h2:¬c->B):if c then A else B:=by
 by_cases h:c
 .rw[ao h];exact h1 h
 .rw[ak h];exact h2 h
def aD(H H':Hp):Prop:=∀b o,H b=some o->H' b=some o
theorem aD.refl(H:Hp):aD H H:=λ_ _ h=>h
variable{H:Hp}
theorem aD.trans{H1 H2:Hp}(a:aD H H1)(b:aD H1 H2):aD H H2:=λc o h=>b c o (a c o h)
variable{H':Hp}
theorem aD.free(e:aD H H'){l:Addr}(h:H' l=Option.none):H l=Option.none:=by
 cases q:H l with
 |none=>rfl
 |some o=>rw[e l o q] at h;cases h
variable{xs:List V}
theorem aD.seq{K:PySem.W.Frag}{a:Addr}(e:aD H H')(h:bf K H a xs):bf K H' a xs:=by
 rcases h with(h|⟨o,h⟩)|h
 .exact .inl (.inl (e _ _ h))
 .exact .inl (.inr ⟨o,e _ _ h⟩)
 .exact .inr h
variable{j:Nat}
theorem at_of{z:Int}{v:V}(e:z=(j:Int))(h:xs[j]?=some v):B4 xs z=some v:=by rw[e];exact bU h
theorem Ax{α:Type}{l:List α}(hN:l.Nodup){i:Nat}{x:α}(a:l[i]?=some x)(b:l[j]?=some x):i=j:=by obtain⟨h1,e1⟩:=dm.mp a;obtain⟨h2,e2⟩:=dm.mp b;exact(Kp hN).mp (e1.trans e2.symm)
end L2
section
variable{a:Addr}{xs:List V}
variable{A:List Addr}
variable{P:Params}{h:Heap}{v:Value}{ds:List WData}
variable{us:List Value}
variable{b:Addr}
variable{u:HO}
variable{vs:List Value}
namespace L2
open PySem PySem.Spec PyProof.Rows
open PySem.W (WData Codec OpenSpec Well WellAll ReadsW ReadsAllW)
mutual
inductive Dw (K:PySem.W.Frag) (H:Hp):V->WData->Prop
 |fb:Dw K H .fb .none
 |bl (b:Bool):Dw K H (.bl b) (.bool b)
 |int (i:Int):Dw K H (.int i) (.int i)
 |str (x:Str):Dw K H (.str x) (.str x)
 |B1 (b:Array UInt8):Dw K H (.B1 b) (.bytes b.toList)
 |lst {a:Addr} {xs:List V} {ds:List WData}:bf K H a xs->m7 K H xs ds->Dw K H (.ref a) (.list ds)
 |tup {a:Addr} {xs:List V} {ds:List WData}:iu K H a xs->m7 K H xs ds->Dw K H (.ref a) (.tuple ds)
inductive m7 (K:PySem.W.Frag) (H:Hp):List V->List WData->Prop
 |nil:m7 K H [] []
 |cons {v:V} {vs:List V} {d:WData} {ds:List WData}:Dw K H v d->m7 K H vs ds->m7 K H (v::vs) (d::ds)
end
theorem Ei{K:PySem.W.Frag}{H:Hp}:∀ns:List Int,m7 K H (ns.map V.int) (ns.map WData.int)
 |[]=> .nil
 |n::r=> .cons (.int n) (Ei r)
theorem Ej{K:PySem.W.Frag}{H:Hp}:∀(ns:List Int)(xs:List V),m7 K H xs (ns.map WData.int)->xs=ns.map V.int
 |[],xs,h=>by cases h;rfl
 |n::r,xs,h=>by
  cases h with
  |cons h1 h2=>cases h1;rw[Ej r _ h2]<;>rfl
section
variable{P:Program}{w:World}{K:PySem.W.Frag}{H:Hp}{h:Heap}{R:WRecords}{cl:Str->Option Addr}
theorem OX(cx:nj P w H h)(KX:K.In h)(q:bf K H a xs):∃(its:List Value)(o:Obj)(n:Nat),Vals xs its/\h.get? a=some o/\o.cls= .type "list"/\o.data= .seq its.toArray n:=by
 rcases q with q|⟨o,its,n,e,hc,_,hd,_,hv⟩
 .obtain⟨_,its,n,hv,e⟩:=(show dj P w H h a (.lst xs) from q.ok cx);exact⟨its,_,n,hv,e,rfl,rfl⟩
 .exact⟨its.toList,o,n,hv,KX _ _ e,hc,by simp[hd]⟩
theorem OY(cx:nj P w H h)(KX:K.In h)(q:iu K H a xs):∃(its:List Value)(o:Obj)(n:Nat),Vals xs its/\h.get? a=some o/\o.cls= .type "tuple"/\o.data= .seq its.toArray n:=by
 rcases q with q|⟨o,its,n,e,hc,hd,_,hv⟩
 .obtain⟨_,its,hv,o,e,hc,n,hd⟩:=(show dj P w H h a (.tup xs) from q.ok cx);exact⟨its,o,n,hv,e,hc,hd⟩
 .exact⟨its.toList,o,n,hv,KX _ _ e,hc,by simp[hd]⟩
mutual
theorem Dw.reads (cx:nj P w H h) (KX:K.In h):∀(d:WData)(v:V)(u:Value),Dw K H v d->RelV v u->∃as,ReadsW R cl h u d as
 | .none,_,_,x,r=>by cases x;cases r;exact⟨_,ReadsW.none⟩
 | .bool b,_,_,x,r=>by cases x;cases r;exact⟨_,ReadsW.bool b⟩
 | .int i,_,_,x,r=>by cases x;obtain⟨t,rfl⟩:=r;exact⟨_,ReadsW.int i t⟩
 | .str s,_,_,x,r=>by cases x;obtain⟨t,rfl⟩:=r;exact⟨_,ReadsW.str s t⟩
 | .bytes b,_,_,x,r=>by cases x;obtain⟨t,rfl⟩:=r;exact⟨_,ReadsW.bytes _ t⟩
 | .list ds,_,_,x,r=>by
  cases x with
  |lst hs ha=>cases r;obtain⟨its,o,n,rv,ho,hc,hd⟩:=OX cx KX hs;obtain⟨as,hr⟩:=Dw.readsAll cx KX ds _ its ha rv;exact⟨_,ReadsW.list ho hc hd hr⟩
 | .tuple ds,_,_,x,r=>by
  cases x with
  |tup hs ha=>cases r;obtain⟨its,o,n,rv,ho,hc,hd⟩:=OY cx KX hs;obtain⟨as,hr⟩:=Dw.readsAll cx KX ds _ its ha rv;exact⟨_,ReadsW.tuple ho hc hd hr⟩
 | .float _,_,_,x,_=>by cases x
 | .dict _,_,_,x,_=>by cases x
 | .bytearray _,_,_,x,_=>by cases x
 | .set _,_,_,x,_=>by cases x
 | .frozenset _,_,_,x,_=>by cases x
 | .obj _ _,_,_,x,_=>by cases x
theorem Dw.readsAll (cx:nj P w H h) (KX:K.In h):∀(ds:List WData)(vs:List V)(us:List Value),m7 K H vs ds->Vals vs us->∃as,ReadsAllW R cl h us ds as
 |[],_,_,x,r=>by cases x;cases r;exact⟨_,ReadsAllW.nil⟩
 |d::ds,_,_,x,r=>by
  cases x with
  |cons h1 h2=>
   cases r with
   |cons r1 r2=>obtain⟨as,q1⟩:=Dw.reads cx KX d _ _ h1 r1;obtain⟨bs,q2⟩:=Dw.readsAll cx KX ds _ _ h2 r2;exact⟨_,ReadsAllW.cons q1 q2⟩
end
end
mutual
def Ek:WData->Bool
 | .none=>true
 | .bool _=>true
 | .int _=>true
 | .str _=>true
 | .bytes _=>true
 | .list xs=>uk xs
 | .tuple xs=>uk xs
 |_=>false
def uk:List WData->Bool
 |[]=>true
 |x::r=>Ek x&&uk r
end
theorem Ay{α:Type}{f:α->WData}(h:∀a,Ek (f a)=true):∀l:List α,uk (l.map f)=true
 |[]=>rfl
 |x::r=>by show(Ek (f x)&&uk (r.map f))=true;rw[h x,Ay h r]<;>rfl
theorem nN:∀(c:Codec)(a:c.denote),Ek (c.enc a)=true
 | .unit,_=>rfl
 | .bool,_=>rfl
 | .int _ _,_=>rfl
 | .nat _ _,_=>rfl
 | .u8,_=>rfl
 | .bytes _ _,_=>rfl
 | .text _ _ _ _,_=>rfl
 | .list _ _ c,a=>Ay (λx=>nN c x) a
 | .pair c d,a=>by show(Ek (c.enc a.1)&&(Ek (d.enc a.2)&&true))=true;rw[nN c a.1,nN d a.2]<;>rfl
 | .triple c d e,a=>by show(Ek (c.enc a.1)&&(Ek (d.enc a.2.1)&&(Ek (e.enc a.2.2)&&true)))=true;rw[nN c a.1,nN d a.2.1,nN e a.2.2]<;>rfl
 | .option c,none=>rfl
 | .option c,some x=>nN c x
theorem xX:∀(cs:List Codec)(a:Codec.denoteAll cs),uk (Codec.encAll cs a)=true
 |[],_=>rfl
 |c::cs,a=>by show(Ek (c.enc a.1)&&uk (Codec.encAll cs a.2))=true;rw[nN c a.1,xX cs a.2]<;>rfl
theorem pR:∀{xs:List WData}{d:WData},d∈xs->d.weight<=WData.weightAll xs
 |[],d,h=>absurd h (by simp)
 |x::r,d,h=>by
  show d.weight<=x.weight+1+WData.weightAll r;rcases bZ.mp h with e|m
  .rw[e];omega
  .have z:=pR m;omega
def toV:Value->V
 | .none=> .fb
 | .bool b=> .bl b
 | .int i _=> .int i
 | .str x _=> .str x
 | .bytes b _=> .B1 b
 | .ref a=> .ref a
 |_=> .fb
def FD(A:List Addr):Value->Prop
 | .none=>True
 | .bool _=>True
 | .int _ _=>True
 | .str _ _=>True
 | .bytes _ _=>True
 | .ref a=>a∈A
 |_=>False
theorem FD.mono{B:List Addr}(h:∀a∈A,a∈B):∀{u:Value},FD A u->FD B u:=λ{u} x=>by
 cases u with
 |ref a=>exact h a x
 |none=>trivial
 |bool b=>trivial
 |int i t=>trivial
 |str s t=>trivial
 |bytes b t=>trivial
 |_=>exact False.elim x
theorem HI{u:Value}(x:FD A u):RelV (toV u) u:=by
 cases u with
 |ref a=>rfl
 |none=>rfl
 |bool b=>rfl
 |int i t=>exact⟨t,rfl⟩
 |str s t=>exact⟨t,rfl⟩
 |bytes b t=>exact⟨t,rfl⟩
 |_=>exact False.elim x
theorem lM{A:List Addr}:∀{vs:List Value},(∀u∈vs,FD A u)->Vals (vs.map toV) vs
 |[],_=> .nil
 |u::r,h=> .cons (HI (h u (cw ..))) (lM λx hx=>h x (bz _ hx))
def m8(h:Heap)(A:List Addr)(a:Addr):Prop:=∃vs:List Value,vs.length<=sizeLine/\(∀u∈vs,FD A u)/\
 (h.get? a=some {cls:= .type "list",data:= .seq vs.toArray}\/h.get? a=some {cls:= .type "tuple",data:= .seq vs.toArray})
theorem m8.mono{h:Heap}{A B:List Addr}{a:Addr}(k:∀a∈A,a∈B)(x:m8 h A a):m8 h B a:=by obtain⟨vs,h1,h2,h3⟩:=x;exact⟨vs,h1,λu hu=>(h2 u hu).mono k,h3⟩
theorem kJ{P:Params}{h:Heap}:∀{vs:List Value}{ds:List WData},WellAll P h vs ds->vs.length=ds.length
 |_,_,.nil=>rfl
 |_,_,.cons _ b=>by show _+1=_+1;rw[kJ b]
theorem xY(x:Well P h v (.list ds)):∃(a:Addr)(vs:List Value),v= .ref a/\h.get? a=some {cls:= .type "list",data:= .seq vs.toArray}/\WellAll P h vs ds:=by
 cases x with
 |list ho nO=>exact⟨_,_,rfl,ho,nO⟩
theorem vq(x:Well P h v (.tuple ds)):∃(a:Addr)(vs:List Value),v= .ref a/\h.get? a=some {cls:= .type "tuple",data:= .seq vs.toArray}/\WellAll P h vs ds:=by
 cases x with
 |tuple ho nO=>exact⟨_,_,rfl,ho,nO⟩
theorem xZ{d:WData}(x:WellAll P h us (d::ds)):∃(v:Value)(vs:List Value),us=v::vs/\Well P h v d/\WellAll P h vs ds:=by
 cases x with
 |cons a b=>exact⟨_,_,rfl,a,b⟩
theorem El{n:Nat}(h:n<=1048576):n<=sizeLine:=bq h (by decide)
section
variable{P:Params}{h:Heap}
mutual
theorem HJ:∀(d:WData)(v:Value),Well P h v d->Ek d=true->d.weight<=1048576->∃A:List Addr,FD A v/\∀a∈A,m8 h A a
 | .none,_,x,_,_=>by cases x;exact⟨[],trivial,λa m=>absurd m (by simp)⟩
 | .bool b,_,x,_,_=>by cases x;exact⟨[],trivial,λa m=>absurd m (by simp)⟩
 | .int i,_,x,_,_=>by cases x;exact⟨[],trivial,λa m=>absurd m (by simp)⟩
 | .str s,_,x,_,_=>by cases x;exact⟨[],trivial,λa m=>absurd m (by simp)⟩
 | .bytes b,_,x,_,_=>by cases x;exact⟨[],trivial,λa m=>absurd m (by simp)⟩
 | .list ds,_,x,p,z=>by
  obtain⟨a,vs,rfl,ho,nO⟩:=xY x;have z2:WData.weightAll ds<=1048576:=z;obtain⟨A,h1,h2⟩:=qX ds _ nO p λd hd=>bq (pR hd) z2;have k:∀b∈A,b∈a::A:=λb hb=>bz _ hb;refine⟨a::A,cw ..,λb hb=>?_⟩;rcases bZ.mp hb with e|m
  .rw[e];exact⟨vs,El (by rw[kJ nO];exact bq (MB ds) z2),λu hu=>(h1 u hu).mono k,.inl ho⟩
  .exact(h2 b m).mono k
 | .tuple ds,_,x,p,z=>by
  obtain⟨a,vs,rfl,ho,nO⟩:=vq x;have z2:WData.weightAll ds<=1048576:=z;obtain⟨A,h1,h2⟩:=qX ds _ nO p λd hd=>bq (pR hd) z2;have k:∀b∈A,b∈a::A:=λb hb=>bz _ hb;refine⟨a::A,cw ..,λb hb=>?_⟩;rcases bZ.mp hb with e|m
  .rw[e];exact⟨vs,El (by rw[kJ nO];exact bq (MB ds) z2),λu hu=>(h1 u hu).mono k,.inr ho⟩
  .exact(h2 b m).mono k
 | .float _,_,_,p,_=>Bool.noConfusion (show false=true from p)
 | .dict _,_,_,p,_=>Bool.noConfusion (show false=true from p)
 | .bytearray _,_,_,p,_=>Bool.noConfusion (show false=true from p)
 | .set _,_,_,p,_=>Bool.noConfusion (show false=true from p)
 | .frozenset _,_,_,p,_=>Bool.noConfusion (show false=true from p)
 | .obj _ _,_,_,p,_=>Bool.noConfusion (show false=true from p)
theorem qX:∀(ds:List WData)(vs:List Value),WellAll P h vs ds->uk ds=true->(∀d∈ds,d.weight<=1048576)->∃A:List Addr,(∀u∈vs,FD A u)/\∀a∈A,m8 h A a
 |[],_,x,_,_=>by cases x;exact⟨[],λu m=>absurd m (by simp),λa m=>absurd m (by simp)⟩
 |d::ds,_,x,p,z=>by
  obtain⟨v,vs,rfl,x1,x2⟩:=xZ x;have q:Ek d=true/\uk ds=true:=Bool.and_eq_true_iff.mp p;obtain⟨A,a1,a2⟩:=HJ d v x1 q.1 (z d (cw ..));obtain⟨B,b1,b2⟩:=qX ds vs x2 q.2 λe he=>z e (bz _ he);have kA:∀b∈A,b∈A++B:=λb hb=>dZ.mpr (.inl hb);have kB:∀b∈B,b∈A++B:=λb hb=>dZ.mpr (.inr hb);refine⟨A++B,λu hu=>?_,λb hb=>?_⟩
  .rcases bZ.mp hu with e|m
   .rw[e];exact a1.mono kA
   .exact(b1 u m).mono kB
  .rcases dZ.mp hb with m|m
   .exact(a2 b m).mono kA
   .exact(b2 b m).mono kB
end
end
def KR(o:Obj):Option HO:=match o.data with
 | .seq vs _=>if(o.cls==Value.type "list")=true then some (.jO o (.lst (vs.toList.map toV))) else some (.jO o (.tup (vs.toList.map toV)))
 |_=>none
def k8(K:PySem.W.Frag)(h:Heap)(A:List Addr):Hp:=λb=>if b∈A then(if(K.lookup b).isNone=true then(h.get? b).bind KR else none) else none
def MU(H:Hp):Prop:=∀b,H b=none\/∃o u,H b=some (.jO o u)
theorem Az(vs:List Value):KR {cls:= .type "list",data:= .seq vs.toArray}=some (.jO {cls:= .type "list",data:= .seq vs.toArray} (.lst (vs.map toV))):=by show(if(Value.type "list"==Value.type "list")=true then some (HO.jO {cls:= .type "list",data:= .seq vs.toArray} (.lst (vs.toArray.toList.map toV))) else some (HO.jO {cls:= .type "list",data:= .seq vs.toArray} (.tup (vs.toArray.toList.map toV))))=_;rw[ao (beq_self_eq_true _)]
theorem AA(vs:List Value):KR {cls:= .type "tuple",data:= .seq vs.toArray}=some (.jO {cls:= .type "tuple",data:= .seq vs.toArray} (.tup (vs.map toV))):=by show(if(Value.type "tuple"==Value.type "list")=true then some (HO.jO {cls:= .type "tuple",data:= .seq vs.toArray} (.lst (vs.toArray.toList.map toV))) else some (HO.jO {cls:= .type "tuple",data:= .seq vs.toArray} (.tup (vs.toArray.toList.map toV))))=_;rw[ak (by decide)]
section
variable{P:Program}{w:World}{K:PySem.W.Frag}{h:Heap}{A:List Addr}
theorem uC{o:Obj}(hb:b∈A)(hk:K.lookup b=none)(e:h.get? b=some o):k8 K h A b=KR o:=by unfold k8;rw[ao hb,hk,ao (show(none:Option Obj).isNone=true from rfl),e]<;>rfl
theorem KS(q:k8 K h A b=some u):b∈A/\K.lookup b=none:=by
 unfold k8 at q;by_cases hb:b∈A
 .rw[ao hb] at q;cases hk:K.lookup b with
  |none=>exact⟨hb,rfl⟩
  |some o=>rw[hk,ak (by simp)] at q;cases q
 .rw[ak hb] at q;cases q
theorem qY(ar:∀a∈A,m8 h A a)(q:k8 K h A b=some u):K.lookup b=none/\∃vs:List Value,vs.length<=sizeLine/\(∀u∈vs,FD A u)/\
 ((h.get? b=some {cls:= .type "list",data:= .seq vs.toArray}/\u= .jO {cls:= .type "list",data:= .seq vs.toArray} (.lst (vs.map toV)))\/
  (h.get? b=some {cls:= .type "tuple",data:= .seq vs.toArray}/\u= .jO {cls:= .type "tuple",data:= .seq vs.toArray} (.tup (vs.map toV)))):=by
 obtain⟨hb,hk⟩:=KS q;obtain⟨vs,h1,h2,h3⟩:=ar b hb;refine⟨hk,vs,h1,h2,?_⟩;rcases h3 with e|e
 .rw[uC hb hk e,Az] at q;exact .inl ⟨e,(di q).symm⟩
 .rw[uC hb hk e,AA] at q;exact .inr ⟨e,(di q).symm⟩
theorem FE(ar:∀a∈A,m8 h A a):MU (k8 K h A):=λb=>by
 cases q:k8 K h A b with
 |none=>exact .inl rfl
 |some u=>
  obtain⟨_,vs,_,_,⟨_,e⟩|⟨_,e⟩⟩:=qY ar q
  .exact .inr ⟨_,_,by rw[e]⟩
  .exact .inr ⟨_,_,by rw[e]⟩
theorem KU(ar:∀a∈A,m8 h A a):nj P w (k8 K h A) h:=λb u q=>by
 obtain⟨_,vs,h1,h2,⟨e,rfl⟩|⟨e,rfl⟩⟩:=qY ar q
 .exact⟨e,by rw[aT];exact h1,vs,_,lM h2,e⟩
 .exact⟨e,by rw[aT];exact h1,vs,lM h2,_,e,rfl,_,rfl⟩
theorem uD{c c':Value}(e:(some {cls:=c,data:= .seq vs.toArray}:Option Obj)=some {cls:=c',data:= .seq us.toArray}):c=c'/\vs=us:=by have e1:=di e;have e2:c=c':=da Obj.cls e1;have e3:Data.seq vs.toArray=Data.seq us.toArray:=da Obj.data e1;injection e3 with e4;refine⟨e2,?_⟩;have e5:=da Array.toList e4;simpa using e5
theorem VN(KX:K.In h)(ar:∀a∈A,m8 h A a)(ha:a∈A)(e:h.get? a=some {cls:= .type "list",data:= .seq vs.toArray}):(∀u∈vs,FD A u)/\bf K (k8 K h A) a (vs.map toV):=by
 obtain⟨us,h1,h2,h3⟩:=ar a ha;have hu:us=vs:=by
  rcases h3 with q|q
  .rw[e] at q;exact(uD q).2.symm
  .rw[e] at q;exact absurd (xF (uD q).1) (by decide)
 subst hu;refine⟨h2,?_⟩;cases hk:K.lookup a with
 |none=>exact .inl (.inr ⟨_,by rw[uC ha hk e,Az]⟩)
 |some o=>have e2:=KX a o hk;rw[e] at e2;obtain rfl:=di e2;exact .inr ⟨_,us.toArray,_,hk,rfl,rfl,rfl,by rw[d5];exact h1,by simpa using lM h2⟩
theorem VO(KX:K.In h)(ar:∀a∈A,m8 h A a)(ha:a∈A)(e:h.get? a=some {cls:= .type "tuple",data:= .seq vs.toArray}):(∀u∈vs,FD A u)/\iu K (k8 K h A) a (vs.map toV):=by
 obtain⟨us,h1,h2,h3⟩:=ar a ha;have hu:us=vs:=by
  rcases h3 with q|q
  .rw[e] at q;exact absurd (xF (uD q).1) (by decide)
  .rw[e] at q;exact(uD q).2.symm
 subst hu;refine⟨h2,?_⟩;cases hk:K.lookup a with
 |none=>exact .inl (.inr ⟨_,by rw[uC ha hk e,AA]⟩)
 |some o=>have e2:=KX a o hk;rw[e] at e2;obtain rfl:=di e2;exact .inr ⟨_,us.toArray,_,hk,rfl,rfl,by rw[d5];exact h1,by simpa using lM h2⟩
mutual
theorem OZ {Pm:Params} (KX:K.In h) (ar:∀a∈A,m8 h A a):∀(d:WData)(v:Value),Well Pm h v d->Ek d=true->FD A v->Dw K (k8 K h A) (toV v) d
 | .none,_,x,_,_=>by cases x;exact .fb
 | .bool b,_,x,_,_=>by cases x;exact .bl b
 | .int i,_,x,_,_=>by cases x;exact .int i
 | .str s,_,x,_,_=>by cases x;exact .str s
 | .bytes b,_,x,_,_=>by cases x;have z:=Dw.B1 (K:=K) (H:=k8 K h A) b.toArray;exact z
 | .list ds,_,x,p,hu=>by obtain⟨a,vs,rfl,ho,nO⟩:=xY x;obtain⟨h2,hs⟩:=VN KX ar hu ho;exact .lst hs (yT KX ar ds _ nO p h2)
 | .tuple ds,_,x,p,hu=>by obtain⟨a,vs,rfl,ho,nO⟩:=vq x;obtain⟨h2,hs⟩:=VO KX ar hu ho;exact .tup hs (yT KX ar ds _ nO p h2)
 | .float _,_,_,p,_=>Bool.noConfusion (show false=true from p)
 | .dict _,_,_,p,_=>Bool.noConfusion (show false=true from p)
 | .bytearray _,_,_,p,_=>Bool.noConfusion (show false=true from p)
 | .set _,_,_,p,_=>Bool.noConfusion (show false=true from p)
 | .frozenset _,_,_,p,_=>Bool.noConfusion (show false=true from p)
 | .obj _ _,_,_,p,_=>Bool.noConfusion (show false=true from p)
theorem yT {Pm:Params} (KX:K.In h) (ar:∀a∈A,m8 h A a):∀(ds:List WData)(vs:List Value),WellAll Pm h vs ds->uk ds=true->(∀u∈vs,FD A u)->m7 K (k8 K h A) (vs.map toV) ds
 |[],_,x,_,_=>by cases x;exact .nil
 |d::ds,_,x,p,hu=>by obtain⟨v,vs,rfl,x1,x2⟩:=xZ x;have q:Ek d=true/\uk ds=true:=Bool.and_eq_true_iff.mp p;exact .cons (OZ KX ar d v x1 q.1 (hu _ (cw ..))) (yT KX ar ds vs x2 q.2 λu m=>hu u (bz _ m))
end
end
theorem vt(h:WData.layableAll ds=true):∀d∈ds,d.weight<=1048576:=λd hd=>(PySem.W.layableW_iff.mp (yH.mp h d hd)).2.2
theorem vw:∀(cs:List Codec)(a:Codec.denoteAll cs),(Codec.encAll cs a).length=cs.length
 |[],_=>rfl
 |c::cs,a=>by show(Codec.encAll cs a.2).length+1=cs.length+1;rw[vw cs a.2]
end L2
end
namespace Ob
open Vanbkn (State partAt)
abbrev O:=List Node
def nums(o:O):List Nat:=o.map λx=>x.number
def dflt:Node:=⟨0,0,false,false,[]⟩
def nd(o:O)(i:Nat):Node:=o.getD i dflt
def dE(o:O)(z:Int):Option Nat:=o.findIdx? λx=>decide ((x.number:Int)=z)
def aP(o:O)(i:Nat):Nat:=i+1+(inside (nd o i).depth (o.drop (i+1))).length
def lim(x:Node):Nat:=if x.cell=true then x.depth else x.depth+1
def cH:Nat->O->Prop
 |_,[]=>True
 |m,x::r=>1<=x.depth/\x.depth<=m/\cH (lim x) r
def jc:Nat->O->Nat
 |m,[]=>m
 |_,x::r=>jc (lim x) r
def hd(o:O):Nat:=match o with
 |[]=>0
 |x::_=>x.depth
structure Good(x:Node):Prop where
 num:1<=x.number/\x.number<=999
 sec:x.cell=false->x.depth<=6
 txt:x.text.length<=60/\∀c∈x.text,32<=c/\c<=126
 cf:x.cell=true->x.folded=false
structure l8(o:O):Prop where
 len:o.length<=60
 nd:(nums o).Nodup
 dep:cH 1 o
 good:∀x∈o,Good x
theorem l8.num{o:O}(W:l8 o):∀x∈o,1<=x.number/\x.number<=999:=λx h=>(W.good x h).num
structure Wf(s:State):Prop where
 n:l8 s.nodes
 lt:∀x∈s.nodes,x.number<s.next
 nx:1<=s.next/\s.next<=1000
theorem a7:∀(a b:O)(m:Nat),cH m (a++b)↔cH m a/\cH (jc m a) b
 |[],b,m=>by simp[cH,jc]
 |x::a,b,m=>by simp only[iW,cH,jc,a7 a b (lim x)];exact⟨λ⟨h1,h2,h3,h4⟩=>⟨⟨h1,h2,h3⟩,h4⟩,λ⟨⟨h1,h2,h3⟩,h4⟩=>⟨h1,h2,h3,h4⟩⟩
theorem gM:∀(a b:O)(m:Nat),jc m (a++b)=jc (jc m a) b
 |[],b,m=>rfl
 |x::a,b,m=>gM a b (lim x)
variable{m m':Nat}
theorem sg(h:m<=m'):∀{o:O},cH m o->cH m' o
 |[],_=>trivial
 |_::_,⟨h1,h2,h3⟩=>⟨h1,bq h2 h,h3⟩
theorem kK:∀{o:O},cH m o->hd o<=m'->cH m' o
 |[],_,_=>trivial
 |_::_,⟨h1,_,h3⟩,h=>⟨h1,h,h3⟩
theorem vx:∀{o:O},cH m o->hd o<=m
 |[],_=>a_ _
 |_::_,h=>h.2.1
theorem lN:∀{o:O}{m:Nat},cH m o->∀x∈o,1<=x.depth
 |_::_,_,h,x,hx=>by
  cases hx with
  |head=>exact h.1
  |tail _ hx=>exact lN h.2.2 x hx
theorem o3{d:Nat}:∀{o:O}{m:Nat},d<=m->(∀x∈o,d<=x.depth)->d<=jc m o
 |[],_,h,_=>h
 |x::r,m,_,h=>by refine o3 (o:=r) ?_ λy hy=>h y (bz _ hy);have:=h x (cw ..);unfold lim;split<;>omega
theorem HK(x:Node):x.depth<=lim x:=by unfold lim;split<;>omega
theorem HL(x:Node):lim x<=x.depth+1:=by unfold lim;split<;>omega
theorem vy{f:Node->Node}{c:Nat}(hf:∀x,(f x).depth=x.depth+c/\(f x).cell=x.cell):∀{o:O}{m:Nat},cH m o->cH (m+c) (o.map f)
 |[],_,_=>trivial
 |x::r,m,⟨h1,h2,h3⟩=>by
  refine⟨by rw[(hf x).1];omega,by rw[(hf x).1];omega,?_⟩;have e:lim (f x)=lim x+c:=by unfold lim;rw[(hf x).1,(hf x).2];split<;>omega
  rw[e];exact vy hf h3
theorem md{f:Node->Node}{fr to:Nat}(h1:1<=to):∀{o:O}{m:Nat},(∀x∈o,fr<=x.depth)->(∀x∈o,(f x).depth=x.depth - fr+to/\(f x).cell=x.cell)->fr<=m->cH m o->cH (m - fr+to) (o.map f)
 |[],_,_,_,_,_=>trivial
 |x::r,m,kL,hf,hm,⟨g1,g2,g3⟩=>by
  have hx:=hf x (cw ..);have gx:=kL x (cw ..);refine⟨by rw[hx.1];omega,by rw[hx.1];omega,?_⟩;have l1:=HK x;have e:lim (f x)=lim x - fr+to:=by unfold lim;rw[hx.1,hx.2];split<;>omega
  rw[e];exact md h1 (λy hy=>kL y (bz _ hy)) (λy hy=>hf y (bz _ hy)) (by omega) g3
theorem bQ(d:Nat)(l:O):inside d l++outside d l=l:=My
theorem cp{d:Nat}:∀{l:O},∀x∈inside d l,d<x.depth
 |[],x,hx=>by cases hx
 |y::l,x,hx=>by
  unfold inside at hx;rw[mW] at hx;split at hx
  .rename_i h;cases hx with
   |head=>simpa using h
   |tail _ hx=>exact cp (l:=l) x hx
  .cases hx
theorem cg(d:Nat):∀l:O,hd (outside d l)<=d
 |[]=>a_ _
 |x::r=>by
  unfold outside;rw[List.dropWhile_cons];split
  .exact cg d r
  .rename_i h;simp at h;exact h
variable{d:Nat}
theorem eI{t l:O}(h:∀x∈t,d<x.depth)(hl:hd l<=d):inside d (t++l)=t:=by
 unfold inside;rw[tF (by intro x hx;simpa using h x hx)];cases l with
 |nil=>simp
 |cons y r=>rw[DL (by have h2:y.depth<=d:=hl;simpa using h2),pw]
theorem g_{t l:O}(h:∀x∈t,d<x.depth)(hl:hd l<=d):outside d (t++l)=l:=by
 unfold outside;rw[Kj (by intro x hx;simpa using h x hx)];cases l with
 |nil=>rfl
 |cons y r=>rw[NJ (by have h2:y.depth<=d:=hl;simpa using h2)]
variable{a r:O}{x:Node}
theorem fu:nd (a++x::r) a.length=x:=by unfold nd;rw[uh,k3 (aS _)];simp
theorem jW:(a++x::r).drop (a.length+1)=r:=by rw[List.drop_append];simp
theorem fN:(a++r).take a.length=a:=by simp
theorem iw:aP (a++x::r) a.length=a.length+1+(inside x.depth r).length:=by unfold aP;rw[fu,jW]
theorem x3{n:Nat}:∀{o:O},partAt n o=none↔∀y∈o,y.number≠n
 |[]=>by simp[partAt]
 |y::o=>by
  unfold partAt;split
  .rename_i e;constructor
   .intro h;cases h
   .intro h;exact absurd e (h y (cw ..))
  .rename_i e;rw[Option.map_eq_none_iff,x3 (o:=o)];constructor
   .intro h z hz;cases hz with
    |head=>exact e
    |tail _ hz=>exact h z hz
   .intro h z hz;exact h z (bz _ hz)
theorem part_of{n:Nat}:∀{a r:O}{x:Node},x.number=n->(∀y∈a,y.number≠n)->partAt n (a++x::r)=some (a,x,r)
 |[],r,x,h,_=>by show partAt n (x::r)=_;unfold partAt;rw[ao h]
 |y::a,r,x,h,h2=>by show partAt n (y::(a++x::r))=_;unfold partAt;rw[ak (h2 y (cw ..)),part_of h (λz hz=>h2 z (bz _ hz))];rfl
theorem gr(h:(nums (a++x::r)).Nodup):(∀y∈a,y.number≠x.number)/\∀y∈r,y.number≠x.number:=by
 unfold nums at h;rw[cX,cA,xA] at h;obtain⟨_,h2,h3⟩:=h;constructor
 .intro y hy;exact h3 _ (zK hy) _ (cw ..)
 .intro y hy e;rw[tE] at h2;exact h2.1 (e▸zK hy)
theorem dv(h:(nums (a++x::r)).Nodup):partAt x.number (a++x::r)=some (a,x,r):=part_of rfl (gr h).1
theorem lO(o:O)(n:Nat):Vanbkn.find o n=(partAt n o).map λy=>y.2.1:=by
 unfold Vanbkn.find;induction o with
 |nil=>rfl
 |cons y r ih=>
  rw[rT];unfold partAt;by_cases e:y.number=n
  .simp[e]
  .rw[ak e,Option.map_map];simp only[ny.mpr e];rw[ih];rfl
variable{o:O}{y:Node}
theorem nP(h:(nums o).Nodup)(hx:x∈o)(hy:y∈o)(e:x.number=y.number):x=y:=by
 obtain⟨a,r,rfl⟩:=Ki hx;obtain⟨h1,h2⟩:=gr h;rcases dZ.mp hy with hy|hy
 .exact absurd e.symm (h1 y hy)
 .cases hy with
  |head=>rfl
  |tail _ hy=>exact absurd e.symm (h2 y hy)
variable{z:Int}{i:Nat}
theorem vz(h:dE o z=some i):∃a x r,o=a++x::r/\a.length=i/\(x.number:Int)=z/\∀y∈a,(y.number:Int)≠z:=by
 unfold dE at h;rw[NO] at h;obtain⟨hi,h1,h2⟩:=h;refine⟨o.take i,o[i],o.drop (i+1),?_,?_,by simpa using h1,?_⟩
 .simp
 .rw[bj];omega
 .intro y hy;obtain⟨j,hj,e⟩:=List.mem_take_iff_getElem.mp hy;have:=h2 j (by omega);subst e;simpa using this
theorem pos_none(h:dE o z=none):∀y∈o,(y.number:Int)≠z:=by unfold dE at h;rw[GU] at h;intro y hy;simpa using h y hy
theorem O0(e:(x.number:Int)=z)(h:∀y∈a,(y.number:Int)≠z):dE (a++x::r) z=some a.length:=by unfold dE;rw[List.findIdx?_append,GU.mpr (by intro y hy;simpa using h y hy),List.findIdx?_cons];simp[e]
theorem sj(W:l8 o)(hx:x∈o)(z:Int):x.number=nodeNo z↔(x.number:Int)=z:=by have:=W.num x hx;unfold nodeNo;split<;>omega
theorem nQ(W:l8 o)(z:Int):(∃a x r,o=a++x::r/\dE o z=some a.length/\(x.number:Int)=z/\x.number=nodeNo z/\partAt (nodeNo z) o=some (a,x,r))\/(dE o z=none/\partAt (nodeNo z) o=none/\∀y∈o,(y.number:Int)≠z):=by
 cases h:dE o z with
 |none=>refine .inr ⟨rfl,x3.mpr λy hy e=>pos_none h y hy ((sj W hy z).mp e),pos_none h⟩
 |some i=>
  obtain⟨a,x,r,e,hl,hz,fk⟩:=vz h;have hx:x∈o:=by rw[e];simp
  have hn:=(sj W hx z).mpr hz;refine .inl ⟨a,x,r,e,by rw[hl],hz,hn,?_⟩;rw[e,<-hn];exact dv (by rw[<-e];exact W.nd)
theorem me:nodeNo z=0↔z=0:=by unfold nodeNo;split<;>omega
open Vanbkn (spot children parentOf isSection tree without putTree tooDeep)
def runM(o:O)(p:Int):Option (Nat×Nat×Nat):=
 if p=0 then some (0,o.length,1) else match dE o p with
  |none=>none
  |some i=>if(nd o i).cell=true then none else some (i+1,aP o i,(nd o i).depth+1)
def gA(o:O)(p a:Int):Option (Nat×Nat):=match runM o p with
 |none=>none
 |some (st,en,d)=>if a=0 then some (st,d) else match dE o a with
  |none=>none
  |some j=>if j<st\/en<=j\/(nd o j).depth≠d then none else some (aP o j,d)
structure Spot(o pre post:O)(d:Nat):Prop where
 eq:o=pre++post
 pos:1<=d
 le:d<=jc 1 pre
 hd:hd post<=d
theorem cZ:(a++x::r)[a.length]?=some x:=by rw[k3 (aS _)];simp
variable{j:Nat}
theorem yU(h:(nums o).Nodup)(hi:o[i]?=some x)(hj:o[j]?=some x):i=j:=by
 obtain⟨h1,e1⟩:=dm.mp hi;obtain⟨h2,e2⟩:=dm.mp hj;have g1:(nums o)[i]'(by unfold nums;rw[aT];exact h1)=x.number:=by unfold nums;rw[GV,e1]
 have g2:(nums o)[j]'(by unfold nums;rw[aT];exact h2)=x.number:=by unfold nums;rw[GV,e2]
 exact(Kp h).mp (g1.trans g2.symm)
variable{b q:O}
theorem mem_range(h:(nums (b++y::q)).Nodup)(m k:Nat):y∈((b++y::q).drop m).take k↔m<=b.length/\b.length<m+k:=by
 constructor
 .intro hy;obtain⟨i,hi,e⟩:=GZ.mp hy;rw[bj] at hi;have e2:(b++y::q)[m+i]?=some y:=by rw[List.getElem_take,List.getElem_drop] at e;exact dm.mpr ⟨_,e⟩
  have:=yU h e2 cZ;omega
 .rintro⟨h1,h2⟩;rw[List.mem_iff_getElem?];refine⟨b.length - m,?_⟩;rw[Q5 (by omega),xi,show m+(b.length - m)=b.length by omega];exact cZ
theorem nR(d:Nat)(l:O):inside d l=l.take (inside d l).length:=by have h:=da (List.take (inside d l).length) (bQ d l);rw[List.take_append_of_le_length (aS _),fm] at h;exact h
theorem gv(h:cH m (a++x::r)):cH m a/\1<=x.depth/\x.depth<=jc m a/\cH (lim x) r:=by rw[a7] at h;exact⟨h.1,h.2.1,h.2.2.1,h.2.2.2⟩
theorem Spot.behind(h:cH 1 (b++y::q)):Spot (b++y::q) (b++y::inside y.depth q) (outside y.depth q) y.depth:=by
 obtain⟨h1,h2,h3,h4⟩:=gv h;refine⟨?_,h2,?_,cg _ _⟩
 .rw[dQ,iW,bQ]
 .rw[gM];show _<=jc (lim y) (inside y.depth q);exact o3 (HK y) λx hx=>eX (cp x hx)
theorem Spot.first(h:cH 1 (a++x::r))(hc:x.cell=false):Spot (a++x::r) (a++[x]) r (x.depth+1):=by
 obtain⟨h1,h2,h3,h4⟩:=gv h;have e:lim x=x.depth+1:=by unfold lim;rw[hc];rfl
 refine⟨by simp,by omega,?_,?_⟩
 .rw[gM];show _<=lim x;omega
 .rw[<-e];exact vx h4
theorem Spot.top(h:cH 1 o):Spot o [] o 1:=⟨rfl,aS _,aS _,vx h⟩
theorem hZ(o:O)(n:Nat):isSection o n=match partAt n o with
 |some (_,x,_)=> !x.cell
 |none=>false:=by
 unfold isSection;rw[lO];cases partAt n o with
 |none=>rfl
 |some q=>rfl
variable{l:List Node}{n:Nat}
theorem mf:(l.any λx=>x.number==n)=true↔∃x∈l,x.number=n:=by simp
theorem fO(W:l8 o)(p a:Int):(gA o p a=none/\spot o (nodeNo p) (nodeNo a)=none)\/∃pre post d,gA o p a=some (pre.length,d)/\spot o (nodeNo p) (nodeNo a)=some (pre,post,d)/\Spot o pre post d:=by
 by_cases hp:p=0
 .subst hp;have e0:nodeNo 0=0:=me.mpr rfl;have er:runM o 0=some (0,o.length,1):=ao rfl;unfold gA spot;rw[er,e0];by_cases ha:a=0
  .subst ha;refine .inr ⟨[],o,1,?_,?_,Spot.top W.dep⟩
   .simp
   .rw[e0];simp
  .have ea:nodeNo a≠0:=λe=>ha (me.mp e);simp only[ak ha,ak ea,ne_eq,not_true,false_and,jT];rcases nQ W a with⟨b,y,q,e,h1,h2,h3,h4⟩|⟨h1,h2,h3⟩
   .rw[h1,h4];have hk:((children o 0).any λx=>x.number==nodeNo a)=true↔y.depth=1:=by
     rw[mf];unfold children;rw[ao rfl];constructor
     .rintro⟨x,hx,hn⟩;obtain⟨hx,hd⟩:=gY.mp hx;have:x=y:=nP W.nd hx (by rw[e];simp) (by rw[hn,h3]);subst this;simpa using hd
     .intro hd;exact⟨y,gY.mpr ⟨by rw[e];simp,by simp[hd]⟩,h3⟩
    have hn:nd o b.length=y:=by rw[e];exact fu
    have fD:¬o.length<=b.length:=by rw[e];simp
    by_cases hd:y.depth=1
    .rw[ao (hk.mpr hd)];refine .inr ⟨b++y::inside y.depth q,outside y.depth q,y.depth,?_,rfl,?_⟩
     .simp only[hn,Nat.not_lt_zero,fD,hd,false_or,ne_eq,not_true,jT];rw[e,iw,bb,cn,hd];congr 2;omega
     .have:=Spot.behind (b:=b) (q:=q) (y:=y) (by rw[<-e];exact W.dep);rw[<-e] at this;exact this
    .rw[ak (λh=>hd (hk.mp h))];refine .inl ⟨?_,rfl⟩;simp only[hn];rw[ao (.inr (.inr hd))]
   .rw[h1];refine .inl ⟨rfl,?_⟩;rw[h2];split<;>rfl
 .have ep:nodeNo p≠0:=λe=>hp (me.mp e);unfold gA spot runM;rw[ak hp,hZ];rcases nQ W p with⟨c,x,r,e,h1,h2,h3,h4⟩|⟨h1,h2,h3⟩
  .rw[h1,h4];have hn:nd o c.length=x:=by rw[e];exact fu
   simp only[hn];rcases Bool.eq_false_or_eq_true x.cell with hc|hc
   .simp[hc,ep]
   .simp only[hc,Bool.not_false,ne_eq,Bool.true_eq_false,and_false,jT,ak ep,GN];by_cases ha:a=0
    .subst ha;rw[show nodeNo 0=0 from me.mpr rfl];refine .inr ⟨c++[x],r,x.depth+1,by simp,rfl,?_⟩;have:=Spot.first (a:=c) (r:=r) (x:=x) (by rw[<-e];exact W.dep) hc
     rw[<-e] at this;exact this
    .have ea:nodeNo a≠0:=λe=>ha (me.mp e);simp only[ak ha,ak ea];have ht:aP o c.length=c.length+1+(inside x.depth r).length:=by rw[e];exact iw
     have yV:o.drop (c.length+1)=r:=by rw[e];exact jW
     rcases nQ W a with⟨b,y,q,e',g1,g2,g3,g4⟩|⟨g1,g2,g3⟩
     .rw[g1,g4];have Zk:nd o b.length=y:=by rw[e'];exact fu
      have hk:((children o (nodeNo p)).any λx=>x.number==nodeNo a)=true↔(c.length+1<=b.length/\b.length<c.length+1+(inside x.depth r).length)/\y.depth=x.depth+1:=by
       rw[mf];unfold children;rw[ak ep,h4];have hm:=mem_range (b:=b) (q:=q) (y:=y) (by rw[<-e'];exact W.nd) (c.length+1) (inside x.depth r).length;rw[<-e',yV,<-nR] at hm;rw[<-hm];constructor
       .rintro⟨z,hz,Zl⟩;obtain⟨hz,hd⟩:=gY.mp hz;have Zm:z∈o:=by rw[e];exact eM _ (bz _ (by rw[<-bQ x.depth r];exact dA _ hz))
        have:z=y:=nP W.nd Zm (by rw[e'];simp) (by rw[Zl,g3]);subst this;exact⟨hz,by simpa using hd⟩
       .rintro⟨hy,hd⟩;exact⟨y,gY.mpr ⟨hy,by simp[hd]⟩,g3⟩
      simp only[Zk,ht];by_cases hd:((c.length+1<=b.length/\b.length<c.length+1+(inside x.depth r).length)/\y.depth=x.depth+1)
      .rw[ao (hk.mpr hd),ak (by omega)];refine .inr ⟨b++y::inside y.depth q,outside y.depth q,y.depth,?_,rfl,?_⟩
       .rw[e',iw,bb,cn,hd.2];congr 2;omega
       .have:=Spot.behind (b:=b) (q:=q) (y:=y) (by rw[<-e'];exact W.dep);rw[<-e'] at this;exact this
      .rw[ak (λh=>hd (hk.mp h)),ao (by omega)];exact .inl ⟨rfl,rfl⟩
     .rw[g1,g2];refine .inl ⟨rfl,?_⟩;split<;>rfl
  .rw[h1,h2];simp[ep]
open Vanbkn (ancestors)
theorem Em:∀(l:O)(d:Nat),(upFrom d l).head?=l.find? λx=>decide (x.depth<d)
 |[],_=>rfl
 |x::r,d=>by
  unfold upFrom;rw[rT];by_cases h:x.depth<d
  .rw[ao h,aR h];rfl
  .rw[ak h,cR h];exact Em r d
theorem lP(h:(nums (a++x::r)).Nodup):ancestors (a++x::r) x.number=(upFrom x.depth a.reverse).reverse:=by unfold ancestors;rw[dv h]
theorem fe(h:(nums (a++x::r)).Nodup):parentOf (a++x::r) x.number=match a.reverse.find? (λy=>decide (y.depth<x.depth)) with
 |some q=>q.number
 |none=>0:=by
 unfold parentOf;rw[lP h,List.getLast?_reverse,Em];cases List.find? (λy=>decide (y.depth<x.depth)) (List.reverse a)<;>rfl
theorem o4:(∃b q c,a=b++q::c/\q.depth<d/\(∀y∈c,d<=y.depth)/\a.reverse.find? (λy=>decide (y.depth<d))=some q)\/((∀y∈a,d<=y.depth)/\a.reverse.find? (λy=>decide (y.depth<d))=none):=by
 cases h:a.reverse.find? (λy=>decide (y.depth<d)) with
 |none=>refine .inr ⟨λy hy=>?_,rfl⟩;have:=GR.mp h y (uV.mpr hy);simpa using this
 |some q=>
  obtain⟨h1,as,bs,h2,h3⟩:=List.find?_eq_some_iff_append.mp h;refine .inl ⟨bs.reverse,q,as.reverse,?_,by simpa using h1,λy hy=>?_,rfl⟩
  .have:=da List.reverse h2;simpa using this
  .have:=h3 y (uV.mp hy);simpa using this
theorem FF{c:O}{q:Node}(h:cH m (b++q::c++x::r))(hq:q.depth<x.depth)(hc:∀y∈c,x.depth<=y.depth):q.cell=false/\x.depth=q.depth+1:=by
 rw[dQ,iW,a7] at h;obtain⟨_,_,_,h4⟩:=h;have hl:=HL q;have key:x.depth<=lim q:=by
  cases c with
  |nil=>exact h4.2.1
  |cons z c=>exact bq (hc z (cw ..)) h4.2.1
 refine⟨?_,by omega⟩;cases e:q.cell with
 |false=>rfl
 |true=>unfold lim at key;rw[ao e] at key;omega
theorem KW(h:cH 1 (a++x::r))(ha:∀y∈a,x.depth<=y.depth):x.depth=1:=by
 obtain⟨h1,h2,h3,_⟩:=gv h;cases a with
 |nil=>have:x.depth<=1:=h3;omega
 |cons y a=>have g1:=ha y (cw ..);have g2:y.depth<=1:=h1.2.1;omega
theorem mh(W:l8 (a++x::r)):∃pre c r',a=pre++c/\(∀y∈c,x.depth<=y.depth)/\children (a++x::r) (parentOf (a++x::r) x.number)=c.filter (λy=>y.depth==x.depth)++x::r'.filter (λy=>y.depth==x.depth)/\
 r'=r.takeWhile (λy=>decide (x.depth<=y.depth))/\((pre=[]/\x.depth=1/\parentOf (a++x::r) x.number=0)\/∃b q,pre=b++[q]/\q.cell=false/\x.depth=q.depth+1/\parentOf (a++x::r) x.number=q.number):=by
 have e:=fe W.nd;rcases o4 (a:=a) (d:=x.depth) with⟨b,q,c,rfl,hq,hc,hf⟩|⟨ha,hf⟩
 .obtain⟨h1,h2⟩:=FF W.dep hq hc;rw[hf] at e;simp only at e;refine⟨b++[q],c,_,by simp,hc,?_,rfl,.inr ⟨b,q,rfl,h1,h2,e⟩⟩;have J7:q.number≠0:=by have:=W.num q (by simp);omega
  rw[e];unfold children;rw[ak J7];have hp:partAt q.number (b++q::c++x::r)=some (b,q,c++x::r):=by rw[dQ,iW];refine dv ?_;have:=W.nd;rw[dQ,iW] at this;exact this
  rw[hp];simp only;have uE:inside q.depth (c++x::r)=c++x::r.takeWhile (λy=>decide (x.depth<=y.depth)):=by
   unfold inside;rw[tF (by intro y hy;have:=hc y hy;simp;omega),DM (by simp;omega)];congr 3;funext y;have:(q.depth<y.depth)=(x.depth<=y.depth):=by rw[h2];rfl
   simp only[this]
  rw[uE,<-h2,qI,xh (by simp)]
 .have h1:=KW W.dep ha;rw[hf] at e;simp only at e;refine⟨[],a,_,rfl,ha,?_,rfl,.inl ⟨rfl,h1,e⟩⟩;rw[e];unfold children;rw[ao rfl,qI,xh (by simp[h1]),h1];congr 2;have:r.takeWhile (λy=>decide (1<=y.depth))=r:=by
   have:=tF (p:=λy:Node=>decide (1<=y.depth)) (l₁:=r) (l₂:=[]) (by intro y hy;have:=lN W.dep y (by simp[hy]);simpa using this)
   simpa using this
  rw[this]
theorem AD(W:l8 (b++y::q)):spot (b++y::q) (parentOf (b++y::q) y.number) y.number=some (b++y::inside y.depth q,outside y.depth q,y.depth):=by
 obtain⟨pre,c,r',h1,h2,h3,h4,h5⟩:=mh W;have R3:y.number≠0:=by have:=W.num y (by simp);omega
 unfold spot;rw[h3];have hs:¬(parentOf (b++y::q) y.number≠0/\isSection (b++y::q) (parentOf (b++y::q) y.number)=false):=by
  rcases h5 with⟨_,_,e⟩|⟨b',p,e1,e2,e3,e4⟩
  .rw[e];simp
  .rw[e4];intro⟨_,hh⟩;have hp:partAt p.number (b++y::q)=some (b',p,c++y::q):=by
    have e:b++y::q=b'++p::(c++y::q):=by rw[h1,e1];simp
    rw[e];exact dv (by rw[<-e];exact W.nd)
   rw[hZ,hp] at hh;simp[e2] at hh
 rw[ak hs,ak R3,ao (by simp),dv W.nd];rfl
theorem o5(W:l8 (a++x::r)):(∃b y c,a=b++y::c/\y.depth=x.depth/\(∀z∈c,x.depth<z.depth)/\sibling (a++x::r) x.number=some y)\/
 (sibling (a++x::r) x.number=none/\((∀z∈a,x.depth<z.depth)\/∃b y c,a=b++y::c/\y.depth<x.depth/\∀z∈c,x.depth<z.depth)):=by
 obtain⟨pre,c,r',h1,h2,h3,h4,h5⟩:=mh W;have fk:∀y∈c,y.number≠x.number:=λy hy=>(gr W.nd).1 y (by rw[h1];exact eM _ hy);have e:sibling (a++x::r) x.number=(c.filter λy=>y.depth==x.depth).getLast?:=by unfold sibling;rw[h3,tF (by intro y hy;have:=fk y (gY.mp hy).1;simpa using this),DL (by simp),pw]
 rw[e];cases hl:(c.filter λy=>y.depth==x.depth).getLast? with
 |none=>
  refine .inr ⟨rfl,?_⟩;rw[Q6,uT] at hl;have hc:∀z∈c,x.depth<z.depth:=λz hz=>by have g1:=h2 z hz;have g2:=hl z hz;simp at g2;omega
  rcases h5 with⟨rfl,_,_⟩|⟨b,q,rfl,_,g,_⟩
  .exact .inl (by rw[h1];exact hc)
  .exact .inr ⟨b,q,c,by rw[h1];simp,by omega,hc⟩
 |some y=>
  rw[Q8] at hl;obtain⟨ys,hl⟩:=hl;have:=Q2.mp hl;obtain⟨l1,l2,e1,e2,e3⟩:=this;obtain⟨l3,l4,e4,e5,e6,e7⟩:=Q3.mp e3;refine .inl ⟨pre++l1++l3,y,l4,?_,by simpa using e6,?_,rfl⟩
  .rw[h1,e1,e4];simp
  .intro z hz;have g1:=h2 z (by rw[e1,e4];simp[hz]);rw[uT] at e7;have g2:=e7 z hz;simp at g2;omega
theorem HM{d:Nat}{o suf:O}(vA:(nums o).Nodup)(hs:hd suf<=d):∀(n:Nat)(pre seg:O),seg.length<=n->o=pre++seg++suf->(∀z∈seg,d<=z.depth)->hd seg<=d->
 (seg.filter λy=>y.depth==d).flatMap (λy=>tree o y.number)=seg
 |_,_,[],_,_,_,_=>rfl
 |n+1,pre,z::rest,hn,e,kL,hh=>by
  have hz:z.depth=d:=by have g1:=kL z (cw ..);have g2:z.depth<=d:=hh;omega
  rw[xh (by simp[hz]),nu];have e2:o=pre++z::(rest++suf):=by rw[e];simp
  have ht:tree o z.number=z::inside d (rest++suf):=by
   unfold tree;have:partAt z.number o=some (pre,z,rest++suf):=by rw[e2];exact dv (by rw[<-e2];exact vA)
   rw[this];show z::inside z.depth _=_;rw[hz]
  have hi:inside d (rest++suf)=inside d rest:=by
   conv=>lhs;rw[<-bQ d rest,dQ]
   refine eI (λx hx=>cp x hx) ?_;cases ho:outside d rest with
   |nil=>exact hs
   |cons y l=>exact(show hd (y::l)<=d by rw[<-ho];exact cg d rest)
  rw[ht,hi];have hf:rest.filter (λy=>y.depth==d)=(outside d rest).filter λy=>y.depth==d:=by
   conv=>lhs;rw[<-bQ d rest,qI]
   rw[uT.mpr (by intro y hy;have:=cp y hy;simp;omega),uW]
  have hlen:(outside d rest).length<=n:=by have:=da List.length (bQ d rest);rw[bb] at this;simp at hn;omega
  rw[hf,HM vA hs n (pre++z::inside d rest) (outside d rest) hlen (by rw[e];simp[bQ]) (λy hy=>kL y (bz _ (by rw[<-bQ d rest];exact eM _ hy))) (cg d rest),iW,bQ]
open Vanbkn (first doMove doPromote doDemote doRaise moved)
def cu(t:O)(fr to:Nat):Bool:=t.any λx=> !x.cell&&decide (6<x.depth - fr+to)
theorem cT(h:∀x∈o,Good x):tooDeep o=false:=by
 unfold tooDeep;rw[Fb];intro x hx;have:=(h x hx).sec;cases hc:x.cell with
 |true=>simp
 |false=>
  have g:=this hc;have g2:¬DEEP<x.depth:=by show¬6<x.depth;omega
  simp[g2]
theorem bR(a b:O):tooDeep (a++b)=(tooDeep a||tooDeep b):=List.any_append
theorem jd(t:O)(fr to:Nat):tooDeep (shifted t fr to)=cu t fr to:=by unfold tooDeep shifted cu;rw[B9];rfl
variable{s:State}
theorem bx{f:Node->State×Answer}(W:l8 s.nodes)(h:dE s.nodes z=none):withNode s z f=refused s (-1):=by
 unfold withNode;rw[lO];rcases nQ W z with⟨a,x,r,e,h1,_⟩|⟨_,h2,_⟩
 .rw[h] at h1;cases h1
 .rw[h2];rfl
theorem aO{f:Node->State×Answer}(W:l8 s.nodes)(e:s.nodes=a++x::r)(hz:(x.number:Int)=z):withNode s z f=f x:=by
 unfold withNode;have hx:x∈s.nodes:=by rw[e];simp
 rw[lO,<-(sj W hx z).mpr hz,e,dv (by rw[<-e];exact W.nd)];rfl
theorem aY(z:Int):dE o z=none\/∃a x r,o=a++x::r/\dE o z=some a.length/\(x.number:Int)=z:=by
 cases h:dE o z with
 |none=>exact .inl rfl
 |some i=>obtain⟨a,x,r,e,hl,hz,_⟩:=vz h;exact .inr ⟨a,x,r,e,by rw[hl],hz⟩
theorem iy(h:(nums (a++x::r)).Nodup):tree (a++x::r) x.number=x::inside x.depth r:=by unfold tree;rw[dv h]
theorem k9(h:(nums (a++x::r)).Nodup):without (a++x::r) x.number=a++outside x.depth r:=by unfold without;rw[dv h]
variable{pre post:O}
theorem En{T:O}(S:Spot o pre post d)(h:cH 1 o)(hT:cH d T)(kL:∀y∈T,d<=y.depth):cH 1 (pre++T++post):=by rw[S.eq,a7] at h;rw[dQ,a7,a7];refine⟨h.1,sg S.le hT,kK h.2 (bq S.hd (o3 S.le kL))⟩
theorem AE(h:cH m (a++x::r)):cH x.depth (x::inside x.depth r):=by obtain⟨_,h2,_,h4⟩:=gv h;rw[<-bQ x.depth r,a7] at h4;exact⟨h2,aS _,h4.1⟩
theorem h_:∀y∈x::inside x.depth r,x.depth<=y.depth:=λy hy=>by
 cases hy with
 |head=>exact aS _
 |tail _ hy=>exact eX (cp y hy)
theorem AG(h:cH 1 (a++x::r)):cH 1 (a++outside x.depth r):=by obtain⟨h1,h2,h3,h4⟩:=gv h;rw[a7];rw[<-bQ x.depth r,a7] at h4;exact⟨h1,kK h4.2 (bq (cg _ _) h3)⟩
theorem i5(a r:O)(x:Node):(a++outside x.depth r).Sublist (a++x::r):=by refine List.Sublist.append (NF _) (List.Sublist.cons _ ?_);exact(GQ _)
theorem lQ(h:a.Sublist b)(hn:(nums b).Nodup):(nums a).Nodup:=List.Nodup.sublist (h.map _) hn
theorem l8.without(W:l8 (a++x::r)):l8 (a++outside x.depth r) where
 len:=bq (i5 a r x).length_le W.len
 nd:=lQ (i5 a r x) W.nd
 dep:=AG W.dep
 good:=λy hy=>W.good y ((i5 a r x).subset hy)
theorem AH{t:O}(h1:1<=d)(h:cH x.depth (x::t))(kL:∀y∈x::t,x.depth<=y.depth):cH d (shifted (x::t) x.depth d):=by have:=md (f:=λy:Node=>{y with depth:=y.depth - x.depth+d}) (fr:=x.depth) (to:=d) h1 kL (λy _=>⟨rfl,rfl⟩) (aS _) h;rw[tI,Nat.zero_add] at this;exact this
variable{to:Nat}
theorem Cw{t:O}{fr:Nat}:∀y∈shifted t fr to,to<=y.depth:=λy hy=>by obtain⟨z,_,rfl⟩:=fc.mp hy;exact Nat.le_add_left _ _
theorem yW{t:O}{fr:Nat}(h:∀y∈t,Good y)(hd:cu t fr to=false):∀y∈shifted t fr to,Good y:=λy hy=>by obtain⟨z,hz,rfl⟩:=fc.mp hy;have g:=h z hz;refine⟨g.num,λhc=>?_,g.txt,g.cf⟩;have:=Fb.mp hd z hz;have xI:z.cell=false:=hc;simp[xI] at this;show z.depth - fr+to<=6;omega
theorem yX(t:O)(fr to:Nat):nums (shifted t fr to)=nums t:=by unfold nums shifted;rw[iq];rfl
theorem c5(a b:O):nums (a++b)=nums a++nums b:=cX
theorem x4{T:O}(h:(nums T++nums (pre++post)).Nodup):(nums (pre++T++post)).Nodup:=by refine List.Perm.nodup ?_ h;rw[c5,c5,c5,dQ];refine(Mw _ _ _)
theorem HN{t:O}(W:l8 o)(S:Spot o pre post d)(h:cH x.depth (x::t))(kL:∀y∈x::t,x.depth<=y.depth)(hg:∀y∈x::t,Good y)(hd:cu (x::t) x.depth d=false)(hn:(nums (x::t)++nums o).Nodup)(hl:o.length+(x::t).length<=60):l8 (pre++shifted (x::t) x.depth d++post) where
 len:=by rw[S.eq,bb] at hl;rw[bb,bb];unfold shifted;rw[aT];omega
 nd:=x4 (by rw[yX,<-S.eq];exact hn)
 dep:=En S W.dep (AH S.pos h kL) Cw
 good:=λy hy=>by
  rw[dQ] at hy;rcases dZ.mp hy with hy|hy
  .exact W.good y (by rw[S.eq];exact dA _ hy)
  .rcases dZ.mp hy with hy|hy
   .exact yW hg hd y hy
   .exact W.good y (by rw[S.eq];exact eM _ hy)
theorem gB(a r:O)(x:Node):(a++x::r).Perm ((x::inside x.depth r)++(a++outside x.depth r)):=by
 have:a++x::r=a++((x::inside x.depth r)++outside x.depth r):=by rw[iW,bQ]
 rw[this];exact Mw _ _ _
theorem KY(W:l8 (a++x::r))(S:Spot (a++outside x.depth r) pre post d)(hd:cu (x::inside x.depth r) x.depth d=false):l8 (pre++shifted (x::inside x.depth r) x.depth d++post):=by
 have p:=gB a r x;refine HN W.without S (AE W.dep) h_ (λy hy=>W.good y (p.mem_iff.mpr (dA _ hy))) hd ?_ ?_
 .have:=(p.map λy:Node=>y.number).nodup W.nd;rw[cX] at this;exact this
 .have:=p.length_eq;rw[bb (as:=x::inside x.depth r)] at this;have:=W.len;omega
theorem vB{t:List Int}:isText t=true↔t.length<=60/\∀c∈t,32<=c/\c<=126:=by unfold isText;rw[uQ,yH,d8];simp only[d8];exact Iff.rfl
theorem nS{t:List Int}(h:isText t=true):(textOf t).length<=60/\∀c∈textOf t,32<=c/\c<=126:=by obtain⟨h1,h2⟩:=vB.mp h;unfold textOf;refine⟨by rw[aT];exact h1,λc hc=>?_⟩;obtain⟨z,hz,rfl⟩:=fc.mp hc;have:=h2 z hz;rw[ao (by omega)];omega
theorem kM{t:List Int}(h:isText t=true):(textOf t).map (λc:Nat=>(c:Int))=t:=by
 obtain⟨_,h2⟩:=vB.mp h;unfold textOf;rw[iq]
 conv=>rhs;rw[<-uU t]
 refine iX λc hc=>?_;have:=h2 c hc;show(((if 0<=c/\c<=255 then c.toNat else 256:Nat)):Int)=c;rw[ao (by omega)];omega
theorem qZ:full s=true↔60<=s.nodes.length:=by unfold full;exact d8
theorem mi:usedUp s=true↔999<s.next:=by unfold usedUp;exact d8
def HP(s:State)(p a:Int)(cell:Bool)(t:List Int):State×Answer:=match gA s.nodes p a with
 |none=>refused s (-2)
 |some (i,d)=>if isText t=false then refused s (-3) else if 60<=s.nodes.length then refused s (-4) else if cell=false/\6<d then refused s (-5) else if 999<s.next then refused s (-6)
  else(⟨s.nodes.take i++⟨s.next,d,cell,false,textOf t⟩::s.nodes.drop i,s.next+1⟩,⟨s.next,[]⟩)
theorem Cy(W:Wf s)(p a:Int)(cell:Bool)(t:List Int):doNew s p a cell t=HP s p a cell t:=by
 unfold doNew HP;rcases fO W.n p a with⟨h1,h2⟩|⟨pre,post,d,h1,h2,S⟩
 .rw[h1,h2];simp[checked,first]
 .rw[h1,h2];have e:putTree (pre,post,d) [⟨s.next,1,cell,false,textOf t⟩]=pre++⟨s.next,d,cell,false,textOf t⟩::post:=by simp[putTree,shifted]
  have ht:tooDeep (pre++⟨s.next,d,cell,false,textOf t⟩::post)=true↔cell=false/\6<d:=by have g1:tooDeep pre=false:=cT λy hy=>W.n.good y (by rw[S.eq];exact dA _ hy);have g2:tooDeep post=false:=cT λy hy=>W.n.good y (by rw[S.eq];exact eM _ hy);have e3:pre++(⟨s.next,d,cell,false,textOf t⟩:Node)::post=pre++([⟨s.next,d,cell,false,textOf t⟩]++post):=rfl;rw[e3,bR,bR,g1,g2,Qo,zG];unfold tooDeep;rw[uR,List.any_nil,zG,uQ,d8];simp only[Bool.not_eq_true'];exact Iff.rfl
  have et:s.nodes.take pre.length=pre:=by rw[S.eq];exact fN
  have ed:s.nodes.drop pre.length=post:=by rw[S.eq];simp
  simp only[u4,e,DT];rw[et,ed];unfold checked first
  simp only[GN,jT];unfold first
  by_cases c1:isText t=false
  .simp[c1]
  .have VP:isText t=true:=by simpa using c1
   rw[ak (by simp[VP]),ak c1];unfold first
   by_cases c2:60<=s.nodes.length
   .rw[ao (by rw[qZ];exact c2),ao c2]
   .rw[ak (by rw[qZ];exact c2),ak c2];unfold first
    by_cases c3:cell=false/\6<d
    .rw[ao (ht.mpr c3),ao c3]
    .rw[ak (λh=>c3 (ht.mp h)),ak c3];unfold first
     by_cases c4:999<s.next
     .rw[ao (by rw[mi];exact c4),ao c4]
     .rw[ak (by rw[mi];exact c4),ak c4];rfl
theorem HQ(W:Wf s)(p a:Int)(cell:Bool)(t:List Int):Wf (HP s p a cell t).1:=by
 unfold HP;rcases fO W.n p a with⟨h1,h2⟩|⟨pre,post,d,h1,h2,S⟩
 .rw[h1];exact W
 .rw[h1];simp only;split
  .exact W
  .rename_i c1;split
   .exact W
   .rename_i c2;split
    .exact W
    .rename_i c3;split
     .exact W
     .rename_i c4;have et:s.nodes.take pre.length=pre:=by rw[S.eq];exact fN
      have ed:s.nodes.drop pre.length=post:=by rw[S.eq];simp
      simp only[et,ed];have hx:cH d [(⟨s.next,d,cell,false,textOf t⟩:Node)]:=⟨S.pos,aS _,trivial⟩;have hW:=W.n;refine⟨⟨?_,?_,?_,?_⟩,?_,by have:=W.nx;show 1<=s.next+1/\s.next+1<=1000;omega⟩
      .have:=da List.length S.eq;rw[bb] at this;show(pre++_::post).length<=60;rw[bb,cn];omega
      .have e3:pre++(⟨s.next,d,cell,false,textOf t⟩:Node)::post=pre++[⟨s.next,d,cell,false,textOf t⟩]++post:=by simp
       show(nums (pre++_::post)).Nodup;rw[e3];refine x4 ?_;rw[<-S.eq];show(s.next::nums s.nodes).Nodup;refine tE.mpr ⟨λh=>?_,hW.nd⟩;obtain⟨y,hy,e⟩:=fc.mp h;have:=W.lt y hy;omega
      .have e3:pre++(⟨s.next,d,cell,false,textOf t⟩:Node)::post=pre++[⟨s.next,d,cell,false,textOf t⟩]++post:=by simp
       show cH 1 (pre++_::post);rw[e3];exact En S hW.dep hx (by intro y hy;simp at hy;rw[hy];exact aS _)
      .intro y hy;rcases dZ.mp hy with hy|hy
       .exact hW.good y (by rw[S.eq];exact dA _ hy)
       .cases hy with
        |head=>have:=W.nx;refine⟨by show 1<=s.next/\s.next<=999;omega,λhc=>?_,nS (by simpa using c1),λ_=>rfl⟩;show d<=6;have xI:cell=false:=hc;have:¬6<d:=λh=>c3 ⟨xI,h⟩;omega
        |tail _ hy=>exact hW.good y (by rw[S.eq];exact eM _ hy)
      .intro y hy;show y.number<s.next+1;rcases dZ.mp hy with hy|hy
       .exact tH (W.lt y (by rw[S.eq];exact dA _ hy))
       .cases hy with
        |head=>exact mY _
        |tail _ hy=>exact tH (W.lt y (by rw[S.eq];exact eM _ hy))
open Vanbkn (changed1 lastChild step)
theorem Cz{f:Node->Node}(W:l8 o)(h:∀x∈o,(f x).number=x.number/\(f x).depth=x.depth/\(f x).cell=x.cell/\Good (f x)):l8 (o.map f) where
 len:=by rw[aT];exact W.len
 nd:=by
  have:nums (o.map f)=nums o:=by unfold nums;rw[iq];exact iX λx hx=>(h x hx).1
  rw[this];exact W.nd
 dep:=by
  have:∀(l:O)(m:Nat),(∀x∈l,(f x).depth=x.depth/\(f x).cell=x.cell)->cH m l->cH m (l.map f):=by
   intro l;induction l with
   |nil=>intro m _ _;trivial
   |cons x r ih=>
    intro m hl ⟨g1,g2,g3⟩;obtain⟨e1,e2⟩:=hl x (cw ..);refine⟨by rw[e1];exact g1,by rw[e1];exact g2,?_⟩;have:lim (f x)=lim x:=by unfold lim;rw[e1,e2]
    rw[this];exact ih _ (λy hy=>hl y (bz _ hy)) g3
  exact this o 1 (λx hx=>⟨(h x hx).2.1,(h x hx).2.2.1⟩) W.dep
 good:=λy hy=>by obtain⟨x,hx,rfl⟩:=fc.mp hy;exact(h x hx).2.2.2
theorem pF(h:(nums (a++x::r)).Nodup)(f:Node->Node):changed1 (a++x::r) x.number f=a++f x::r:=by
 obtain⟨h1,h2⟩:=gr h;unfold changed1;rw[cX,cA,ao rfl];congr 1
 .conv=>rhs;rw[<-uU a]
  exact iX λy hy=>ak (h1 y hy)
 .congr 1
  conv=>rhs;rw[<-uU r]
  exact iX λy hy=>ak (h2 y hy)
theorem mj(W:Wf s)(h:∀y∈o,∃x∈s.nodes,y.number=x.number):∀y∈o,y.number<s.next:=λy hy=>by obtain⟨x,hx,e⟩:=h y hy;rw[e];exact W.lt x hx
theorem vC{f:Node->Node}(W:Wf s)(h:∀x∈s.nodes,x.number=n->(f x).number=x.number/\(f x).depth=x.depth/\(f x).cell=x.cell/\Good (f x)):Wf ⟨changed1 s.nodes n f,s.next⟩:=by
 have hh:∀x∈s.nodes,((λx=>if x.number=n then f x else x) x).number=x.number/\((λx=>if x.number=n then f x else x) x).depth=x.depth/\((λx=>if x.number=n then f x else x) x).cell=x.cell/\Good ((λx=>if x.number=n then f x else x) x):=λx hx=>by
  by_cases e:x.number=n
  .simp only[ao e];exact h x hx e
  .simp only[ak e];exact⟨trivial,trivial,trivial,W.n.good x hx⟩
 refine⟨Cz W.n hh,?_,W.nx⟩;refine mj (s:=s) W λy hy=>?_;obtain⟨x,hx,rfl⟩:=fc.mp hy;exact⟨x,hx,(hh x hx).1⟩
section
variable{s:State}{a r:O}{x:Node}{z:Int}
theorem HR(W:Wf s)(e:s.nodes=a++x::r)(hz:(x.number:Int)=z)(t:List Int):step s (.write z t)=if isText t=false then refused s (-3) else(⟨a++{x with text:=textOf t}::r,s.next⟩,⟨0,[]⟩):=by
 show withNode s z _=_;rw[aO W.n e hz,e,pF (by rw[<-e];exact W.n.nd)];unfold checked first
 cases isText t<;>rfl
theorem HS(W:Wf s)(z:Int)(t:List Int):Wf (step s (.write z t)).1:=by
 rcases aY (o:=s.nodes) z with h|⟨a,x,r,e,h,hz⟩
 .show Wf (withNode s z _).1;rw[bx W.n h];exact W
 .show Wf (withNode s z _).1;rw[aO W.n e hz];unfold checked first
  cases ht:isText t with
  |false=>exact W
  |true=>exact vC W λy hy _=>⟨rfl,rfl,rfl,⟨(W.n.good y hy).num,(W.n.good y hy).sec,nS ht,(W.n.good y hy).cf⟩⟩
theorem fold_eq(W:Wf s)(e:s.nodes=a++x::r)(hz:(x.number:Int)=z)(m:Int):step s (.fold z m)=if x.cell=true then refused s (-7) else if¬(m=0\/m=1) then refused s (-11) else(⟨a++{x with folded:=m==1}::r,s.next⟩,⟨0,[]⟩):=by
 show withNode s z _=_;rw[aO W.n e hz,e,pF (by rw[<-e];exact W.n.nd)];unfold checked first
 by_cases hc:x.cell=true
 .rw[ao hc,ao hc]
 .rw[ak hc,ak hc];unfold first
  by_cases hm:m=0\/m=1
  .rw[ak (by rcases hm with rfl|rfl<;>decide),ak (λh=>h hm)];rfl
  .have:(m==0||m==1)=false:=by rw[Mv];exact⟨ny.mpr λh=>hm (.inl h),ny.mpr λh=>hm (.inr h)⟩
   rw[this,ao hm];rfl
theorem KZ(W:Wf s)(z m:Int):Wf (step s (.fold z m)).1:=by
 rcases aY (o:=s.nodes) z with h|⟨a,x,r,e,h,hz⟩
 .show Wf (withNode s z _).1;rw[bx W.n h];exact W
 .show Wf (withNode s z _).1;rw[aO W.n e hz];unfold checked first
  cases hc:x.cell with
  |true=>exact W
  |false=>
   rw[ak (by decide)];unfold first
   split
   .rename_i k heq;exact W
   .refine vC W λy hy Zn=>?_;have:y=x:=nP W.n.nd hy (by rw[e];simp) Zn;subst this;refine⟨rfl,rfl,rfl,(W.n.good y hy).num,(W.n.good y hy).sec,(W.n.good y hy).txt,λh=>?_⟩;have h':y.cell=true:=h;rw[hc] at h';cases h'
def um(d:Int)(x:Node):Node:=if x.cell=true then x else{x with folded:=decide (d<=(x.depth:Int))}
theorem foldFrom_eq(d:Int):step s (.foldFrom d)=if¬(1<=d/\d<=7) then refused s (-12) else(⟨s.nodes.map (um d),s.next⟩,⟨((s.nodes.map (um d)).filter λx=>x.folded).length,[]⟩):=by
 show checked s _ _ _ _=_;unfold checked first
 by_cases h:1<=d/\d<=7
 .have:depthIn d=true:=by unfold depthIn;exact aR h
  rw[this,ak (by decide),ak (λg=>g h)];rfl
 .have:depthIn d=false:=by unfold depthIn;exact cR h
  rw[this,ao h];rfl
theorem AJ(W:Wf s)(d:Int):Wf (step s (.foldFrom d)).1:=by
 rw[foldFrom_eq];split
 .exact W
 .have hh:∀x∈s.nodes,(um d x).number=x.number/\(um d x).depth=x.depth/\(um d x).cell=x.cell/\Good (um d x):=λx hx=>by
   unfold um;have g:=W.n.good x hx;split
   .exact⟨rfl,rfl,rfl,g⟩
   .rename_i hc;exact⟨rfl,rfl,rfl,g.num,g.sec,g.txt,λh=>absurd h hc⟩
  refine⟨Cz W.n hh,?_,W.nx⟩;refine mj (s:=s) W λy hy=>?_;obtain⟨x,hx,rfl⟩:=fc.mp hy;exact⟨x,hx,(hh x hx).1⟩
def pG(P:Node->Bool)(y:Node):Node:=if P y=true then{y with folded:=false} else y
theorem FG(W:Wf s)(P:Node->Bool):Wf ⟨s.nodes.map (pG P),s.next⟩:=by
 have hh:∀y∈s.nodes,(pG P y).number=y.number/\(pG P y).depth=y.depth/\(pG P y).cell=y.cell/\Good (pG P y):=λy hy=>by
  have g:=W.n.good y hy;unfold pG;by_cases hP:P y=true
  .rw[ao hP];exact⟨rfl,rfl,rfl,g.num,g.sec,g.txt,λ_=>rfl⟩
  .rw[ak hP];exact⟨rfl,rfl,rfl,g⟩
 refine⟨Cz W.n hh,?_,W.nx⟩;refine mj (s:=s) W λy hy=>?_;obtain⟨x,hx,rfl⟩:=fc.mp hy;exact⟨x,hx,(hh x hx).1⟩
theorem FH(W:Wf s)(z:Int):Wf (step s (.reveal z)).1:=by
 rcases aY (o:=s.nodes) z with h|⟨a,x,r,e,h,hz⟩
 .show Wf (withNode s z _).1;rw[bx W.n h];exact W
 .show Wf (withNode s z _).1;rw[aO W.n e hz];exact FG W λy=>((ancestors s.nodes x.number).map λy=>y.number).contains y.number
theorem drop_eq(W:Wf s)(e:s.nodes=a++x::r)(hz:(x.number:Int)=z):step s (.drop z)=(⟨a++outside x.depth r,s.next⟩,⟨((1+(inside x.depth r).length:Nat):Int),[]⟩):=by show withNode s z _=_;rw[aO W.n e hz,e,k9 (by rw[<-e];exact W.n.nd),iy (by rw[<-e];exact W.n.nd),cn,DQ];rfl
theorem K0(W:Wf s)(z:Int):Wf (step s (.drop z)).1:=by
 rcases aY (o:=s.nodes) z with h|⟨a,x,r,e,h,hz⟩
 .show Wf (withNode s z _).1;rw[bx W.n h];exact W
 .rw[drop_eq W e hz];have W':=W.n;rw[e] at W';exact⟨W'.without,λy hy=>W.lt y (by rw[e];exact(i5 a r x).subset hy),W.nx⟩
def AK(y:Node):Node:={y with depth:=y.depth - 1}
theorem tR(W:Wf s)(e:s.nodes=a++x::r)(hz:(x.number:Int)=z):step s (.dissolve z)=if x.cell=true then refused s (-7) else(⟨a++(inside x.depth r).map AK++outside x.depth r,s.next⟩,⟨(((inside x.depth r).filter λy=>y.depth==x.depth+1).length:Nat),[]⟩):=by
 have hp:partAt x.number (a++x::r)=some (a,x,r):=dv (by rw[<-e];exact W.n.nd);have Qy:x.number≠0:=by have:=W.n.num x (by rw[e];simp);omega
 show withNode s z _=_;rw[aO W.n e hz,e];unfold checked first Vanbkn.dissolved children
 rw[hp,ak Qy];by_cases hc:x.cell=true
 .rw[ao hc,ao hc]
 .rw[ak hc,ak hc];rfl
theorem yY(h:cH 1 (a++x::r))(hc:x.cell=false):cH 1 (a++(inside x.depth r).map AK++outside x.depth r):=by
 obtain⟨h1,h2,h3,h4⟩:=gv h;have el:lim x=x.depth+1:=by unfold lim;rw[hc];rfl
 rw[<-bQ x.depth r,a7,el] at h4;have O_:∀y∈inside x.depth r,x.depth<y.depth:=cp;have key:cH x.depth ((inside x.depth r).map AK):=by have:=md (f:=AK) (fr:=x.depth+1) (to:=x.depth) h2 (λy hy=>O_ y hy) (λy hy=>⟨by have:=O_ y hy;show y.depth - 1=_;omega,rfl⟩) (aS _) h4.1;rw[tI,Nat.zero_add] at this;exact this
 rw[dQ,a7,a7];refine⟨h1,sg h3 key,kK h4.2 ?_⟩;refine bq (cg _ _) (o3 h3 λy hy=>?_);obtain⟨w,hw,rfl⟩:=fc.mp hy;have:=O_ w hw;show x.depth<=w.depth - 1;omega
theorem AL(W:Wf s)(z:Int):Wf (step s (.dissolve z)).1:=by
 rcases aY (o:=s.nodes) z with h|⟨a,x,r,e,h,hz⟩
 .show Wf (withNode s z _).1;rw[bx W.n h];exact W
 .rw[tR W e hz];split
  .exact W
  .rename_i hc;have W':=W.n;rw[e] at W';have hm:∀y∈a++(inside x.depth r).map AK++outside x.depth r,∃w∈s.nodes,y.number=w.number/\Good y:=λy hy=>by
    rw[dQ] at hy;rcases dZ.mp hy with hy|hy
    .exact⟨y,by rw[e];simp[hy],rfl,W'.good y (by simp[hy])⟩
    .rcases dZ.mp hy with hy|hy
     .obtain⟨w,hw,rfl⟩:=fc.mp hy;have R4:w∈r:=by rw[<-bQ x.depth r];exact dA _ hw
      have g:=W'.good w (by simp[R4]);exact⟨w,by rw[e];simp[R4],rfl,g.num,λMH=>bq (Nat.sub_le _ _) (g.sec MH),g.txt,g.cf⟩
     .have R4:y∈r:=by rw[<-bQ x.depth r];exact eM _ hy
      exact⟨y,by rw[e];simp[R4],rfl,W'.good y (by simp[R4])⟩
   have en:nums (a++(inside x.depth r).map AK++outside x.depth r)=nums (a++r):=by
    conv=>rhs;rw[<-bQ x.depth r]
    unfold nums;simp only[cX,iq,dQ];rfl
   refine⟨⟨?_,?_,yY W'.dep (by simpa using hc),λy hy=>(hm y hy).choose_spec.2.2⟩,λy hy=>?_,W.nx⟩
   .have:=da List.length en;unfold nums at this;rw[aT,aT] at this;rw[this];have:=W'.len;simp at this⊢;omega
   .rw[en];exact lQ (List.Sublist.append (NF _) (List.sublist_cons_self _ _)) W'.nd
   .obtain⟨w,hw,e1,_⟩:=hm y hy;show y.number<s.next;rw[e1];exact W.lt w hw
theorem Eo(W:Wf s)(e:s.nodes=a++x::r)(hz:(x.number:Int)=z)(p af:Int):step s (.move z p af)=
 if dE (x::inside x.depth r) p≠none then refused s (-8) else match gA (a++outside x.depth r) p af with
  |none=>refused s (-2)
  |some (k,d)=>if cu (x::inside x.depth r) x.depth d=true then refused s (-5) else(⟨(a++outside x.depth r).take k++shifted (x::inside x.depth r) x.depth d++(a++outside x.depth r).drop k,s.next⟩,⟨0,[]⟩):=by
 have W':=W.n;rw[e] at W';show withNode s z _=_;rw[aO W.n e hz,e];unfold moved;rw[k9 W'.nd,iy W'.nd];have hb:((x::inside x.depth r).any λy=>y.number==nodeNo p)=true↔dE (x::inside x.depth r) p≠none:=by
  rw[mf];have gS:∀y∈x::inside x.depth r,y∈a++x::r:=λy hy=>(gB a r x).mem_iff.mpr (dA _ hy);constructor
  .rintro⟨y,hy,hn⟩ hh;exact pos_none hh y hy ((sj W' (gS y hy) p).mp hn)
  .intro hh;rcases aY (o:=x::inside x.depth r) p with h|⟨a',y,r',e',h,hy⟩
   .exact absurd h hh
   .have:y∈x::inside x.depth r:=by rw[e'];simp
    exact⟨y,this,(sj W' (gS y this) p).mpr hy⟩
 dsimp only;unfold checked first
 by_cases c1:dE (x::inside x.depth r) p≠none
 .rw[ao (hb.mpr c1),ao c1]
 .rw[ak (λh=>c1 (hb.mp h)),ak c1];unfold first
  rcases fO W'.without p af with⟨h1,h2⟩|⟨pre,post,d,h1,h2,S⟩
  .rw[h1,h2];rfl
  .rw[h1,h2];have et:(a++outside x.depth r).take pre.length=pre:=by rw[S.eq];exact fN
   have ed:(a++outside x.depth r).drop pre.length=post:=by rw[S.eq];simp
   simp only[tJ,DT,u4,et,ed];rw[ak (by decide)];unfold first
   have hd:tooDeep (putTree (pre,post,d) (x::inside x.depth r))=cu (x::inside x.depth r) x.depth d:=by show tooDeep (pre++shifted (x::inside x.depth r) x.depth d++post)=_;have g1:tooDeep pre=false:=cT λy hy=>W'.without.good y (by rw[S.eq];exact dA _ hy);have g2:tooDeep post=false:=cT λy hy=>W'.without.good y (by rw[S.eq];exact eM _ hy);rw[bR,bR,g1,g2,Qo,zG,jd]
   rw[hd];by_cases c2:cu (x::inside x.depth r) x.depth d=true
   .rw[ao c2,ao c2]
   .rw[ak c2,ak c2];rfl
theorem q0(W:Wf s)(e:s.nodes=a++x::r)(S:Spot (a++outside x.depth r) pre post d)(hd:cu (x::inside x.depth r) x.depth d=false):Wf ⟨pre++shifted (x::inside x.depth r) x.depth d++post,s.next⟩:=by
 have W':=W.n;rw[e] at W';refine⟨KY W' S hd,?_,W.nx⟩;refine mj (s:=s) W λy hy=>?_;rw[dQ] at hy;have sub:∀w∈a++outside x.depth r,w∈s.nodes:=λw hw=>by rw[e];exact(i5 a r x).subset hw
 rcases dZ.mp hy with hy|hy
 .exact⟨y,sub y (by rw[S.eq];exact dA _ hy),rfl⟩
 .rcases dZ.mp hy with hy|hy
  .obtain⟨w,hw,rfl⟩:=fc.mp hy;exact⟨w,by rw[e];exact(gB a r x).mem_iff.mpr (dA _ hw),rfl⟩
  .exact⟨y,sub y (by rw[S.eq];exact eM _ hy),rfl⟩
theorem yZ(W:Wf s)(z p af:Int):Wf (step s (.move z p af)).1:=by
 rcases aY (o:=s.nodes) z with h|⟨a,x,r,e,h,hz⟩
 .show Wf (withNode s z _).1;rw[bx W.n h];exact W
 .rw[Eo W e hz];have W':=W.n;rw[e] at W';split
  .exact W
  .rcases fO W'.without p af with⟨h1,h2⟩|⟨pre,post,d,h1,h2,S⟩
   .rw[h1];exact W
   .rw[h1];have et:(a++outside x.depth r).take pre.length=pre:=by rw[S.eq];exact fN
    have ed:(a++outside x.depth r).drop pre.length=post:=by rw[S.eq];simp
    simp only[et,ed];split
    .exact W
    .rename_i hd;exact q0 W e S (by simpa using hd)
end
theorem ml{c l:O}(h:∀y∈c,d<y.depth):inside d (c++l)=c++inside d l:=by unfold inside;exact tF (by intro x hx;simpa using h x hx)
theorem CB{e:Nat}(h:d<=e)(l:O):inside d l=inside e l++inside d (outside e l):=by
 conv=>lhs;rw[<-bQ e l]
 exact ml λy hy=>u0 h (cp y hy)
variable{nx:Nat}
theorem cM{n:Int}{l:List (Bool×Int)}{a:Int}{c:Bool}(h:c=true):checked s ((c,n)::l) o nx a=refused s n:=by rw[h];rfl
theorem cz{n:Int}{l:List (Bool×Int)}{a:Int}{c:Bool}(h:c=false):checked s ((c,n)::l) o nx a=checked s l o nx a:=by rw[h];rfl
theorem kN{a:Int}:checked s [] o nx a=(⟨o,nx⟩,⟨a,[]⟩):=rfl
theorem q_{t:O}(h:∀y∈t,d<=y.depth):shifted t d d=t:=by
 unfold shifted
 conv=>rhs;rw[<-uU t]
 refine iX λy hy=>?_;have:=h y hy;show({y with depth:=y.depth - d+d}:Node)=y;rw[Nat.sub_add_cancel this]
theorem vD{t:O}{fr:Nat}(h:∀y∈t,Good y)(hd:to<=fr)(kL:∀y∈t,fr<=y.depth):cu t fr to=false:=by
 unfold cu;rw[Fb];intro y hy;have g1:=(h y hy).sec;have g2:=kL y hy;cases hc:y.cell with
 |true=>simp
 |false=>have:=g1 hc;simp;omega
section
variable{s:State}{a r:O}{x:Node}{z:Int}
theorem nU{a r:O}{x:Node}(e:o=a++x::r)(h:(nums (a++x::r)).Nodup)(p af:Nat):moved o x.number p af=(spot (a++outside x.depth r) p af).map λs=>putTree s (x::inside x.depth r):=by unfold moved;rw[e,k9 h,iy h]
theorem rf(W:Wf s)(e:s.nodes=a++x::r)(hz:(x.number:Int)=z)(h:∀y∈a,x.depth<=y.depth):step s (.promote z)=refused s (-9):=by
 show withNode s z _=_;rw[aO W.n e hz];have hp:parentOf s.nodes x.number=0:=by
  rw[e,fe (by rw[<-e];exact W.n.nd)];rcases o4 (a:=a) (d:=x.depth) with⟨b,q,c,rfl,hq,hc,hf⟩|⟨ha,hf⟩
  .have:=h q (by simp);omega
  .rw[hf]
 dsimp only;rw[hp];exact cM rfl
theorem rg{c:O}{q:Node}(W:Wf s)(e:s.nodes=a++x::r)(hz:(x.number:Int)=z)(ea:a=b++q::c)(hq:q.depth<x.depth)(hc:∀y∈c,x.depth<=y.depth):
 ∃pre post,Spot (a++outside x.depth r) pre post q.depth/\pre.length+(1+(inside x.depth r).length)=aP s.nodes b.length/\step s (.promote z)=(⟨pre++shifted (x::inside x.depth r) x.depth q.depth++post,s.next⟩,⟨0,[]⟩):=by
 have W':=W.n;rw[e] at W';have ew:a++outside x.depth r=b++q::(c++outside x.depth r):=by rw[ea];simp
 have eo:s.nodes=b++q::(c++x::r):=by rw[e,ea];simp
 have Ww:=W'.without;rw[ew] at Ww;have J7:q.number≠0:=by have:=W.n.num q (by rw[eo];simp);omega
 have hp:parentOf s.nodes x.number=q.number:=by
  rw[e,fe W'.nd];rcases o4 (a:=a) (d:=x.depth) with⟨b',q',c',e',B2,xI,hf⟩|⟨ha,hf⟩
  .rw[hf];have:q'=q:=by
    rw[ea] at e';rcases GP.mp e' with⟨l,e1,e2⟩|⟨l,e1,e2⟩
    .cases l with
     |nil=>simp at e2;exact e2.1.symm
     |cons w l=>
      simp at e2;have:q'∈c:=by rw[e2.2];simp
      have:=hc q' this;omega
    .cases l with
     |nil=>simp at e2;exact e2.1
     |cons w l=>
      simp at e2;have:q∈c':=by rw[e2.2];simp
      have:=xI q this;omega
   rw[this]
  .have:=ha q (by rw[ea];simp);omega
 have Qz:parentOf s.nodes q.number=parentOf (b++q::(c++outside x.depth r)) q.number:=by rw[eo,fe (by rw[<-eo];exact W.n.nd),fe Ww.nd]
 have B3:=AD Ww;have S:=Spot.behind Ww.dep;rw[<-ew] at S;refine⟨_,_,S,?_,?_⟩
 .rw[eo,iw,bb,cn];rw[ml (λy hy=>by have:=hc y hy;omega),ml (λy hy=>by have:=hc y hy;omega)];have h2:inside q.depth (x::r)=x::inside q.depth r:=DM (by simpa using hq);rw[h2,CB (eX hq) r];simp only[bb,cn];omega
 .show withNode s z _=_;rw[aO W.n e hz];dsimp only;rw[hp,cz (ny.mpr J7),kN,Qz,nU e W'.nd,ew,B3];rfl
theorem CD(W:Wf s)(z:Int):Wf (step s (.promote z)).1:=by
 rcases aY (o:=s.nodes) z with h|⟨a,x,r,e,h,hz⟩
 .show Wf (withNode s z _).1;rw[bx W.n h];exact W
 .rcases o4 (a:=a) (d:=x.depth) with⟨b,q,c,ea,hq,hc,_⟩|⟨ha,_⟩
  .obtain⟨pre,post,S,_,hs⟩:=rg W e hz ea hq hc;rw[hs];refine q0 W e S (vD (λy hy=>W.n.good y ?_) (eX hq) h_);rw[e];exact(gB a r x).mem_iff.mpr (dA _ hy)
  .rw[rf W e hz ha];exact W
theorem tS(W:Wf s)(e:s.nodes=a++x::r)(hz:(x.number:Int)=z)(h:sibling s.nodes x.number=none):step s (.demote z)=refused s (-9):=by show withNode s z _=_;rw[aO W.n e hz,h]
theorem tT{c:O}(W:Wf s)(e:s.nodes=a++x::r)(hz:(x.number:Int)=z)(h:sibling s.nodes x.number=some y)(ea:a=b++y::c)(hy:y.depth=x.depth)(hc:∀w∈c,x.depth<w.depth):
 (y.cell=false->Spot (a++outside x.depth r) a (outside x.depth r) (x.depth+1))/\step s (.demote z)=if y.cell=true then refused s (-9) else if cu (x::inside x.depth r) x.depth (x.depth+1)=true then refused s (-5) else(⟨a++shifted (x::inside x.depth r) x.depth (x.depth+1)++outside x.depth r,s.next⟩,⟨0,[]⟩):=by
 have W':=W.n;rw[e] at W';have ew:a++outside x.depth r=b++y::(c++outside x.depth r):=by rw[ea];simp
 have eo:s.nodes=b++y::(c++x::r):=by rw[e,ea];simp
 have Wo:=W.n;rw[eo] at Wo;have Ww:=W'.without;have T6:=Ww;rw[ew] at T6;have R3:y.number≠0:=by have:=W.n.num y (by rw[eo];simp);omega
 have MV:∀w∈c,y.depth<w.depth:=λw hw=>by have:=hc w hw;omega
 have R5:=cg x.depth r;have key:y.cell=false->Spot (a++outside x.depth r) a (outside x.depth r) (x.depth+1)/\spot (a++outside x.depth r) y.number (lastChild s.nodes y.number)=some (a,outside x.depth r,x.depth+1):=by
  intro bS;have Zo:lastChild s.nodes y.number=match (c.filter λw=>w.depth==y.depth+1).getLast? with
   |some w=>w.number
   |none=>0:=by
   unfold lastChild children;rw[ak R3,eo,dv Wo.nd];simp only;rw[eI MV (show hd (x::r)<=y.depth by show x.depth<=_;omega)];cases(c.filter λw=>w.depth==y.depth+1).getLast?<;>rfl
  have FI:¬(y.number≠0/\isSection (a++outside x.depth r) y.number=false):=by rintro⟨_,hh⟩;rw[hZ,ew,dv T6.nd] at hh;simp[bS] at hh
  rw[Zo];unfold spot;rw[ak FI];cases hl:(c.filter λw=>w.depth==y.depth+1).getLast? with
  |none=>
   have Zp:c=[]:=by
    rw[Q6,uT] at hl;cases c with
    |nil=>rfl
    |cons w c=>have g1:=hl w (cw ..);have g2:=MV w (cw ..);have g3:w.depth<=lim y:=(gv Wo.dep).2.2.2.2.1;have g4:=HL y;simp at g1;omega
   subst Zp;have S:=Spot.first (a:=b) (r:=outside x.depth r) (x:=y) (by rw[ew] at Ww;exact Ww.dep) bS
   simp only[m4];rw[ak R3,ew,dv T6.nd];rw[hy] at S;rw[ea];exact⟨by simpa using S,by simp[hy]⟩
  |some w=>
   obtain⟨ys,hl⟩:=Q8.mp hl;obtain⟨l1,l2,e1,e2,e3⟩:=Q2.mp hl;obtain⟨l3,l4,e4,e5,e6,e7⟩:=Q3.mp e3;have VQ:w.depth=y.depth+1:=by simpa using e6
   have T7:∀v∈l4,w.depth<v.depth:=λv hv=>by rw[uT] at e7;have g1:=e7 v hv;have g2:=MV v (by rw[e1,e4];simp[hv]);simp at g1;omega
   have XN:a++outside x.depth r=(b++y::(l1++l3))++w::(l4++outside x.depth r):=by rw[ew,e1,e4];simp
   have T8:=Ww;rw[XN] at T8;have Zq:w.number≠0:=by have:=T8.num w (by simp);omega
   have T9:hd (outside x.depth r)<=w.depth:=by omega
   have hk:((children (a++outside x.depth r) y.number).any λv=>v.number==w.number)=true:=by rw[mf];unfold children;rw[ak R3,ew,dv T6.nd];refine⟨w,gY.mpr ⟨?_,by simp[VQ]⟩,rfl⟩;rw[ml MV];exact dA _ (by rw[e1,e4];simp)
   simp only;rw[ak Zq,ao hk,XN,dv T8.nd];have S:=Spot.behind T8.dep;rw[eI T7 T9,g_ T7 T9] at S;have XO:b++y::(l1++l3)++w::l4=a:=by rw[ea,e1,e4];simp
   rw[XO,VQ,hy] at S;refine⟨S,?_⟩;simp only[tJ];rw[eI T7 T9,g_ T7 T9,XO,VQ,hy]
 refine⟨λh=>(key h).1,?_⟩;show withNode s z _=_;rw[aO W.n e hz,h];dsimp only;by_cases bS:y.cell=true
 .rw[cM bS,ao bS]
 .have HU:y.cell=false:=by simpa using bS
  obtain⟨S,B3⟩:=key HU;rw[cz HU,ak bS,nU e W'.nd,B3];simp only[tJ,u4];have hd:tooDeep (putTree (a,outside x.depth r,x.depth+1) (x::inside x.depth r))=cu (x::inside x.depth r) x.depth (x.depth+1):=by show tooDeep (a++shifted (x::inside x.depth r) x.depth (x.depth+1)++outside x.depth r)=_;have g1:tooDeep a=false:=cT λy hy=>W'.good y (dA _ hy);have g2:tooDeep (outside x.depth r)=false:=cT λy hy=>W'.without.good y (eM _ hy);rw[bR,bR,g1,g2,Qo,zG,jd]
  rw[hd];by_cases c2:cu (x::inside x.depth r) x.depth (x.depth+1)=true
  .rw[cM c2,ao c2]
  .rw[cz (by simpa using c2),ak c2];rfl
theorem FJ(W:Wf s)(z:Int):Wf (step s (.demote z)).1:=by
 rcases aY (o:=s.nodes) z with h|⟨a,x,r,e,h,hz⟩
 .show Wf (withNode s z _).1;rw[bx W.n h];exact W
 .have W':=W.n;rw[e] at W';rcases o5 W' with⟨b,y,c,ea,hy,hc,hs⟩|⟨hs,_⟩
  .rw[<-e] at hs;obtain⟨S,m5⟩:=tT W e hz hs ea hy hc;rw[m5];split
   .exact W
   .rename_i bS;split
    .exact W
    .rename_i hd;exact q0 W e (S (by simpa using bS)) (by simpa using hd)
  .rw[<-e] at hs;rw[tS W e hz hs];exact W
theorem vE(W:Wf s)(e:s.nodes=a++x::r)(hz:(x.number:Int)=z)(h:sibling s.nodes x.number=none):step s (.raise z)=refused s (-9):=by show withNode s z _=_;rw[aO W.n e hz,h]
theorem vF{c:O}(W:Wf s)(e:s.nodes=a++x::r)(hz:(x.number:Int)=z)(h:sibling s.nodes x.number=some y)(ea:a=b++y::c)(hy:y.depth=x.depth)(hc:∀w∈c,x.depth<w.depth):
 step s (.raise z)=(⟨b++(x::inside x.depth r)++(y::c++outside x.depth r),s.next⟩,⟨0,[]⟩):=by
 have eo:s.nodes=b++y::(c++x::r):=by rw[e,ea];simp
 have Wo:=W.n;rw[eo] at Wo;have MV:∀w∈c,y.depth<w.depth:=λw hw=>by have:=hc w hw;omega
 have hx:hd (x::r)<=y.depth:=by show x.depth<=_;omega
 have Wy:=Wo.without;rw[g_ MV hx] at Wy;have Qz:parentOf s.nodes x.number=parentOf (b++x::r) x.number:=by
  rw[e,fe (by rw[<-e];exact W.n.nd),fe Wy.nd,ea];have:(b++y::c).reverse.find? (λw=>decide (w.depth<x.depth))=b.reverse.find? (λw=>decide (w.depth<x.depth)):=by
   rw[zO,NN,uX,NN];have h1:c.reverse.find? (λw=>decide (w.depth<x.depth))=none:=by
    rw[GR];intro w hw;have:=hc w (uV.mp hw)
    simp;omega
   have h2:[y].find? (λw=>decide (w.depth<x.depth))=none:=by
    rw[GR];intro w hw;simp at hw;subst hw
    simp;omega
   rw[h1,h2];rfl
  rw[this]
 show withNode s z _=_;rw[aO W.n e hz,h];dsimp only;rw[nU eo Wo.nd,g_ MV hx,eI MV hx,Qz,AD Wy];simp only[tJ,u4];show((⟨(b++x::inside x.depth r)++shifted (y::c) y.depth x.depth++outside x.depth r,s.next⟩:State),_)=_;rw[hy,q_ (by intro w hw;cases hw with|head=>omega|tail _ hw=>have:=hc w hw;omega)];simp
theorem HV(W:Wf s)(z:Int):Wf (step s (.raise z)).1:=by
 rcases aY (o:=s.nodes) z with h|⟨a,x,r,e,h,hz⟩
 .show Wf (withNode s z _).1;rw[bx W.n h];exact W
 .have W':=W.n;rw[e] at W';rcases o5 W' with⟨b,y,c,ea,hy,hc,hs⟩|⟨hs,_⟩
  .rw[<-e] at hs;rw[vF W e hz hs ea hy hc];have ew:a++outside x.depth r=b++(y::c++outside x.depth r):=by rw[ea];simp
   have Ww:=W'.without;have S:Spot (a++outside x.depth r) b (y::c++outside x.depth r) x.depth:=by have hd:=Ww.dep;rw[ew] at hd;have g:=gv (a:=b) (x:=y) (r:=c++outside x.depth r) hd;refine⟨ew,by omega,by have:=g.2.2.1;omega,by show y.depth<=x.depth;omega⟩
   have:=q0 W e S (vD (λw hw=>W.n.good w (by rw[e];exact(gB a r x).mem_iff.mpr (dA _ hw))) (aS _) h_);rw[q_ h_] at this;exact this
  .rw[<-e] at hs;rw[vE W e hz hs];exact W
end
open Vanbkn (doWrap)
def inc(y:Node):Node:={y with depth:=y.depth+1}
variable{a2 r2:O}
theorem vG(h:(nums o).Nodup)(e:o=a++x::r)(e2:o=a2++x::r2):a=a2/\r=r2:=by
 have h1:o[a.length]?=some x:=by rw[e];exact cZ
 have h2:o[a2.length]?=some x:=by rw[e2];exact cZ
 have hl:=yU h h1 h2;have h3:=e.symm.trans e2;obtain⟨h4,h5⟩:=List.append_inj h3 hl;cases h5;exact⟨h4,rfl⟩
structure Ep(a r a2 r2:O)(x y:Node)(mid:O):Prop where
 ea:a2=a++mid
 er:x::r=mid++y::r2
 ge:∀w∈mid,x.depth<=w.depth
 dy:y.depth=x.depth
theorem x5(h:(nums o).Nodup)(e:o=a++x::r)(e2:o=a2++y::r2):
 (∃mid,Ep a r a2 r2 x y mid)\/¬(a.length<=a2.length/\y.depth=x.depth/\∀w∈(o.drop a.length).take (a2.length - a.length),x.depth<=w.depth):=by
 by_cases hc:a.length<=a2.length/\y.depth=x.depth/\∀w∈(o.drop a.length).take (a2.length - a.length),x.depth<=w.depth
 .obtain⟨h1,h2,h3⟩:=hc;have h4:=e.symm.trans e2;have h5:∃mid,a2=a++mid/\x::r=mid++y::r2:=by
   rcases GP.mp h4 with⟨l,e3,e4⟩|⟨l,e3,e4⟩
   .exact⟨l,e3,e4⟩
   .have:l=[]:=by have:=da List.length e3;rw[bb] at this;exact zJ (by omega)
    subst this;exact⟨[],by simpa using e3.symm,by simpa using e4.symm⟩
  obtain⟨mid,e3,e4⟩:=h5;refine .inl ⟨mid,e3,e4,λw hw=>h3 w ?_,h2⟩;rw[e,ug,e4,e3,bb,xC,tG];exact hw
 .exact .inr hc
variable{mid:O}
theorem Ep.cond(M:Ep a r a2 r2 x y mid)(e:o=a++x::r):a.length<=a2.length/\y.depth=x.depth/\∀w∈(o.drop a.length).take (a2.length - a.length),x.depth<=w.depth:=by refine⟨by rw[M.ea,bb];omega,M.dy,λw hw=>M.ge w ?_⟩;rw[e,ug,M.er,M.ea,bb,xC,tG] at hw;exact hw
theorem Ep.HW(M:Ep a r a2 r2 x y mid):hd (mid++y::inside y.depth r2)<=x.depth:=by
 cases hm:mid with
 |nil=>show y.depth<=_;rw[M.dy];exact aS _
 |cons w l=>have:=M.er;rw[hm] at this;simp at this;show w.depth<=_;rw[this.1];exact aS _
theorem Ep.HX(M:Ep a r a2 r2 x y mid):∀w∈mid++y::inside y.depth r2,x.depth<=w.depth:=λw hw=>by
 rcases dZ.mp hw with hw|hw
 .exact M.ge w hw
 .cases hw with
  |head=>rw[M.dy];exact aS _
  |tail _ hw=>have:=cp w hw;have:=M.dy;omega
theorem Ep.y0(M:Ep a r a2 r2 x y mid):x::r=(mid++y::inside y.depth r2)++outside y.depth r2:=by rw[dQ,iW,bQ,M.er]
theorem K1(W:l8 o)(e:o=a++x::r)(M:Ep a r a2 r2 x y mid):Vanbkn.run o x.number y.number=some ((mid++y::inside y.depth r2).filter λw=>w.depth==x.depth):=by
 have W':=W;rw[e] at W';obtain⟨pre,c,r',h1,h2,h3,h4,h5⟩:=mh W';rw[<-e] at h3;obtain⟨n1,n2⟩:=gr W'.nd;have hc:∀w∈c.filter (λy=>y.depth==x.depth),(w.number !=x.number)=true:=λw hw=>by have:=n1 w (by rw[h1];exact eM _ (gY.mp hw).1);simpa using this
 have hl:(children o (parentOf o x.number)).dropWhile (λw=>w.number !=x.number)=x::r'.filter λy=>y.depth==x.depth:=by rw[h3,Kj hc,NJ (by simp)]
 have Zr:(inside y.depth r2).filter (λw=>w.depth==x.depth)=[]:=by
  rw[uT];intro w hw;have:=cp w hw;have:=M.dy
  simp;omega
 have y8:(mid++y::inside y.depth r2).filter (λw=>w.depth==x.depth)=mid.filter (λw=>w.depth==x.depth)++[y]:=by rw[qI,xh (by simp[M.dy]),Zr]
 have hx:∃more,(x::r'.filter λy=>y.depth==x.depth)=mid.filter (λw=>w.depth==x.depth)++y::more/\(∀w∈mid.filter (λw=>w.depth==x.depth),w.number≠y.number)/\∀w∈more,w.number≠y.number:=by
  have hy:(nums (a2++y::r2)).Nodup:=by
   have:a2++y::r2=a++x::r:=by rw[M.ea,M.er,dQ]
   rw[this];exact W'.nd
  obtain⟨m1,m2⟩:=gr hy;cases hm:mid with
  |nil=>have e3:=M.er;rw[hm] at e3;simp at e3;obtain⟨rfl,rfl⟩:=e3;refine⟨_,rfl,λw hw=>absurd hw zM,λw hw=>?_⟩;have:=(gY.mp hw).1;rw[h4] at this;exact m2 w ((pz _).subset this)
  |cons v l=>
   have e3:=M.er;rw[hm] at e3;simp at e3;obtain⟨rfl,rfl⟩:=e3;have kL:∀w∈l,x.depth<=w.depth:=λw hw=>M.ge w (by rw[hm];exact bz _ hw);rw[h4,tF (by intro w hw;simpa using kL w hw),DM (by have:=M.dy;simp;omega),qI,xh (by simp[M.dy])];refine⟨_,by rw[xh (by simp)];rfl,λw hw=>?_,λw hw=>?_⟩
   .exact m1 w (by rw[M.ea,hm];exact eM _ (gY.mp hw).1)
   .exact m2 w ((pz _).subset (gY.mp hw).1)
 obtain⟨more,hx,GJ,Ad⟩:=hx;unfold Vanbkn.run;dsimp only;rw[hl,hx,ao (by simp),y8];congr 1;rw[tF (by intro w hw;simpa using GJ w hw),DL (by simp),pw];congr 1;rw[qI,uT.mpr (by intro w hw;simpa using GJ w hw),uW,xh (by simp),uT.mpr (by intro w hw;simpa using Ad w hw)]
theorem HY(W:l8 o)(e:o=a++x::r)(e2:o=a2++y::r2)(h:¬(a.length<=a2.length/\y.depth=x.depth/\∀w∈(o.drop a.length).take (a2.length - a.length),x.depth<=w.depth)):Vanbkn.run o x.number y.number=none:=by
 have W':=W;rw[e] at W';obtain⟨pre,c,r',h1,h2,h3,h4,h5⟩:=mh W';rw[<-e] at h3;obtain⟨n1,n2⟩:=gr W'.nd;have hc:∀w∈c.filter (λy=>y.depth==x.depth),(w.number !=x.number)=true:=λw hw=>by have:=n1 w (by rw[h1];exact eM _ (gY.mp hw).1);simpa using this
 have hl:(children o (parentOf o x.number)).dropWhile (λw=>w.number !=x.number)=x::r'.filter λy=>y.depth==x.depth:=by rw[h3,Kj hc,NJ (by simp)]
 unfold Vanbkn.run;dsimp only;rw[hl,ak];intro hh;obtain⟨w,hw,Zs⟩:=mf.mp hh;have Zt:y∈o:=by rw[e2];simp
 have Zu:∀v∈r',v∈r:=λv hv=>by rw[h4] at hv;exact(pz _).subset hv
 have Zv:w∈o:=by
  rw[e];cases hw with
  |head=>simp
  |tail _ hw=>exact eM _ (bz _ (Zu w (gY.mp hw).1))
 have Zw:w=y:=nP W.nd Zv Zt Zs;subst Zw;apply h;cases hw with
 |head=>obtain⟨ea,er⟩:=vG W.nd e e2;have M:Ep a r a2 r2 x x []:=⟨by simp[ea],by rw[er];rfl,λw hw=>absurd hw zM,rfl⟩;exact M.cond e
 |tail _ hw=>
  obtain⟨hw,hd⟩:=gY.mp hw;rw[h4] at hw;obtain⟨l1,l2,e3⟩:=Ki hw;have e4:r=l1++w::(l2++r.dropWhile (λy=>decide (x.depth<=y.depth))):=by
   conv=>lhs;rw[<-My (p:=λy:Node=>decide (x.depth<=y.depth)) (l:=r),e3]
   simp
  have kL:∀v∈l1,x.depth<=v.depth:=λv hv=>by
   have Zx:v∈r.takeWhile (λy=>decide (x.depth<=y.depth)):=by rw[e3];exact dA _ hv
   have nO:∀(l:O),∀v∈l.takeWhile (λy=>decide (x.depth<=y.depth)),x.depth<=v.depth:=by
    intro l;induction l with
    |nil=>intro v hv;cases hv
    |cons u l ih=>
     intro v hv;rw[mW] at hv;split at hv
     .rename_i hu;cases hv with
      |head=>simpa using hu
      |tail _ hv=>exact ih v hv
     .cases hv
   exact nO r v Zx
  have e5:o=(a++x::l1)++w::(l2++r.dropWhile (λy=>decide (x.depth<=y.depth))):=by
   rw[e]
   conv=>lhs;rw[e4]
   simp
  obtain⟨ea,er⟩:=vG W.nd e2 e5;have M:Ep a r a2 r2 x w (x::l1):=⟨ea,by rw[er];exact da (List.cons x) e4,λv hv=>by cases hv with|head=>exact aS _|tail _ hv=>exact kL v hv,by simpa using hd⟩;exact M.cond e
variable{w:Int}
section
variable{s:State}
theorem AM(W:l8 s.nodes)(e:s.nodes=a++x::r)(M:Ep a r a2 r2 x y mid)(new:Nat)(title:Text):
 wrapped s.nodes x.number ((mid++y::inside y.depth r2).filter λw=>w.depth==x.depth) new title=a++⟨new,x.depth,false,false,title⟩::(mid++y::inside y.depth r2).map inc++outside y.depth r2:=by
 have hf:=HM (d:=x.depth) (o:=s.nodes) (suf:=outside y.depth r2) W.nd (by rw[<-M.dy];exact cg _ _) _ a (mid++y::inside y.depth r2) (aS _) (by rw[e,M.y0];simp) M.HX M.HW;unfold wrapped;have hp:partAt x.number s.nodes=some (a,x,r):=by rw[e];exact dv (by rw[<-e];exact W.nd)
 rw[hp];dsimp only;rw[hf,M.y0,ug];rfl
def Er(s:State)(a a2 seg post:O)(x y:Node)(t:List Int):State×Answer:=
 if isText t=false then refused s (-3) else if 60<=s.nodes.length then refused s (-4) else if 6<x.depth\/cu seg 0 1=true then refused s (-5) else if 999<s.next then refused s (-6)
  else(⟨a++⟨s.next,x.depth,false,false,textOf t⟩::seg.map inc++post,s.next+1⟩,⟨s.next,[]⟩)
theorem x6(W:Wf s)(e:s.nodes=a++x::r)(hz:(x.number:Int)=z)(e2:s.nodes=a2++y::r2)(hw:(y.number:Int)=w)(t:List Int)(h:¬(a.length<=a2.length/\y.depth=x.depth/\∀w∈(s.nodes.drop a.length).take (a2.length - a.length),x.depth<=w.depth)):step s (.wrap z w t)=refused s (-10):=by show withNode s z _=_;rw[aO W.n e hz,aO W.n e2 hw];dsimp only;rw[HY W.n e e2 h];exact cM rfl
theorem x8(W:Wf s)(e:s.nodes=a++x::r)(hz:(x.number:Int)=z)(e2:s.nodes=a2++y::r2)(hw:(y.number:Int)=w)(t:List Int)(M:Ep a r a2 r2 x y mid):
 step s (.wrap z w t)=Er s a a2 (mid++y::inside y.depth r2) (outside y.depth r2) x y t:=by
 show withNode s z _=_;rw[aO W.n e hz,aO W.n e2 hw];dsimp only;rw[K1 W.n e M,u4,AM W.n e M,DT,cz rfl];unfold Er;by_cases c1:isText t=false
 .rw[cM (by rw[c1];rfl),ao c1]
 .have VP:isText t=true:=by simpa using c1
  rw[cz (by rw[VP];rfl),ak c1];by_cases c2:60<=s.nodes.length
  .rw[cM (qZ.mpr c2),ao c2]
  .rw[cz (by rw[Tv];intro h;exact c2 (qZ.mp h)),ak c2];have hd:tooDeep (a++(⟨s.next,x.depth,false,false,textOf t⟩:Node)::(mid++y::inside y.depth r2).map inc++outside y.depth r2)=true↔6<x.depth\/cu (mid++y::inside y.depth r2) 0 1=true:=by
    have g1:tooDeep a=false:=cT λv hv=>W.n.good v (by rw[e];exact dA _ hv);have g2:tooDeep (outside y.depth r2)=false:=cT λv hv=>W.n.good v (by rw[e2,<-bQ y.depth r2];simp[hv]);have e3:a++(⟨s.next,x.depth,false,false,textOf t⟩:Node)::(mid++y::inside y.depth r2).map inc=a++([⟨s.next,x.depth,false,false,textOf t⟩]++(mid++y::inside y.depth r2).map inc):=rfl;rw[bR,e3,bR,bR,g1,g2,Qo,zG,rP];refine or_congr ?_ ?_
    .unfold tooDeep;rw[uR,List.any_nil,zG,uQ,d8];exact⟨λh=>h.2,λh=>⟨rfl,h⟩⟩
    .have:tooDeep ((mid++y::inside y.depth r2).map inc)=cu (mid++y::inside y.depth r2) 0 1:=by unfold tooDeep cu;rw[B9];rfl
     rw[this]
   by_cases c3:6<x.depth\/cu (mid++y::inside y.depth r2) 0 1=true
   .rw[cM (hd.mpr c3),ao c3]
   .rw[cz (by rw[Tv];intro h;exact c3 (hd.mp h)),ak c3];by_cases c4:999<s.next
    .rw[cM (mi.mpr c4),ao c4]
    .rw[cz (by rw[Tv];intro h;exact c4 (mi.mp h)),ak c4,kN];rfl
theorem K2(W:Wf s)(z w:Int)(t:List Int):Wf (step s (.wrap z w t)).1:=by
 rcases aY (o:=s.nodes) z with h|⟨a,x,r,e,h,hz⟩
 .show Wf (withNode s z _).1;rw[bx W.n h];exact W
 .rcases aY (o:=s.nodes) w with h'|⟨a2,y,r2,e2,h',hw⟩
  .show Wf (withNode s z _).1;rw[aO W.n e hz,bx W.n h'];exact W
  .rcases x5 W.n.nd e e2 with⟨mid,M⟩|h3
   .rw[x8 W e hz e2 hw t M];unfold Er;split
    .exact W
    .rename_i c1;split
     .exact W
     .rename_i c2;split
      .exact W
      .rename_i c3;split
       .exact W
       .rename_i c4;have W':=W.n;rw[e] at W';have xc:=W.nx;obtain⟨d1,d2,d3,d4⟩:=gv W'.dep;have eo:s.nodes=a++((mid++y::inside y.depth r2)++outside y.depth r2):=by rw[e,M.y0]
        have ho:hd (outside y.depth r2)<=x.depth:=by rw[<-M.dy];exact cg _ _
        have gS:∀v∈a++(⟨s.next,x.depth,false,false,textOf t⟩:Node)::(mid++y::inside y.depth r2).map inc++outside y.depth r2,(v=⟨s.next,x.depth,false,false,textOf t⟩)\/∃u∈s.nodes,v.number=u.number/\Good v:=λv hv=>by
         rw[dQ,iW] at hv;rcases dZ.mp hv with hv|hv
         .exact .inr ⟨v,by rw[eo];exact dA _ hv,rfl,W.n.good v (by rw[eo];exact dA _ hv)⟩
         .cases hv with
          |head=>exact .inl rfl
          |tail _ hv=>
           rcases dZ.mp hv with hv|hv
           .obtain⟨u,hu,rfl⟩:=fc.mp hv;have OD:u∈s.nodes:=by rw[eo];exact eM _ (dA _ hu)
            have g:=W.n.good u OD;refine .inr ⟨u,OD,rfl,g.num,λhc=>?_,g.txt,g.cf⟩;have Zy:u.cell=false:=hc;have:¬cu (mid++y::inside y.depth r2) 0 1=true:=λh=>c3 (.inr h);unfold cu at this;rw[Bool.not_eq_true,Fb] at this;have:=this u hu;simp[Zy] at this;show u.depth+1<=6;omega
           .have OD:v∈s.nodes:=by rw[eo];exact eM _ (eM _ hv)
            exact .inr ⟨v,OD,rfl,W.n.good v OD⟩
        refine⟨⟨?_,?_,?_,?_⟩,?_,by show 1<=s.next+1/\s.next+1<=1000;omega⟩
        .have:=da List.length eo;simp only[bb,cn,aT] at this⊢;omega
        .have p:nums (a++(⟨s.next,x.depth,false,false,textOf t⟩:Node)::(mid++y::inside y.depth r2).map inc++outside y.depth r2)=nums a++s.next::nums ((mid++y::inside y.depth r2)++outside y.depth r2):=by unfold nums;simp only[cX,cA,iq,dQ,iW];rfl
         rw[p];refine List.Perm.nodup (List.perm_middle.symm) ?_;rw[<-c5,<-eo];refine tE.mpr ⟨λh=>?_,W.n.nd⟩;obtain⟨v,hv,e3⟩:=fc.mp h;have:=W.lt v hv;omega
        .have hs:cH x.depth (mid++y::inside y.depth r2)/\cH x.depth (outside y.depth r2):=by have:=W.n.dep;rw[eo,a7,a7] at this;exact⟨kK this.2.1 M.HW,kK this.2.2 ho⟩
         rw[dQ,iW,a7];refine⟨d1,d2,d3,?_⟩;show cH (x.depth+1) _;rw[a7];refine⟨vy (f:=inc) (c:=1) (λv=>⟨rfl,rfl⟩) hs.1,kK hs.2 (bq ho (o3 (zS _) λv hv=>?_))⟩;obtain⟨u,hu,rfl⟩:=fc.mp hv;have:=M.HX u hu;show x.depth<=u.depth+1;omega
        .intro v hv;rcases gS v hv with rfl|⟨u,_,_,g⟩
         .refine⟨by show 1<=s.next/\s.next<=999;omega,λ_=>?_,nS (by simpa using c1),λh=>by cases h⟩;have:¬6<x.depth:=λh=>c3 (.inl h);show x.depth<=6;omega
         .exact g
        .intro v hv;show v.number<s.next+1;rcases gS v hv with rfl|⟨u,hu,e3,_⟩
         .exact mY _
         .rw[e3];exact tH (W.lt u hu)
   .rw[x6 W e hz e2 hw t h3];exact W
end
open Vanbkn (doSort sortedNodes placesChanged)
def gC:Nat->O->List O
 |0,_=>[]
 |_,[]=>[]
 |n+1,x::r=>(x::inside x.depth r)::gC n (outside x.depth r)
def trees(o:O):List O:=gC o.length o
def ko(t:O):Node:=t.headD dflt
def iQ(t:O):List O->List O
 |[]=>[t]
 |u::r=>if lessText (ko u).text (ko t).text=true then u::iQ t r else t::u::r
def cB(l:List O):List O:=l.foldr iQ []
def chg(l m:List O):Nat:=((l.zip m).filter λp=>(ko p.1).number !=(ko p.2).number).length
def IsT(d:Nat)(t:O):Prop:=∃x r,t=x::r/\x.depth=d/\∀y∈r,d<y.depth
theorem IsT.ge{t:O}(h:IsT d t):∀y∈t,d<=y.depth:=by
 obtain⟨x,r,rfl,h1,h2⟩:=h;intro y hy;cases hy with
 |head=>omega
 |tail _ hy=>exact eX (h2 y hy)
theorem kO{l:O}:(outside d l).length<=l.length:=(GQ _).length_le
theorem sk{d:Nat}:∀(n:Nat)(seg:O),seg.length<=n->(∀z∈seg,d<=z.depth)->hd seg<=d->(gC n seg).flatten=seg/\(gC n seg).map ko=seg.filter (λy=>y.depth==d)/\∀t∈gC n seg,IsT d t
 |0,seg,hl,_,_=>by have:seg=[]:=zJ (by omega);subst this;exact⟨rfl,rfl,λt ht=>absurd ht zM⟩
 |n+1,[],_,_,_=>⟨rfl,rfl,λt ht=>absurd ht zM⟩
 |n+1,x::r,hl,kL,hh=>by
  have hx:x.depth=d:=by have g1:=kL x (cw ..);have g2:x.depth<=d:=hh;omega
  have hlen:(outside x.depth r).length<=n:=by have:=kO (d:=x.depth) (l:=r);simp at hl;omega
  have gS:∀z∈outside x.depth r,z∈r:=λz hz=>(GQ _).subset hz;obtain⟨i1,i2,i3⟩:=sk (d:=d) n (outside x.depth r) hlen (λz hz=>kL z (bz _ (gS z hz))) (by rw[<-hx];exact cg _ _);refine⟨?_,?_,?_⟩
  .show((x::inside x.depth r)::gC n (outside x.depth r)).flatten=_;rw[B',i1,iW,bQ]
  .show((x::inside x.depth r)::gC n (outside x.depth r)).map ko=_;rw[cA,i2,xh (by simp[hx])];congr 1
   conv=>rhs;rw[<-bQ x.depth r,qI]
   have hn:(inside x.depth r).filter (λy=>y.depth==d)=[]:=uT.mpr (by intro y hy;have:=cp y hy;simp;omega);rw[hn,uW]
  .intro t ht;cases ht with
   |head=>exact⟨x,_,rfl,hx,λy hy=>by have:=cp y hy;omega⟩
   |tail _ ht=>exact i3 t ht
theorem tU:∀(t:O)(l:List O),(iQ t l).map ko=Vanbkn.insert (ko t) (l.map ko)
 |t,[]=>rfl
 |t,u::r=>by
  unfold iQ;rw[cA];unfold Vanbkn.insert;split
  .rw[cA,tU t r]
  .rfl
theorem lR:∀l:List O,(cB l).map ko=sortedNodes (l.map ko)
 |[]=>rfl
 |t::l=>by show(iQ t (cB l)).map ko=Vanbkn.insert (ko t) (sortedNodes (l.map ko));rw[tU,lR l]
theorem rh:∀(t:O)(l:List O),(iQ t l).Perm (t::l)
 |t,[]=>E' _
 |t,u::r=>by
  unfold iQ;split
  .exact((rh t r).cons u).trans (List.Perm.swap ..)
  .exact E' _
theorem pS:∀l:List O,(cB l).Perm l
 |[]=>E' _
 |t::l=>(rh t (cB l)).trans ((pS l).cons t)
theorem Es{o suf:O}{d:Nat}(vA:(nums o).Nodup)(hs:hd suf<=d):∀(ts:List O)(pre:O),(∀t∈ts,IsT d t)->o=pre++ts.flatten++suf->∀t∈ts,tree o (ko t).number=t
 |[],_,_,_,t,ht=>absurd ht zM
 |u::ts,pre,hT,e,t,ht=>by
  cases ht with
  |head=>
   obtain⟨x,r,rfl,h1,h2⟩:=hT u (cw ..);have e2:o=pre++x::(r++(ts.flatten++suf)):=by rw[e];simp
   have hh:hd (ts.flatten++suf)<=d:=by
    cases HZ:ts with
    |nil=>exact hs
    |cons v l=>obtain⟨y,q,rfl,h3,_⟩:=hT v (by rw[HZ];simp);show y.depth<=d;omega
   show tree o x.number=x::r;rw[e2,iy (by rw[<-e2];exact vA),h1,eI h2 hh]
  |tail _ ht=>exact Es vA hs ts (pre++u) (λv hv=>hT v (bz _ hv)) (by rw[e];simp) t ht
theorem nV{d:Nat}:∀(ts:List O),(∀t∈ts,IsT d t)->ts.flatten.filter (λy=>y.depth==d)=ts.map ko
 |[],_=>rfl
 |u::ts,hT=>by obtain⟨x,r,rfl,h1,h2⟩:=hT u (cw ..);rw[B',qI,cA,nV ts λv hv=>hT v (bz _ hv),xh (by simp[h1]),uT.mpr (by intro y hy;have:=h2 y hy;simp;omega)];rfl
theorem xr{us:List O}(h:∀t∈us,tree o (ko t).number=t):(us.map ko).flatMap (λy=>tree o y.number)=us.flatten:=by
 rw[List.flatMap_map];show(us.map λt=>tree o (ko t).number).flatten=_;congr 1
 conv=>rhs;rw[<-uU us]
 exact iX λt ht=>h t ht
theorem rj{d:Nat}:∀(ts:List O)(m:Nat),d<=m->(∀t∈ts,IsT d t/\cH d t)->cH m ts.flatten/\d<=jc m ts.flatten
 |[],m,h,_=>⟨trivial,h⟩
 |u::ts,m,h,hT=>by obtain⟨h1,h2⟩:=hT u (cw ..);have he:d<=jc m u:=o3 h h1.ge;obtain⟨i1,i2⟩:=rj ts (jc m u) he λv hv=>hT v (bz _ hv);rw[B',a7,gM];exact⟨⟨sg h h2,i1⟩,i2⟩
theorem m9{d:Nat}:∀(ts:List O)(m:Nat),cH m ts.flatten->(∀t∈ts,IsT d t)->∀t∈ts,cH d t
 |u::ts,m,h,hT,t,ht=>by
  rw[B',a7] at h;cases ht with
  |head=>obtain⟨x,r,rfl,h1,h2⟩:=hT u (cw ..);exact kK h.1 (by show x.depth<=d;omega)
  |tail _ ht=>exact m9 ts _ h.2 (λv hv=>hT v (bz _ hv)) t ht
theorem Et(l m:List O):chg l m=placesChanged (l.map ko) (m.map ko):=by unfold chg placesChanged;rw[List.zip_map,List.filter_map,aT];rfl
theorem vH{seg suf:O}(W:l8 o)(e:o=pre++seg++suf)(kL:∀z∈seg,d<=z.depth)(hh:hd seg<=d)(hs:hd suf<=d)(hm:d<=jc 1 pre):
 (sortedNodes (seg.filter λy=>y.depth==d)).flatMap (λy=>tree o y.number)=(cB (trees seg)).flatten/\l8 (pre++(cB (trees seg)).flatten++suf)/\(∀y∈(cB (trees seg)).flatten,d<=y.depth)/\
  (cB (trees seg)).flatten.filter (λy=>y.depth==d)=sortedNodes (seg.filter λy=>y.depth==d)/\hd (cB (trees seg)).flatten<=d/\(pre++(cB (trees seg)).flatten++suf).Perm o:=by
 obtain⟨t1,t2,t3⟩:=sk (d:=d) seg.length seg (aS _) kL hh;have hp:=pS (trees seg);have hT:∀t∈cB (trees seg),IsT d t:=λt ht=>t3 t (hp.mem_iff.mp ht);have XQ:∀t∈cB (trees seg),tree o (ko t).number=t:=λt ht=>Es W.nd hs (trees seg) pre t3 (by rw[e];show _=pre++(gC seg.length seg).flatten++suf;rw[t1]) t (hp.mem_iff.mp ht);have MW:(cB (trees seg)).flatten.Perm seg:=by have:=List.Perm.flatten hp;show List.Perm _ seg;have h2:(trees seg).flatten=seg:=t1;rw[h2] at this;exact this
 have hP:(pre++(cB (trees seg)).flatten++suf).Perm o:=by rw[e];exact(MW.append_left pre).append_right suf
 have Pa:cH 1 pre/\cH (jc 1 pre) seg/\cH (jc (jc 1 pre) seg) suf:=by have:=W.dep;rw[e,dQ,a7,a7] at this;exact this
 have J6:∀t∈trees seg,cH d t:=m9 (trees seg) (jc 1 pre) (by show cH _ (gC seg.length seg).flatten;rw[t1];exact Pa.2.1) t3;obtain⟨f1,f2⟩:=rj (d:=d) (cB (trees seg)) (jc 1 pre) hm λt ht=>⟨hT t ht,J6 t (hp.mem_iff.mp ht)⟩;refine⟨?_,⟨?_,?_,?_,?_⟩,?_,?_,?_,hP⟩
 .have:seg.filter (λy=>y.depth==d)=(trees seg).map ko:=t2.symm;rw[this,<-lR,xr XQ]
 .rw[hP.length_eq];exact W.len
 .exact(hP.map λy:Node=>y.number).symm.nodup W.nd
 .rw[dQ,a7,a7];exact⟨Pa.1,f1,kK Pa.2.2 (bq hs f2)⟩
 .exactλy hy=>W.good y (hP.mem_iff.mp hy)
 .exactλy hy=>kL y (MW.mem_iff.mp hy)
 .rw[nV _ hT,lR];have:(trees seg).map ko=seg.filter (λy=>y.depth==d):=t2;rw[this]
 .cases hu:cB (trees seg) with
  |nil=>exact a_ _
  |cons t l=>obtain⟨x,r,rfl,h1,_⟩:=hT t (by rw[hu];simp);show x.depth<=d;omega
theorem nW{seg:O}(kL:∀z∈seg,d<=z.depth)(hh:hd seg<=d):(trees seg).map ko=seg.filter (λy=>y.depth==d)/\(trees seg).flatten=seg/\∀t∈trees seg,IsT d t:=by obtain⟨t1,t2,t3⟩:=sk (d:=d) seg.length seg (aS _) kL hh;exact⟨t2,t1,t3⟩
section
variable{s:State}{a r:O}{x:Node}{z:Int}
theorem AO(W:Wf s):step s (.sort 0)=(⟨(cB (trees s.nodes)).flatten,s.next⟩,⟨(chg (trees s.nodes) (cB (trees s.nodes)):Nat),[]⟩)/\Wf (step s (.sort 0)).1:=by
 have kL:∀y∈s.nodes,1<=y.depth:=λy hy=>lN W.n.dep y hy;have hh:hd s.nodes<=1:=vx W.n.dep;obtain⟨g1,g2,g3,g4,g5,g6⟩:=vH (pre:=[]) (seg:=s.nodes) (suf:=[]) (d:=1) W.n (by simp) kL hh (a_ _) (aS _);rw[uW,pw] at g2 g6;have hc:∀o:O,children o 0=o.filter λy=>y.depth==1:=λo=>ao rfl;have e:step s (.sort 0)=(⟨(cB (trees s.nodes)).flatten,s.next⟩,⟨(chg (trees s.nodes) (cB (trees s.nodes)):Nat),[]⟩):=by show doSort s 0=_;have e0:nodeNo 0=0:=me.mpr rfl;unfold doSort Vanbkn.sorted;dsimp only;rw[e0,ao rfl,hc,hc,g1,cz (by rfl),cz (by rfl),kN,g4,Et,lR,(nW kL hh).1];rfl
 refine⟨e,?_⟩;rw[e];exact⟨g2,λy hy=>W.lt y (g6.mem_iff.mp hy),W.nx⟩
theorem sr(W:Wf s)(h0:z≠0)(h:dE s.nodes z=none):step s (.sort z)=refused s (-1):=by
 have hk:nodeNo z≠0:=λe=>h0 (me.mp e);have hb:Vanbkn.has s.nodes (nodeNo z)=false:=by
  unfold Vanbkn.has;rw[lO];rcases nQ W.n z with⟨a,x,r,e,h1,_⟩|⟨_,h2,_⟩
  .rw[h] at h1;cases h1
  .rw[h2];rfl
 show doSort s z=_;unfold doSort;dsimp only;exact cM (by rw[hb];simpa using hk)
theorem x9(W:Wf s)(e:s.nodes=a++x::r)(hz:(x.number:Int)=z):step s (.sort z)=if x.cell=true then refused s (-7) else
 (⟨a++x::(cB (trees (inside x.depth r))).flatten++outside x.depth r,s.next⟩,⟨(chg (trees (inside x.depth r)) (cB (trees (inside x.depth r))):Nat),[]⟩):=by
 have hx:x∈s.nodes:=by rw[e];simp
 have hn:nodeNo z=x.number:=((sj W.n hx z).mpr hz).symm;have Qy:x.number≠0:=by have:=W.n.num x hx;omega
 have W':=W.n;rw[e] at W';have hp:partAt x.number s.nodes=some (a,x,r):=by rw[e];exact dv W'.nd
 have hb:Vanbkn.has s.nodes x.number=true:=by unfold Vanbkn.has;rw[lO,hp];rfl
 have FI:isSection s.nodes x.number= !x.cell:=by rw[hZ,hp]
 show doSort s z=_;unfold doSort;dsimp only;rw[hn,hb,FI,cz (by simp)];by_cases hc:x.cell=true
 .rw[cM (by simp[hc,Qy]),ao hc]
 .have xI:x.cell=false:=by simpa using hc
  rw[cz (by simp[xI]),ak hc,kN];have el:lim x=x.depth+1:=by unfold lim;rw[xI];rfl
  have uE:hd (inside x.depth r)<=x.depth+1:=by have:=(gv W'.dep).2.2.2;rw[<-bQ x.depth r,a7,el] at this;exact vx this.1
  have Pb:s.nodes=(a++[x])++inside x.depth r++outside x.depth r:=by
   conv=>lhs;rw[e,<-bQ x.depth r]
   simp
  obtain⟨g1,g2,g3,g4,g5,g6⟩:=vH (d:=x.depth+1) W.n Pb (λy hy=>cp y hy) uE (uZ (cg _ _)) (by rw[gM];show _<=lim x;omega);have hk:children s.nodes x.number=(inside x.depth r).filter λy=>y.depth==x.depth+1:=by unfold children;rw[ak Qy,hp]
  have Zz:Vanbkn.sorted s.nodes x.number=a++x::(cB (trees (inside x.depth r))).flatten++outside x.depth r:=by unfold Vanbkn.sorted;dsimp only;rw[ak Qy,hp,hk,g1]
  have QA:a++x::(cB (trees (inside x.depth r))).flatten++outside x.depth r=a++x::((cB (trees (inside x.depth r))).flatten++outside x.depth r):=by simp
  have ZA:children (a++x::(cB (trees (inside x.depth r))).flatten++outside x.depth r) x.number=sortedNodes ((inside x.depth r).filter λy=>y.depth==x.depth+1):=by have XR:=g2.nd;rw[show a++[x]++(cB (trees (inside x.depth r))).flatten++outside x.depth r=a++x::((cB (trees (inside x.depth r))).flatten++outside x.depth r) by simp] at XR;unfold children;rw[ak Qy,QA,dv XR];simp only;rw[eI (λy hy=>g3 y hy) (cg _ _),g4]
  rw[Zz,hk,ZA,Et,lR,(nW (λy hy=>cp y hy) uE).1];rfl
theorem K3(W:Wf s)(z:Int):Wf (step s (.sort z)).1:=by
 by_cases h0:z=0
 .subst h0;exact(AO W).2
 .rcases aY (o:=s.nodes) z with h|⟨a,x,r,e,h,hz⟩
  .rw[sr W h0 h];exact W
  .rw[x9 W e hz];split
   .exact W
   .rename_i hc;have xI:x.cell=false:=by simpa using hc
    have W':=W.n;rw[e] at W';have el:lim x=x.depth+1:=by unfold lim;rw[xI];rfl
    have uE:hd (inside x.depth r)<=x.depth+1:=by have:=(gv W'.dep).2.2.2;rw[<-bQ x.depth r,a7,el] at this;exact vx this.1
    have Pb:s.nodes=(a++[x])++inside x.depth r++outside x.depth r:=by
     conv=>lhs;rw[e,<-bQ x.depth r]
     simp
    obtain⟨g1,g2,g3,g4,g5,g6⟩:=vH (d:=x.depth+1) W.n Pb (λy hy=>cp y hy) uE (uZ (cg _ _)) (by rw[gM];show _<=lim x;omega);have QA:a++[x]++(cB (trees (inside x.depth r))).flatten++outside x.depth r=a++x::(cB (trees (inside x.depth r))).flatten++outside x.depth r:=by simp
    rw[QA] at g2 g6;exact⟨g2,λy hy=>W.lt y (g6.mem_iff.mp hy),W.nx⟩
end
open Vanbkn (piecesOf pieces refOf redirect copied doCopy)
def Cu(n:Nat):List Nat:=(Nat.toDigits 10 n).map Char.toNat
theorem jX(n:Nat):decimal n=Cu n:=by unfold decimal Vanbkn.b Cu;show List.map _ (Nat.repr n).toList=_;unfold Nat.repr;simp
theorem jY:∀n<1000,Cu n=if n<10 then[48+n] else if n<100 then[48+n / 10,48+n % 10] else[48+n / 100,48+n / 10 % 10,48+n % 10]:=by
 unfold Cu
 decide+kernel
variable{c:Nat}
theorem dig(h:digit c=true):48<=c/\c<=57:=by simpa[digit] using h
theorem xt{n:Text}(h1:n≠[])(h3:n.length<=3)(hd:∀c∈n,digit c=true)(h0:∀c r,n=c::r->49<=c):decimal (natOf n)=n:=by
 rw[jX]
 match n,h1,h3,hd,h0 with
 |[],h,_,_,_=>exact absurd rfl h
 |[a],_,_,hd,h0=>
  have ha:=dig (hd a (by simp));have h0:=h0 a [] rfl;have e:natOf [a]=a - 48:=by show 10*0+(a - 48)=_;omega
  rw[e,jY _ (by omega),ao (by omega)];congr 1;omega
 |[a,b],_,_,hd,h0=>
  have ha:=dig (hd a (by simp));have hb:=dig (hd b (by simp));have h0:=h0 a [b] rfl;have e:natOf [a,b]=10*(a - 48)+(b - 48):=by show 10*(10*0+(a - 48))+(b - 48)=_;omega
  rw[e,jY _ (by omega),ak (by omega),ao (by omega)];congr 1
  .omega
  .congr 1;omega
 |[a,b,c],_,_,hd,h0=>
  have ha:=dig (hd a (by simp));have hb:=dig (hd b (by simp));have hc:=dig (hd c (by simp));have h0:=h0 a [b,c] rfl;have e:natOf [a,b,c]=100*(a - 48)+10*(b - 48)+(c - 48):=by show 10*(10*(10*0+(a - 48))+(b - 48))+(c - 48)=_;omega
  rw[e,jY _ (by omega),ak (by omega),ak (by omega)];congr 1
  .omega
  .congr 1
   .omega
   .congr 1;omega
 |_::_::_::_::_,_,h3,_,_=>simp at h3
theorem tV(n:Nat)(h:n<1000):∀c∈Cu n,48<=c/\c<=57:=by
 rw[jY n h];intro c hc;split at hc
 .simp at hc;omega
 .split at hc
  .simp at hc;omega
  .simp at hc;omega
def fW(d:Nat)(t:Text):Text:=((d::t).takeWhile digit).take 3
def scan:Nat->Nat->Text->List (Nat×Nat×Nat)
 |_,_,[]=>[]
 |0,_,_=>[]
 |k+1,i,c::r=>if c=64 then(match r with
  |64::t=>scan k (i+2) t
  |d::t=>if 49<=d/\d<=57 then(i+1,i+1+(fW d t).length,natOf (fW d t))::scan k (i+1+(fW d t).length) ((d::t).drop (fW d t).length) else scan k (i+1) r
  |[]=>[])
  else scan k (i+1) r
theorem takeWhile_all{p:Nat->Bool}:∀(l:List Nat),∀c∈l.takeWhile p,p c=true
 |[],c,h=>by cases h
 |x::l,c,h=>by
  rw[mW] at h;split at h
  .rename_i hx;cases h with
   |head=>exact hx
   |tail _ h=>exact takeWhile_all l c h
  .cases h
variable{t:Text}
theorem vI(h:49<=d/\d<=57):∃r,fW d t=d::r:=by unfold fW;rw[DM (by simp[digit];omega)];exact⟨_,rfl⟩
theorem K4(h:49<=d/\d<=57):decimal (natOf (fW d t))=fW d t:=by
 obtain⟨r,e⟩:=vI (t:=t) h;refine xt (by rw[e];simp) (by unfold fW;rw[bj];omega) (λc hc=>?_) (λc q e2=>?_)
 .exact takeWhile_all _ c (kx hc)
 .rw[e] at e2;cases e2;exact h.1
theorem y9(d:Nat)(t:Text):fW d t++(d::t).drop (fW d t).length=d::t:=by
 have h1:(fW d t).isPrefixOf (d::t)=true\/True:= .inr trivial;have:fW d t=(d::t).take (fW d t).length:=by unfold fW;have hp:((d::t).takeWhile digit).take 3<+:d::t:=(List.take_prefix _ _).trans (G3 _);exact(zN.mp hp)
 conv=>lhs;arg 1;rw[this]
 exact DN _ _
theorem K5(d:Nat)(t:Text):(fW d t).length<=(d::t).length:=by have:=da List.length (y9 d t);rw[bb] at this;omega
theorem pT{k:Nat}{r:Text}(h:c≠64):scan (k+1) i (c::r)=scan k (i+1) r:=by
 conv=>lhs;unfold scan
 exact ak h
theorem vJ{k:Nat}:scan (k+1) i (64::64::t)=scan k (i+2) t:=rfl
theorem H_{k:Nat}:scan (k+1) i [64]=[]:=rfl
theorem vK{k:Nat}(h:49<=d/\d<=57):scan (k+1) i (64::d::t)=(i+1,i+1+(fW d t).length,natOf (fW d t))::scan k (i+1+(fW d t).length) ((d::t).drop (fW d t).length):=by
 have hd:d≠64:=by omega
 rw[scan,ao rfl,ao h]
 all_goals first|exact hd|rfl
theorem y_{k:Nat}(hd:d≠64)(h:¬(49<=d/\d<=57)):scan (k+1) i (64::d::t)=scan k (i+1) (d::t):=by
 rw[scan,ao rfl,ak h]
 all_goals first|exact hd|rfl
theorem rk{k:Nat}{r:Text}(h:c≠64):piecesOf (k+1) (c::r)= .byte c::piecesOf k r:=by
 conv=>lhs;unfold piecesOf
 exact ak h
theorem vL{k:Nat}:piecesOf (k+1) (64::64::t)= .byte 64::piecesOf k t:=rfl
theorem CF{k:Nat}:piecesOf (k+1) [64]=[.byte 64]:=rfl
theorem vM{k:Nat}(h:49<=d/\d<=57):piecesOf (k+1) (64::d::t)= .ref (natOf (fW d t))::piecesOf k ((d::t).drop (fW d t).length):=by
 have hd:d≠64:=by omega
 rw[piecesOf,ao rfl,ao h]
 all_goals first|exact hd|rfl
theorem x_{k:Nat}(hd:d≠64)(h:¬(49<=d/\d<=57)):piecesOf (k+1) (64::d::t)= .byte 64::piecesOf k (d::t):=by
 rw[piecesOf,ao rfl,ak h]
 all_goals first|exact hd|rfl
variable{f:Nat->Nat}
theorem vN{k:Nat}{r:Text}(h:c≠64):redirect f (k+1) (c::r)=c::redirect f k r:=by
 conv=>lhs;unfold redirect
 exact ak h
theorem za{k:Nat}:redirect f (k+1) (64::64::t)=64::64::redirect f k t:=rfl
theorem zb{k:Nat}(h:49<=d/\d<=57):redirect f (k+1) (64::d::t)=64::decimal (f (natOf (fW d t)))++redirect f k ((d::t).drop (fW d t).length):=by
 have hd:d≠64:=by omega
 rw[redirect,ao rfl,ao h]
 all_goals first|exact hd|rfl
theorem AR{k:Nat}(hd:d≠64)(h:¬(49<=d/\d<=57)):redirect f (k+1) (64::d::t)=64::redirect f k (d::t):=by
 rw[redirect,ao rfl,ak h]
 all_goals first|exact hd|rfl
theorem lS:∀(k i:Nat)(t:Text),(scan k i t).map (λe=>e.2.2)=(piecesOf k t).filterMap refOf
 |0,i,[]=>rfl
 |0,i,c::r=>rfl
 |k+1,i,[]=>rfl
 |k+1,i,c::r=>by
  by_cases hc:c=64
  .subst hc
   match r with
   |[]=>rfl
   |d::t=>
    by_cases hd:d=64
    .subst hd;rw[vJ,vL,lS k (i+2) t];rfl
    .by_cases hg:49<=d/\d<=57
     .rw[vK hg,vM hg,cA,lS k _ _];rfl
     .rw[y_ hd hg,x_ hd hg,lS k _ _];rfl
  .rw[pT hc,rk hc,lS k _ _];rfl
def su(m:Nat->Option Nat):List (Nat×Nat×Nat)->Nat->Text->Text
 |[],taken,txt=>txt.drop taken
 |(st,en,n)::rs,taken,txt=>match m n with
  |some v=>(txt.take st).drop taken++decimal v++su m rs en txt
  |none=>su m rs taken txt
theorem sv{txt:Text}{taken:Nat}{l r:Text}(e:txt.drop i=l++r)(h:taken<=i):(txt.take (i+l.length)).drop taken=(txt.take i).drop taken++l:=by
 have e2:txt.take (i+l.length)=txt.take i++l:=by rw[List.take_add,e,tG]
 rw[e2,List.drop_append];by_cases hi:i<=txt.length
 .rw[bj,iY hi,Nat.sub_eq_zero_of_le h,zI]
 .have:txt.drop i=[]:=List.drop_eq_nil_of_le (by omega);rw[this] at e;have:l=[]:=(List.append_eq_nil_iff.mp e.symm).1;subst this;simp
theorem zc(m:Nat->Option Nat)(txt:Text):∀(k i taken:Nat),taken<=i->(txt.drop i).length<=k->su m (scan k i (txt.drop i)) taken txt=(txt.take i).drop taken++redirect (λn=>(m n).getD n) k (txt.drop i):=by
 intro k;induction k with
 |zero=>intro i taken h hk;have e:txt.drop i=[]:=zJ (by omega);rw[e];show txt.drop taken=_++[];rw[pw,pA (NK.mp e)]
 |succ k ih=>
  intro i taken h hk
  match e:txt.drop i with
  |[]=>show txt.drop taken=_++[];rw[pw,pA (NK.mp e)]
  |c::r=>
   rw[e] at hk;have er:txt.drop (i+1)=r:=by rw[<-ni,e];rfl
   have et:(txt.take (i+1)).drop taken=(txt.take i).drop taken++[c]:=sv (l:=[c]) (r:=r) e h;have one:=ih (i+1) taken (by omega) (by rw[er];simp at hk;omega);rw[er,et] at one;by_cases hc:c=64
   .subst hc
    match r,er,et,one with
    |[],er,et,one=>show txt.drop taken=_++[64];rw[<-et,pA];exact NK.mp er
    |d::t,er,et,one=>
     by_cases hd:d=64
     .subst hd;have e2:txt.drop (i+2)=t:=by rw[show i+2=i+1+1 from rfl,<-ni,er];rfl
      have two:=ih (i+2) taken (by omega) (by rw[e2];simp at hk;omega);have e3:(txt.take (i+2)).drop taken=(txt.take i).drop taken++[64,64]:=sv (l:=[64,64]) (r:=t) e h;rw[e2,e3] at two;rw[vJ,za,two];simp
     .by_cases QB:49<=d/\d<=57
      .rw[vK QB,zb QB];have hp:=y9 d t;have hl:=K5 d t;have ed:txt.drop (i+1+(fW d t).length)=(d::t).drop (fW d t).length:=by rw[<-ni,er]
       have hlen:(txt.drop (i+1+(fW d t).length)).length<=k:=by rw[ed,dD];simp at hk hl⊢;obtain⟨q,eq⟩:=vI (t:=t) QB;rw[eq] at hl⊢;simp at hl⊢;omega
       show(match m (natOf (fW d t)) with
        |some v=>(txt.take (i+1)).drop taken++decimal v++su m (scan k (i+1+(fW d t).length) ((d::t).drop (fW d t).length)) (i+1+(fW d t).length) txt
        |none=>su m (scan k (i+1+(fW d t).length) ((d::t).drop (fW d t).length)) taken txt)=_
       cases hm:m (natOf (fW d t)) with
       |some v=>simp only;have i3:=ih (i+1+(fW d t).length) (i+1+(fW d t).length) (aS _) hlen;rw[ed] at i3;rw[i3,et];have:(txt.take (i+1+(fW d t).length)).drop (i+1+(fW d t).length)=[]:=List.drop_eq_nil_of_le (by rw[bj];omega);rw[this];simp
       |none=>
        simp only;have i3:=ih (i+1+(fW d t).length) taken (by omega) hlen;rw[ed] at i3;rw[i3];have e3:txt.drop (i+1)=fW d t++(d::t).drop (fW d t).length:=by rw[er,hp]
        rw[sv e3 (by omega),et,G5,K4 QB];simp
      .rw[y_ hd QB,AR hd QB,one];simp
   .rw[pT hc,vN hc,one];simp
theorem K6(m:Nat->Option Nat)(txt:Text):su m (scan txt.length 0 txt) 0 txt=redirect (λn=>(m n).getD n) txt.length txt:=by have:=zc m txt txt.length 0 0 (aS _) (by simp);rw[zI] at this;rw[this];simp
theorem fP{f:Nat->Nat}(hf:∀n,n<1000->f n<1000):∀(k:Nat)(t:Text),(∀c∈t,32<=c/\c<=126)->∀c∈redirect f k t,32<=c/\c<=126
 |0,[],_,c,h=>by cases h
 |0,d::r,ht,c,h=>ht c h
 |k+1,[],_,c,h=>by cases h
 |k+1,d::r,ht,c,h=>by
  have hr:∀c∈r,32<=c/\c<=126:=λc hc=>ht c (bz _ hc);unfold redirect at h;by_cases hd:d=64
  .rw[ao hd] at h;split at h
   .rename_i t;simp only[bZ] at h;rcases h with rfl|rfl|h
    .omega
    .omega
    .exact fP hf k t (λc hc=>hr c (bz _ hc)) c h
   .rename_i e t _;split at h
    .rename_i hg;rw[iW,bZ] at h;rcases h with rfl|h
     .omega
     .rcases dZ.mp h with h|h
      .rw[jX] at h;have hn:natOf (fW e t)<1000:=by
        have h3:(fW e t).length<=3:=by unfold fW;rw[bj];omega
        have XS:∀c∈fW e t,digit c=true:=λc hc=>takeWhile_all _ c (kx hc);generalize fW e t=q at h3 XS
        match q,h3,XS with
        |[],_,_=>decide
        |[a],_,hd=>have:=dig (hd a (by simp));show 10*0+(a - 48)<1000;omega
        |[a,b],_,hd=>have:=dig (hd a (by simp));have:=dig (hd b (by simp));show 10*(10*0+(a - 48))+(b - 48)<1000;omega
        |[a,b,c],_,hd=>have:=dig (hd a (by simp));have:=dig (hd b (by simp));have:=dig (hd c (by simp));show 10*(10*(10*0+(a - 48))+(b - 48))+(c - 48)<1000;omega
        |_::_::_::_::_,h,_=>simp at h
       have:=tV _ (hf _ hn) c h;omega
      .refine fP hf k _ (λc hc=>hr c ?_) c h;exact zL hc
    .rw[bZ] at h;rcases h with rfl|h
     .omega
     .exact fP hf k _ hr c h
   .simp at h;omega
  .rw[ak hd,bZ] at h;rcases h with rfl|h
   .exact ht c (cw ..)
   .exact fP hf k r hr c h
def mN(t:O)(nx n:Nat):Option Nat:=((nums t).findIdx? λm=>m==n).map λi=>nx+i
def Ia(t:O)(nx:Nat)(x:Node):Node:={x with number:=(mN t nx x.number).getD x.number,text:=redirect (λn=>(mN t nx n).getD n) x.text.length x.text}
def sx(t:O)(nx:Nat):O:=t.map (Ia t nx)
theorem FK(t:O)(nx:Nat):copied t nx=sx t nx:=by
 unfold copied sx Ia mN nums;dsimp only;have h:∀n,(match (t.map λx=>x.number).findIdx? (λm=>m==n) with
  |some i=>nx+i
  |none=>n)=(Option.map (λi=>nx+i) ((t.map λx=>x.number).findIdx? λm=>m==n)).getD n:=by
  intro n;cases(t.map λx=>x.number).findIdx? (λm=>m==n)<;>rfl
 refine iX λx _=>?_;congr 1
 .exact h _
 .congr 1;funext n;exact h n
theorem Ib{t:O}(h:(nums t).Nodup)(hi:t[i]?=some x):mN t nx x.number=some (nx+i):=by
 unfold mN;have:(nums t).findIdx? (λm=>m==x.number)=some i:=by
  rw[NO];obtain⟨hl,e⟩:=dm.mp hi;have B6:i<(nums t).length:=by unfold nums;rw[aT];exact hl
  have e2:(nums t)[i]=x.number:=by simp[nums,e]
  refine⟨B6,by rw[e2];simp,λj hj=>?_⟩;intro hh;have e3:(nums t)[j]'(by omega)=(nums t)[i]:=by rw[e2];simpa using hh
  have:=(Kp h).mp e3;omega
 rw[this];rfl
theorem MX{t:O}{v:Nat}(h:mN t nx n=some v):nx<=v/\v<nx+t.length:=by
 unfold mN at h;cases hi:(nums t).findIdx? (λm=>m==n) with
 |none=>rw[hi] at h;cases h
 |some i=>rw[hi] at h;cases h;obtain⟨hl,_⟩:=NO.mp hi;unfold nums at hl;rw[aT] at hl;exact⟨uY _ _,Nat.add_lt_add_left hl _⟩
theorem Eu{t:O}(h:(nums t).Nodup):nums (sx t nx)=List.range' nx t.length:=by
 have hl:(nums (sx t nx)).length=t.length:=by unfold nums sx;rw[aT,aT]
 refine List.ext_getElem (by rw[hl,List.length_range']) λi h1 h2=>?_;have hi:i<t.length:=by omega
 have e:(nums (sx t nx))[i]=(mN t nx t[i].number).getD t[i].number:=by simp[nums,sx,Ia]
 rw[e,Ib h (c_ hi),List.getElem_range'];simp
theorem AU{f:Node->Node}(hf:∀x,(f x).depth=x.depth/\(f x).cell=x.cell):∀{l:O}{m:Nat},cH m l->cH m (l.map f)
 |[],_,_=>trivial
 |x::r,m,⟨h1,h2,h3⟩=>by
  refine⟨by rw[(hf x).1];exact h1,by rw[(hf x).1];exact h2,?_⟩;have:lim (f x)=lim x:=by unfold lim;rw[(hf x).1,(hf x).2]
  rw[this];exact AU hf h3
theorem AV(t u:O)(nx fr to:Nat):cu (t.map (Ia u nx)) fr to=cu t fr to:=by unfold cu;rw[B9];rfl
section
variable{s:State}{a r:O}{x:Node}{z:Int}
def AW(s:State)(x:Node)(t:O)(p af:Int):State×Answer:=match gA s.nodes p af with
 |none=>refused s (-2)
 |some (k,d)=>if 60<s.nodes.length+t.length then refused s (-4) else if cu t x.depth d=true then refused s (-5) else if 1000<s.next+t.length then refused s (-6)
  else if((sx t s.next).any λy=>decide (60<y.text.length))=true then refused s (-14) else(⟨s.nodes.take k++shifted (sx t s.next) x.depth d++s.nodes.drop k,s.next+t.length⟩,⟨s.next,[]⟩)
theorem copy_eq(W:Wf s)(e:s.nodes=a++x::r)(hz:(x.number:Int)=z)(p af:Int):step s (.copy z p af)=AW s x (x::inside x.depth r) p af:=by
 show withNode s z _=_;have ht:tree s.nodes x.number=x::inside x.depth r:=by rw[e];exact iy (by rw[<-e];exact W.n.nd)
 rw[aO W.n e hz];dsimp only;rw[ht,FK];unfold AW;rcases fO W.n p af with⟨h1,h2⟩|⟨pre,post,d,h1,h2,S⟩
 .rw[h1,h2];exact cM rfl
 .rw[h1,h2];have et:s.nodes.take pre.length=pre:=by rw[S.eq];exact fN
  have ed:s.nodes.drop pre.length=post:=by rw[S.eq];simp
  have ep:putTree (pre,post,d) (sx (x::inside x.depth r) s.next)=pre++shifted (sx (x::inside x.depth r) s.next) x.depth d++post:=rfl;simp only[u4,DT,ep,et,ed];rw[cz rfl];by_cases c1:60<s.nodes.length+(x::inside x.depth r).length
  .rw[cM (show decide (NODES<_)=true from aR c1),ao c1]
  .rw[cz (show decide (NODES<_)=false from cR c1),ak c1];have hd:tooDeep (pre++shifted (sx (x::inside x.depth r) s.next) x.depth d++post)=cu (x::inside x.depth r) x.depth d:=by have g1:tooDeep pre=false:=cT λy hy=>W.n.good y (by rw[S.eq];exact dA _ hy);have g2:tooDeep post=false:=cT λy hy=>W.n.good y (by rw[S.eq];exact eM _ hy);rw[bR,bR,g1,g2,Qo,zG,jd];exact AV _ _ _ _ _
   by_cases c2:cu (x::inside x.depth r) x.depth d=true
   .rw[cM (by rw[hd];exact c2),ao c2]
   .rw[cz (by rw[hd];simpa using c2),ak c2];by_cases c3:1000<s.next+(x::inside x.depth r).length
    .rw[cM (aR c3),ao c3]
    .rw[cz (cR c3),ak c3];by_cases c4:((sx (x::inside x.depth r) s.next).any λy=>decide (60<y.text.length))=true
     .rw[cM (show((sx (x::inside x.depth r) s.next).any λy:Node=>decide (LONG<y.text.length))=true from c4),ao c4]
     .rw[cz (show((sx (x::inside x.depth r) s.next).any λy:Node=>decide (LONG<y.text.length))=false from Tv.mpr c4),ak c4];rfl
theorem K7(W:Wf s)(z p af:Int):Wf (step s (.copy z p af)).1:=by
 rcases aY (o:=s.nodes) z with h|⟨a,x,r,e,h,hz⟩
 .show Wf (withNode s z _).1;rw[bx W.n h];exact W
 .rw[copy_eq W e hz];unfold AW;rcases fO W.n p af with⟨h1,h2⟩|⟨pre,post,d,h1,h2,S⟩
  .rw[h1];exact W
  .rw[h1];have et:s.nodes.take pre.length=pre:=by rw[S.eq];exact fN
   have ed:s.nodes.drop pre.length=post:=by rw[S.eq];simp
   simp only[et,ed];split
   .exact W
   .rename_i c1;split
    .exact W
    .rename_i c2;split
     .exact W
     .rename_i c3;split
      .exact W
      .rename_i c4;have W':=W.n;rw[e] at W';have xc:=W.nx;have K8:∀y∈x::inside x.depth r,y∈s.nodes:=λy hy=>by rw[e];exact(gB a r x).mem_iff.mpr (dA _ hy)
       have R6:(nums (x::inside x.depth r)).Nodup:=by refine lQ ?_ W'.nd;exact(List.Sublist.cons_cons x (pz _)).trans (Mx _ _)
       have hl:(x::inside x.depth r).length=(sx (x::inside x.depth r) s.next).length:=by unfold sx;rw[aT]
       have gS:∀y∈sx (x::inside x.depth r) s.next,∃w∈x::inside x.depth r,y=Ia (x::inside x.depth r) s.next w:=λy hy=>by obtain⟨w,hw,rfl⟩:=fc.mp hy;exact⟨w,hw,rfl⟩
       have Ic:∀y∈sx (x::inside x.depth r) s.next,s.next<=y.number/\y.number<s.next+(x::inside x.depth r).length:=λy hy=>by have:y.number∈nums (sx (x::inside x.depth r) s.next):=zK hy;rw[Eu R6,G0] at this;exact this
       have Ie:∀y∈sx (x::inside x.depth r) s.next,Good y:=λy hy=>by
        obtain⟨w,hw,rfl⟩:=gS y hy;have g:=W.n.good w (K8 w hw);have hr:=Ic _ hy;refine⟨⟨by omega,by omega⟩,g.sec,⟨?_,?_⟩,g.cf⟩
        .rw[Bool.not_eq_true,Fb] at c4;have:=c4 _ hy;simpa using this
        .refine fP (λn hn=>?_) _ _ g.txt.2;cases hm:mN (x::inside x.depth r) s.next n with
         |none=>exact hn
         |some v=>have:=MX hm;show v<1000;omega
       have QC:sx (x::inside x.depth r) s.next=Ia (x::inside x.depth r) s.next x::(inside x.depth r).map (Ia (x::inside x.depth r) s.next):=rfl;have key:=HN (x:=Ia (x::inside x.depth r) s.next x) (t:=(inside x.depth r).map (Ia (x::inside x.depth r) s.next)) (d:=d) W.n S
        (by have:=AU (f:=Ia (x::inside x.depth r) s.next) (λw=>⟨rfl,rfl⟩) (AE W'.dep);exact this)
        (λy hy=>by rw[<-QC] at hy;obtain⟨w,hw,rfl⟩:=gS y hy;exact h_ (x:=x) (r:=r) w hw)
        (λy hy=>Ie y (by rw[QC];exact hy))
        (by rw[<-QC];have:=AV (x::inside x.depth r) (x::inside x.depth r) s.next x.depth d;exact this.trans (by simpa using c2))
        (by
         rw[<-QC,Eu R6,xA];refine⟨List.nodup_range',W.n.nd,λn hn m hm=>?_⟩;rw[G0] at hn;obtain⟨w,hw,rfl⟩:=fc.mp hm;have:=W.lt w hw
         omega)
        (by rw[<-QC,<-hl];omega)
       rw[<-QC] at key;refine⟨key,?_,?_⟩
       .intro y hy;show y.number<s.next+(x::inside x.depth r).length;have hold:∀w∈s.nodes,w.number<s.next+(x::inside x.depth r).length:=λw hw=>dH (W.lt w hw) (uY _ _);rcases dZ.mp hy with hy|hy
        .rcases dZ.mp hy with hy|hy
         .exact hold y (by rw[S.eq];exact dA _ hy)
         .obtain⟨w,hw,rfl⟩:=fc.mp hy;exact(Ic w hw).2
        .exact hold y (by rw[S.eq];exact eM _ hy)
       .show 1<=s.next+(x::inside x.depth r).length/\s.next+(x::inside x.depth r).length<=1000;omega
theorem Ew{a c:O}{q:Node}(e:a=b++q::c)(hq:q.depth<d)(hc:∀y∈c,d<=y.depth):upFrom d a.reverse=q::upFrom q.depth b.reverse:=by
 have skip:∀(l m:O),(∀y∈l,d<=y.depth)->upFrom d (l++m)=upFrom d m:=by
  intro l;induction l with
  |nil=>intro m _;rfl
  |cons y l ih=>intro m h;have:=h y (cw ..);show upFrom d (y::(l++m))=_;rw[upFrom,ak (by omega)];exact ih m λw hw=>h w (bz _ hw)
 rw[e,zO,uX,dQ,skip c.reverse _ (λy hy=>hc y (uV.mp hy))];show upFrom d (q::b.reverse)=_;rw[upFrom,ao hq]
theorem Ex{a:O}(h:∀y∈a,d<=y.depth):upFrom d a.reverse=[]:=by
 have:∀(l:O),(∀y∈l,d<=y.depth)->upFrom d l=[]:=by
  intro l;induction l with
  |nil=>intro _;rfl
  |cons y l ih=>intro h;have:=h y (cw ..);rw[upFrom,ak (by omega)];exact ih λw hw=>h w (bz _ hw)
 exact this _ λy hy=>h y (uV.mp hy)
theorem FL(W:Wf s)(e:s.nodes=a++x::r)(hz:(x.number:Int)=z):step s (.reveal z)=
 (⟨s.nodes.map (pG λy=>(nums (upFrom x.depth a.reverse)).contains y.number),s.next⟩,⟨(((upFrom x.depth a.reverse).filter λy=>y.folded).length:Nat),[]⟩):=by
 show withNode s z _=_;have ha:ancestors s.nodes x.number=(upFrom x.depth a.reverse).reverse:=by rw[e];exact lP (by rw[<-e];exact W.n.nd)
 rw[aO W.n e hz];dsimp only;rw[ha];have h1:((upFrom x.depth a.reverse).reverse.filter λy=>y.folded).length=((upFrom x.depth a.reverse).filter λy=>y.folded).length:=by rw[List.filter_reverse,tw]
 rw[h1];have h2:(s.nodes.map λy=>if(((upFrom x.depth a.reverse).reverse.map λy=>y.number).contains y.number)=true then{y with folded:=false} else y)=s.nodes.map (pG λy=>(nums (upFrom x.depth a.reverse)).contains y.number):=by
  refine iX λy _=>?_;unfold pG nums;have:((upFrom x.depth a.reverse).reverse.map λy=>y.number).contains y.number=((upFrom x.depth a.reverse).map λy=>y.number).contains y.number:=by rw[DI,GD];simp
  rw[this]
 rw[h2];rfl
end
def jA(p:Nat->Bool):Nat->Option Nat
 |0=>none
 |n+1=>if p n=true then jA p n else some n
theorem vO{p:Nat->Bool}:∀{i j:Nat},jA p i=some j->j<i/\p j=false/\∀k,j<k->k<i->p k=true
 |0,j,h=>by cases h
 |n+1,j,h=>by
  unfold jA at h;by_cases hp:p n=true
  .rw[ao hp] at h;obtain⟨h1,h2,h3⟩:=vO h;refine⟨by omega,h2,λk hk hn=>?_⟩;by_cases e:k=n
   .rw[e];exact hp
   .exact h3 k hk (by omega)
  .rw[ak hp] at h;cases h;exact⟨by omega,by simpa using hp,λk hk hn=>by omega⟩
theorem vP{p:Nat->Bool}:∀{i:Nat},jA p i=none->∀k,k<i->p k=true
 |0,_,k,hk=>by omega
 |n+1,h,k,hk=>by
  unfold jA at h;by_cases hp:p n=true
  .rw[ao hp] at h;by_cases e:k=n
   .rw[e];exact hp
   .exact vP h k (by omega)
  .rw[ak hp] at h;cases h
def nt(o:O)(i:Nat):Option Nat:=jA (λj=>decide ((nd o i).depth<=(nd o j).depth)) i
def Pc(o:O)(i:Nat):Option Nat:=jA (λj=>decide ((nd o i).depth<(nd o j).depth)) i
def xu(o:O)(i:Nat):Option Nat:=match Pc o i with
 |none=>none
 |some j=>if(nd o j).depth<(nd o i).depth then none else some j
theorem vQ(h:o[i]?=some x):nd o i=x:=by unfold nd;rw[uh,h];rfl
theorem zd(h:j<a.length):nd (a++r) j=a[j]:=by refine vQ ?_;rw[nv h,c_ h]
theorem Ig(h:j<a.length):a=a.take j++a[j]::a.drop (j+1):=by simp
theorem vR{p:Node->Bool}(hi:i=a.length):
 (∃b q c,a=b++q::c/\p q=false/\(∀y∈c,p y=true)/\jA (λj=>p (nd (a++x::r) j)) i=some b.length)\/((∀y∈a,p y=true)/\jA (λj=>p (nd (a++x::r) j)) i=none):=by
 cases h:jA (λj=>p (nd (a++x::r) j)) i with
 |none=>refine .inr ⟨λy hy=>?_,rfl⟩;obtain⟨k,hk,e⟩:=GZ.mp hy;have:=vP h k (by omega);rw[zd hk,e] at this;exact this
 |some j=>
  obtain⟨h1,h2,h3⟩:=vO h;have hj:j<a.length:=by omega
  rw[zd hj] at h2;refine .inl ⟨a.take j,a[j],a.drop (j+1),Ig hj,h2,λy hy=>?_,?_⟩
  .obtain⟨k,hk,e⟩:=GZ.mp hy;rw[dD] at hk;rw[List.getElem_drop] at e;have:=h3 (j+1+k) (by omega) (by omega);rw[zd (by omega),e] at this;exact this
  .rw[bj,iY (eX hj)]
theorem o6(e:o=a++x::r):(∃b q c,a=b++q::c/\q.depth<x.depth/\(∀y∈c,x.depth<=y.depth)/\nt o a.length=some b.length)\/((∀y∈a,x.depth<=y.depth)/\nt o a.length=none):=by
 subst e;unfold nt;rw[fu];rcases vR (a:=a) (r:=r) (x:=x) (p:=λy=>decide (x.depth<=y.depth)) rfl with⟨b,q,c,h1,h2,h3,h4⟩|⟨h1,h2⟩
 .exact .inl ⟨b,q,c,h1,by simpa using h2,λy hy=>by simpa using h3 y hy,h4⟩
 .exact .inr ⟨λy hy=>by simpa using h1 y hy,h2⟩
theorem CG(e:o=a++x::r):(∃b y c,a=b++y::c/\y.depth=x.depth/\(∀z∈c,x.depth<z.depth)/\xu o a.length=some b.length)\/
 (xu o a.length=none/\((∀z∈a,x.depth<z.depth)\/∃b y c,a=b++y::c/\y.depth<x.depth/\∀z∈c,x.depth<z.depth)):=by
 subst e;unfold xu Pc;rw[fu];rcases vR (a:=a) (r:=r) (x:=x) (p:=λy=>decide (x.depth<y.depth)) rfl with⟨b,q,c,h1,h2,h3,h4⟩|⟨h1,h2⟩
 .rw[h4];have hq:nd (a++x::r) b.length=q:=by rw[h1,dQ];exact fu
  have MY:q.depth<=x.depth:=by simpa using h2
  have XT:∀z∈c,x.depth<z.depth:=λy hy=>by simpa using h3 y hy
  simp only[hq];by_cases hd:q.depth<x.depth
  .rw[ao hd];exact .inr ⟨rfl,.inr ⟨b,q,c,h1,hd,XT⟩⟩
  .rw[ak hd];exact .inl ⟨b,q,c,h1,by omega,XT,rfl⟩
 .rw[h2];exact .inr ⟨rfl,.inl λy hy=>by simpa using h1 y hy⟩
theorem AX(W:l8 o)(e:o=a++x::r):(∃b y c,a=b++y::c/\y.depth=x.depth/\(∀z∈c,x.depth<z.depth)/\sibling o x.number=some y/\xu o a.length=some b.length)\/
 (sibling o x.number=none/\xu o a.length=none):=by
 have W':=W;rw[e] at W';rcases CG e with⟨b,y,c,h1,h2,h3,h4⟩|⟨h1,h2⟩
 .rcases o5 W' with⟨b',y',c',g1,g2,g3,g4⟩|⟨g1,g2⟩
  .rw[<-e] at g4;have hb:b=b'/\y=y'/\c=c':=by
    rw[h1] at g1;rcases GP.mp g1 with⟨l,e1,e2⟩|⟨l,e1,e2⟩
    .cases l with
     |nil=>simp at e1 e2;exact⟨e1.symm,e2.1,e2.2⟩
     |cons w l=>simp at e2;have:=h3 y' (by rw[e2.2];simp);omega
    .cases l with
     |nil=>simp at e1 e2;exact⟨e1,e2.1.symm,e2.2.symm⟩
     |cons w l=>simp at e2;have:=g3 y (by rw[e2.2];simp);omega
   obtain⟨rfl,rfl,rfl⟩:=hb;exact .inl ⟨b,y,c,h1,h2,h3,g4,h4⟩
  .exfalso;rcases g2 with g2|⟨b',y',c',g3,g4,g5⟩
   .have:=g2 y (by rw[h1];simp);omega
   .rw[h1] at g3;rcases GP.mp g3 with⟨l,e1,e2⟩|⟨l,e1,e2⟩
    .cases l with
     |nil=>simp at e1 e2;rw[e2.1] at h2;omega
     |cons w l=>simp at e2;have:=h3 y' (by rw[e2.2];simp);omega
    .cases l with
     |nil=>simp at e1 e2;rw[<-e2.1] at h2;omega
     |cons w l=>simp at e2;have:=g5 y (by rw[e2.2];simp);omega
 .rcases o5 W' with⟨b',y',c',g1,g2,g3,g4⟩|⟨g1,g2⟩
  .exfalso;rcases h2 with h2|⟨b,y,c,h3,h4,h5⟩
   .have:=h2 y' (by rw[g1];simp);omega
   .rw[g1] at h3;rcases GP.mp h3 with⟨l,e1,e2⟩|⟨l,e1,e2⟩
    .cases l with
     |nil=>simp at e1 e2;rw[e2.1] at g2;omega
     |cons w l=>simp at e2;have:=g3 y (by rw[e2.2];simp);omega
    .cases l with
     |nil=>simp at e1 e2;rw[<-e2.1] at g2;omega
     |cons w l=>simp at e2;have:=h5 y' (by rw[e2.2];simp);omega
  .rw[<-e] at g1;exact .inr ⟨g1,h1⟩
theorem rm{α:Type}{p:α->Bool}:∀{l:List α}{j:Nat},j<=(l.takeWhile p).length->((∃y,l[j]?=some y/\p y=true)↔j<(l.takeWhile p).length)
 |[],j,h=>by simp
 |x::l,0,h=>by
  rw[mW];by_cases hx:p x=true
  .rw[ao hx];simp[hx]
  .rw[ak hx];simp[hx]
 |x::l,j+1,h=>by
  rw[mW] at h⊢;by_cases hx:p x=true
  .rw[ao hx] at h⊢;simp at h;have:=rm (p:=p) (l:=l) (j:=j) h;simp only[cn,Nat.add_lt_add_iff_right,<-this];simp
  .rw[ak hx] at h;simp at h
theorem FN(hj:j<=(inside (nd o i).depth (o.drop (i+1))).length):(i+1+j<o.length/\(nd o i).depth<(nd o (i+1+j)).depth)↔i+1+j<aP o i:=by
 unfold aP;have:=rm (p:=λx:Node=>decide ((nd o i).depth<x.depth)) (l:=o.drop (i+1)) (j:=j) hj;have e:(i+1+j<i+1+(inside (nd o i).depth (o.drop (i+1))).length)↔j<((o.drop (i+1)).takeWhile λx:Node=>decide ((nd o i).depth<x.depth)).length:=by unfold inside;omega
 rw[e,<-this];rw[xi];constructor
 .rintro⟨h1,h2⟩;refine⟨o[i+1+j],c_ h1,?_⟩;rw[vQ (c_ h1)] at h2;simpa using h2
 .rintro⟨y,h1,h2⟩;refine⟨(dm.mp h1).1,?_⟩;rw[vQ h1];simpa using h2
theorem jG(h:i<o.length):aP o i<=o.length:=by unfold aP;have h1:(inside (nd o i).depth (o.drop (i+1))).length<=(o.drop (i+1)).length:=(pz _).length_le;rw[dD] at h1;omega
open Vanbkn (Piece)
def bV(l:Text):Nat:=if l.head?=some 48 then 0 else((l.takeWhile digit).take 3).length
def bJ(l:Text):Nat×Nat:=
 if l.head?=some 64/\(l.drop 1).head?=some 64 then(2,0)
 else if l.head?=some 64 then(1+bV (l.drop 1),natOf ((l.drop 1).take (bV (l.drop 1))))
 else(1,0)
def bK:Nat->Nat->Text->List (Nat×Nat×Nat)
 |_,_,[]=>[]
 |0,_,_=>[]
 |k+1,i,c::r=>(i,i+(bJ (c::r)).1,(bJ (c::r)).2)::bK k (i+(bJ (c::r)).1) ((c::r).drop (bJ (c::r)).1)
theorem eJ{k:Nat}{r:Text}:bK (k+1) i (c::r)=(i,i+(bJ (c::r)).1,(bJ (c::r)).2)::bK k (i+(bJ (c::r)).1) ((c::r).drop (bJ (c::r)).1):=rfl
theorem parts_nil{k:Nat}:bK k i []=[]:=by cases k<;>rfl
theorem vS{r:Text}(h:c≠64):bJ (c::r)=(1,0):=by unfold bJ;rw[ak (by simp[h]),ak (by simp[h])]
theorem AY:bJ (64::64::t)=(2,0):=by unfold bJ;rw[ao (by simp)]
theorem AZ:bJ [64]=(1,0):=by decide
theorem CI(h:49<=d/\d<=57):bV (d::t)=(fW d t).length:=by unfold bV;rw[ak (by simp;omega)];rfl
theorem Ih(d:Nat)(t:Text):(d::t).take (fW d t).length=fW d t:=by
 conv=>lhs;rw[<-y9 d t]
 simp
theorem A1(h:49<=d/\d<=57):bJ (64::d::t)=(1+(fW d t).length,natOf (fW d t)):=by unfold bJ;rw[ak (by simp;omega),ao (by simp)];show(1+bV (d::t),natOf ((d::t).take (bV (d::t))))=_;rw[CI h,Ih]
theorem FO(h:¬(49<=d/\d<=57)):bV (d::t)=0:=by
 unfold bV;by_cases h8:d=48
 .rw[ao (by simp[h8])]
 .rw[ak (by simp[h8])];have:digit d=false:=by unfold digit;rw[cR (by omega)]
  rw[mW,this];rfl
theorem Ey(hd:d≠64)(h:¬(49<=d/\d<=57)):bJ (64::d::t)=(1,0):=by unfold bJ;rw[ak (by simp[hd]),ao (by simp)];show(1+bV (d::t),natOf ((d::t).take (bV (d::t))))=_;rw[FO h];rfl
theorem A2:∀(l:Text)(n:Nat),n<=l.foldl (λn c=>10*n+(c - 48)) n
 |[],n=>aS _
 |c::l,n=>by rw[NP];exact bq (by omega) (A2 l _)
theorem ya(h:49<=d/\d<=57):natOf (fW d t)≠0:=by obtain⟨r,e⟩:=vI (t:=t) h;rw[e];unfold natOf;rw[NP];have:=A2 r (10*0+(d - 48));omega
theorem FP(l:Text):bV l<=l.length:=by
 unfold bV;split
 .exact a_ _
 .rw[bj];exact bq (zU _ _) (pz _).length_le
theorem step_pos(l:Text):1<=(bJ l).1:=by
 unfold bJ;split
 .decide
 .split
  .exact uY _ _
  .decide
theorem ze{r:Text}:(bJ (c::r)).1<=(c::r).length:=by
 unfold bJ;split
 .next h=>
  cases r with
  |nil=>simp at h
  |cons d t=>simp
 .split
  .have:=FP ((c::r).drop 1);simp at this⊢;omega
  .simp
def sy(p:Nat×Nat×Nat):Option (Nat×Nat×Nat):=if p.2.2=0 then none else some (p.1+1,p.2.1,p.2.2)
theorem ff:∀(k i:Nat)(t:Text),(bK k i t).filterMap sy=scan k i t
 |k,i,[]=>by rw[parts_nil];cases k<;>rfl
 |0,i,c::r=>rfl
 |k+1,i,c::r=>by
  rw[eJ];by_cases hc:c=64
  .subst hc;cases r with
   |nil=>rw[AZ,H_];show List.filterMap sy ((i,i+1,0)::bK k (i+1) [])=[];rw[parts_nil];rfl
   |cons d t=>
    by_cases hd:d=64
    .subst hd;rw[AY,vJ,rR];exact ff k (i+2) t
    .by_cases h:49<=d/\d<=57
     .rw[A1 h,vK h,rR];have e:sy (i,i+(1+(fW d t).length),natOf (fW d t))=some (i+1,i+1+(fW d t).length,natOf (fW d t)):=by unfold sy;rw[ak (ya h)];show some (i+1,i+(1+(fW d t).length),_)=_;rw[zR]
      rw[e];show _::List.filterMap sy (bK k (i+(1+(fW d t).length)) ((64::d::t).drop (1+(fW d t).length)))=_;rw[ff,<-zR,show(64::d::t).drop (1+(fW d t).length)=(d::t).drop (fW d t).length by rw[DQ];rfl]
     .rw[Ey hd h,y_ hd h,rR];exact ff k (i+1) (d::t)
  .rw[vS hc,pT hc,rR];exact ff k (i+1) r
theorem vT(t:Text):((bK t.length 0 t).filterMap sy).map (λp=>p.2.2)=refs t:=by rw[ff,lS];rfl
def dP(l:List (Nat×Text))(txt:Text)(p:Nat×Nat×Nat):Text:=if p.2.2=0 then(txt.drop p.1).take 1 else(labelIn l p.2.2).getD [63]
def R7(l:List (Nat×Text))(p:Piece):Text:=match p with
 | .byte c=>[c]
 | .ref n=>(labelIn l n).getD [63]
theorem i6(l:List (Nat×Text))(txt:Text):∀(k i:Nat),(txt.drop i).length<=k->(bK k i (txt.drop i)).flatMap (dP l txt)=(piecesOf k (txt.drop i)).flatMap (R7 l)
 |k,i,hk=>by
  cases e:txt.drop i with
  |nil=>rw[parts_nil];cases k<;>rfl
  |cons c r=>
   cases k with
   |zero=>rw[e] at hk;simp at hk
   |succ k=>
    rw[e] at hk;have one:∀(m n:Nat),n=0->dP l txt (i,m,n)=[c]:=λm n hn=>by unfold dP;rw[ao hn,e];rfl
    have dr:∀m,(c::r).drop m=txt.drop (i+m):=λm=>by rw[<-e,ni]
    have hl:∀m,1<=m->(txt.drop (i+m)).length<=k:=λm hm=>by rw[<-dr,dD];omega
    rw[eJ];by_cases hc:c=64
    .subst hc;cases r with
     |nil=>rw[AZ,CF];show List.flatMap (dP l txt) ((i,i+1,0)::bK k (i+1) [])=_;rw[parts_nil,nu,one _ _ rfl];rfl
     |cons d t=>
      by_cases hd:d=64
      .subst hd;rw[AY,vL,nu,nu,one _ _ rfl];show _++List.flatMap (dP l txt) (bK k (i+2) ((64::64::t).drop 2))=_;rw[dr 2,i6 l txt k (i+2) (hl 2 (by decide)),<-dr 2];rfl
      .by_cases h:49<=d/\d<=57
       .rw[A1 h,vM h,nu,nu];have e1:dP l txt (i,i+(1+(fW d t).length),natOf (fW d t))=(labelIn l (natOf (fW d t))).getD [63]:=by unfold dP;rw[ak (ya h)]
        show dP l txt (i,i+(1+(fW d t).length),natOf (fW d t))++List.flatMap (dP l txt) (bK k (i+(1+(fW d t).length)) ((64::d::t).drop (1+(fW d t).length)))=_;rw[e1,dr,i6 l txt k _ (hl _ (by omega)),<-dr,show(64::d::t).drop (1+(fW d t).length)=(d::t).drop (fW d t).length by rw[DQ];rfl];rfl
       .rw[Ey hd h,x_ hd h,nu,nu,one _ _ rfl];show _++List.flatMap (dP l txt) (bK k (i+1) ((64::d::t).drop 1))=_;rw[dr 1,i6 l txt k (i+1) (hl 1 (by decide)),<-dr 1];rfl
    .rw[vS hc,rk hc,nu,nu,one _ _ rfl];show _++List.flatMap (dP l txt) (bK k (i+1) ((c::r).drop 1))=_;rw[dr 1,i6 l txt k (i+1) (hl 1 (by decide)),<-dr 1];rfl
theorem kP(l:List (Nat×Text))(t:Text):(bK t.length 0 t).flatMap (dP l t)=shownWith l t:=by have:=i6 l t t.length 0 (by simp);rw[zI] at this;rw[this];unfold shownWith Vanbkn.pieces;rfl
theorem uF:∀(l:O){d d':Nat},d<=d'->∀y∈upFrom d l,y∈upFrom d' l
 |[],_,_,_,y,h=>by cases h
 |x::r,d,d',hd,y,h=>by
  unfold upFrom at h⊢;by_cases h1:x.depth<d
  .rw[ao h1] at h;rw[ao (by omega)];exact h
  .rw[ak h1] at h;by_cases h2:x.depth<d'
   .rw[ao h2];exact bz _ (uF r (by omega) y h)
   .rw[ak h2];exact uF r hd y h
theorem Ez:∀{t:O}{l:O}{d:Nat},(∀y∈t,d<=y.depth)->upFrom d (t++l)=upFrom d l
 |[],l,d,h=>rfl
 |x::t,l,d,h=>by have h1:=h x (by simp);show(if x.depth<d then x::upFrom x.depth (t++l) else upFrom d (t++l))=_;rw[ak (by omega)];exact Ez λy hy=>h y (bz _ hy)
theorem CJ:∀{t:O}{l:O}{x:Node}{d:Nat},(∀y∈t,x.depth<y.depth)->x.depth<d->x∈upFrom d (t++x::l)
 |[],l,x,d,_,h=>by show x∈upFrom d (x::l);unfold upFrom;rw[ao h];simp
 |y::t,l,x,d,ht,h=>by
  show x∈upFrom d (y::(t++x::l));unfold upFrom;have h1:=ht y (by simp);split
  .exact bz _ (CJ (λz hz=>ht z (bz _ hz)) h1)
  .exact CJ (λz hz=>ht z (bz _ hz)) h
def T_(d:Nat)(a:O):Prop:=∀y∈upFrom d a.reverse,y.folded=false
def vU(o:O)(x:Node):Bool:=(ancestors o x.number).all λy=> !y.folded
theorem yb(h:(nums (a++x::r)).Nodup):vU (a++x::r) x=true↔T_ x.depth a:=by unfold vU T_;rw[lP h,yH];simp
def pU(o:O):Nat->Nat->List Nat
 |0,_=>[]
 |k+1,i=>if i<o.length then i::pU o k (if(nd o i).folded=true then aP o i else i+1) else[]
def gV(o:O):List Nat:=pU o o.length 0
theorem sA{o:O}(hn:(nums o).Nodup):∀(k:Nat)(a r:O),o=a++r->r.length<=k->(∀d,d<=hd r->T_ d a)->((pU o k a.length).map (nd o))=r.filter (vU o)/\∀i∈pU o k a.length,i<o.length
 |0,a,r,e,hk,_=>by have:r=[]:=DG.mp (by omega);subst this;exact⟨rfl,by simp[pU]⟩
 |k+1,a,[],e,hk,_=>by
  have hl:¬a.length<o.length:=by rw[e];simp
  unfold pU;rw[ak hl];exact⟨rfl,by simp⟩
 |k+1,a,x::r,e,hk,Vk=>by
  subst e;have hl:a.length<(a++x::r).length:=by simp
  have QD:T_ x.depth a:=Vk x.depth (aS _);have h1:vU (a++x::r) x=true:=(yb hn).mpr QD;unfold pU;rw[ao hl,fu];by_cases hf:x.folded=true
  .rw[ao hf];have et:aP (a++x::r) a.length=(a++x::inside x.depth r).length:=by rw[iw];simp;omega
   have eo:a++x::r=(a++x::inside x.depth r)++outside x.depth r:=by rw[dQ,iW,bQ]
   have uE:∀y∈inside x.depth r,vU (a++x::r) y=false:=λy hy=>by
    obtain⟨b,c,QE⟩:=Ki hy;have O_:=cp (d:=x.depth) (l:=r);have QA:a++x::r=(a++x::b)++y::(c++outside x.depth r):=by rw[eo,QE];simp
    have rO:¬vU (a++x::r) y=true:=by
     rw[QA];rw[yb (by rw[<-QA];exact hn)];intro hO;have hx:x∈upFrom y.depth (a++x::b).reverse:=by rw[zO,uX,dQ];refine CJ (λz hz=>O_ z ?_) (O_ y hy);rw[QE];exact dA _ (uV.mp hz)
     have:=hO x hx;rw[hf] at this;cases this
    simpa using rO
   have ih:=sA hn k (a++x::inside x.depth r) (outside x.depth r) eo (by
    have:=(GQ (λz:Node=>decide (x.depth<z.depth)) (l:=r)).length_le;unfold outside;simp at hk⊢
    omega) (λd MD=>by
     have VR:d<=x.depth:=bq MD (cg _ _);intro y hy;rw[zO,uX,dQ,Ez (λz hz=>by
      have:=cp z (uV.mp hz)
      omega)] at hy
     have hy:y∈upFrom d (x::a.reverse):=hy;unfold upFrom at hy;rw[ak (by omega)] at hy;exact QD y (uF _ VR y hy))
   rw[et];constructor
   .rw[cA,fu,ih.1,rS,ao h1]
    conv=>rhs;rw[<-bQ x.depth r]
    rw[qI];have:(inside x.depth r).filter (vU (a++x::r))=[]:=by
     rw[uT];intro y hy;rw[uE y hy]
     decide
    rw[bQ,this];rfl
   .intro i hi;rcases bZ.mp hi with rfl|hi
    .exact hl
    .exact ih.2 i hi
  .rw[ak hf];have hf:x.folded=false:=by simpa using hf
   have eo:a++x::r=(a++[x])++r:=by simp
   have ih:=sA hn k (a++[x]) r eo (by simp at hk;omega) (λd MD=>by
    intro y hy;rw[zO] at hy;have hy:y∈upFrom d (x::a.reverse):=hy;unfold upFrom at hy;by_cases h:x.depth<d
    .rw[ao h] at hy;rcases bZ.mp hy with rfl|hy
     .exact hf
     .exact QD y hy
    .rw[ak h] at hy;exact QD y (uF _ (by omega) y hy))
   rw[show(a++[x]).length=a.length+1 by simp] at ih;constructor
   .rw[cA,fu,ih.1,rS,ao h1]
   .intro i hi;rcases bZ.mp hi with rfl|hi
    .exact hl
    .exact ih.2 i hi
theorem k_(hn:(nums o).Nodup):(gV o).map (nd o)=visible o/\∀i∈gV o,i<o.length:=by have:=sA hn o.length [] o rfl (aS _) (λd _ y hy=>by cases hy);exact this
theorem EA(o:O):∀(k i:Nat),(pU o k i).Pairwise (·<·)/\∀j∈pU o k i,i<=j
 |0,i=>⟨List.Pairwise.nil,by simp[pU]⟩
 |k+1,i=>by
  unfold pU;split
  .have hn:i+1<=(if(nd o i).folded=true then aP o i else i+1):=by
    split
    .unfold aP;omega
    .exact aS _
   obtain⟨h1,h2⟩:=EA o k (if(nd o i).folded=true then aP o i else i+1);refine⟨xB.mpr ⟨λj hj=>?_,h1⟩,λj hj=>?_⟩
   .have:=h2 j hj;omega
   .rcases bZ.mp hj with rfl|hj
    .exact aS _
    .have:=h2 j hj;omega
  .exact⟨List.Pairwise.nil,by simp⟩
def je(way:List Nat)(d:Nat):List Nat:=way.take (d - 1)++[(way[d - 1]?).getD 0+1]
variable{way:List Nat}
theorem Ii(h:(way.take d).length<d):je way d=way.take d++[1]:=by
 rw[bj] at h;have hl:way.length<d:=by omega
 unfold je;rw[Ko (by omega),pA (by omega),pA (by omega)];rfl
theorem Ij(h1:1<=d)(h:¬(way.take d).length<d):∃n,(way.take d)[d - 1]?=some n/\je way d=(way.take d).take (d - 1)++[n+1]/\(way.take d).length=d:=by
 rw[bj] at h;have hl:d<=way.length:=by omega
 have hd:d - 1<way.length:=by omega
 refine⟨way[d - 1],?_,?_,by rw[bj];omega⟩
 .rw[Fc,ao (by omega),c_ hd]
 .unfold je;rw[List.take_take,iY (by omega),c_ hd];rfl
theorem i7{k:Nat}(h:x.cell=true):labelsFrom way k (x::r)=(x.number,35::decimal (k+1))::labelsFrom way (k+1) r:=by show(if x.cell=true then _ else _)=_;rw[ao h]
theorem jZ{k:Nat}(h:x.cell=false):labelsFrom way k (x::r)=(x.number,dotted (je way x.depth))::labelsFrom (je way x.depth) k r:=by show(if x.cell=true then _ else _)=_;rw[ak (by rw[h];decide)];rfl
theorem i8:∀(o:O)(way:List Nat)(k:Nat),(labelsFrom way k o).map (·.1)=nums o
 |[],_,_=>rfl
 |x::r,way,k=>by
  cases h:x.cell with
  |true=>rw[i7 h,cA,i8 r];rfl
  |false=>rw[jZ h,cA,i8 r];rfl
def bT:List Nat->Nat->O->List Nat×Nat
 |way,k,[]=>(way,k)
 |way,k,x::r=>if x.cell=true then bT way (k+1) r else bT (je way x.depth) k r
theorem iR:∀(a b:O)(way:List Nat)(k:Nat),labelsFrom way k (a++b)=labelsFrom way k a++labelsFrom (bT way k a).1 (bT way k a).2 b
 |[],_,_,_=>rfl
 |x::r,b,way,k=>by
  cases h:x.cell with
  |true=>rw[iW,i7 h,i7 h,iR r b,iW];simp[bT,h]
  |false=>rw[iW,jZ h,jZ h,iR r b,iW];simp[bT,h]
theorem jH:∀(a b:O)(way:List Nat)(k:Nat),bT way k (a++b)=bT (bT way k a).1 (bT way k a).2 b
 |[],_,_,_=>rfl
 |x::r,b,way,k=>by
  rw[iW];cases h:x.cell with
  |true=>simp[bT,h];exact jH r b _ _
  |false=>simp[bT,h];exact jH r b _ _
structure EB(m:Nat)(w:List Nat×Nat):Prop where
 le:∀n∈w.1,n<=m
 len:w.1.length<=6
 k:w.2<=m
theorem zf(h:∀n∈way,n<=m)(hl:way.length<=6)(hd:1<=d/\d<=6):(∀n∈je way d,n<=m+1)/\(je way d).length<=6:=by
 unfold je;constructor
 .intro n hn;rcases dZ.mp hn with hn|hn
  .have:=h n (kx hn);omega
  .simp at hn;subst hn;cases e:way[d - 1]? with
   |none=>simp
   |some v=>have:=h v (cJ e);simp;exact this
 .rw[bb,bj];simp;omega
theorem CK:∀(o:O)(m:Nat)(w:List Nat×Nat),EB m w->(∀x∈o,x.cell=false->1<=x.depth/\x.depth<=6)->EB (m+o.length) (bT w.1 w.2 o)
 |[],m,w,h,_=>h
 |x::r,m,w,h,hx=>by
  have hr:∀y∈r,y.cell=false->1<=y.depth/\y.depth<=6:=λy hy=>hx y (bz _ hy);rw[cn,show m+(r.length+1)=(m+1)+r.length by omega];cases hc:x.cell with
  |true=>rw[show bT w.1 w.2 (x::r)=bT w.1 (w.2+1) r by simp[bT,hc]];exact CK r (m+1) (w.1,w.2+1) ⟨λn hn=>uZ (h.le n hn),h.len,zW h.k⟩ hr
  |false=>rw[show bT w.1 w.2 (x::r)=bT (je w.1 x.depth) w.2 r by simp[bT,hc]];have:=zf h.le h.len (hx x (by simp) hc);exact CK r (m+1) (je w.1 x.depth,w.2) ⟨this.1,this.2,uZ h.k⟩ hr
theorem iS(h:n<1000):(decimal n).length<=3:=by
 rw[jX,jY n h];split
 .simp
 .split<;>simp
theorem sC(h:n<1000):∀c∈decimal n,48<=c/\c<=57:=by rw[jX];exact tV n h
theorem tW{r:List Nat}:dotted (n::m::r)=decimal n++46::dotted (m::r):=rfl
theorem sD:∀(w:List Nat),(∀n∈w,n<1000)->(dotted w).length<=4*w.length/\∀c∈dotted w,46<=c/\c<=57
 |[],_=>⟨by simp[dotted],by simp[dotted]⟩
 |[n],h=>by have h1:=h n (by simp);have:=iS h1;refine⟨by show(decimal n).length<=4;omega,λc hc=>?_⟩;have:=sC h1 c hc;omega
 |n::m::r,h=>by
  have h1:=h n (by simp);have h2:=iS h1;obtain⟨h3,h4⟩:=sD (m::r) λx hx=>h x (bz _ hx);rw[tW];constructor
  .rw[bb,cn];simp at h3⊢;omega
  .intro c hc;rcases dZ.mp hc with hc|hc
   .have:=sC h1 c hc;omega
   .rcases bZ.mp hc with rfl|hc
    .omega
    .exact h4 c hc
theorem CM:∀(o:O)(m:Nat)(w:List Nat×Nat),EB m w->m+o.length<999->(∀x∈o,x.cell=false->1<=x.depth/\x.depth<=6)->∀q∈labelsFrom w.1 w.2 o,q.2.length<=24/\∀c∈q.2,35<=c/\c<=57
 |[],m,w,_,_,_,q,hq=>by cases hq
 |x::r,m,w,h,hm,hx,q,hq=>by
  have hr:∀y∈r,y.cell=false->1<=y.depth/\y.depth<=6:=λy hy=>hx y (bz _ hy);rw[cn] at hm;cases hc:x.cell with
  |true=>
   rw[i7 hc] at hq;rcases bZ.mp hq with rfl|hq
   .have hk:=h.k;have h1:w.2+1<1000:=by omega
    have:=iS h1;refine⟨by rw[cn];omega,λc hc=>?_⟩;rcases bZ.mp hc with rfl|hc
    .omega
    .have:=sC h1 c hc;omega
   .exact CM r (m+1) (w.1,w.2+1) ⟨λn hn=>uZ (h.le n hn),h.len,zW h.k⟩ (by omega) hr q hq
  |false=>
   rw[jZ hc] at hq;have hs:=zf h.le h.len (hx x (by simp) hc);rcases bZ.mp hq with rfl|hq
   .obtain⟨h3,h4⟩:=sD (je w.1 x.depth) λn hn=>by have:=hs.1 n hn;omega
    refine⟨by have:=hs.2;show(dotted (je w.1 x.depth)).length<=24;omega,λc hc=>?_⟩;have:=h4 c hc;omega
   .exact CM r (m+1) (je w.1 x.depth,w.2) ⟨hs.1,hs.2,uZ h.k⟩ (by omega) hr q hq
theorem l8.Pd(W:l8 o):∀x∈o,x.cell=false->1<=x.depth/\x.depth<=6:=λx hx hc=>⟨lN W.dep x hx,(W.good x hx).sec hc⟩
theorem fZ(W:l8 o):∀q∈labels o,q.2.length<=24/\∀c∈q.2,35<=c/\c<=57:=
 CM o 0 ([],0) ⟨by simp,by simp,aS _⟩ (by have:=W.len;omega) W.Pd
def Ik(c:Int):Nat:=if 0<=c/\c<=255 then c.toNat else 256
theorem dJ(t:List Int):textOf t=t.map Ik:=rfl
theorem vV{c:Int}(h:n<=255):Ik c=n↔c=(n:Int):=by unfold Ik;split<;>omega
theorem iz:∀{l:List Nat}{t:List Int},(∀c∈l,c<=255)->(l=textOf t↔l.map (λc:Nat=>(c:Int))=t)
 |[],[],_=>by simp[textOf]
 |[],c::t,_=>by simp[textOf]
 |a::l,[],_=>by simp[textOf]
 |a::l,c::t,h=>by
  have ih:=iz (l:=l) (t:=t) λx hx=>h x (bz _ hx);have h1:=vV (c:=c) (h a (by simp));rw[dJ,cA,cA,List.cons.injEq,List.cons.injEq,<-dJ,ih];constructor
  .rintro⟨e1,e2⟩;exact⟨(h1.mp e1.symm).symm,e2⟩
  .rintro⟨e1,e2⟩;exact⟨(h1.mpr e1.symm).symm,e2⟩
theorem vW:∀{l:List (Nat×Text)}{i:Nat}{q:Nat×Text},(l.map (·.1)).Nodup->l[i]?=some q->labelIn l q.1=some q.2
 |[],i,q,_,h=>by simp at h
 |p::l,0,q,_,h=>by
  have e:p=q:=by simpa using h
  subst e;simp[labelIn]
 |p::l,i+1,q,hn,h=>by
  rw[cA,tE] at hn;have h:l[i]?=some q:=by simpa using h
  have fk:p.1≠q.1:=λe=>hn.1 (by rw[e];exact zK (cJ h));have ih:=vW hn.2 h;unfold labelIn at ih⊢;rw[rT,show(p.1==q.1)=false from by simpa using fk];exact ih
theorem holds_iff:∀(x y:Text),holds x y=true↔∃i,i<=y.length/\(y.drop i).take x.length=x
 |x,[]=>by
  unfold holds;rw[NV];constructor
  .intro e;subst e;exact⟨0,aS _,rfl⟩
  .rintro⟨i,_,h⟩;simpa using h.symm
 |x,c::r=>by
  unfold holds;rw[rP,holds_iff x r,Q_,zN];constructor
  .rintro(h|⟨i,h1,h2⟩)
   .exact⟨0,a_ _,h.symm⟩
   .exact⟨i+1,by simpa using h1,by simpa using h2⟩
  .rintro⟨i,h1,h2⟩;cases i with
   |zero=>exact .inl h2.symm
   |succ i=>exact .inr ⟨i,by simpa using h1,by simpa using h2⟩
open Vanbkn (linesOf takeNumber load b)
def bg:List Int->List (List Int)
 |[]=>[[]]
 |c::r=>if c=10 then[]::bg r else match bg r with
  |l::m=>(c::l)::m
  |[]=>[[c]]
theorem f7(t:List Int):∃l m,bg t=l::m:=by
 cases t with
 |nil=>exact⟨_,_,rfl⟩
 |cons c r=>
  unfold bg;split
  .exact⟨_,_,rfl⟩
  .split<;>exact⟨_,_,rfl⟩
theorem vX:∀t:List Int,(bg t).map textOf=linesOf (textOf t)
 |[]=>rfl
 |c::r=>by
  have ih:=vX r;obtain⟨l,m,e⟩:=f7 r;rw[e] at ih;have ht:textOf (c::r)=Ik c::textOf r:=rfl;rw[ht];unfold bg Vanbkn.linesOf;by_cases h:c=10
  .rw[ao h,ao ((vV (by decide)).mpr h),cA,e,ih];rfl
  .rw[ak h,ak (λq=>h ((vV (n:=10) (by decide)).mp q)),e,<-ih];rfl
theorem nX:∀(a:List Int)(t:List Int),bg (a++t)=(match bg t with
 |l::m=>(bg a).dropLast++((bg a).getLastD []++l)::m
 |[]=>[])
 |[],t=>by obtain⟨l,m,e⟩:=f7 t;rw[uW,e];rfl
 |c::r,t=>by
  obtain⟨l,m,e⟩:=f7 t;obtain⟨l',m',e'⟩:=f7 r;have ih:=nX r t;rw[e] at ih⊢;rw[iW];show(if c=10 then[]::bg (r++t) else match bg (r++t) with
   |l::m=>(c::l)::m
   |[]=>[[c]])=List.dropLast (if c=10 then[]::bg r else match bg r with
   |l::m=>(c::l)::m
   |[]=>[[c]])++((List.getLastD (if c=10 then[]::bg r else match bg r with
   |l::m=>(c::l)::m
   |[]=>[[c]]) [])++l)::m
  rw[ih,e'];by_cases h:c=10
  .rw[ao h,ao h];simp
  .rw[ak h,ak h];cases m' with
   |nil=>simp
   |cons p q=>simp
def uo(l:Text):Option (Nat×Nat):=let d:=l.takeWhile digit
 if d.length<1\/4<d.length\/(1<d.length/\l.head?=some 48) then none else some (natOf d,d.length)
theorem A3(l:Text):takeNumber l=(uo l).map λx=>(x.1,l.drop x.2):=by
 unfold Vanbkn.takeNumber uo;have e:(l.takeWhile digit).isEmpty=true↔(l.takeWhile digit).length<1:=by rw[NV,<-DG];omega
 have e2:1<(l.takeWhile digit).length->(l.takeWhile digit).head?=l.head?:=by
  intro h;cases l with
  |nil=>rfl
  |cons c r=>
   rw[mW] at h⊢;split
   .rfl
   .next hc=>rw[ak hc] at h;simp at h
 by_cases h:(l.takeWhile digit).length<1\/4<(l.takeWhile digit).length\/(1<(l.takeWhile digit).length/\l.head?=some 48)
 .rw[ao h,ao]
  .rfl
  .rcases h with h|h|⟨h1,h2⟩
   .exact .inl (e.mpr h)
   .exact .inr (.inl h)
   .exact .inr (.inr ⟨h1,by rw[e2 h1];exact h2⟩)
 .rw[ak h,ak]
  .rfl
  .rintro(g|g|⟨g1,g2⟩)
   .exact h (.inl (e.mp g))
   .exact h (.inr (.inl g))
   .exact h (.inr (.inr ⟨g1,by rw[<-e2 g1];exact g2⟩))
def signOf(l:Text):Nat:=if l.head?=some 61 then 61 else 35
def sE(l:Text)(c:Nat):Nat:=(l.takeWhile λx=>x==c).length
def nY(cell:Bool)(k n:Nat)(r:Text):Option Node:=
 if cell=true then(if r.take 1=[32]/\goodText (r.drop 1)=true then some ⟨n,k,true,false,r.drop 1⟩ else none)
 else if r.take 3=[32,43,32]/\goodText (r.drop 3)=true then some ⟨n,k,false,false,r.drop 3⟩
 else if r.take 3=[32,45,32]/\goodText (r.drop 3)=true then some ⟨n,k,false,true,r.drop 3⟩
 else none
def nZ(l:Text):Option Node:=
 let k:=sE l (signOf l)
 if k<1\/7<k\/(l.drop k).take 1≠[32] then none
 else match uo (l.drop (k+1)) with
  |none=>none
  |some x=>nY (decide (signOf l=61)) k x.1 (l.drop (k+1+x.2))
theorem take1{l:Text}:l.take 1=[32]↔∃r,l=32::r:=by
 cases l with
 |nil=>simp
 |cons c r=>simp
theorem FQ(k n:Nat)(r:Text):(match r with
 |32::t=>if goodText t=true then some (⟨n,k,true,false,t⟩:Node) else none
 |_=>none)=nY true k n r:=by
 unfold nY;rw[ao rfl];split
 .next t=>simp
 .next h=>
  rw[ak];rintro⟨h1,_⟩;obtain⟨t,e⟩:=take1.mp h1;exact h t e
theorem Il(k n:Nat)(r:Text):(match r with
 |32::t=>(match t with
  |m::32::u=>if(m=43\/m=45)/\goodText u=true then some (⟨n,k,false,m==45,u⟩:Node) else none
  |_=>none)
 |_=>none)=nY false k n r:=by
 unfold nY;rw[ak (by decide)];split
 .next t=>
  split
  .next m u=>
   by_cases h3:m=43
   .subst h3;simp
   .by_cases h5:m=45
    .subst h5;simp
    .simp[h3,h5]
  .next h=>
   rw[ak,ak]
   .rintro⟨h1,_⟩;cases t with
    |nil=>simp at h1
    |cons m t2=>
     cases t2 with
     |nil=>simp at h1
     |cons s u=>simp at h1;exact h m u (by rw[h1.2])
   .rintro⟨h1,_⟩;cases t with
    |nil=>simp at h1
    |cons m t2=>
     cases t2 with
     |nil=>simp at h1
     |cons s u=>simp at h1;exact h m u (by rw[h1.2])
 .next h=>
  have hn:∀m s,r.take 3≠[32,m,s]:=λm s e=>by
   cases r with
   |nil=>simp at e
   |cons c t=>simp at e;exact h t (by rw[e.1])
  rw[ak (λq=>hn _ _ q.1),ak (λq=>hn _ _ q.1)]
theorem yc(l:Text):readNode l=nZ l:=by
 cases l with
 |nil=>rfl
 |cons c r=>
  by_cases hc:c≠35/\c≠61
  .have h1:readNode (c::r)=none:=by unfold readNode;simp only;rw[ao (Or.inl hc)]
   have h2:sE (c::r) (signOf (c::r))=0:=by unfold sE signOf;rw[ak (by simp;exact hc.2),mW,ak (by simp;exact hc.1)];rfl
   rw[h1];unfold nZ;rw[h2];rfl
  .have hs:signOf (c::r)=c:=by
    unfold signOf;by_cases h:c=61
    .rw[ao (by simp[h]),h]
    .rw[ak (by simp[h])];omega
   have hk:1<=sE (c::r) c:=by unfold sE;rw[mW,ao (by simp)];simp
   unfold readNode nZ;simp only[hs];show(if(c≠35/\c≠61)\/7<sE (c::r) c then none else _)=_;by_cases h7:7<sE (c::r) c
   .rw[ao (Or.inr h7),ao (Or.inr (Or.inl h7))]
   .rw[ak (by rintro(h|h);exact hc h;exact h7 h)];show(match (c::r).drop (sE (c::r) c) with
     |32::q=>_
     |_=>none)=_
    by_cases Pe:((c::r).drop (sE (c::r) c)).take 1=[32]
    .obtain⟨q,eq⟩:=take1.mp Pe;rw[ak (by rintro(h|h|h);omega;omega;exact h Pe),eq];have eq2:(c::r).drop (sE (c::r) c+1)=q:=by rw[<-ni,eq];rfl
     rw[eq2];show((takeNumber q).bind λx=>_)=_;rw[A3];cases hn:uo q with
     |none=>rfl
     |some x=>
      have e3:(c::r).drop (sE (c::r) c+1+x.2)=q.drop x.2:=by rw[<-ni,eq2]
      show(match q.drop x.2 with
       |32::t=>if c=61 then(if goodText t=true then some (⟨x.1,sE (c::r) c,true,false,t⟩:Node) else none) else(match t with
        |m::32::u=>if(m=43\/m=45)/\goodText u=true then some ⟨x.1,sE (c::r) c,false,m==45,u⟩ else none
        |_=>none)
       |_=>none)=nY (decide (c=61)) (sE (c::r) c) x.1 ((c::r).drop (sE (c::r) c+1+x.2))
      rw[e3];by_cases T':c=61
      .rw[aR T',<-FQ];generalize q.drop x.2=z;split
       .rw[ao T'];rfl
       .next h=>
        split
        .next t=>exact(h t rfl).elim
        .rfl
      .rw[cR T',<-Il];generalize q.drop x.2=z;split
       .rw[ak T'];rfl
       .next h=>
        split
        .next t=>exact(h t rfl).elim
        .rfl
    .rw[ao (Or.inr (Or.inr Pe))];split
     .next q e=>rw[e] at Pe;simp at Pe
     .rfl
theorem CN{l:Text}(h:nZ l=some x):1<=x.depth/\x.text.length<=60/\(∀c∈x.text,32<=c/\c<=126)/\(x.cell=true->x.folded=false):=by
 have gt:∀{t:Text},goodText t=true->t.length<=60/\∀c∈t,32<=c/\c<=126:=λ{t} h=>by unfold goodText at h;rw[uQ,yH] at h;refine⟨i4 h.1,λc hc=>?_⟩;have:=h.2 c hc;unfold textByte at this;exact i4 this
 unfold nZ at h;simp only at h;split at h
 .cases h
 .next hk=>
  split at h
  .cases h
  .next x' hx=>
   unfold nY at h;have h1:1<=sE l (signOf l):=by omega
   split at h
   .split at h
    .next g=>cases h;exact⟨h1,(gt g.2).1,(gt g.2).2,λ_=>rfl⟩
    .cases h
   .split at h
    .next g=>cases h;exact⟨h1,(gt g.2).1,(gt g.2).2,λ_=>rfl⟩
    .split at h
     .next g=>cases h;exact⟨h1,(gt g.2).1,(gt g.2).2,λe=>by cases e⟩
     .cases h
theorem sF:∀(o:O)(m:Nat),jc m o=(match o.getLast? with
 |none=>m
 |some y=>lim y)
 |[],m=>rfl
 |[x],m=>rfl
 |x::y::r,m=>by
  show jc (lim x) (y::r)=_;rw[sF (y::r) (lim x),List.getLast?_cons_cons];cases h:(y::r).getLast? with
  |none=>simp at h
  |some z=>rfl
theorem mm(n:Nat)(o:O)(x:Node):nodeFault n o x=if x.number=0\/999<x.number\/n<=x.number\/(o.any λy=>y.number==x.number)=true\/(x.cell=false/\6<x.depth) then 3
 else if jc 1 o<x.depth then 4 else if 60<=o.length then 5 else 0:=by
 unfold nodeFault;rw[sF];cases o.getLast?<;>rfl
theorem Im(W:l8 o)(fD:∀y∈o,y.number<n)(hx:1<=x.depth/\x.text.length<=60/\(∀c∈x.text,32<=c/\c<=126)/\(x.cell=true->x.folded=false))(h:nodeFault n o x=0):
 l8 (o++[x])/\∀y∈o++[x],y.number<n:=by
 rw[mm] at h;split at h
 .cases h
 .next h3=>
  split at h
  .cases h
  .next h4=>
   split at h
   .cases h
   .next h5=>
    have hg:Good x:=⟨⟨by omega,by omega⟩,λhc=>by
     by_cases hd:x.depth<=6
     .exact hd
     .exact absurd (Or.inr (Or.inr (Or.inr (Or.inr ⟨hc,by omega⟩)))) h3,⟨hx.2.1,hx.2.2.1⟩,hx.2.2.2⟩
    have rO:∀y∈o,y.number≠x.number:=λy hy e=>h3 (Or.inr (Or.inr (Or.inr (Or.inl (mf.mpr ⟨y,hy,e⟩)))));refine⟨⟨by rw[bb];simp;omega,?_,?_,λy hy=>?_⟩,λy hy=>?_⟩
    .unfold nums;rw[cX,xA];refine⟨W.nd,by simp,λa ha b hb=>?_⟩;obtain⟨y,hy,rfl⟩:=fc.mp ha;simp at hb;subst hb;exact rO y hy
    .rw[a7];refine⟨W.dep,?_⟩;exact⟨hx.1,by omega,trivial⟩
    .rcases dZ.mp hy with hy|hy
     .exact W.good y hy
     .simp at hy;subst hy;exact hg
    .rcases dZ.mp hy with hy|hy
     .exact fD y hy
     .simp at hy;subst hy;omega
theorem rn{n:Nat}:∀(ls:List Text)(k:Nat)(o r:O),l8 o->(∀y∈o,y.number<n)->readNodes n k o ls= .ok r->l8 r/\∀y∈r,y.number<n
 |[],k,o,r,W,fD,h=>by unfold readNodes at h;cases h;exact⟨W,fD⟩
 |[l],k,o,r,W,fD,h=>by
  unfold readNodes at h;split at h
  .cases h;exact⟨W,fD⟩
  .cases h
 |l::m::ls,k,o,r,W,fD,h=>by
  unfold readNodes at h;split at h
  .cases h
  .next x hx=>
   dsimp only at h;split at h
   .cases h
   .next hf=>
    rw[yc] at hx;have hf:nodeFault n o x=0:=by
     by_cases e:nodeFault n o x=0
     .exact e
     .exact absurd e hf
    obtain⟨W2,VS⟩:=Im W fD (CN hx) hf;exact rn (m::ls) (k+1) (o++[x]) r W2 VS h
theorem K9(W:Wf s)(t:List Int):Wf (Vanbkn.step s (.load t)).1:=by
 show Wf (match load (textOf t) with
  | .ok u=>(u,(⟨0,[]⟩:Answer))
  | .error f=>(s,⟨ofNat f.1,[ofNat f.2]⟩)).1
 cases e:load (textOf t) with
 |error f=>exact W
 |ok u=>
  unfold Vanbkn.load at e;split at e
  .split at e
   .cases e
   .next n hn=>
    split at e
    .cases e
    .next hr=>
     split at e
     .next o ho=>
      cases e;obtain⟨W2,h2⟩:=rn _ 1 [] o ⟨by simp,by simp[nums],trivial,by simp⟩ (by simp) ho;exact⟨W2,h2,by show 1<=n/\n<=1000;omega⟩
     .cases e
  .cases e
theorem vY(t:Text):∀(k i:Nat),i<=t.length->∀q∈bK k i (t.drop i),q.1<t.length/\q.2.1<=t.length
 |0,i,hi,q,hq=>by
  cases e:t.drop i with
  |nil=>rw[e,parts_nil] at hq;cases hq
  |cons c r=>rw[e] at hq;cases hq
 |k+1,i,hi,q,hq=>by
  cases e:t.drop i with
  |nil=>rw[e,parts_nil] at hq;cases hq
  |cons c r=>
   rw[e,eJ] at hq;have hl:(c::r).length=t.length - i:=by rw[<-e,dD]
   have h1:=ze (c:=c) (r:=r);have h2:=step_pos (c::r);have h3:1<=(c::r).length:=by simp
   rcases bZ.mp hq with rfl|hq
   .exact⟨by show i<t.length;omega,by show i+(bJ (c::r)).1<=t.length;omega⟩
   .rw[<-e,ni] at hq;rw[e] at hq;exact vY t k (i+(bJ (c::r)).1) (by omega) q hq
theorem K_(t:Text):∀q∈scan t.length 0 t,q.1<=t.length/\q.2.1<=t.length:=λq hq=>by
 rw[<-ff] at hq;obtain⟨p,hp,e⟩:=GY.mp hq;have:=vY t t.length 0 (a_ _) p (by rw[zI];exact hp);unfold sy at e;split at e
 .cases e
 .cases e;exact⟨this.1,this.2⟩
theorem scan_len(t:Text):(scan t.length 0 t).length<=t.length:=by
 rw[<-ff];refine bq (DH _ _) ?_;have:∀(k i:Nat)(t:List Nat),(bK k i t).length<=k:=by
  intro k;induction k with
  |zero=>intro i t;cases t<;>exact aS _
  |succ k ih=>
   intro i t;cases t with
   |nil=>exact a_ _
   |cons c r=>rw[eJ,cn];exact zW (ih _ _)
 exact this _ _ _
theorem o7(l:List (Nat×Text))(t:Text)(p:Nat×Nat×Nat)(hl:∀q∈l,q.2.length<=24):(dP l t p).length<=24:=by
 unfold dP;split
 .rw[bj];omega
 .cases e:labelIn l p.2.2 with
  |none=>simp
  |some v=>
   unfold labelIn at e;cases f:l.find? (λx=>x.1==p.2.2) with
   |none=>rw[f] at e;cases e
   |some q=>rw[f] at e;cases e;exact hl q (xy f)
theorem vZ{α:Type}(f:α->List Nat)(m:Nat):∀(l:List α),(∀x∈l,(f x).length<=m)->(l.flatMap f).length<=m*l.length
 |[],_=>by simp
 |x::l,h=>by rw[nu,bb,cn,zV];have h1:=h x (by simp);have h2:=vZ f m l λy hy=>h y (bz _ hy);omega
theorem o8{l:List (Nat×Text)}(hl:∀q∈l,q.2.length<=24)(t:Text)(h:t.length<=60):(shownWith l t).length<=1440:=by
 rw[<-kP];refine bq (vZ _ 24 _ λp _=>o7 l t p hl) ?_;have:∀(k i:Nat)(t:List Nat),(bK k i t).length<=k:=by
  intro k;induction k with
  |zero=>intro i t;cases t<;>exact aS _
  |succ k ih=>
   intro i t;cases t with
   |nil=>exact a_ _
   |cons c r=>rw[eJ,cn];exact zW (ih _ _)
 have:=this t.length 0 t;omega
open Vanbkn (told)
theorem A4(hn:(nums o).Nodup)(e:o=a++x::r):(tree o x.number).length=1+(inside x.depth r).length:=by subst e;rw[iy hn,cn,DQ]
theorem K'(hn:(nums o).Nodup)(h0:x.number≠0)(e:o=a++x::r):children o x.number=(inside x.depth r).filter λy=>y.depth==x.depth+1:=by subst e;unfold Vanbkn.children;rw[ak h0,dv hn]
theorem FR(hn:(nums o).Nodup)(e:o=a++x::r):parentOf o x.number=match upFrom x.depth a.reverse with
 |[]=>0
 |q::_=>q.number:=by
 subst e;unfold Vanbkn.parentOf;rw[lP hn,List.getLast?_reverse];cases upFrom x.depth a.reverse<;>rfl
theorem La(h:i<o.length):o=o.take i++nd o i::o.drop (i+1)/\(o.take i).length=i:=by refine⟨?_,by rw[bj];omega⟩;have:nd o i=o[i]:=vQ (c_ h);rw[this];simp
variable{p:Nat}
theorem pV(hn:(nums l).Nodup)(h:l[p]?=some x):(l.takeWhile λy=>y.number !=x.number)=l.take p/\(l.dropWhile λy=>y.number !=x.number)=x::l.drop (p+1):=by
 obtain⟨hp,hx⟩:=dm.mp h;have e:l=l.take p++x::l.drop (p+1):=by rw[<-hx];simp
 have fk:∀y∈l.take p,(y.number !=x.number)=true:=λy hy=>by rw[e] at hn;have:=(gr hn).1 y hy;simpa using this
 constructor
 .conv=>lhs;rw[e]
  rw[tF fk,mW,ak (by simp),pw]
 .conv=>lhs;rw[e]
  rw[Kj fk,List.dropWhile_cons,ak (by simp)]
theorem A5(hn:(nums l).Nodup)(h:l[p]?=some x):stepFrom l x.number true=match l[p+1]? with
 |some y=>y.number
 |none=>0:=by
 unfold stepFrom;rw[ao rfl,(pV hn h).2,List.drop_succ_cons,zI];have:l[p+1]?=(l.drop (p+1)).head?:=by rw[Fd]
 rw[this];cases l.drop (p+1)<;>rfl
theorem CP(hn:(nums l).Nodup)(h:l[0]?=some x):stepFrom l x.number false=0:=by unfold stepFrom;rw[ak (by decide),(pV hn h).1];rfl
theorem CQ{q:Nat}(hn:(nums l).Nodup)(h:l[q+1]?=some x)(hy:l[q]?=some y):stepFrom l x.number false=y.number:=by unfold stepFrom;rw[ak (by decide),(pV hn h).1,G4,hy];simp
theorem FT(hn:(nums o).Nodup):(nums (visible o)).Nodup:=lQ (List.filter_sublist ..) hn
theorem CS(hn:(nums o).Nodup)(h:(gV o)[p]?=some i):(visible o)[p]?=some (nd o i):=by rw[<-(k_ hn).1,gX,h];rfl
theorem Lb(hn:(nums o).Nodup)(e:o=a++x::r):((visible o).any λy=>y.number==x.number)=decide (a.length∈gV o):=by
 rw[GD,mf,d8];constructor
 .rintro⟨y,hy,VT⟩;rw[<-(k_ hn).1] at hy;obtain⟨j,hj,rfl⟩:=fc.mp hy;have Cm:=(k_ hn).2 j hj;have h1:o[j]?=some (nd o j):=by rw[c_ Cm,vQ (c_ Cm)]
  have h2:o[a.length]?=some x:=by rw[e];exact cZ
  have:nd o j=x:=nP hn (cJ h1) (cJ h2) VT;rw[this] at h1;have:=yU hn h1 h2;rw[<-this];exact hj
 .intro h;refine⟨x,?_,rfl⟩;rw[<-(k_ hn).1];refine fc.mpr ⟨a.length,h,?_⟩;rw[e];exact fu
open Vanbkn (has)
theorem A6{r:Text}(h:(bJ (c::r)).2≠0):2<=(bJ (c::r)).1:=by
 unfold bJ at h⊢;split
 .exact aS _
 .next h1=>
  rw[ak h1] at h;split
  .next h2=>
   rw[ao h2] at h;show 2<=1+bV ((c::r).drop 1);cases e:bV ((c::r).drop 1) with
   |zero=>exfalso;apply h;show natOf (((c::r).drop 1).take (bV ((c::r).drop 1)))=0;rw[e];rfl
   |succ n=>omega
  .next h2=>rw[ak h2] at h;exact absurd rfl h
theorem tX(l:List (Nat×Text))(txt:Text)(hl:∀q∈l,q.2.length<=24):∀(k i:Nat)(t:Text),((bK k i t).flatMap (dP l txt)).length<=12*t.length
 |k,i,[]=>by rw[parts_nil];simp
 |0,i,c::r=>by show([]:List Nat).length<=_;simp
 |k+1,i,c::r=>by
  rw[eJ,nu,bb];have ih:=tX l txt hl k (i+(bJ (c::r)).1) ((c::r).drop (bJ (c::r)).1);rw[dD] at ih;have h1:=ze (c:=c) (r:=r);have h2:=step_pos (c::r);have h3:(dP l txt (i,i+(bJ (c::r)).1,(bJ (c::r)).2)).length<=12*(bJ (c::r)).1:=by
   by_cases h0:(bJ (c::r)).2=0
   .unfold dP;rw[ao h0,bj];omega
   .have:=A6 h0;have:=o7 l txt (i,i+(bJ (c::r)).1,(bJ (c::r)).2) hl;omega
  omega
theorem A7{l:List (Nat×Text)}(hl:∀q∈l,q.2.length<=24)(t:Text):(shownWith l t).length<=12*t.length:=by rw[<-kP];exact tX l t hl t.length 0 t
theorem A8{l:List (Nat×Text)}(hl:∀q∈l,∀c∈q.2,35<=c/\c<=57)(t:Text)(ht:∀c∈t,32<=c/\c<=126):∀c∈shownWith l t,c<=255:=λc hc=>by
 rw[<-kP] at hc;obtain⟨p,hp,hc⟩:=List.mem_flatMap.mp hc;unfold dP at hc;split at hc
 .have:=ht c (zL (kx hc));omega
 .cases e:labelIn l p.2.2 with
  |none=>rw[e] at hc;simp at hc;omega
  |some v=>
   rw[e] at hc;unfold labelIn at e;cases f:l.find? (λx=>x.1==p.2.2) with
   |none=>rw[f] at e;cases e
   |some q=>rw[f] at e;cases e;have:=hl q (xy f) c hc;omega
theorem uG(o:O)(k:Nat):has o k=(dE o (k:Int)).isSome:=by
 unfold Vanbkn.has Vanbkn.find dE;rw[List.ip k]
 where
 List.ip (k:Nat):(o.find? λx=>x.number==k).isSome=(o.findIdx? λx=>decide ((x.number:Int)=(k:Int))).isSome:=by
  rw[GD,List.find?_isSome,List.findIdx?_isSome,NG];constructor
  .rintro⟨x,hx,h⟩;have:x.number=k:=by simpa using h
   exact⟨x,hx,aR (by omega)⟩
  .rintro⟨x,hx,h⟩;have:=i4 h;exact⟨x,hx,by simp;omega⟩
theorem v9{t:List Int}{y:Text}(hy:∀c∈y,c<=255):holds (textOf t) y=true↔∃i,i+t.length<=y.length/\((y.drop i).take t.length).map (λc:Nat=>(c:Int))=t:=by
 rw[holds_iff];have hl:(textOf t).length=t.length:=aT _;have hs:∀i,∀c∈(y.drop i).take t.length,c<=255:=λi c hc=>hy c (zL (kx hc));constructor
 .rintro⟨i,h1,h2⟩;rw[hl] at h2;refine⟨i,?_,(iz (hs i)).mp h2⟩;have:=da List.length h2;rw[bj,dD,hl] at this;omega
 .rintro⟨i,h1,h2⟩;refine⟨i,by omega,?_⟩;rw[hl];exact(iz (hs i)).mpr h2
end Ob
namespace Ob
open PySem PySem.W PyProof.Rows
variable{i j:Nat}
variable{p:Array Nat}
variable{m:Nat}
variable{Q:Nat×Array Nat->Prop}
section
variable{n:Nat}{lt:Nat->Nat->Bool}
def qH(n:Nat)(lt:Nat->Nat->Bool){α:Type}:KasT α->(α->Prop)->Prop
 | .ret a,Q=>Q a
 | .ask i j k,Q=>i<n/\j<n/\qH n lt (k (lt i j)) Q
theorem qH.bind{α β:Type}{f:α->KasT β}{Q:β->Prop}:∀{t:KasT α},qH n lt t (λa=>qH n lt (f a) Q)->qH n lt (t.bind f) Q
 | .ret _,h=>h
 | .ask _ _ k,h=>⟨h.1,h.2.1,qH.bind (t:=k _) h.2.2⟩
structure xf(lt:Nat->Nat->Bool):Prop where
 ZC:∀i,lt i i=false
 tr:∀i j k,lt i j=true->lt j k=true->lt i k=true
 ng:∀i j k,lt i k=true->lt i j=true\/lt j k=true
def Bf(lt:Nat->Nat->Bool)(i j:Nat):Prop:=lt i j=true\/(lt i j=false/\lt j i=false/\i<j)
theorem xf.VU(S:xf lt)(h:lt i j=true):lt j i=false:=by
 cases e:lt j i with
 |false=>rfl
 |true=>have:=S.tr _ _ _ h e;rw[S.ZC] at this;cases this
theorem Bf.no(S:xf lt)(h:Bf lt i j):lt j i=false:=by
 rcases h with h|h
 .exact S.VU h
 .exact h.2.1
theorem Bf.trans(S:xf lt){k:Nat}(h:Bf lt i j)(h2:Bf lt j k):Bf lt i k:=by
 rcases h with h|⟨h,h',hl⟩
 .rcases h2 with g|⟨g,g',_⟩
  .exact .inl (S.tr _ _ _ h g)
  .rcases S.ng i k j h with q|q
   .exact .inl q
   .rw[g'] at q;cases q
 .rcases h2 with g|⟨g,g',gl⟩
  .rcases S.ng j i k g with q|q
   .rw[h'] at q;cases q
   .exact .inl q
  .refine .inr ⟨?_,?_,by omega⟩
   .cases e:lt i k with
    |false=>rfl
    |true=>
     rcases S.ng i j k e with q|q
     .rw[h] at q;cases q
     .rw[g] at q;cases q
   .cases e:lt k i with
    |false=>rfl
    |true=>
     rcases S.ng k j i e with q|q
     .rw[g'] at q;cases q
     .rw[h'] at q;cases q
theorem Io(S:xf lt)(h:lt j i=false)(hl:i<j):Bf lt i j:=by
 cases e:lt i j with
 |true=>exact .inl e
 |false=>exact .inr ⟨e,h,hl⟩
abbrev Gp(p:Array Nat)(i:Nat):Nat:=p.getD i 0
theorem yd(h:i<p.size):p[i]?=some (Gp p i):=by simp[Gp,Array.getD,h]
theorem A9{v:Nat}(h:p[i]?=some v):Gp p i=v:=by have hl:i<p.size:=(Array.getElem?_eq_some_iff.mp h).1;rw[yd hl] at h;exact di h
theorem jf{k:Nat}(hj:j<=p.size)(hk:k<p.size):Gp (kas_rev p i j) k=if i<=k/\k<j then Gp p (i+j - 1 - k) else Gp p k:=by
 apply A9;unfold kas_rev;rw[getElem?_mirror_all hj];by_cases h:i<=k/\k<j
 .rw[ao h,ao h];exact yd (by omega)
 .rw[ak h,ak h];exact yd hk
theorem zg{k l:Nat}(hk:k<p.size)(hl:l<=k)(hi:i<p.size):Gp (bubble p k (k - l)) i=if i=l then Gp p k else if l<i/\i<=k then Gp p (i - 1) else Gp p i:=by
 apply A9;rw[getElem?_bubble hk (k - l) (by omega),show k - (k - l)=l by omega];by_cases h:i=l
 .rw[ao h,ao h];exact yd hk
 .rw[ak h,ak h];by_cases h2:l<i/\i<=k
  .rw[ao h2,ao h2];exact yd (by omega)
  .rw[ak h2,ak h2];exact yd hi
def Up(lt:Nat->Nat->Bool)(p:Array Nat)(m:Nat):Prop:=∀i j,i<j->j<m->Bf lt (Gp p i) (Gp p j)
structure v_(p:Array Nat)(n m:Nat):Prop where
 sz:p.size=n
 mn:m<=n
 hi:∀j,m<=j->j<n->Gp p j=j
 lo:∀j,j<m->Gp p j<m
theorem v_.below(R:v_ p n m)(h:j<n):Gp p j<n:=by
 by_cases e:j<m
 .have:=R.lo j e;have:=R.mn;omega
 .rw[R.hi j (by omega) h];exact h
theorem v_.up{m':Nat}(R:v_ p n m)(h:m<=m')(h2:m'<=n):v_ p n m':=⟨R.sz,h2,λj hj hn=>R.hi j (by omega) hn,λj hj=>by
 by_cases e:j<m
 .have:=R.lo j e;omega
 .rw[R.hi j (by omega) (by omega)];exact hj⟩
theorem v_.rev(R:v_ p n m)(uq:i<=j)(hj:j<=m):v_ (kas_rev p i j) n m:=by
 have hs:=R.sz;have hm:=R.mn;refine⟨by unfold kas_rev;rw[mirror_size];exact hs,hm,λk hk hn=>?_,λk hk=>?_⟩
 .rw[jf (by omega) (by omega),ak (by omega)];exact R.hi k hk hn
 .rw[jf (by omega) (by omega)];split
  .exact R.lo _ (by omega)
  .exact R.lo k hk
theorem CT(S:xf lt){p:Array Nat}{m0:Nat}(R:v_ p n m0):∀(f k:Nat){Q:Nat->Prop},1<=k->m0<=k->k+f<=n->Up lt p k->(∀m,k<=m->m<=k+f->Up lt p m->(m<k+f->lt (Gp p m) (Gp p (m - 1))=true)->Q m)->qH n lt (kas_asc p f k) Q
 |0,k,Q,h1,h0,hn,hU,hQ=>hQ k (aS _) (aS _) hU λh=>by omega
 |f+1,k,Q,h1,h0,hn,hU,hQ=>by
  show _<n/\_<n/\qH n lt (if lt (Gp p k) (Gp p (k - 1))=true then .ret k else kas_asc p f (k+1)) Q;refine⟨R.below (by omega),R.below (by omega),?_⟩;cases e:lt (Gp p k) (Gp p (k - 1)) with
  |true=>rw[ao rfl];exact hQ k (aS _) (by omega) hU λ_=>e
  |false=>
   rw[ak (by decide)];have hk:Bf lt (Gp p (k - 1)) (Gp p k):=by refine Io S e ?_;rw[R.hi k h0 (by omega)];have:=(R.up h0 (by omega)).lo (k - 1) (by omega);exact this
   have zh:Up lt p (k+1):=λi j uq hj=>by
    by_cases R8:j<k
    .exact hU i j uq R8
    .have:j=k:=by omega
     subst this;by_cases hi:i=j - 1
     .rw[hi];exact hk
     .exact(hU i (j - 1) (by omega) (by omega)).trans S hk
   exact CT S R f (k+1) (by omega) (by omega) (by omega) zh λm Ua XQ ZD m5=>hQ m (by omega) (by omega) ZD λh=>m5 (by omega)
structure Dn(lt:Nat->Nat->Bool)(p:Array Nat)(k q:Nat):Prop where
 qk:q+1<=k
 d1:∀i j,i<j->j<k - (q+1)->Bf lt (Gp p j) (Gp p i)
 d2:∀i j,i<k - (q+1)->k - (q+1)<=j->j<k->lt (Gp p j) (Gp p i)=true
 d3:∀i j,k - (q+1)<=i->i<j->j<k->lt (Gp p i) (Gp p j)=false/\lt (Gp p j) (Gp p i)=false/\Gp p i<Gp p j
def Down(lt:Nat->Nat->Bool)(p:Array Nat)(k:Nat):Prop:=∀i j,i<j->j<k->Bf lt (Gp p j) (Gp p i)
theorem Dn.zero{k:Nat}(D:Dn lt p k 0):Down lt p k:=λi j uq hj=>by
 by_cases h:j<k - 1
 .exact D.d1 i j uq h
 .exact .inl (D.d2 i j (by omega) (by omega) hj)
theorem Dn.turn{k q:Nat}(D:Dn lt p k q)(R:v_ p n k):Down lt (kas_rev p (k - (q+1)) k) k:=λi j uq hj=>by
 have hs:=R.sz;have hm:=R.mn;have hq:=D.qk;rw[jf (by omega) (by omega),jf (by omega) (by omega)];by_cases VV:k - (q+1)<=j
 .rw[ao ⟨VV,hj⟩];by_cases ZE:k - (q+1)<=i
  .rw[ao ⟨ZE,by omega⟩];have:=D.d3 (k - (q+1)+k - 1 - j) (k - (q+1)+k - 1 - i) (by omega) (by omega) (by omega);exact .inr this
  .rw[ak (by omega)];exact .inl (D.d2 i _ (by omega) (by omega) (by omega))
 .rw[ak (by omega),ak (by omega)];exact D.d1 i j uq (by omega)
theorem uH(S:xf lt):∀(f:Nat)(p:Array Nat)(k q:Nat){Q:Array Nat×Nat×Nat->Prop},v_ p n k->k+f<=n->Dn lt p k q->(∀p' k' q',v_ p' n k'->Dn lt p' k' q'->k<=k'->k'<=k+f->p'.Perm p->Q (p',k',q'))->qH n lt (kas_desc f p k q) Q
 |0,p,k,q,Q,R,hn,D,hQ=>hQ p k q R D (aS _) (aS _) (Qn _)
 |f+1,p,k,q,Q,R,hn,D,hQ=>by
  have hs:=R.sz;have hq:=D.qk;have QF:Gp p k=k:=R.hi k (aS _) (by omega);have R1:v_ p n (k+1):=R.up (by omega) (by omega);show _<n/\_<n/\qH n lt (if lt (Gp p k) (Gp p (k - 1))=true then(if q>0 then kas_desc f (kas_rev p (k - (q+1)) k) (k+1) 0 else kas_desc f p (k+1) 0)
   else .ask (p.getD (k - 1) 0) (p.getD k 0) λd=>if d=true then .ret (p,k,q) else kas_desc f p (k+1) (q+1)) Q
  refine⟨R.below (by omega),R.below (by omega),?_⟩;have fresh:∀p':Array Nat,v_ p' n (k+1)->Down lt p' k->(∀i,i<k->∃i',i'<k/\Gp p' i=Gp p i')->Gp p' k=Gp p k->lt (Gp p k) (Gp p (k - 1))=true->Dn lt p' (k+1) 0:=λp' R' hD hg ZF fD=>by
   refine⟨by omega,λi j uq hj=>hD i j uq (by omega),λi j hi XU R9=>?_,λi j h1 h2 h3=>by omega⟩;have ej:j=k:=by omega
   subst ej;obtain⟨i',J8,e⟩:=hg i (by omega);rw[e,ZF];by_cases h:i'<j - (q+1)
   .exact S.tr _ _ _ fD (D.d2 i' (j - 1) h (by omega) (by omega))
   .by_cases h2:i'=j - 1
    .rw[h2];exact fD
    .obtain⟨g1,g2,_⟩:=D.d3 i' (j - 1) (by omega) (by omega) (by omega);rcases S.ng _ (Gp p i') _ fD with z|z
     .exact z
     .rw[g1] at z;cases z
  cases e:lt (Gp p k) (Gp p (k - 1)) with
  |true=>
   rw[ao rfl];by_cases J7:q>0
   .rw[ao J7];have R2:=(R.rev (i:=k - (q+1)) (j:=k) (by omega) (aS _)).up (show k<=k+1 by omega) (by omega);refine uH S f _ (k+1) 0 R2 (by omega) (fresh _ R2 (D.turn R) (λi hi=>?_) ?_ e) λp' k' q' a b c d pm=>hQ p' k' q' a b (by omega) (by omega) (pm.trans (mirror_perm _ _ _ _))
    .rw[jf (by omega) (by omega)];split
     .exact⟨_,by omega,rfl⟩
     .exact⟨i,hi,rfl⟩
    .rw[jf (by omega) (by omega),ak (by omega)]
   .rw[ak J7];have:q=0:=by omega
    subst this;exact uH S f p (k+1) 0 R1 (by omega) (fresh p R1 D.zero (λi hi=>⟨i,hi,rfl⟩) rfl e) λp' k' q' a b c d pm=>hQ p' k' q' a b (by omega) (by omega) pm
  |false=>
   rw[ak (by decide)];show _<n/\_<n/\qH n lt (if lt (Gp p (k - 1)) (Gp p k)=true then .ret (p,k,q) else kas_desc f p (k+1) (q+1)) Q;refine⟨R.below (by omega),R.below (by omega),?_⟩;cases e2:lt (Gp p (k - 1)) (Gp p k) with
   |true=>rw[ao rfl];exact hQ p k q R D (aS _) (by omega) (Qn _)
   |false=>
    rw[ak (by decide)];refine uH S f p (k+1) (q+1) R1 (by omega) ⟨by omega,λi j uq hj=>D.d1 i j uq (by omega),λi j hi XU R9=>?_,λi j h1 h2 h3=>?_⟩ λp' k' q' a b c d pm=>hQ p' k' q' a b (by omega) (by omega) pm
    .by_cases R8:j<k
     .exact D.d2 i j (by omega) (by omega) R8
     .have:j=k:=by omega
      subst this;have:=D.d2 i (j - 1) (by omega) (by omega) (by omega);rcases S.ng _ (Gp p j) _ this with z|z
      .rw[e2] at z;cases z
      .exact z
    .by_cases R8:j<k
     .exact D.d3 i j (by omega) h2 R8
     .have:j=k:=by omega
      subst this;by_cases hi:i=j - 1
      .subst hi;exact⟨e2,e,by rw[QF];exact R.lo _ (by omega)⟩
      .obtain⟨g1,g2,g3⟩:=D.d3 i (j - 1) (by omega) (by omega) (by omega);refine⟨?_,?_,by rw[QF];exact R.lo _ (by omega)⟩
       .cases z:lt (Gp p i) (Gp p j) with
        |false=>rfl
        |true=>
         rcases S.ng _ (Gp p (j - 1)) _ z with z|z
         .rw[g1] at z;cases z
         .rw[e2] at z;cases z
       .cases z:lt (Gp p j) (Gp p i) with
        |false=>rfl
        |true=>
         rcases S.ng _ (Gp p (j - 1)) _ z with z|z
         .rw[e] at z;cases z
         .rw[g2] at z;cases z
theorem A_(S:xf lt){k:Nat}(R:v_ p n k)(h1:1<=k)(D:Down lt p k)(hQ:∀m p',v_ p' n m->Up lt p' m->p'.Perm p->1<=m->Q (m,p')):qH n lt (kas_tail3 k n p) Q:=by
 have hs:=R.sz;have hm:=R.mn;unfold kas_tail3;refine qH.bind ?_;have R2:=R.rev (i:=0) (j:=k) (a_ _) (aS _);have U2:Up lt (kas_rev p 0 k) k:=λi j uq hj=>by rw[jf (by omega) (by omega),jf (by omega) (by omega),ao ⟨a_ _,by omega⟩,ao ⟨a_ _,hj⟩];exact D _ _ (by omega) (by omega)
 exact CT S R2 (n - k) k h1 (aS _) (by omega) U2 λm a b c d=>hQ m _ (R2.up a (by omega)) c (mirror_perm _ _ _ _) (by omega)
theorem tY(S:xf lt){k:Nat}(R:v_ p n k)(h1:1<=k)(hk:k+1<=n)(D:Down lt p k)(fD:∀i,i<k->lt (Gp p k) (Gp p i)=true)(hQ:∀m p',v_ p' n m->Up lt p' m->p'.Perm p->1<=m->Q (m,p')):qH n lt (kas_descPart k n p) Q:=by
 unfold kas_descPart;refine qH.bind ?_;refine uH S (n - (k+1)) p (k+1) 0 (R.up (by omega) hk) (by omega) ⟨by omega,λi j uq hj=>D i j uq (by omega),λi j hi XU R9=>?_,λi j a b c=>by omega⟩ λp' k' q' R' D' c1 c2 pm=>?_
 .have:j=k:=by omega
  subst this;exact fD i (by omega)
 .show qH n lt (if q'>0 then kas_tail3 k' n (kas_rev p' (k' - (q'+1)) k') else kas_tail3 k' n p') Q;have hq:=D'.qk;by_cases J7:q'>0
  .rw[ao J7];exact A_ S (R'.rev (by omega) (aS _)) (by omega) (D'.turn R') λm p2 a b c d=>hQ m p2 a b (c.trans ((mirror_perm _ _ _ _).trans pm)) d
  .rw[ak J7];have:q'=0:=by omega
   subst this;exact A_ S R' (by omega) D'.zero λm p2 a b c d=>hQ m p2 a b (c.trans pm) d
theorem Ip(S:xf lt)(h1:1<=n)(hQ:∀m p',v_ p' n m->Up lt p' m->p'.Perm (List.range n).toArray->1<=m->Q (m,p')):qH n lt (kas_count n (List.range n).toArray) Q:=by
 have hg:∀j,j<n->Gp (List.range n).toArray j=j:=λj hj=>A9 (by simp[hj]);have R:v_ (List.range n).toArray n 1:=⟨by simp,h1,λj _ hj=>hg j hj,λj hj=>by rw[hg j (by omega)];exact hj⟩;unfold kas_count;refine qH.bind ?_;refine CT S R (n - 1) 1 (aS _) (aS _) (by omega) (λi j uq hj=>by omega) λm a b U st=>?_;show qH n lt (if(m==n)=true then _ else _) Q;have Rm:=R.up a (by omega);by_cases hm:m=n
 .rw[ao (by simpa using hm)];exact hQ m _ Rm U (Qn _) a
 .rw[ak (by simpa using hm)];have m5:=st (by omega);by_cases Ua:m>1
  .rw[ao Ua];show _<n/\_<n/\qH n lt (if lt (Gp (List.range n).toArray 0) (Gp (List.range n).toArray (m - 1))=true then _ else _) Q;refine⟨R.below (by omega),R.below (by omega),?_⟩;cases e:lt (Gp (List.range n).toArray 0) (Gp (List.range n).toArray (m - 1)) with
   |true=>rw[ao rfl];exact hQ m _ Rm U (Qn _) a
   |false=>
    rw[ak (by decide)];have heq:∀i,i<m->lt (Gp (List.range n).toArray i) (Gp (List.range n).toArray (m - 1))=false:=λi hi=>by
     cases z:lt (Gp (List.range n).toArray i) (Gp (List.range n).toArray (m - 1)) with
     |false=>rfl
     |true=>
      by_cases ZG:i=0
      .rw[ZG,e] at z;cases z
      .have b0:=U 0 i (by omega) hi;rcases b0 with b0|⟨b0,b1,_⟩
       .have:=S.tr _ _ _ b0 z;rw[e] at this;cases this
       .rcases S.ng _ (Gp (List.range n).toArray 0) _ z with q|q
        .rw[b1] at q;cases q
        .rw[e] at q;cases q
    have hsz:(List.range n).toArray.size=n:=by simp
    have Rr:=Rm.rev (i:=0) (j:=m) (a_ _) (aS _);refine tY S Rr a (by omega) (λi j uq hj=>?_) (λi hi=>?_) λm2 p2 r1 r2 r3 r4=>hQ m2 p2 r1 r2 (r3.trans (mirror_perm _ _ _ _)) r4
    .rw[jf (by omega) (by omega),jf (by omega) (by omega),ao ⟨a_ _,hj⟩,ao ⟨a_ _,by omega⟩];exact U _ _ (by omega) (by omega)
    .rw[jf (by omega) (by omega),jf (by omega) (by omega),ak (by omega),ao ⟨a_ _,hi⟩];rcases S.ng _ (Gp (List.range n).toArray (0+m - 1 - i)) _ m5 with q|q
     .exact q
     .rw[heq _ (by omega)] at q;cases q
  .rw[ak Ua];have:m=1:=by omega
   subst this;exact tY S R (aS _) (by omega) (λi j uq hj=>by omega) (λi hi=>by
    have:i=0:=by omega
    subst this;exact m5) hQ
theorem wa(S:xf lt){p:Array Nat}{k:Nat}(R:v_ p n k)(hk:k<n)(U:Up lt p k):∀(f l r:Nat){Q:Nat->Prop},l<=r->r<=k->r - l<=f->(∀i,i<l->lt (Gp p k) (Gp p i)=false)->(∀i,r<=i->i<k->lt (Gp p k) (Gp p i)=true)->
 (∀m,m<=k->(∀i,i<m->lt (Gp p k) (Gp p i)=false)->(∀i,m<=i->i<k->lt (Gp p k) (Gp p i)=true)->Q m)->qH n lt (kas_place p k f l r) Q
 |0,l,r,Q,h1,h2,h3,a,b,hQ=>by
  have:l=r:=by omega
  subst this;exact hQ l h2 a b
 |f+1,l,r,Q,h1,h2,h3,a,b,hQ=>by
  show qH n lt (if l>=r then .ret l else .ask (p.getD k 0) (p.getD ((l+r) / 2) 0) λc=>if c=true then kas_place p k f l ((l+r) / 2) else kas_place p k f ((l+r) / 2+1) r) Q;by_cases h:l>=r
  .rw[ao h];have:l=r:=by omega
   subst this;exact hQ l h2 a b
  .rw[ak h];show _<n/\_<n/\qH n lt (if lt (Gp p k) (Gp p ((l+r) / 2))=true then kas_place p k f l ((l+r) / 2) else kas_place p k f ((l+r) / 2+1) r) Q;refine⟨R.below hk,R.below (by omega),?_⟩;cases e:lt (Gp p k) (Gp p ((l+r) / 2)) with
   |true=>
    rw[ao rfl];refine wa S R hk U f l ((l+r) / 2) (by omega) (by omega) (by omega) a (λi hi ZH=>?_) hQ;by_cases Ir:i=(l+r) / 2
    .rw[Ir];exact e
    .have:=(U ((l+r) / 2) i (by omega) ZH).no S;rcases S.ng _ (Gp p i) _ e with q|q
     .exact q
     .rw[this] at q;cases q
   |false=>
    rw[ak (by decide)];refine wa S R hk U f ((l+r) / 2+1) r (by omega) h2 (by omega) (λi hi=>?_) b hQ;by_cases Ir:i=(l+r) / 2
    .rw[Ir];exact e
    .have:=(U i ((l+r) / 2) (by omega) (by omega)).no S;cases z:lt (Gp p k) (Gp p i) with
     |false=>rfl
     |true=>
      rcases S.ng _ (Gp p ((l+r) / 2)) _ z with q|q
      .rw[e] at q;cases q
      .rw[this] at q;cases q
theorem Iu(S:xf lt):∀(f:Nat)(p:Array Nat)(k:Nat){Q:Array Nat->Prop},v_ p n k->k+f<=n->Up lt p k->(∀p',p'.size=n->Up lt p' (k+f)->p'.Perm p->Q p')->qH n lt (kas_bin f p k) Q
 |0,p,k,Q,R,hn,U,hQ=>hQ p R.sz U (Qn _)
 |f+1,p,k,Q,R,hn,U,hQ=>by
  have hs:=R.sz;have QF:Gp p k=k:=R.hi k (aS _) (by omega);show qH n lt ((kas_place p k k 0 k).bind λl=>kas_bin f (bubble p k (k - l)) (k+1)) Q;refine qH.bind ?_;refine wa S R (by omega) U k 0 k (a_ _) (aS _) (by omega) (λi hi=>by omega) (λi h1 h2=>by omega) λl hl a b=>?_;have R2:v_ (bubble p k (k - l)) n (k+1):=by
   refine⟨by rw[bubble_size];exact hs,by omega,λj h1 h2=>?_,λj hj=>?_⟩
   .rw[zg (by omega) hl (by omega),ak (by omega),ak (by omega)];exact R.hi j (by omega) h2
   .rw[zg (by omega) hl (by omega)];split
    .omega
    .split
     .have:=R.lo (j - 1) (by omega);omega
     .have:=R.lo j (by omega);omega
  refine Iu S f _ (k+1) R2 (by omega) (λi j uq hj=>?_) λp' c1 c2 c3=>hQ p' c1 (by rw[show k+(f+1)=k+1+f by omega];exact c2) (c3.trans (bubble_perm _ _ _));rw[zg (by omega) hl (by omega),zg (by omega) hl (by omega)];by_cases m6:i=l
  .rw[ao m6,ak (by omega),ao (by omega)];exact .inl (b _ (by omega) (by omega))
  .rw[ak m6];by_cases Cm:j=l
   .rw[ao Cm,ak (by omega)];refine Io S (a i (by omega)) ?_;rw[QF];exact R.lo i (by omega)
   .rw[ak Cm];by_cases Ir:l<i/\i<=k
    .rw[ao Ir,ao (by omega)];exact U _ _ (by omega) (by omega)
    .rw[ak Ir];by_cases R9:l<j/\j<=k
     .rw[ao R9];exact U _ _ (by omega) (by omega)
     .rw[ak R9];exact U _ _ uq (by omega)
theorem Lc(S:xf lt)(h1:1<=n){Q:Array Nat->Prop}(hQ:∀p',p'.size=n->Up lt p' n->p'.Perm (List.range n).toArray->Q p'):qH n lt (kas_sort n) Q:=by
 unfold kas_sort;refine qH.bind ?_;refine Ip S h1 λm p R U pm hm=>?_;show qH n lt (if m<n then kas_bin (n - max m 1) p (max m 1) else .ret p) Q;have e:max m 1=m:=by omega
 by_cases h:m<n
 .rw[ao h,e];exact Iu S (n - m) p m R (by omega) U λp' a b c=>hQ p' a (by rw[show m+(n - m)=n by omega] at b;exact b) (c.trans pm)
 .rw[ak h];have:=R.mn;have:m=n:=by omega
  subst this;exact hQ p R.sz U pm
end
end Ob
namespace Ob
variable{p:Array Nat}
section
variable{lt:Nat->Nat->Bool}
def insI(lt:Nat->Nat->Bool)(i:Nat):List Nat->List Nat
 |[]=>[i]
 |j::r=>if lt j i=true then j::insI lt i r else i::j::r
theorem insI_perm(i:Nat):∀l:List Nat,(insI lt i l).Perm (i::l)
 |[]=>E' _
 |j::r=>by
  unfold insI;split
  .exact((insI_perm i r).cons j).trans (List.Perm.swap i j r)
  .exact E' _
theorem A'(S:xf lt){i:Nat}:∀{l:List Nat},(∀j∈l,i<j)->l.Pairwise (Bf lt)->(insI lt i l).Pairwise (Bf lt)
 |[],_,_=>List.pairwise_singleton ..
 |j::r,hi,h=>by
  have h':=xB.mp h;unfold insI;cases e:lt j i with
  |true=>
   rw[ao rfl];refine xB.mpr ⟨λk hk=>?_,A' S (λk hk=>hi k (bz _ hk)) h'.2⟩;rcases bZ.mp ((insI_perm i r).mem_iff.mp hk) with rfl|hk
   .exact .inl e
   .exact h'.1 k hk
  |false=>
   rw[ak (by decide)];have b:Bf lt i j:=Io S e (hi j (cw ..));refine xB.mpr ⟨λk hk=>?_,h⟩;rcases bZ.mp hk with rfl|hk
   .exact b
   .exact b.trans S (h'.1 k hk)
theorem pW:∀l:List Nat,(l.foldr (insI lt) []).Perm l
 |[]=>E' _
 |i::r=>(insI_perm i _).trans ((pW r).cons i)
theorem ye(S:xf lt):∀(k s:Nat),((List.range' s k).foldr (insI lt) []).Pairwise (Bf lt)
 |0,s=>List.Pairwise.nil
 |k+1,s=>by rw[List.range'_succ];refine A' S (λj hj=>?_) (ye S k (s+1));have:=(pW (lt:=lt) (List.range' (s+1) k)).mem_iff.mp hj;rw[G0] at this;omega
theorem EC(S:xf lt):∀{l m:List Nat},l.Perm m->l.Pairwise (Bf lt)->m.Pairwise (Bf lt)->l=m
 |[],m,p,_,_=>p.nil_eq
 |a::l,[],p,_,_=>by have:=p.length_eq;cases this
 |a::l,b::m,p,h,g=>by
  have h':=xB.mp h;have g':=xB.mp g;have e:a=b:=by
   apply Q0;intro ne;have ha:a∈m:=by
    rcases bZ.mp (p.mem_iff.mp (cw ..)) with q|q
    .exact absurd q ne
    .exact q
   have hb:b∈l:=by
    rcases bZ.mp (p.mem_iff.mpr (cw ..)) with q|q
    .exact absurd q.symm ne
    .exact q
   have b1:=h'.1 b hb;have b2:=g'.1 a ha;have n1:=b1.no S;have n2:=b2.no S;rcases b1 with b1|⟨_,_,b1⟩
   .rw[n2] at b1;cases b1
   .rcases b2 with b2|⟨_,_,b2⟩
    .rw[n1] at b2;cases b2
    .omega
  subst e;rw[EC S ((List.perm_cons a).mp p) h'.2 g'.2]
theorem Ld{n:Nat}(hs:p.size=n)(U:Up lt p n):p.toList.Pairwise (Bf lt):=by
 rw[DK];intro i j hi hj uq;have J8:i<p.size:=by simpa using hi
 have R_:j<p.size:=by simpa using hj
 have:=U i j uq (by omega);have e1:Gp p i=p.toList[i]:=A9 (by simp[J8]);have e2:Gp p j=p.toList[j]:=A9 (by simp[R_]);rw[e1,e2] at this;exact this
section
variable{α:Type}(less:α->α->Bool)(d:α)
def jI(t:α):List α->List α
 |[]=>[t]
 |u::r=>if less u t=true then u::jI t r else t::u::r
theorem ins_map(g:Nat->α)(hl:∀i j,lt i j=less (g i) (g j))(i:Nat):∀l:List Nat,(insI lt i l).map g=jI less (g i) (l.map g)
 |[]=>rfl
 |j::r=>by
  unfold insI;show _=if less (g j) (g i)=true then g j::jI less (g i) (r.map g) else g i::g j::r.map g;rw[hl];split
  .rw[cA,ins_map g hl i r]
  .rfl
theorem yf(ts:List α)(hl:∀i j,lt i j=less (ts.getD i d) (ts.getD j d)):∀(k s:Nat),s+k=ts.length->((List.range' s k).foldr (insI lt) []).map (λi=>ts.getD i d)=(ts.drop s).foldr (jI less) []
 |0,s,h=>by rw[uS (by omega)];rfl
 |k+1,s,h=>by
  have hs:s<ts.length:=by omega
  rw[List.range'_succ,List.foldr_cons,ins_map less (λi=>ts.getD i d) hl,yf ts hl k (s+1) (by omega),rQ hs,List.foldr_cons];congr 1;show ts.getD s d=ts[s];rw[uh,c_ hs];rfl
theorem FU(ts:List α)(hl:∀i j,lt i j=less (ts.getD i d) (ts.getD j d))(S:xf lt)(hs:p.size=ts.length)(U:Up lt p ts.length)(pm:p.Perm (List.range ts.length).toArray):p.toList.map (λi=>ts.getD i d)=ts.foldr (jI less) []:=by
 have e:p.toList=(List.range' 0 ts.length).foldr (insI lt) []:=by refine EC S ?_ (Ld hs U) (ye S _ 0);have:=pm.toList;rw[zQ,List.range_eq_range'] at this;exact this.trans (pW _).symm
 rw[e,yf less d ts hl ts.length 0 (by omega),zI]
end
end
end Ob
namespace Ob
open PySem PySem.Spec PyProof.Rows L2
open PySem.Builtin PySem.Builtin.Str
open AutoSeq1 (wpAny_loadPart')
theorem Pf(l:Addr)(its:Array Value)(n:Nat)(VW:Option Addr)(sl:Array (Option Value)):
 Meets (Builtin.«enumerate.__new__» ⟨[.type "enumerate",.ref l],[]⟩) λ_ R s=>s.heap.get? l=some {cls:= .type "tuple",dict:=VW,data:= .seq its n,slots:=sl}/\
  R (.ok (.ret (.ref (s.heap.push {cls:= .type "tuple_iterator",data:= .fields #[.ref l,.int 0 0]}).objs.size)))
   {s with heap:=(s.heap.push {cls:= .type "tuple_iterator",data:= .fields #[.ref l,.int 0 0]}).push {cls:= .type "enumerate",data:= .fields #[.none,.bool false,.ref s.heap.objs.size,rawInt 0,.none,.none]}}:=
 .of_wp λprog w A R s h=>by
  obtain⟨hp,g,d,tk,os⟩:=s;obtain⟨hl,h⟩:=h;have K8:=sub_enumerate;have hT:Heap.IsTuple (Shared.heap ⟨hp,g,d,tk,os⟩) l its:=⟨_,hl,rfl,n,rfl⟩
  wp_walk using jU hl
  refine wpAny_stack_any λst=>cY ?_;split
  .rename_i c _ _ _ _ _;cases(c==Value.type "enumerate")<;>(wp_walk using jU hl,wpAny_pyIter_tuple hT;exact⟨_,rfl,h⟩)
  .wp_walk using jU hl,wpAny_pyIter_tuple hT
   exact⟨_,rfl,h⟩
variable{l:Addr}{its:Array Value}{Q:Value->Shared->Prop}
variable{it:Addr}{i:Nat}
section
variable{prog:Program}{w:World}{A:Around}{E:Value->Shared->Prop}{s:Shared}
theorem Le(hT:s.heap.IsTuple l its)(h:∀h',IsEnum h' (s.heap.objs.size+1) s.heap.objs.size 0 .none->h'.IsTupleIter s.heap.objs.size l 0->h'.objs.size=s.heap.objs.size+2->(∀b o,s.heap.get? b=some o->h'.get? b=some o)->Q (.ref (s.heap.objs.size+1)) {s with heap:=h'}):
 wpAny (model prog w) A (call (.type "enumerate") [.ref l]) Q E s:=by
 obtain⟨⟨c,VW,dt,sl⟩,hl,hc,n,hd⟩:=hT;have hc:c= .type "tuple":=hc;have hd:dt= .seq its n:=hd;subst hc hd;refine callType_new F.called_enumerate (by decide) (F.typeCall_enumerate_1 _) (F.newCall_enumerate_1 _) (λobj=>F.args_object_init_2 obj _) F.entry_enumerate_new (Pf l its n VW sl) ⟨hl,?_⟩;generalize eh:s.heap.push {cls:= .type "tuple_iterator",data:= .fields #[.ref l,.int 0 0]}=h1;have hz:h1.objs.size=s.heap.objs.size+1:=by rw[<-eh];exact pM ..
 have hi:h1.IsTupleIter s.heap.objs.size l 0:=by rw[<-eh];exact⟨_,jD _ rfl,rfl,rfl⟩
 have hk:∀b o,s.heap.get? b=some o->h1.get? b=some o:=λb o x=>by rw[<-eh];exact gq _ x
 show _/\_;rw[hz];have he:IsEnum (h1.push {cls:= .type "enumerate",data:= .fields #[.none,.bool false,.ref s.heap.objs.size,rawInt 0,.none,.none]}) (s.heap.objs.size+1) s.heap.objs.size 0 .none:=by have:=jD h1 (o:={cls:= .type "enumerate",data:= .fields #[.none,.bool false,.ref s.heap.objs.size,rawInt 0,.none,.none]}) rfl;rw[hz] at this;exact this
 obtain⟨io,i1,i2,i3⟩:=hi;exact⟨⟨_,he,rfl⟩,h _ he ⟨io,gq _ i1,i2,i3⟩ (by rw[pM,hz]) λb o x=>gq _ (hk b o x)⟩
theorem Lf{x:Value}(hit:s.heap.IsTupleIter it l i)(hl:s.heap.IsTuple l its)(hx:its[i]?=some x)(hQ:∀h',h'.IsTupleIter it l (i+1)->Heap.SameBut it s.heap h'->Q x {s with heap:=h'}):wpAny (model prog w) A (Builtin.SmallTypes.nextOf (.ref it)) Q E s:=by obtain⟨o,ho,hc,hd⟩:=id hit;obtain⟨ol,VX,_,nl,J9⟩:=hl;unfold Builtin.SmallTypes.nextOf;refine a5 (wpAny_callSpecial?_slot (name:=Str.ofString "__next__") hit.typeIs Kf (wpAny_call_entry Kf hit.typeIs F.entry_tuple_iterator_next ?_ (F.args_tuple_iterator_next_1 _)));show wpAny _ _ (field (.ref it) 0>>=_) _ _ s;refine a5 (wpAny_field ho hd (x:= .ref l) rfl ?_);show wpAny _ _ (if(Value.ref l==Value.none)=true then _ else _) _ _ s;rw[ak (by intro q;cases q)];show wpAny _ _ (field (.ref it) 1>>=_) _ _ s;refine a5 (wpAny_field ho hd (x:= .int i 0) rfl ?_);show wpAny _ _ (seqItems? (.ref l)>>=_) _ _ s;refine a5 (wpAny_seqItems VX J9 ?_);simp only[zH,hx];refine a5 (wpAny_setField ho hd (by simp) (cY ⟨x,rfl,cY (hQ _ ⟨_,Heap.get?_update_self _ ho (Obj.isFreed_of_fields (Obj.data_mapFields hd _)),(Obj.cls_mapFields ..).trans hc,?_⟩ (E_ ..))⟩));rw[Obj.data_mapFields hd];simp[rawInt]
theorem Pg(hh:A.handled=none)(hit:s.heap.IsTupleIter it l i)(hl:s.heap.IsTuple l its)(hx:its[i]?=none)(hE:∀h' e,Heap.ExtBut it s.heap h'->(∃o,h'.get? e=some o/\o.cls= .type "StopIteration")->E (.ref e) {s with heap:=h'}):wpAny (model prog w) A (Builtin.SmallTypes.nextOf (.ref it)) Q E s:=by
 obtain⟨o,ho,hc,hd⟩:=id hit;obtain⟨ol,VX,_,nl,J9⟩:=hl;unfold Builtin.SmallTypes.nextOf;refine a5 (wpAny_callSpecial?_slot (name:=Str.ofString "__next__") hit.typeIs Kf (wpAny_call_entry Kf hit.typeIs F.entry_tuple_iterator_next ?_ (F.args_tuple_iterator_next_1 _)));show wpAny _ _ (field (.ref it) 0>>=_) _ _ s;refine a5 (wpAny_field ho hd (x:= .ref l) rfl ?_);show wpAny _ _ (if(Value.ref l==Value.none)=true then _ else _) _ _ s;rw[ak (by intro q;cases q)];show wpAny _ _ (field (.ref it) 1>>=_) _ _ s;refine a5 (wpAny_field ho hd (x:= .int i 0) rfl ?_);show wpAny _ _ (seqItems? (.ref l)>>=_) _ _ s;refine a5 (wpAny_seqItems VX J9 ?_);simp only[zH,hx];refine a5 (wpAny_rule (a5 (wpAny_setField ho hd (by simp) ?_)));show wpAny _ _ (newExc (.type "StopIteration") []>>=_) _ _ _;refine a5 ?_;simp only[newExc,newTuple];refine a5 (G8 (a5 (m:=firstArgMember _ _) (wpAny_of_eq (a:=Value.none) (by first|rfl|(simp only[firstArgMember];rfl)) (G8 ?_ (by size_fits)))) (by size_fits))
 simp only[raiseNew];refine a5 (wpAny_handled ?_)
 first|rw[show A.in1.handled=none from hh]|rw[hh]
 exact a5 (cY (wpAny_throw (hE _ _ (((E_ ..).extBut.push _).push _) ⟨_,jD _ rfl,rfl⟩)))
end
variable{w:World}
theorem Ba{prog:Program}{A:Around}(hh:A.handled=none)(it l:Addr)(fk:l≠it)(its:Array Value):Draws prog w A it [it,l] its.size (λi v=>its[i]?=some v) (λi h=>h.IsTupleIter it l i/\h.IsTuple l its) where
 live:=λ_ _ st=>let ⟨o,ho,_⟩:=st.1;⟨o,ho⟩
 frame:=λ_ _ _ st hk=>⟨let ⟨o,e,r⟩:=st.1;⟨o,hk it (by simp) o e,r⟩,let ⟨o,e,r⟩:=st.2;⟨o,hk l (by simp) o e,r⟩⟩
 item:=λi s Q E hi st hQ=>Lf st.1 st.2 (x:=its[i]) (by simp[hi]) λh' HF XW=>hQ _ h' s.toks (by simp[hi]) ⟨HF,st.2.extBut XW.extBut fk⟩ XW
 done:=λs Q E st hE=>Pg hh st.1 st.2 (by simp) hE
def Sa(K:PySem.W.Frag)(a:Addr):It:=
 ⟨λi H=>∃(xs:List V)(x:V),iu K H a xs/\xs[i]?=some x,λi H v H'=>∃T x,v= .ref T/\H T=none/\H'=upd H T (.tup [.int (i:Nat),x])/\∀xs,iu K H a xs->xs[i]?=some x,λi H=>∃xs:List V,iu K H a xs/\xs.length=i⟩
variable{K:PySem.W.Frag}{elts:List Expr}{kk:Nat}{vk:Pos}
theorem CU{P:Program}(a e it:Addr):
 Turn P w K (.Tuple elts kk vk) (Sa K a) [e,it] e (λi h=>(∃old,IsEnum h e it ((i:Nat):Int) old)/\h.IsTupleIter it a i/\e≠it/\a≠it/\a≠e) where
 mem:=by simp
 obj:=λi h st b hb=>by
  obtain⟨⟨old,he⟩,⟨o,ho,hc,hd⟩,_⟩:=st;rcases(by simpa using hb:b=e\/b=it) with z|z
  .exact⟨_,z▸he,λv q=>by have q:Data.fields _=Data.cell v:=q;cases q⟩
  .exact⟨o,z▸ho,λv q=>by rw[hd] at q;cases q⟩
 keep:=λi h h' st k=>let ⟨⟨old,he⟩,⟨o,ho,r⟩,fk⟩:=st;⟨⟨old,k e (by simp) _ he⟩,⟨o,k it (by simp) o ho,r⟩,fk⟩
 item:=by
  intro X hP hw hK hc i aq s σ H E I hf st hg;subst hP hw hK;obtain⟨⟨old,he⟩,hit,fk,Ub,VY⟩:=st;obtain⟨xs,x,hq,hx⟩:=hg;obtain⟨its,rv,p,hz⟩:=I.tuple hq;have p:s.heap.IsTuple a its.toArray:=p;obtain⟨u,hu,ru⟩:=rv.get hx;have RX:e<s.heap.objs.size:=dh he;have m6:it<s.heap.objs.size:=by obtain⟨_,q,_⟩:=hit;exact dh q
  have fD:i<its.toArray.size:=by have:=(dm.mp hu).1;simpa using this
  refine wpAny_pyNext_enum_itemD (Ba (A:=X.A.in1) (I.ok.hd hc) it a Ub its.toArray) he ⟨hit,p⟩ fD fk (by simp;exact⟨fk,λq=>VY q.symm⟩) λy h' tk hy ho VZ hT hsz hk=>?_;have ZI:y=u:=by
   have hy:its.toArray[i]?=some y:=hy;have:its[i]?=some y:=by simpa using hy
   rw[hu] at this;exact(di this).symm
  subst ZI;have HF:=VZ.1;refine⟨_,rfl,wpAny_letOwnedTupleGo_enum (s:={s with heap:=h',toks:=tk+1}) ho λh2 RU sb=>?_⟩;have OU:h2.get? s.heap.objs.size=some {cls:= .type "tuple",data:= .seq #[.int i tk,y]}:=(sb.2 _ (u1 RX)).trans hT;have new:dj X.prog X.w (upd H s.heap.objs.size (.tup [.int (i:Nat),x])) h2 s.heap.objs.size (.tup [.int (i:Nat),x]):=
   ⟨(by show 2<=sizeLine;decide),[.int i tk,y],.cons ⟨_,rfl⟩ (.cons ru .nil),⟨_,OU,rfl,_,rfl⟩⟩
  have I1:Inv X aq σ (upd H s.heap.objs.size (.tup [.int (i:Nat),x])) {s with heap:=h2,toks:=tk+1}:=
   I.r_ (ch:=[e,it]) (λb ob hb q=>(sb.2 b (λz=>hb (by simp[z]))).trans (hk b ob (λz=>hb (by simp[z])) (λz=>hb (by simp[z])) q)) hf (aS _) new
  refine⟨.ref s.heap.objs.size,_,I1,rfl,⟨_,x,rfl,I.cx.fresh (aS _),rfl,λys V0=>by rw[I.Fi V0 hq];exact hx⟩,⟨⟨y,?_⟩,(let ⟨o,q,r⟩:=HF;⟨o,(sb.2 it (mZ fk)).trans q,r⟩),fk,Ub,VY⟩,λb hb=>?_⟩
  .rw[show((i+1:Nat):Int)=(i:Int)+1 by omega];exact RU
  .have OW:b<s.heap.objs.size:=by
    rcases(by simpa using hb:b=e\/b=it) with z|z
    .exact z▸RX
    .exact z▸m6
   rw[az (cE OW)];exact(hf b hb).1
 done:=by
  intro X hP hw hK hc i aq s σ H E I hf st hg;subst hP hw hK;obtain⟨⟨old,he⟩,hit,fk,Ub,VY⟩:=st;obtain⟨xs,hq,hx⟩:=hg;obtain⟨its,rv,p,hz⟩:=I.tuple hq;have p:s.heap.IsTuple a its.toArray:=p;obtain⟨f0,f1,f2,f3,f4,f5⟩:=hf it (by simp);have hl:=rv.length;have hi:its.toArray.size=i:=by simp;omega
  refine wpAny_pyNext_enum_endD (Ba (A:=X.A.in1) (I.ok.hd hc) it a Ub its.toArray) he ⟨by rw[hi];exact hit,p⟩ λh' eb=>⟨rfl,I.turned (t':=s.toks) (λb o hb q=>eb b o hb q) f0 f1 f3 f4 f5⟩
 self:=λA i s Q E st h=>let ⟨⟨_,he⟩,_⟩:=st;DY he h
def Ph(K:PySem.W.Frag)(ta:TA):TI:=λσ H R=>ta σ H λvs H1=>∃a xs,vs=[.ref a]/\iu K H1 a xs/\R (Sa K a) H1
theorem Iv{X:Cx}{e:Expr}{ta:TA}{p pos:Pos}(hg:Gl X "enumerate")(hm:X.mg "enumerate"=none)(ha:PA X [e] ta)(hs:starEach [e] X.env=[(false,eval e X.env)]:=by rfl):
 PI X (.Tuple elts kk vk) (.Call (.Name "enumerate" p) [e] [] pos) (Ph X.K ta):=by
 intro aq s σ H R I h;refine Call_ (nA I hg hm boot_enumerate (xE (dU (ha pos aq s σ H _ I h) λus s1 ⟨vs,H1,I1,r1,q1⟩=>?_) hs rfl));obtain⟨a,xs,ex,hq,q⟩:=q1;subst ex;cases r1 with
 |cons r rr=>
  cases rr;cases r;obtain⟨its,rv,p',hz⟩:=I1.tuple hq;have p':s1.heap.IsTuple a its.toArray:=p';have FV:a<s1.heap.objs.size:=by obtain⟨_,q,_⟩:=p';exact dh q
  refine Le p' λh' he hit hsz hk=>DY he ?_;have I2:Inv X aq σ H1 {s1 with heap:=h'}:=I1.kept (t':=s1.toks) hk;refine⟨s1.heap.objs.size+1,[s1.heap.objs.size+1,s1.heap.objs.size],_,_,H1,rfl,I2,CU a (s1.heap.objs.size+1) s1.heap.objs.size,⟨⟨.none,he⟩,hit,Nat.succ_ne_self _,cE FV,cE (tH FV)⟩,λb hb=>?_,q⟩;have hle:s1.heap.objs.size<=b:=by
   rcases(by simpa using hb:b=s1.heap.objs.size+1\/b=s1.heap.objs.size) with z|z
   .rw[z];exact uY _ _
   .rw[z];exact aS _
  exact I1.Fj hle (I1.cx.fresh hle)
theorem FW{a:Addr}{xs:List V}{g:TG}{tb:TS}{D:Ends}{σ:L2.St}{H:Hp}(Pv:Nat->L2.St->Hp->Prop)(h0:Pv 0 σ H)(hl:∀i σ H,i<=xs.length->Pv i σ H->iu K H a xs)(hs:∀i x σ H T,xs[i]?=some x->Pv i σ H->H T=none->g (.ref T) σ (upd H T (.tup [.int (i:Nat),x])) λσ2 H2=>tb {D with nx:=Pv (i+1),ct:=Pv (i+1),bk:=D.nx} σ2 H2)(hd:∀σ H,Pv xs.length σ H->D.nx σ H):
 ∃W:Nat->Nat->L2.St->Hp->Prop,(∃m,W 0 m σ H)/\∀i m σ H,W i m σ H->
  ((Sa K a).stop i H/\D.nx σ H)\/((Sa K a).go i H/\∃N:L2.St->Hp->Prop,(∀σ' H',N σ' H'->∃m',m'<m/\W (i+1) m' σ' H')/\∀x H',(Sa K a).GG i H x H'->g x σ H' λσ2 H2=>tb {D with nx:=N,ct:=N,bk:=D.nx} σ2 H2):=by
 refine⟨λi m σ H=>m=xs.length - i/\i<=xs.length/\Pv i σ H,⟨xs.length,by simp,a_ _,h0⟩,?_⟩;rintro i m σ H ⟨rfl,hi,p⟩;have q:=hl i σ H hi p;by_cases fD:i<xs.length
 .refine .inr ⟨⟨xs,xs[i],q,by simp[fD]⟩,Pv (i+1),λσ' H' p'=>⟨xs.length - (i+1),by omega,rfl,fD,p'⟩,λx H' y=>?_⟩;obtain⟨T,z,rfl,hT,rfl,y⟩:=y;exact hs i z σ _ T (y xs q) p hT
 .have e:i=xs.length:=by omega
  subst e;exact .inl ⟨⟨xs,q,rfl⟩,hd σ H p⟩
end Ob
namespace Ob
open PySem PySem.Spec PyProof.Rows L2
open TL (tl Cv uB xW fE dq Ct)
def Bb(x:Str)(n:Nat):Str:=⟨((List.replicate n (tl x)).flatten).toArray⟩
theorem uI(x:Str)(n:Nat):tl (Bb x n)=(List.replicate n (tl x)).flatten:=rfl
theorem Bc(a:Array Nat):∀(n:Nat)(b:Array Nat),((List.replicate n a).foldl (·++·) b).toList=b.toList++(List.replicate n a.toList).flatten
 |0,b=>by simp
 |n+1,b=>by rw[G2,NP,Bc a n,G2,B',Tu,dQ]
theorem Lg{X:Cx}:qF X (binaryOp .Mult) (λx y H Q=>∃(i:Str)(k:Nat),x= .str i/\y= .int ((k:Nat):Int)/\1<=k/\k<=1000/\i.length<=1000/\Q (.str (Bb i k)) H):=by
 intro aq s σ H x y v u Q I rx ry h;obtain⟨i,k,rfl,rfl,h1,h2,hz,q⟩:=h;obtain⟨t,rfl⟩:=rx;obtain⟨t',rfl⟩:=ry;have hm:i.length*k<=1000*1000:=Nat.mul_le_mul hz h2;refine P.mul_str (n:=(k:Int)) ?_ ?_ ?_ ?_
 .rw[cR (by omega),cR (by omega)];rfl
 .intro _ hk O_;have:(2 ^ 63 - 1:Int) / (k:Int)>=1000:=by apply Int.le_ediv_of_mul_le (by omega);omega
  omega
 .intro _ _;have e:((k:Nat):Int).toNat=k:=zH k;rw[e];exact cR (λh=>Nat.not_le_of_gt h (bq hm (by decide)))
 .have fD:¬((k:Nat):Int)<1:=by omega
  rw[ak fD];have e:((k:Nat):Int).toNat=k:=zH k;by_cases hc:(((k:Nat):Int)==1||i.length==0)=true
  .rw[ao hc];have er:Bb i k=i:=by
    apply Ct;rw[uI];rw[rP,qL,qL] at hc;rcases hc with hc|hc
    .have:k=1:=by omega
     subst this;simp
    .rw[dq] at hc;rw[zJ hc];simp
   rw[er] at q;exact⟨.str i,H,I,⟨_,rfl⟩,q⟩
  .rw[ak hc,e];have er:(⟨(List.replicate k i.cps).foldl (·++·) #[]⟩:Str)=Bb i k:=by apply Ct;show((List.replicate k i.cps).foldl (·++·) #[]).toList=_;rw[Bc];rfl
   rw[er];have hlen:(Bb i k).length<=sizeLine:=by rw[dq,uI,List.length_flatten,List.map_replicate,List.sum_replicate_nat,<-dq,Nat.mul_comm];exact bq hm (by decide)
   refine⟨?_,⟨.str (Bb i k),H,I.tok _,⟨_,rfl⟩,q⟩⟩;exact hlen
end Ob
namespace Ob
open PySem PySem.Spec PyProof.Rows L2
theorem Lh:typeLookup (.type "list_reverseiterator") "__len__"=pure none:=by rw[typeLookup_type,builtinLookup_eq_fast];kernel_rfl
theorem Iy:typeLookup (.type "list_reverseiterator") "__length_hint__"=pure (some (.builtin "list_reverseiterator.__length_hint__")):=by rw[typeLookup_type,builtinLookup_eq_fast];kernel_rfl
variable{it:Addr}
section
variable{prog:Program}{w:World}{A:Around}{E:Value->Shared->Prop}{s:Shared}
theorem Li{Q:Bool->Shared->Prop}(hT:s.TypeIs (.ref it) "list_reverseiterator")(h:Q false s):wpAny (model prog w) A (Builtin.List.listLengthHint (.ref it)) Q E s:=by
 unfold Builtin.List.listLengthHint;refine a5 (wpAny_specialOf hT Lh ?_);show wpAny _ _ (specialOf (Value.ref it) (Str.ofString "__length_hint__")>>=_) _ _ _;refine a5 (wpAny_specialOf hT Iy ?_);generalize Uc:("list_reverseiterator.__length_hint__":String)=ZJ
 wp_delta
 rw[show splitId ZJ=some ("list_reverseiterator","__length_hint__") from by subst Uc;decide+kernel];subst Uc;refine a5 (wpAny_isInstance (T:="list_reverseiterator") (b:=true) hT (by rw[isSubtype_type];kernel_rfl) ?_);refine DX (λPk=>absurd Pk (by decide)) (λ_=>?_);refine DX (λ_=>?_) (λPk=>absurd rfl Pk);refine DX (λPk=>absurd Pk (by decide+kernel)) (λ_=>cY h)
end
variable{l:Addr}{its:Array Value}
section
variable{prog:Program}{w:World}{A:Around}{E:Value->Shared->Prop}{s:Shared}{R:Result->Shared->Prop}
theorem FX(hh:A.handled=none)(hit:s.heap.IsRevIter it l ((its.size:Int) - 1))(hl:s.heap.IsList l its)(hz:its.size<=sizeLine)(S:Addr)(res:Value)(c₀:Nat)(XX:S≠it)(ZK:S≠l)(Sb:l≠it)(hS:s.heap.get? S=some {cls:= .type "list",data:= .seq #[] c₀})(hR:∀h' tk acc c,(∀b o,b≠S->b≠it->s.heap.get? b=some o->h'.get? b=some o)->h'.get? S=some {cls:= .type "list",dict:=none,data:= .seq acc c,slots:=#[]}->ItemsOf (λi v=>its[its.size - 1 - i]?=some v) acc its.size->R (.ok (.ret res)) {s with heap:=h',toks:=tk}):
 wpAny (model prog w) A.in1 (Builtin.List.listExtendWith (.ref S) (.ref it) res) (λfin s'=>match fin with| .done f=>R (.ok f) s'| .again c'=>c'.quiet=true/\codeAny (model prog w) A c' R s') (λe s'=>R (.error e) s') s:=by
 have hT:=hit.typeIs;have W:=(Walks.listRev (prog:=prog) (w:=w) (A:=A.in1) hh it l Sb its).toS;have ZL:S∉[it,l]:=λhm=>by
  rcases bZ.mp hm with h|h
  .exact XX h
  .exact ZK (G1.mp h)
 unfold Builtin.List.listExtendWith;refine a5 (wpAny_typeOf hT ?_);have h1:Builtin.List.listSameRef (.ref S) (.ref it)=false:=by simp[Builtin.List.listSameRef,XX]
 have h2:(Value.type "list_reverseiterator"==Value.type "list")=false:=by decide
 have h3:(Value.type "list_reverseiterator"==Value.type "tuple")=false:=by decide
 simp only[h1,h2,h3,zG,GN,jT];refine a5 (wpAny_pyIter_revIter hit ?_);refine a5 (wpAny_holding (Li hT ?_));refine DX (λPk=>absurd Pk (by decide+kernel)) (λ_=>?_);refine cY ⟨plainId_quiet F.plain_extend_loop _,codeAny_extend_loopS W hz S ZL res its.size 0 _ #[] c₀ rfl (a_ _) ⟨a_ _,?_,hl⟩ hS (ItemsOf.nil _) λs' acc c hm V1 CV=>?_⟩
 .rw[show(its.size:Int) - 1 - ((0:Nat):Int)=(its.size:Int) - 1 by omega];exact hit
 .rw[Moved.eq_with hm];refine hR s'.heap s'.toks acc c (λb o hb Pl e=>hm.heap b o (λgS=>?_) e) V1 CV;rcases bZ.mp gS with e'|gS
  .exact hb e'
  .exact Pl (G1.mp gS)
end
section
variable{prog:Program}{w:World}{A:Around}{E:Value->Shared->Prop}{s:Shared}
theorem Lj{Q:Value->Shared->Prop}(hh:A.handled=none)(hit:s.heap.IsRevIter it l ((its.size:Int) - 1))(hl:s.heap.IsList l its)(hz:its.size<=sizeLine)(Sb:l≠it)(hQ:∀h' tk acc c,(∀b o,b≠it->s.heap.get? b=some o->h'.get? b=some o)->h'.get? s.heap.objs.size=some {cls:= .type "list",dict:=none,data:= .seq acc c,slots:=#[]}->ItemsOf (λi v=>its[its.size - 1 - i]?=some v) acc its.size->Q (.ref s.heap.objs.size) {s with heap:=h',toks:=tk}):
 wpAny (model prog w) A (call (.type "list") [.ref it]) Q E s:=by
 have m6:it<s.heap.objs.size:=by obtain⟨o,q,_⟩:=hit;exact dh q
 have Pn:l<s.heap.objs.size:=by obtain⟨o,q,_⟩:=hl;exact dh q
 refine callType_codes (Q₁:=λobj s₁=>obj= .ref s.heap.objs.size/\s₁={s with heap:=s.heap.push {cls:= .type "list",data:= .seq #[]}}) F.called_list (F.typeCall_list_1 _) F.entry_list_init (code_list_new _ ⟨rfl,rfl⟩) λobj s₁ h₁=>?_;obtain⟨rfl,rfl⟩:=h₁;generalize eh:s.heap.push {cls:= .type "list",data:= .seq #[]}=h1;have hS:h1.get? s.heap.objs.size=some {cls:= .type "list",data:= .seq #[]}:=by rw[<-eh];exact jD _ rfl
 have hk:∀b o,s.heap.get? b=some o->h1.get? b=some o:=λb o e=>by rw[<-eh];exact gq _ e
 refine⟨⟨_,hS,rfl⟩,F.args_list_init_2 _ _,?_⟩;show wpAny _ _ (do let old<-Builtin.List.listItems (.ref s.heap.objs.size);Builtin.List.listUpdate (.ref s.heap.objs.size) (λ_=>#[]);letGo old.toList.reverse;Builtin.List.listExtendWith (.ref s.heap.objs.size) (.ref it) .none) _ _ _;refine a5 ?_;unfold Builtin.List.listItems;refine a5 (wpAny_seqItems hS rfl (cY ?_));show wpAny _ _ (updateSeq s.heap.objs.size (λ_=>#[])>>=λ_=>letGo (#[]:Array Value).toList.reverse>>=λ_=>Builtin.List.listExtendWith (.ref s.heap.objs.size) (.ref it) .none) _ _ _;refine a5 (wpAny_updateSeq hS rfl ?_);have ZM:=Heap.get?_update_self (Obj.mapSeq (λ_=>(#[]:Array Value))) hS rfl;have V2:∀b o,b≠s.heap.objs.size->s.heap.get? b=some o->(h1.update s.heap.objs.size (Obj.mapSeq (λ_=>(#[]:Array Value)))).get? b=some o:=λb o hb e=>(Heap.get?_update_other _ _ (mZ hb)).trans (hk b o e);refine a5 (wpAny_letGo ?_);refine FX (A:=A.in1) hh ?_ ?_ hz _ .none _ (mZ (cE m6)) (mZ (cE Pn)) Sb ZM λh' tk acc c kp V1 CV=>?_
 .obtain⟨o,q,r⟩:=hit;exact⟨o,V2 it o (cE m6) q,r⟩
 .obtain⟨o,q,r⟩:=hl;exact⟨o,V2 l o (cE Pn) q,r⟩
 .exact⟨rfl,hQ h' tk acc c (λb o hb e=>kp b o (cE (dh e)) hb (V2 b o (cE (dh e)) e)) V1 CV⟩
end
def Sd(K:PySem.W.Frag)(ta:TA):TE:=λσ H Q=>ta σ H λvs H1=>∃(a:Addr)(xs:List V),vs=[.ref a]/\bf K H1 a xs/\∀l,H1 l=none->Q (.ref l) (upd H1 l (.lst xs.reverse))
theorem Lk{X:Cx}{e:Expr}{ta:TA}{p p2 pos Ll:Pos}(hc:X.calm=true)(ZN:Gl X "list")(pE:X.mg "list"=none)(ZO:Gl X "reversed")(ZP:X.mg "reversed"=none)(ha:PA X [e] ta)(hs:starEach [e] X.env=[(false,eval e X.env)]:=by rfl)(Rx:starEach [.Call (.Name "reversed" p2) [e] [] Ll] X.env=[(false,eval (.Call (.Name "reversed" p2) [e] [] Ll) X.env)]:=by rfl):
 PE X (.Call (.Name "list" p) [.Call (.Name "reversed" p2) [e] [] Ll] [] pos) (Sd X.K ta):=by
 intro aq s σ H Q I h;refine u6 (nA I ZN pE (by decide+kernel:bootBuiltins "list"=some (.type "list")) ?_);refine xE ?_ Rx rfl;rw[Rx];refine GO ?_;refine Call_ (nA I ZO ZP vp (xE (dU (ha Ll aq s σ H _ I h) λus s1 ⟨vs,H1,I1,r1,q1⟩=>?_) hs rfl));obtain⟨a,xs,ex,hq,q⟩:=q1;subst ex;cases r1 with
 |cons r rr=>
  cases rr;cases r;obtain⟨its,rv,p',hz⟩:=I1.list hq;have hl:=rv.length;have FV:a<s1.heap.objs.size:=by obtain⟨o,q',_⟩:=p'.isList;exact dh q'
  refine call_reversed_list p'.isList ?_;refine Ke ?_;refine Lj (its:=its.toArray) (I1.ok.hd hc) ⟨_,jD _ rfl,rfl,rfl⟩ ?_ (by rw[d5];omega) (cE FV) λh' tk acc c kp hS CV=>?_
  .obtain⟨o,q',r'⟩:=p'.isList;exact⟨o,gq _ q',r'⟩
  .have Se:acc=its.reverse.toArray:=by
    obtain⟨h1,h2⟩:=CV;apply Array.ext
    .rw[h1];simp
    .intro i h3 h4;have h5:=h2 i acc[i] (Array.getElem?_eq_getElem h3);have h6:i<its.length:=by simpa using h4
     rw[d5,List.getElem?_toArray,<-List.getElem?_reverse h6] at h5;have h7:its.reverse[i]?=some (its.reverse[i]'(by simpa using h6)):=c_ _;rw[h7] at h5;have:=di h5;simpa using this.symm
   rw[Se] at hS;have hle:s1.heap.objs.size<=(s1.heap.push (revObj a ((its.toArray.size:Int) - 1))).objs.size:=by rw[pM];exact zS _
   have new:dj X.prog X.w (upd H1 (s1.heap.push (revObj a ((its.toArray.size:Int) - 1))).objs.size (.lst xs.reverse)) h' (s1.heap.push (revObj a ((its.toArray.size:Int) - 1))).objs.size (.lst xs.reverse):=
    ⟨by rw[tw];exact hz,its.reverse,c,rv.reverse,hS⟩
   exact⟨.ref _,_,I1.laid (t':=tk) (λb u e=>kp b u (cE (dh e)) (gq _ e)) hle new,rfl,q _ (I1.cx.fresh hle)⟩
end Ob
namespace Ob
open PySem PySem.Spec PyProof.Rows
open AutoSeq1 (wpAny_loadPart')
open MeetsSeq
def fQ:List Int->List Int->Bool
 |[],[]=>false
 |[],_::_=>true
 |_::_,[]=>false
 |x::xs,y::ys=>if x=y then fQ xs ys else decide (x<y)
variable{xs ys:List Int}
theorem yg{i:Nat}(h1:i<=xs.length)(h2:i<=ys.length)(h:xs.length<=i\/ys.length<=i):fQ (xs.drop i) (ys.drop i)=decide (xs.length<ys.length):=by
 by_cases hx:xs.length<=i
 .rw[uS hx];by_cases hy:ys.length<=i
  .rw[uS hy,cR (by omega)];rfl
  .rw[rQ (by omega),aR (by omega)];rfl
 .have hy:ys.length<=i:=by omega
  rw[uS hy,rQ (by omega),cR (by omega)];rfl
theorem zi{vs:List Value}{ns:List Int}(h:IntsAre vs ns):∀{i:Nat}{z:Int},ns[i]?=some z->∃t,vs[i]?=some (.int z t):=by
 induction h with
 |nil=>intro i z e;simp at e
 |cons n t h ih=>
  intro i z e;cases i with
  |zero=>have e:n=z:=di e;exact⟨t,by rw[e];rfl⟩
  |succ i=>exact ih e
theorem Lm(l b:Addr)(its jb:Array Value)(n n2:Nat)(xs ys:List Int)(h1:IntsAre its.toList xs)(h2:IntsAre jb.toList ys):∀(k i:Nat),xs.length - i=k->i<=xs.length->i<=ys.length->
 Meets (Builtin.«list.__eq__.loop» ⟨[.ref l,.ref b,rawInt i,rawInt 0],[]⟩) λ_ R s=>s.heap.get? l=some {cls:= .type "list",dict:=none,data:= .seq its n,slots:=#[]}/\s.heap.get? b=some {cls:= .type "list",dict:=none,data:= .seq jb n2,slots:=#[]}/\
  R (.ok (.ret (.bool (fQ (xs.drop i) (ys.drop i))))) s:=by
 have z1:its.size=xs.length:=by rw[<-h1.length];simp
 have z2:jb.size=ys.length:=by rw[<-h2.length];simp
 intro k;induction k with
 |zero=>
  intro i hk V3 Ir prog w A R s h;obtain⟨hp,g,d,tk,os⟩:=s;obtain⟨hl,hb,h⟩:=h
  wp_walk using jU hl,jU hb
  have e1:its[((i:Nat):Int).toNat]?=none:=by simp;omega
  rw[yg V3 Ir (.inl (by omega))] at h;rw[e1]
  wp_walk using jU hl,jU hb
  show R (.ok (.ret (.bool (decide (its.size<jb.size))))) _;rw[z1,z2];exact h
 |succ k ih=>
  intro i hk V3 Ir prog w A R s h;obtain⟨hp,g,d,tk,os⟩:=s;obtain⟨hl,hb,h⟩:=h
  wp_walk using jU hl,jU hb
  by_cases hy:i<ys.length
  .have hx:i<xs.length:=by omega
   obtain⟨t,ex⟩:∃t,its[i]?=some (.int xs[i] t):=by obtain⟨t,e⟩:=zi h1 (c_ hx);exact⟨t,by simpa using e⟩
   obtain⟨u,ey⟩:∃u,jb[i]?=some (.int ys[i] u):=by obtain⟨u,e⟩:=zi h2 (c_ hy);exact⟨u,by simpa using e⟩
   have e1:its[((i:Nat):Int).toNat]?=some (.int xs[i] t):=by rw[zH];exact ex
   have e2:jb[((i:Nat):Int).toNat]?=some (.int ys[i] u):=by rw[zH];exact ey
   rw[rQ hx,rQ hy] at h;have h:R (.ok (.ret (.bool (if xs[i]=ys[i] then fQ (xs.drop (i+1)) (ys.drop (i+1)) else decide (xs[i]<ys[i]))))) _:=h;rw[e1,e2];refine a5 (EqGives.int _ _ t u prog w _ _ _ _ ?_);by_cases he:xs[i]=ys[i]
   .rw[ao he] at h;have OW:(xs[i]==ys[i])=true:=by simpa using he
    rw[OW]
    wp_walk
    rw[show((i:Int)+1)=((i+1:Nat):Int) by omega];refine⟨plainId_quiet DP _,codeAny_builtin MeetsSeq3.entry_eq_loop ?_⟩;rw[Around.under_plainId DP _];exact ih (i+1) (by omega) (by omega) (by omega) prog w A R _ ⟨hl,hb,h⟩
   .rw[ak he] at h;have OW:(xs[i]==ys[i])=false:=by simpa using he
    rw[OW]
    wp_walk using jU hl,jU hb
    rw[e1,e2];refine a5 (show wpAny _ _ (compareOp .Lt (.int xs[i] t) (.int ys[i] u)) _ _ _ from lt_int ?_)
    wp_walk
    exact h
  .have e2:jb[((i:Nat):Int).toNat]?=none:=by simp;omega
   obtain⟨t,ex⟩:=zi h1 (c_ (show i<xs.length by omega));have e1:its[((i:Nat):Int).toNat]?=some (.int xs[i] t):=by rw[zH];simpa using ex
   rw[yg V3 Ir (.inr (by omega))] at h;rw[e1,e2]
   wp_walk using jU hl,jU hb
   show R (.ok (.ret (.bool (decide (its.size<jb.size))))) _;rw[z1,z2];exact h
theorem Sf(l b:Addr)(its jb:Array Value)(n n2:Nat)(xs ys:List Int)(h1:IntsAre its.toList xs)(h2:IntsAre jb.toList ys):
 Meets (Builtin.«list.__lt__» ⟨[.ref l,.ref b],[]⟩) λ_ R s=>s.heap.get? l=some {cls:= .type "list",dict:=none,data:= .seq its n,slots:=#[]}/\s.heap.get? b=some {cls:= .type "list",dict:=none,data:= .seq jb n2,slots:=#[]}/\
  R (.ok (.ret (.bool (fQ xs ys)))) s:=by
 intro prog w A R s h;obtain⟨hp,g,d,tk,os⟩:=s;obtain⟨hl,hb,h⟩:=h;have f3:=AutoSeq1.sub_list_list
 wp_walk using jU hl,jU hb
 refine⟨plainId_quiet DP _,codeAny_builtin MeetsSeq3.entry_eq_loop ?_⟩;rw[Around.under_plainId DP _];exact Lm l b its jb n n2 xs ys h1 h2 _ 0 rfl (a_ _) (a_ _) prog w A R _ ⟨hl,hb,h⟩
section
variable{prog:Program}{w:World}{A:Around}{E:Value->Shared->Prop}{s:Shared}{Q:Bool->Shared->Prop}
theorem Po{l b:Addr}{its jb:Array Value}{n n2:Nat}(h1:IntsAre its.toList xs)(h2:IntsAre jb.toList ys)(hu:A.units<cLine)(hl:s.heap.get? l=some {cls:= .type "list",dict:=none,data:= .seq its n,slots:=#[]})(hb:s.heap.get? b=some {cls:= .type "list",dict:=none,data:= .seq jb n2,slots:=#[]})(h:Q (fQ xs ys) s):wpAny (model prog w) A (keyLt' oneType' (.ref l) (.ref b)) Q E s:=by rw[keyLt'_oneType,oneLt'_eq];simp only[m4];refine a5 (wpAny_cRoomFor hu ?_);refine a5 (wpAny_callSpecialIfBound?_slot (T:="list") (name:=Str.ofString "__lt__") ⟨_,hl,rfl⟩ F.slot_list_lt (zY F.slot_list_lt ⟨_,hl,rfl⟩ F.entry_list_lt (F.args_list_lt_2 _ _) (Sf l b its jb n n2 xs ys h1 h2) ⟨hl,hb,?_⟩));exact pC h
end
end Ob
namespace Ob
open PySem PySem.Spec PyProof.Rows PySem.W PySem.Calls
structure Pp(N0:Nat)(J:Shared->Prop):Prop where
 turn:∀(s:Shared)(it:Addr)(h':Heap)(tk:Nat),J s->N0<=it->(∀b o,b≠it->s.heap.get? b=some o->h'.get? b=some o)->J {s with heap:=h',toks:=tk}
 kept:∀(s:Shared)(h':Heap)(tk:Nat),J s->(∀b o,s.heap.get? b=some o->h'.get? b=some o)->J {s with heap:=h',toks:=tk}
variable{N0 e e1:Nat}{J:Shared->Prop}{kS a:Addr}{s:Shared}{ks:List Value}{P:PySem.Fin->Shared->Prop}
variable{vs:List Value}
variable{f:Value}
section
variable{prog:Program}{w:World}{A:Around}{E:Value->Shared->Prop}
theorem ED{N0:Nat}{J:Shared->Prop}(JJ:Pp N0 J){f:Value}{kS:Addr}(Iz:N0<=kS){ks:List Value}{vs:List Value}(wb:ks.length=vs.length)(zj:vs.length<64)(C:∀(i:Nat)(v:Value)(s':Shared)(Q':Value->Shared->Prop),J s'->vs[i]?=some v->(∀xp k,J xp->(∀b o,N0<=b->s'.heap.get? b=some o->xp.heap.get? b=some o)->ks[i]?=some k->Q' k xp)->wpAny (model prog w) A (call f [v]) Q' (λ_ _=>False) s'){body:Value->PUnit->Sem (ForInStep PUnit)}(hb:∀(x:Value)(s:Shared)(R:ForInStep PUnit->Shared->Prop),wpAny (model prog w) A (call f [x]) (λk s'=>wpAny (model prog w) A (Builtin.List.listUpdate (.ref kS) (·.push k)) (λ_ xp=>R (.yield ⟨⟩) xp) E s') (λ_ _=>False) s->wpAny (model prog w) A (body x ⟨⟩) R E s){Q:PUnit->Shared->Prop}:∀(r:List Value)(i e:Nat)(s:Shared),vs.drop i=r->J s->s.heap.get? kS=some (seqObj "list" (List.toArray (ks.take i)) e)->
  (∀s' e',J s'->s'.heap.get? kS=some (seqObj "list" (List.toArray ks) e')->(∀b o,N0<=b->b≠kS->s.heap.get? b=some o->s'.heap.get? b=some o)->Q ⟨⟩ s')->wpAny (model prog w) A (forIn r PUnit.unit body) Q E s
 |[],i,e,s,hd,hJ,hk,hQ=>by
  rw[NQ];have hi:vs.length<=i:=by have:=da List.length hd;rw[dD] at this;have:vs.length - i=0:=this;omega
  rw[pA (by omega)] at hk;exact cY (hQ s e hJ hk λb o _ _ q=>q)
 |x::r,i,e,s,hd,hJ,hk,hQ=>by
  have hi:i<vs.length:=by apply Q0;intro h;rw[uS (by omega)] at hd;cases hd
  have hx:vs[i]?=some x:=by rw[<-Fd,hd];rfl
  have hd2:vs.drop (i+1)=r:=by rw[<-ni,hd];rfl
  rw[List.forIn_cons];refine a5 (hb x s _ (C i x s _ hJ hx λs1 k Pq kp ZQ=>?_));have MZ:=kp _ _ Iz hk;have ea:(List.toArray (ks.take i)).push k=List.toArray (ks.take (i+1)):=by rw[G4,ZQ];simp
  refine listUpdate_at MZ rfl ?_ (by rw[d5,bj,nz];omega) (bq (xD (Array.size_push ..)) (by rw[d5,bj,nz];omega));have Sg:=E_ s1.heap kS (Obj.mapSeq (·.push k));obtain⟨c2,zk⟩:∃c2,(s1.heap.update kS (Obj.mapSeq (·.push k))).get? kS=some (seqObj "list" (List.toArray (ks.take (i+1))) c2):=⟨_,by rw[<-ea];exact get?_update_seq MZ (·.push k)⟩;have V4:=JJ.turn s1 kS (s1.heap.update kS (Obj.mapSeq (·.push k))) s1.toks Pq Iz λb o hb q=>Sg.extBut b o hb q;exact ED JJ Iz wb zj C hb r (i+1) c2 _ hd2 V4 zk λs' e' a b c=>hQ s' e' a b λb' o h1 h2 q=>c b' o h1 h2 (Sg.extBut b' o h2 (kp b' o h1 q))
theorem EE(JJ:Pp N0 J)(Iz:N0<=kS)(ha:N0<=a)(fk:a≠kS){st:SortSt}{out:List Value}(hJ:J s)(hk:s.heap.get? kS=some (seqObj "list" (List.toArray ks) e))(hA:s.heap.get? a=some (seqObj "list" #[] e1))(R5:(arrOf st).map (·.2)=List.toArray out)(hf:failedOf st=none)(hz:out.length<64)(hkz:ks.length<64)(h:∀s' c,J s'->s'.heap.get? a=some (seqObj "list" (List.toArray out) c)->P (.done (.ret .none)) s'):wpAny (model prog w) A (ksk_tail a false e1 (.ref kS) st) P E s:=by have s1:=E_ s.heap kS (Obj.mapSeq λ_=>(#[]:Array Value));have V5:=s1.extBut a _ fk hA;have Pq:=JJ.turn s kS _ s.toks hJ Iz λb o hb q=>s1.extBut b o hb q;have s2:=E_ (s.heap.update kS (Obj.mapSeq λ_=>(#[]:Array Value))) a (Obj.mapSeq λ_=>List.toArray out);obtain⟨c2,zk⟩:∃c2,((s.heap.update kS (Obj.mapSeq λ_=>(#[]:Array Value))).update a (Obj.mapSeq λ_=>List.toArray out)).get? a=some (seqObj "list" (List.toArray out) c2):=⟨_,get?_update_seq V5 λ_=>List.toArray out⟩;have V4:=JJ.turn _ a ((s.heap.update kS (Obj.mapSeq λ_=>(#[]:Array Value))).update a (Obj.mapSeq λ_=>List.toArray out)) s.toks Pq ha λb o hb q=>s2.extBut b o hb q;unfold ksk_tail;dsimp only;rw[R5];simp only[GN,jT];refine a5 (listUpdate_at hk rfl ?_ (by rw[d5,nz];omega) (a_ _));refine a5 (wpAny_letGo ?_);refine a5 (seqEpoch_at V5 rfl ?_);refine a5 (listUpdate_at V5 rfl ?_ (a_ _) (bq (xD (d5 ..)) (by rw[nz];omega)));rw[hf];simp only[bne_self_eq_false,GN,jT];exact cY (h _ c2 V4 zk)
theorem M0{n:Nat}{lt:Nat->Nat->Bool}{cmp:Nat->Nat->(Bool->Shared->Prop)->Shared->Prop}{s:Shared}(hc:∀i j (C:Bool->Shared->Prop),i<n->j<n->C (lt i j) s->cmp i j C s){α:Type}{Q:α->Shared->Prop}:∀{t:KasT α},qH n lt t (λa=>Q a s)->t.kasWp cmp Q s
 | .ret _,h=>h
 | .ask i j k,h=>hc i j _ h.1 h.2.1 (M0 hc (t:=k _) h.2.2)
theorem Pr(JJ:Pp N0 J)(Iz:N0<=kS)(ha:N0<=a)(fk:a≠kS){lt:Nat->Nat->Bool}(S:xf lt)(hJ:J s)(hk:s.heap.get? kS=some (seqObj "list" (List.toArray ks) e))(hA:s.heap.get? a=some (seqObj "list" #[] e1))(wb:ks.length=vs.length)(zj:vs.length<64)(kind:2<=vs.length->∀Q':SortKind->Shared->Prop,Q' oneType' s->wpAny (model prog w) A (keyKind' (List.toArray ks)) Q' (λ_ _=>False) s)(cmp:∀i j (Q':Bool->Shared->Prop),i<vs.length->j<vs.length->Q' (lt i j) s->wpAny (model prog w) A (keyLt' oneType' (ks.getD i Value.none) (ks.getD j Value.none)) Q' (λ_ _=>False) s)(h:∀s' c (p:Array Nat),J s'->p.size=vs.length->Up lt p vs.length->p.Perm (List.range vs.length).toArray->s'.heap.get? a=some (seqObj "list" (List.toArray (p.toList.map λi=>vs.getD i Value.none)) c)->P (.done (.ret .none)) s'):wpAny (model prog w) A (ksk_end a false vs.toArray e1 (.ref kS) (List.toArray ks)) P E s:=by
 unfold ksk_end;dsimp only;simp only[GN,jT];by_cases h2:vs.toArray.size<2
 .have MY:vs.length<2:=by simpa using h2
  rw[ao h2,ao h2];refine a5 (cY ?_);rw[StateT.run_pure];refine a5 (cY ?_);dsimp only;have Uc:(arrOf (SortSt.mk' general' ((List.toArray ks).zip vs.toArray) #[] 7 none)).map (·.2)=List.toArray vs:=by show((List.toArray ks).zip vs.toArray).map (·.2)=_;apply Array.toList_inj.mp;rw[Array.toList_map,ksk_zip,zQ,List.map_snd_zip (by rw[wb];exact aS _)]
  refine EE JJ Iz ha fk hJ hk hA Uc rfl zj (by omega) λs' c Pt V6=>h s' c (List.range vs.length).toArray Pt (by simp) (λi j uq hj=>by omega) (Qn _) ?_;rw[V6];congr 3
  match vs,MY with
  |[],_=>rfl
  |[v],_=>rfl
 .have MY:2<=vs.length:=by
   have:¬vs.length<2:=by simpa using h2
   omega
  rw[ak h2,ak h2];refine a5 (ir (kind MY (λκ s'=>κ=oneType'/\s'=s) ⟨rfl,rfl⟩) (λκ s0 T2=>?_) λ_ _ x=>x.elim);obtain⟨rfl,rfl⟩:=T2;have ZR:(kas_sort vs.length).kasWp (kas_ask prog w A oneType' ks) (λp s'=>s'=s0/\p.size=vs.length/\Up lt p vs.length/\p.Perm (List.range vs.length).toArray) s0:=
   M0 (lt:=lt) (λi j C hi hj hC=>by unfold kas_ask;exact cmp i j C hi hj hC) (Lc S (by omega) λp a b c=>⟨rfl,a,b,c⟩)
  refine a5 (ir (kat_run (Q:=λFm s'=>∃p:Array Nat,s'=s0/\p.size=vs.length/\Up lt p vs.length/\p.Perm (List.range vs.length).toArray/\arrOf Fm=p.map (kas_item ((List.toArray ks).zip (List.toArray vs)))/\failedOf Fm=none)
   wb MY zj (λp' Fm s' a1 a2 a3 a4=>⟨p',a4.1,a4.2.1,a4.2.2.1,a4.2.2.2,a2,a3⟩) ZR) ?_ λ_ _ x=>x)
  rintro⟨⟨⟩,Fm⟩ s' ⟨p,rfl,hp,hU,M3,ZS,hf⟩;dsimp only;exact EE JJ Iz ha fk hJ hk hA (kat_snds wb ZS) hf (by rw[aT,QZ,hp];exact zj) (by omega) λs' c Pt V6=>h s' c p Pt hp hU M3 V6
theorem Ln(JJ:Pp N0 J)(Iz:N0<=kS)(ha:N0<=a)(fk:a≠kS){lt:Nat->Nat->Bool}(S:xf lt)(hJ:J s)(hk:s.heap.get? kS=some (seqObj "list" #[] 0))(hA:s.heap.get? a=some (seqObj "list" #[] e1))(wb:ks.length=vs.length)(zj:vs.length<64)(C:∀(i:Nat)(v:Value)(s':Shared)(Q':Value->Shared->Prop),J s'->vs[i]?=some v->(∀xp k,J xp->(∀b o,N0<=b->s'.heap.get? b=some o->xp.heap.get? b=some o)->ks[i]?=some k->Q' k xp)->wpAny (model prog w) A (call f [v]) Q' (λ_ _=>False) s')(kind:2<=vs.length->∀(s':Shared)(Q':SortKind->Shared->Prop),J s'->Q' oneType' s'->wpAny (model prog w) A (keyKind' (List.toArray ks)) Q' (λ_ _=>False) s')(cmp:∀i j (s':Shared)(Q':Bool->Shared->Prop),J s'->i<vs.length->j<vs.length->Q' (lt i j) s'->wpAny (model prog w) A (keyLt' oneType' (ks.getD i Value.none) (ks.getD j Value.none)) Q' (λ_ _=>False) s')(h:∀s' c (p:Array Nat),J s'->p.size=vs.length->Up lt p vs.length->p.Perm (List.range vs.length).toArray->s'.heap.get? a=some (seqObj "list" (List.toArray (p.toList.map λi=>vs.getD i Value.none)) c)->P (.done (.ret .none)) s'):wpAny (model prog w) A (ksk_rest a f false vs.toArray e1 (.ref kS)) P E s:=by
 unfold ksk_rest;refine a5 (wpAny_rule ?_)
 first
  |rw[List.forIn_toArray]
  |(rw[<-Array.forIn_toList];simp only[zQ])
  |rw[<-Array.forIn_toList]
 refine a5 (ED JJ Iz wb zj C (λx s0 R hx=>?_) vs 0 0 s rfl hJ hk λs' e' Pt Qv kp=>?_)
 .refine a5 (wpAny_attempt (ir hx (λk s1 MZ=>?_) λ_ _ hF=>hF.elim));exact a5 (ir MZ (λ_ s2 hr=>cY hr) λ_ _ q=>q)
 .refine a5 (listItems_at Qv rfl ?_);exact Pr JJ Iz ha fk S Pt Qv (kp a _ ha fk hA) wb zj (λh2 Q' hq=>kind h2 s' Q' Pt hq) (λi j Q' hi hj hq=>cmp i j s' Q' Pt hi hj hq) h
theorem Lo(JJ:Pp N0 J){n:Nat}(hs:N0<=s.heap.objs.size)(ha:N0<=a){lt:Nat->Nat->Bool}(S:xf lt)(hJ:J s)(ho:s.heap.get? a=some (seqObj "list" vs.toArray n))(wb:ks.length=vs.length)(zj:vs.length<64)(C:∀(i:Nat)(v:Value)(s':Shared)(Q':Value->Shared->Prop),J s'->vs[i]?=some v->(∀xp k,J xp->(∀b o,N0<=b->s'.heap.get? b=some o->xp.heap.get? b=some o)->ks[i]?=some k->Q' k xp)->wpAny (model prog w) A (call f [v]) Q' (λ_ _=>False) s')(kind:2<=vs.length->∀(s':Shared)(Q':SortKind->Shared->Prop),J s'->Q' oneType' s'->wpAny (model prog w) A (keyKind' (List.toArray ks)) Q' (λ_ _=>False) s')(cmp:∀i j (s':Shared)(Q':Bool->Shared->Prop),J s'->i<vs.length->j<vs.length->Q' (lt i j) s'->wpAny (model prog w) A (keyLt' oneType' (ks.getD i Value.none) (ks.getD j Value.none)) Q' (λ_ _=>False) s')(h:∀s' c (p:Array Nat),J s'->p.size=vs.length->Up lt p vs.length->p.Perm (List.range vs.length).toArray->s'.heap.get? a=some (seqObj "list" (List.toArray (p.toList.map λi=>vs.getD i Value.none)) c)->P (.done (.ret .none)) s'):wpAny (model prog w) A (ksk_tree a f false) P E s:=by
 have FV:a<s.heap.objs.size:=dh ho;have s1:=E_ s.heap a (Obj.mapSeq λ_=>(#[]:Array Value));obtain⟨e1,XY⟩:∃e1,(s.heap.update a (Obj.mapSeq λ_=>(#[]:Array Value))).get? a=some (seqObj "list" #[] e1):=⟨_,get?_update_seq ho λ_=>#[]⟩;have Pq:=JJ.turn s a _ s.toks hJ ha λb o hb q=>s1.extBut b o hb q;unfold ksk_tree;refine a5 (listItems_at ho rfl ?_);refine a5 (listUpdate_at ho rfl ?_ (by rw[d5,nz];omega) (a_ _));refine a5 (seqEpoch_at XY rfl ?_);refine a5 (wpAny_newTuple ?_ (by show vs.length<=_;rw[nz];omega));refine a5 (wpAny_newList ?_ (a_ _));refine wpAny_holding ?_;generalize eh:s.heap.update a (Obj.mapSeq λ_=>(#[]:Array Value))=h1 at*;have XZ:h1.objs.size=s.heap.objs.size:=by rw[<-eh,Heap.size_update]
 have V7:(h1.push (seqObj "tuple" vs.toArray 0)).objs.size=s.heap.objs.size+1:=by rw[size_push',XZ]
 have kp:∀b o,h1.get? b=some o->((h1.push (seqObj "tuple" vs.toArray 0)).push (seqObj "list" #[] 0)).get? b=some o:=λb o q=>gq _ (gq _ q);refine Ln (s:={s with heap:=(h1.push (seqObj "tuple" vs.toArray 0)).push (seqObj "list" #[] 0)}) (kS:=(h1.push (seqObj "tuple" vs.toArray 0)).objs.size) JJ (by rw[V7];omega) ha (by rw[V7];exact cE (tH FV)) S ?_ (jD _ rfl) (kp _ _ XY) wb zj C kind cmp h;exact JJ.kept {s with heap:=h1} _ s.toks Pq kp
theorem FY(JJ:Pp s.heap.objs.size J){l q:Addr}{lt:Nat->Nat->Bool}(S:xf lt){Q:Value->Shared->Prop}(hJ:J s)(hl:s.heap.IsList l vs.toArray)(wb:ks.length=vs.length)(zj:vs.length<64)(C:∀(i:Nat)(v:Value)(s':Shared)(Q':Value->Shared->Prop),J s'->vs[i]?=some v->(∀xp k,J xp->(∀b o,s.heap.objs.size<=b->s'.heap.get? b=some o->xp.heap.get? b=some o)->ks[i]?=some k->Q' k xp)->wpAny (model prog w) A.in1.in1 (call (.ref q) [v]) Q' (λ_ _=>False) s')(kind:2<=vs.length->∀(s':Shared)(Q':SortKind->Shared->Prop),J s'->Q' oneType' s'->wpAny (model prog w) A.in1.in1 (keyKind' (List.toArray ks)) Q' (λ_ _=>False) s')(cmp:∀i j (s':Shared)(Q':Bool->Shared->Prop),J s'->i<vs.length->j<vs.length->Q' (lt i j) s'->wpAny (model prog w) A.in1.in1 (keyLt' oneType' (ks.getD i Value.none) (ks.getD j Value.none)) Q' (λ_ _=>False) s')(h:∀s' D c (p:Array Nat),J s'->s.heap.objs.size<=D->p.size=vs.length->Up lt p vs.length->p.Perm (List.range vs.length).toArray->s'.heap.get? D=some (seqObj "list" (List.toArray (p.toList.map λi=>vs.getD i Value.none)) c)->Q (.ref D) s'):
 wpAny (model prog w) A (call (.builtin "sorted") [.ref l] [(Str.ofString "key",.ref q)]) Q E s:=by
 refine call_function_entry_kw kind_sorted plain_sorted entry_sorted (ksk_s1 _ _) ?_;unfold Builtin.«sorted»;refine a5 (m:=checkCount "sorted" 1 1 _) (cY ?_);refine a5 (collect_list hl ?_ (by rw[nz];omega));refine a5 (wpAny_newList ?_ (by rw[nz];omega));generalize eh:(s.heap.push (seqObj "list" #[] 0)).update s.heap.objs.size (Obj.mapSeq (·++vs.toArray))=h1;have hsz:h1.objs.size=s.heap.objs.size+1:=by rw[<-eh,Heap.size_update,size_push']
 have TJ:(h1.push (seqObj "list" vs.toArray 0)).get? (s.heap.objs.size+1)=some (seqObj "list" vs.toArray 0):=by rw[<-hsz];exact jD _ rfl
 have keep:∀b o,s.heap.get? b=some o->(h1.push (seqObj "list" vs.toArray 0)).get? b=some o:=λb o q=>by have fD:b<s.heap.objs.size:=dh q;refine gq _ ?_;rw[<-eh,Heap.get?_update_ne _ _ _ _ (cE fD),Heap.get?_push_ne _ _ _ (cE fD)];exact q
 show wpAny _ _ _ _ _ {s with heap:=h1.push (seqObj "list" vs.toArray 0)};rw[hsz];refine a5 (wpAny_holding (wpAny_call_entry_kw slot_list_sort ⟨_,TJ,rfl⟩ entry_list_sort ?body (ksk_l1 _ _)));show wpAny (model prog w) A.in1.in1 (Builtin.«list.sort» ⟨[.ref (s.heap.objs.size+1)],[(Str.ofString "key",.ref q)]⟩) _ _ _;rw[ksk_t1];have Pq:=JJ.kept s (h1.push (seqObj "list" vs.toArray 0)) s.toks hJ keep;refine Lo (s:={s with heap:=h1.push (seqObj "list" vs.toArray 0)}) JJ (by show _<=(h1.push _).objs.size;rw[size_push',hsz];omega) (zS _) S Pq TJ wb zj C kind cmp λs' c p a b c' d e=>⟨_,rfl,cY ⟨_,rfl,h s' _ c p a (zS _) b c' d e⟩⟩
end
end Ob
namespace Ob
open PySem PySem.Spec PyProof.Rows L2
open Vanbkn (State)
abbrev Nd:=Node
def top(i:Nat):Stmt:=PySem.Challenge.pw_outlinebook_s01_answers.main.body.getD i (.Pass ⟨0,0,0,0⟩)
abbrev pX:Stmt:=inClass (top 2) 0
abbrev sG:Stmt:=top 3
abbrev mq:Stmt:=top 4
abbrev pY:Stmt:=inClass (top 10) 0
abbrev lb:Stmt:=inClass (top 11) 0
abbrev lg:Stmt:=top 12
abbrev pZ:Stmt:=top 13
abbrev ia:Stmt:=top 14
abbrev iA:Stmt:=top 15
abbrev j0:Stmt:=top 16
abbrev iB:Stmt:=top 17
abbrev p0:Stmt:=top 18
abbrev p8:Stmt:=top 19
abbrev wc:Stmt:=top 20
abbrev p_:Stmt:=top 21
abbrev sH:Stmt:=top 47
abbrev qa:Stmt:=top 48
abbrev n9:Stmt:=top 49
abbrev n_:Stmt:=top 50
abbrev jg:Stmt:=top 51
abbrev qb:Stmt:=top 52
abbrev jh:Stmt:=top 53
abbrev gD:Stmt:=top 54
abbrev zl:Stmt:=top 55
abbrev mr:Stmt:=top 56
abbrev oa:Stmt:=top 58
abbrev oe:Stmt:=top 59
abbrev j1:Stmt:=top 61
abbrev og:Stmt:=top 62
abbrev lh:Stmt:=top 63
abbrev gE:Stmt:=top 65
abbrev j2:Stmt:=top 66
abbrev qc:Stmt:=top 67
abbrev gn:Stmt:=top 68
abbrev ji:Stmt:=top 69
abbrev mv:Stmt:=top 70
abbrev oh:Stmt:=top 71
abbrev gF:Stmt:=top 72
abbrev mw:Stmt:=top 74
abbrev oj:Stmt:=top 75
abbrev j3:Stmt:=top 76
abbrev lj:Stmt:=top 77
abbrev mx:Stmt:=top 78
abbrev jj:Stmt:=top 79
abbrev fw:Stmt:=top 80
abbrev qd:Stmt:=top 82
abbrev gp:Stmt:=top 83
abbrev sI:Stmt:=top 84
abbrev sJ:Stmt:=top 85
abbrev sL:Stmt:=top 86
abbrev om:Stmt:=top 87
abbrev qe:Stmt:=top 88
abbrev sM:Stmt:=top 103
abbrev j4:Stmt:=top 104
abbrev qf:Stmt:=top 105
abbrev wd:Stmt:=top 106
abbrev oo:Stmt:=top 107
abbrev iC:Stmt:=top 108
abbrev qg:Stmt:=top 109
abbrev oq:Stmt:=top 110
abbrev sN:Stmt:=top 111
abbrev iD:Stmt:=top 112
abbrev my:Stmt:=top 113
abbrev ib:Stmt:=top 114
abbrev iE:Stmt:=top 115
abbrev j5:Stmt:=top 116
abbrev iF:Stmt:=top 118
abbrev ot:Stmt:=top 119
abbrev qh:Stmt:=top 121
abbrev mz:Stmt:=top 122
abbrev sO:Stmt:=top 123
abbrev jk:Stmt:=top 124
abbrev ll:Stmt:=top 125
abbrev jl:Stmt:=top 126
abbrev j6:Stmt:=top 127
abbrev ow:Stmt:=top 128
abbrev oy:Stmt:=top 129
abbrev oz:Stmt:=top 130
abbrev mB:Stmt:=top 131
abbrev jm:Stmt:=top 133
abbrev jn:Stmt:=top 134
abbrev iG:Stmt:=top 135
abbrev iH:Stmt:=top 136
abbrev iI:Stmt:=top 137
abbrev oA:Stmt:=top 138
abbrev gN:Stmt:=top 139
def bG(K:PySem.W.Frag)(mg:Str->Option Value)(x:Str)(st:Stmt)(ps:List Str):Prop:=∃f fd,HH K x x st f fd/\mg x=some (.ref f)/\Binds K fd ps []
def Ud(P:Program)(w:World)(K:PySem.W.Frag)(mg:Str->Option Value)(base:Heap)(k:Nat)(x:Str)(ps:List Str)(sp:Sp):Prop:=
 ∃f fd,nq P w K mg base Aw k f fd ps sp/\mg x=some (.ref f)/\keepIn K (.ref f)=true/\Binds K fd ps []
variable{X:Cx}{x:Str}{ps:List Str}{sp:Sp}{e:Expr}{es:List Expr}{t:TA}{pos:Pos}
theorem IA{k:Nat}{p:Pos}(G:Ud X.prog X.w X.K X.mg X.base k x ps sp)(hr:fL k X.A)(hg:Gl X x)(ha:PA X (e::es) t)(Af:(x==("__debug__":Str))=false:=by decide)(he:starEach (e::es) X.env=(false,eval e X.env)::starEach es X.env:=by rfl)(rN:(backTo pos (starEach es X.env)).any (·.1)=false:=by rfl):
 PE X (.Call (.Name x p) (e::es) [] pos) (pD sp [] E0 t):=by
 obtain⟨f,fd,F,hm,hk,hb⟩:=G;exact KC F hr hg hm hk hb .nil HG ha Af he rN
theorem bG.ok{P:Program}{w:World}{K:PySem.W.Frag}{mg:Str->Option Value}{base:Heap}{x:Str}{st:Stmt}{N ps:List Str}{k:Nat}{sp:Sp}(F:bG K mg x st ps)(S:aG N ps (ay st))(len:∀vs H Q E,sp vs H Q E->vs.length=ps.length)(Ai:∀(f:Addr)(nr:Value)(A:Around)(outer:List Env)(s:Shared)(H:Hp)(vs:List V)(Q:VK)(E:XK),fL k (A.deeper (envOfC x (ay st) s.heap.objs.size f nr))->sp vs H Q E->
  ∃t,Cb (xn Aw P w K mg base N x (ay st) f nr A outer s H E).Oh (du st) t/\t {nx:=λ_ H'=>Q .fb H',rt:=Q} (start N vs) H):Ud P w K mg base (k+1) x ps sp:=by
 obtain⟨f,fd,F,hm,hb⟩:=F;exact⟨f,fd,F.ok S len (Ai f),hm,F.kp,hb⟩
def EF(P:Program)(w:World)(K:PySem.W.Frag)(mg:Str->Option Value)(base:Heap)(k:Nat)(x:Str)(C:Addr)(ps:List Str)(sp:Sp):Prop:=
 ∃f fd,Mk K C f/\nq P w K mg base Aw k f fd ps sp/\mg x=some (.ref C)/\Binds K fd ps []
variable{C:Addr}
theorem EF.make{k:Nat}{p:Pos}(M:EF X.prog X.w X.K X.mg X.base k x C ps sp)(hr:fL (k+1) X.A)(hg:Gl X x)(ha:PA X (e::es) t)(Af:(x==("__debug__":Str))=false:=by decide)(he:starEach (e::es) X.env=(false,eval e X.env)::starEach es X.env:=by rfl)(rN:(backTo pos (starEach es X.env)).any (·.1)=false:=by rfl):
 PE X (.Call (.Name x p) (e::es) [] pos) (D8 C sp [] E0 t):=by
 obtain⟨f,fd,M,F,hm,hb⟩:=M;exact KD M F hr hg hm hb .nil HG ha Af he rN
theorem EF.M4{k:Nat}{p:Pos}(M:EF X.prog X.w X.K X.mg X.base k x C ps sp)(hr:fL (k+1) X.A)(hg:Gl X x)(Af:(x==("__debug__":Str))=false:=by decide):
 PE X (.Call (.Name x p) [] [] pos) (D8 C sp [] E0 k6):=by
 obtain⟨f,fd,M,F,hm,hb⟩:=M;exact Hm M F hr hg hm hb .nil HG Af
def GI(mg:Str->Option Value)(x:Str)(i:Int):Prop:=∃t,mg x=some (.int i t)
def GS(mg:Str->Option Value)(x:Str)(y:Str):Prop:=∃t,mg x=some (.str y t)
theorem Sh{i:Int}(hg:Gl X x)(h:GI X.mg x i)(hd:(x==("__debug__":Str))=false:=by decide):PE X (.Name x pos) (tC (.int i)):=by obtain⟨t,e⟩:=h;exact yI hg e ⟨t,rfl⟩ hd
theorem kQ{y:Str}(hg:Gl X x)(h:GS X.mg x y)(hd:(x==("__debug__":Str))=false:=by decide):PE X (.Name x pos) (tC (.str y)):=by obtain⟨t,e⟩:=h;exact yI hg e ⟨t,rfl⟩ hd
def IB:List (Str×Int):=[(("MOST_NODES":Str),(60:Int)),(("DEEPEST_SECTION":Str),(6:Int)),(("DEEPEST_NODE":Str),(7:Int)),(("LAST_NUMBER":Str),(999:Int)),(("NO_NODE":Str),(-1:Int)),(("NO_PLACE":Str),(-2:Int)),(("NOT_A_TEXT":Str),(-3:Int)),(("TOO_MANY_NODES":Str),(-4:Int)),(("TOO_DEEP":Str),(-5:Int)),(("NUMBERS_USED_UP":Str),(-6:Int)),(("IS_A_CELL":Str),(-7:Int)),(("INTO_ITSELF":Str),(-8:Int)),(("NOTHING_TO_DO":Str),(-9:Int)),(("NOT_SIBLINGS":Str),(-10:Int)),(("NO_SUCH_MARK":Str),(-11:Int)),(("NO_SUCH_DEPTH":Str),(-12:Int)),(("NO_SUCH_LABEL":Str),(-13:Int)),(("TEXT_TOO_LONG":Str),(-14:Int)),(("NOT_VISIBLE":Str),(-15:Int)),(("NO_SUCH_DIRECTION":Str),(-16:Int)),(("MOST_BYTES":Str),(60:Int)),(("FIRST_BYTE":Str),(32:Int)),(("LAST_BYTE":Str),(126:Int)),(("AT_SIGN":Str),(64:Int)),(("QUESTION_MARK":Str),(63:Int)),(("ZERO":Str),(48:Int)),(("NINE":Str),(57:Int)),(("MOST_DIGITS":Str),(3:Int)),(("NOT_ENDED":Str),(1:Int)),(("NOT_WRITTEN_SO":Str),(2:Int)),(("OUT_OF_RANGE":Str),(3:Int)),(("DEPTH_DOES_NOT_FIT":Str),(4:Int)),(("SIXTY_BEFORE":Str),(5:Int)),(("LINE_END":Str),(10:Int)),(("MOST_NUMBER_DIGITS":Str),(4:Int))]
def M5:List (Str×Str):=[(("FIRST_WORD":Str),("outline ":Str)),(("SECTION_SIGN":Str),("#":Str)),(("CELL_SIGN":Str),("=":Str)),(("BEFORE_UNFOLDED_TITLE":Str),(" + ":Str)),(("BEFORE_FOLDED_TITLE":Str),(" - ":Str)),(("BEFORE_CELL_TEXT":Str),(" ":Str))]
theorem CW:bootBuiltins "any"=some (.builtin "any"):=by decide+kernel
theorem IC:bootBuiltins "all"=some (.builtin "all"):=by decide+kernel
theorem Pu:bootBuiltins "ord"=some (.builtin "ord"):=by decide+kernel
theorem FZ:bootBuiltins "sorted"=some (.builtin "sorted"):=by decide+kernel
theorem we:bootBuiltins "str"=some (.type "str"):=by decide+kernel
variable{K:PySem.W.Frag}{a:Addr}{xs:List V}{g:TG}{σ:L2.St}{H:Hp}
theorem wg{tb:TS}{D:Ends}(Pv:Nat->L2.St->Hp->Prop)(h0:Pv 0 σ H)(hl:∀i σ H,i<=xs.length->Pv i σ H->bf K H a xs)(hs:∀i x σ H T,xs[i]?=some x->Pv i σ H->H T=none->g (.ref T) σ (upd H T (.tup [.int (i:Nat),x])) λσ2 H2=>tb {D with nx:=Pv (i+1),ct:=Pv (i+1),bk:=D.nx} σ2 H2)(hd:∀σ H,Pv xs.length σ H->D.nx σ H):
 ∃W:Nat->Nat->L2.St->Hp->Prop,(∃m,W 0 m σ H)/\∀i m σ H,W i m σ H->
  ((RV K a).stop i H/\D.nx σ H)\/((RV K a).go i H/\∃N:L2.St->Hp->Prop,(∀σ' H',N σ' H'->∃m',m'<m/\W (i+1) m' σ' H')/\∀x H',(RV K a).GG i H x H'->g x σ H' λσ2 H2=>tb {D with nx:=N,ct:=N,bk:=D.nx} σ2 H2):=by
 refine⟨λi m σ H=>m=xs.length - i/\i<=xs.length/\Pv i σ H,⟨xs.length,by simp,a_ _,h0⟩,?_⟩;rintro i m σ H ⟨rfl,hi,p⟩;have q:=hl i σ H hi p;by_cases fD:i<xs.length
 .refine .inr ⟨⟨xs,xs[i],q,by simp[fD]⟩,Pv (i+1),λσ' H' p'=>⟨xs.length - (i+1),by omega,rfl,fD,p'⟩,λx H' y=>?_⟩;obtain⟨T,z,rfl,hT,rfl,y⟩:=y;exact hs i z σ _ T (y xs q) p hT
 .have e:i=xs.length:=by omega
  subst e;exact .inl ⟨⟨xs,q,aS _⟩,hd σ H p⟩
variable{p:Addr}{u:HO}
theorem aE(hp:H p=Option.none):aD H (upd H p u):=λb o e=>by rw[az (bc e hp)];exact e
variable{H':Hp}
theorem _root_.L2.aD.new(s:aD H H')(hp:H' p=Option.none):aD H (upd H' p u):=s.trans (aE hp)
theorem _root_.L2.aD.put(s:aD H H')(hp:H p=Option.none):aD H (upd H' p u):=λb o e=>by rw[az (bc e hp)];exact s b o e
theorem a9{q:Addr}{o:HO}(h:H p=some o)(hq:H q=Option.none):upd H q u p=some o:=aE hq p o h
variable{n:Nat}
theorem dC(h:n<=100000):n<=sizeLine:=bq h (by decide)
theorem eO(h:n<100000):n<sizeLine:=dH h (by decide)
theorem aW:1<=sizeLine:=by decide
theorem aH{p:Prop}[Decidable p](h:decide p=true):p:=i4 h
theorem cI{p:Prop}[Decidable p](h:¬decide p=true):¬p:=λq=>h (aR q)
variable{i:Nat}
theorem get_map{α β:Type}{f:α->β}{xs:List α}{y:β}(h:(xs.map f)[i]?=some y):∃x,xs[i]?=some x/\y=f x:=by
 rw[gX] at h;cases e:xs[i]? with
 |none=>rw[e] at h;cases h
 |some x=>rw[e] at h;exact⟨x,rfl,(di h).symm⟩
theorem take_snoc{α:Type}{l:List α}{x:α}(h:l[i]?=some x):l.take (i+1)=l.take i++[x]:=by rw[G4,h];rfl
def V8(t:TE):TE:=λσ H Q=>t σ H λx H1=>∃d u,x= .ref d/\H1 d=some u/\Kq (some u)/\∀od,Q x (upd H1 d (.jO od u))
theorem Pw{t:TE}(h:PE X e t):PE X e (V8 t):=by intro aq s σ H Q I hw;refine dU (h aq s σ H _ I hw) λv s1 ⟨x,H1,I1,r,d,u,ex,hd,mu,q⟩=>?_;obtain⟨od,I2⟩:=I1.lock hd mu;exact⟨x,_,I2,r,q od⟩
variable{te:TE}{H1:Hp}
theorem f9{α:Type}{ys:List α}{v:α->V}{tt:TT}{vs:List Nat}{D:Addr}{Q:Hp->Prop}(f:α->Option V)(ha:bf K H1 a (ys.map v))(hD:H1 D=none)(hz:ys.length<sizeLine)(hs:∀(i:Nat)(x:α)(H:Hp),ys[i]?=some x->aD H1 H->∀(R:V->Hp->Prop)(R0:Hp->Prop),(∀y H',aD H H'->f x=some y->R y H')->(∀H',aD H H'->f x=none->R0 H')->
 g (v x) (wipe σ vs) H λσ2 H2=>wipe σ2 vs=wipe σ vs/\tt σ2 H2 λb H3=>if b=true then te σ2 H3 R else R0 H3)(hd:∀H,aD H1 H->H D=some (.lst (ys.filterMap f))->Q H):
 ∃W:Nat->Nat->Hp->Prop,(∃m,W 0 m (upd H1 D (.lst [])))/\∀i m H,W i m H->
  ((Hf K a).stop i H/\Q H)\/((Hf K a).go i H/\∃Nx:Hp->Prop,(∀H',Nx H'->∃m',m'<m/\W (i+1) m' H')/\∀x H',(Hf K a).GG i H x H'->g x (wipe σ vs) H' λσ2 H2=>wipe σ2 vs=wipe σ vs/\tt σ2 H2 λb H3=>if b=true then te σ2 H3 λy H4=>∃acc,H4 D=some (.lst acc)/\acc.length<sizeLine/\Nx (upd H4 D (.lst (acc++[y]))) else Nx H3):=by
 refine Ee (K:=K) (a:=a) (xs:=ys.map v) (λi H=>aD H1 H/\H D=some (.lst ((ys.take i).filterMap f))) ⟨aE hD,ah⟩ (λi H _ ⟨s,_⟩=>s.seq ha) (λi x H hx ⟨s,hH⟩=>?_) (λH ⟨s,hH⟩=>hd H s (by rw[aT,fm] at hH;exact hH));obtain⟨y,hy,rfl⟩:=get_map hx;refine hs i y H hy s _ _ (λz H' s2 e=>⟨_,s2 _ _ hH,?_,(s.trans s2).put hD,?_⟩) (λH' s2 e=>⟨s.trans s2,?_⟩)
 .refine u0 (DH _ _) (u0 ?_ hz);rw[bj];exact zU _ _
 .rw[ah,take_snoc hy,Km];simp[e]
 .rw[s2 _ _ hH,take_snoc hy,Km];simp[e]
theorem Bd{R:V->Hp->Prop}{R0:Hp->Prop}(h:te σ H R):RI σ H λb H3=>if b=true then te σ H3 R else R0 H3:=by show(if true=true then te σ H R else R0 H);exact eG h
variable{f:Str}
theorem eg{ta:TE}(hK:X.K=K)(he:PE X e ta)(hb:attributeBase e f X.env (eval e X.env)=eval e X.env):PE X (.Attribute e f pos) (xm K ta f):=by subst hK;exact aB he hb
theorem oB(hK:X.K=K):RB X (Ft K):=by subst hK;exact aJ
theorem xw(hK:X.K=K):qQ X (.builtin "len") (λxs H Q=>∃p ys,xs=[.ref p]/\(bf K H p ys\/iu K H p ys)/\Q (.int ys.length) H):=by subst hK;exact qS
theorem CY(hK:X.K=K):qF X (compareOp .In) (TY K false):=by subst hK;exact Fv
theorem EG{k:Nat}{t:ML}(hK:X.K=K)(hc:X.calm=true)(h:Rn X es t)(hn:(assignEach es X.env).length=n:=by rfl)(m5:(assignEach es X.env).findIdx? (·.1)=none:=by rfl):PG X (.Tuple es k pos) (Rp K n t):=by subst hK;exact nD hc h hn m5
def b2(b:Bool):Int:=if b=true then 1 else 0
def ur:Option Nat->V
 |none=> .fb
 |some i=> .int (i:Nat)
def aU(t:List Int):List V:=t.map V.int
def aI(t:List Nat):List V:=t.map λc:Nat=>V.int (c:Int)
theorem gO(t:List Nat):aI t=aU (t.map λc:Nat=>(c:Int)):=by unfold aI aU;rw[iq];rfl
theorem aF(t:List Nat):(aI t).length=t.length:=aT _
theorem bB(t:List Int):(aU t).length=t.length:=aT _
def nf(x:Nd)(t:Addr):List (Str×V):=[("number",.int x.number),("cell",.int (b2 x.cell)),("depth",.int x.depth),("text",.ref t),("folded",.int (b2 x.folded))]
def bW(C:Addr)(H:Hp)(a:Addr)(x:Nd):Prop:=∃dx t,H a=some (.ins C dx (nf x t))/\H t=some (.lst (aI x.text))
structure NL(C:Addr)(H:Hp)(l:Addr)(as:List Addr)(o:O):Prop where
 lst:H l=some (.lst (as.map V.ref))
 len:as.length=o.length
 sm:o.length<=1000
 at_:∀(i:Nat)(a:Addr)(x:Nd),as[i]?=some a->o[i]?=some x->bW C H a x
theorem bW.same{x:Nd}(h:bW C H a x)(s:aD H H'):bW C H' a x:=by obtain⟨dx,t,h1,h2⟩:=h;exact⟨dx,t,s _ _ h1,s _ _ h2⟩
theorem NL.same{C:Addr}{H H':Hp}{l:Addr}{as:List Addr}{o:O}(h:NL C H l as o)(s:aD H H'):NL C H' l as o:=
 ⟨s _ _ h.lst,h.len,h.sm,λi a x ha hx=>(h.at_ i a x ha hx).same s⟩
variable{l:Addr}{as:List Addr}{o:O}
theorem NL.get(h:NL C H l as o){x:Nd}(hx:o[i]?=some x):∃a,as[i]?=some a/\(as.map V.ref)[i]?=some (.ref a)/\bW C H a x:=by
 have hi:i<as.length:=by rw[h.len];exact(dm.mp hx).1
 refine⟨as[i],c_ hi,?_,h.at_ i _ x (c_ hi) hx⟩;rw[gX,c_ hi];rfl
theorem NL.item(h:NL C H l as o){v:V}(hv:(as.map V.ref)[i]?=some v):∃a x,v= .ref a/\as[i]?=some a/\o[i]?=some x/\bW C H a x:=by
 obtain⟨a,ha,rfl⟩:=get_map hv;have hi:i<o.length:=by rw[<-h.len];exact(dm.mp ha).1
 exact⟨a,o[i],rfl,ha,c_ hi,h.at_ i a _ ha (c_ hi)⟩
theorem NL.gW(N:NL C H l as o):(as.map V.ref).length=o.length:=by rw[aT,N.len]
theorem NL.sz(N:NL C H l as o):(as.map V.ref).length<sizeLine:=by rw[N.gW];exact eO (by have:=N.sm;omega)
theorem NL.sub(N:NL C H l as o)(s:aD H H')(m n:Nat)(hp:H' p=some (.lst (((as.drop m).take n).map V.ref))):NL C H' p ((as.drop m).take n) ((o.drop m).take n) where
 lst:=hp
 len:=by rw[bj,bj,dD,dD,N.len]
 sm:=by rw[bj,dD];have:=N.sm;omega
 at_:=λi a x ha hx=>by
  rw[Fc] at ha hx;by_cases h:i<n
  .rw[ao h,xi] at ha hx;exact(N.at_ _ a x ha hx).same s
  .rw[ak h] at ha;cases ha
theorem uJ{β:Type}:∀{as:List Addr}{o:List β},as.length=o.length->as.map V.ref=(as.zip o).map λp=>V.ref p.1
 |[],[],_=>rfl
 |a::as,x::o,h=>by rw[cA,List.zip_cons_cons,cA,uJ (by simpa using h)]
theorem uK{β:Type}:∀{as:List Addr}{o:List β},as.length=o.length->(as.zip o).map (·.2)=o
 |[],[],_=>rfl
 |a::as,x::o,h=>by rw[List.zip_cons_cons,cA,uK (by simpa using h)]
theorem CZ{β:Type}{o:List β}(h:as.length=o.length)(f:β->Option V):(as.zip o).filterMap (λp=>f p.2)=o.filterMap f:=by
 conv=>rhs;rw[<-uK h]
 rw[List.filterMap_map];rfl
theorem qi{β:Type}{o:List β}{p:Addr×β}(h:(as.zip o)[i]?=some p):as[i]?=some p.1/\o[i]?=some p.2:=by rw[NT] at h;exact h
theorem NL.at2(N:NL C H l as o){p:Addr×Nd}(h:(as.zip o)[i]?=some p):bW C H p.1 p.2:=N.at_ i _ _ (qi h).1 (qi h).2
theorem NL.zip{C:Addr}{H:Hp}{l:Addr}{as:List Addr}{o:O}(N:NL C H l as o){K:PySem.W.Frag}:bf K H l ((as.zip o).map λp=>V.ref p.1):=by rw[<-uJ N.len];exact bf.of N.lst
theorem NL.Lp(N:NL C H l as o):(as.zip o).length<sizeLine:=by have:=N.sz;rw[uJ N.len,aT] at this;exact this
theorem NL.filter{C:Addr}{H H':Hp}{l p:Addr}{as:List Addr}{o:O}(N:NL C H l as o)(s:aD H H')(c:Nd->Bool)(hp:H' p=some (.lst ((as.zip o).filterMap λp=>if c p.2=true then some (V.ref p.1) else none))):
 ∃kq,NL C H' p kq (o.filter c):=by
 have e1:∀(z:List (Addr×Nd)),(z.filterMap λp=>if c p.2=true then some (V.ref p.1) else none)=(((z.filter λp=>c p.2)).map (·.1)).map V.ref:=by
  intro z;induction z with
  |nil=>rfl
  |cons a z ih=>
   by_cases h:c a.2=true
   .rw[rR,rS,ao h,ao h,ih];rfl
   .rw[rR,rS,ak h,ak h,ih]
 have e2:((as.zip o).filter λp=>c p.2).map (·.2)=o.filter c:=by
  conv=>rhs;rw[<-uK N.len]
  rw[List.filter_map];rfl
 refine⟨((as.zip o).filter λp=>c p.2).map (·.1),by rw[hp,e1],?_,bq (lE _ _) N.sm,λi a x ha hx=>?_⟩
 .rw[<-e2,aT,aT]
 .rw[<-e2,gX] at hx;rw[gX] at ha;cases e:((as.zip o).filter λp=>c p.2)[i]? with
  |none=>rw[e] at ha;cases ha
  |some q=>rw[e] at ha hx;cases ha;cases hx;have hm:=(gY.mp (cJ e)).1;obtain⟨j,hj⟩:=xj hm;exact(N.at2 hj).same s
theorem yh(h:as.length=o.length)(c:Nd->Bool):((as.zip o).filterMap λp=>if c p.2=true then some (V.ref p.1) else none).length=(o.filter c).length:=by
 conv=>rhs;rw[<-uK h]
 generalize as.zip o=z;induction z with
 |nil=>rfl
 |cons a z ih=>
  by_cases hc:c a.2=true
  .rw[rR,cA,rS,ao hc,ao hc,cn,cn,ih]
  .rw[rR,cA,rS,ak hc,ak hc,ih]
structure Txt(K:PySem.W.Frag)(mg:Str->Option Value)(C CO CC:Addr):Prop where
 cl:tO K C
 zF:tO K CO
 QG:tO K CC
 zm:cb K C "number"
 M6:cb K C "cell"
 C0:cb K C "depth"
 EH:cb K C "text"
 mC:cb K C "folded"
 j7:cb K CO "nodes"
 wj:cb K CO "next_number"
 nName:cb K CC "name"
 EI:cb K CC "wholes"
 Si:cb K CC "row"
 ne1:C≠CO
 ne2:CC≠C
 ne3:CC≠CO
 len:mg "len"=none
 enumerate:mg "enumerate"=none
 any:mg "any"=none
 all:mg "all"=none
 range:mg "range"=none
 sorted:mg "sorted"=none
 str:mg "str"=none
 ord:mg "ord"=none
 list:mg "list"=none
 reversed:mg "reversed"=none
 gi:∀{x:Str}{i:Int},IB.lookup x=some i->GI mg x i
 gs:∀{x y:Str},M5.lookup x=some y->GS mg x y
variable{z:Int}
variable{ob dx:Addr}{s:State}
section
variable{K:PySem.W.Frag}{mg:Str->Option Value}{C CO CC:Addr}{H:Hp}{R:V->Prop}{a:Addr}{x:Nd}
theorem wk{v:Nd->Addr->V}(T:Txt K mg C CO CC)(hn:cb K C f)(hv:∀x t,(nf x t).lookup f=some (v x t))(n:bW C H a x)(q:∀t,H t=some (.lst (aI x.text))->R (v x t)):
 ∃(a' C' dx:Addr)(fs:List (Str×V))(v':V),V.ref a= .ref a'/\H a'=some (.ins C' dx fs)/\tO K C'/\cb K C' f/\fs.lookup f=some v'/\R v':=by
 obtain⟨dx,t,h1,h2⟩:=n;exact⟨a,C,dx,_,_,rfl,h1,T.cl,hn,hv x t,q t h2⟩
theorem bX(T:Txt K mg C CO CC)(n:bW C H a x)(q:R (.int x.number)):∃(a' C' dx:Addr)(fs:List (Str×V))(v':V),V.ref a= .ref a'/\H a'=some (.ins C' dx fs)/\tO K C'/\cb K C' "number"/\fs.lookup ("number":Str)=some v'/\R v':=
 wk (v:=λx _=> .int x.number) T T.zm (λ_ _=>rfl) n λ_ _=>q
theorem fH(T:Txt K mg C CO CC)(n:bW C H a x)(q:R (.int (b2 x.cell))):∃(a' C' dx:Addr)(fs:List (Str×V))(v':V),V.ref a= .ref a'/\H a'=some (.ins C' dx fs)/\tO K C'/\cb K C' "cell"/\fs.lookup ("cell":Str)=some v'/\R v':=
 wk (v:=λx _=> .int (b2 x.cell)) T T.M6 (λ_ _=>rfl) n λ_ _=>q
theorem bp(T:Txt K mg C CO CC)(n:bW C H a x)(q:R (.int x.depth)):∃(a' C' dx:Addr)(fs:List (Str×V))(v':V),V.ref a= .ref a'/\H a'=some (.ins C' dx fs)/\tO K C'/\cb K C' "depth"/\fs.lookup ("depth":Str)=some v'/\R v':=
 wk (v:=λx _=> .int x.depth) T T.C0 (λ_ _=>rfl) n λ_ _=>q
theorem iJ(T:Txt K mg C CO CC)(n:bW C H a x)(q:R (.int (b2 x.folded))):∃(a' C' dx:Addr)(fs:List (Str×V))(v':V),V.ref a= .ref a'/\H a'=some (.ins C' dx fs)/\tO K C'/\cb K C' "folded"/\fs.lookup ("folded":Str)=some v'/\R v':=
 wk (v:=λx _=> .int (b2 x.folded)) T T.mC (λ_ _=>rfl) n λ_ _=>q
theorem iT(T:Txt K mg C CO CC)(n:bW C H a x)(q:∀t,H t=some (.lst (aI x.text))->R (.ref t)):∃(a' C' dx:Addr)(fs:List (Str×V))(v':V),V.ref a= .ref a'/\H a'=some (.ins C' dx fs)/\tO K C'/\cb K C' "text"/\fs.lookup ("text":Str)=some v'/\R v':=
 wk (v:=λx t=> .ref t) T T.EH (λ_ _=>rfl) n q
theorem C1(h:i<o.length):o[i]?=some (nd o i):=by rw[c_ h,vQ (c_ h)]
theorem c6(N:NL C H l as o)(hz:z=(i:Int))(hi:i<o.length)(q:∀a,as[i]?=some a->bW C H a (nd o i)->R (.ref a)):
 ∃(p:Addr)(xs:List V)(i':Int)(v:V),V.ref l= .ref p/\V.int z= .int i'/\bf K H p xs/\B4 xs i'=some v/\R v:=by
 obtain⟨a,h1,h2,h3⟩:=N.get (C1 hi);exact⟨l,_,z,.ref a,rfl,rfl,bf.of N.lst,at_of hz h2,q a h1 h3⟩
theorem bH{v:V}(h:H l=some (.lst xs))(hz:z=(i:Int))(hi:xs[i]?=some v)(q:R v):
 ∃(p:Addr)(xs:List V)(i':Int)(v:V),V.ref l= .ref p/\V.int z= .int i'/\bf K H p xs/\B4 xs i'=some v/\R v:=
 ⟨l,_,z,v,rfl,rfl,bf.of h,at_of hz hi,q⟩
def yi(n:Nat)(l:Addr):List (Str×V):=[("nodes",.ref l),("next_number",.int n)]
structure ba(C CO:Addr)(H:Hp)(ob dx l:Addr)(as:List Addr)(s:State):Prop where
 at_:H ob=some (.ins CO dx (yi s.next l))
 N:NL C H l as s.nodes
theorem ba.same{H':Hp}{ob dx l:Addr}{as:List Addr}{s:State}(h:ba C CO H ob dx l as s)(e:aD H H'):ba C CO H' ob dx l as s:=⟨e _ _ h.at_,h.N.same e⟩
theorem aV(T:Txt K mg C CO CC)(n:ba C CO H ob dx l as s)(q:R (.ref l)):∃(a' C' dx:Addr)(fs:List (Str×V))(v':V),V.ref ob= .ref a'/\H a'=some (.ins C' dx fs)/\tO K C'/\cb K C' "nodes"/\fs.lookup ("nodes":Str)=some v'/\R v':=
 ⟨ob,CO,dx,_,_,rfl,n.at_,T.zF,T.j7,rfl,q⟩
theorem mD(T:Txt K mg C CO CC)(n:ba C CO H ob dx l as s)(q:R (.int s.next)):∃(a' C' dx:Addr)(fs:List (Str×V))(v':V),V.ref ob= .ref a'/\H a'=some (.ins C' dx fs)/\tO K C'/\cb K C' "next_number"/\fs.lookup ("next_number":Str)=some v'/\R v':=
 ⟨ob,CO,dx,_,_,rfl,n.at_,T.zF,T.wj,rfl,q⟩
end
def dS:Pos:=⟨389,32,389,57⟩
def dw:Str:="sort_children.<locals>.<lambda>"
def sP(H:Hp)(P:Addr):Prop:=∃ps:Array Value,H P=some (.o1 ps)/\TriplesOk ps.toList/\(codeAmong dS ps.toList=none\/∃c:Addr,codeAmong dS ps.toList=some (.ref c)/\H c=some (.ext λh=>h.CodeRec (.ref c) dw))
theorem sP.same{P:Addr}(t:sP H P)(s:aD H H'):sP H' P:=by
 obtain⟨ps,h1,h2,h3⟩:=t;refine⟨ps,s _ _ h1,h2,?_⟩;rcases h3 with h3|⟨c,h3,h4⟩
 .exact .inl h3
 .exact .inr ⟨c,h3,s _ _ h4⟩
structure Fr(C CO:Addr)(H H':Hp):Prop where
 keep:∀b o,H b=some o->(∀dx fs,o≠ .ins C dx fs)->(∀dx fs,o≠ .ins CO dx fs)->(∀ps,o≠ .o1 ps)->H' b=some o
 tab:∀P,sP H P->sP H' P
variable{CO:Addr}
theorem _root_.L2.aD.fr(s:aD H H'):Fr C CO H H':=⟨λb o e _ _ _=>s b o e,λP t=>t.same s⟩
variable{H2:Hp}
theorem Fr.trans(a:Fr C CO H H1)(b:Fr C CO H1 H2):Fr C CO H H2:=⟨λc o h n1 n2 n3=>b.keep c o (a.keep c o h n1 n2 n3) n1 n2 n3,λP t=>b.tab P (a.tab P t)⟩
theorem Fr.lst{C CO:Addr}{H H':Hp}(f:Fr C CO H H'){a:Addr}{xs:List V}(h:H a=some (.lst xs)):H' a=some (.lst xs):=f.keep _ _ h (λ_ _ e=>nomatch e) (λ_ _ e=>nomatch e) (λ_ e=>nomatch e)
def ek(C CO:Addr)(H:Hp)(ob:Addr)(r:State×Answer)(Q:VK):Prop:=
 ∀H' p dx l as,Fr C CO H H'->ba C CO H' ob dx l as r.1->H' p=some (.lst (aU (encode r.2)))->Q (.ref p) H'
variable{r:State×Answer}{Q:VK}
theorem ek.told(k:ek C CO H ob r Q)(hO:ba C CO H ob dx l as s)(h1:r.1=s)(s2:aD H H2)(hp:H2 p=some (.lst xs))(e:xs=aU (encode r.2)):Q (.ref p) H2:=by refine k H2 p dx l as s2.fr ?_ (by rw[hp,e]);rw[h1];exact hO.same s2
theorem ek.refuse{n:Int}(k:ek C CO H ob r Q)(hO:ba C CO H ob dx l as s)(e:r=refused s n)(s2:aD H H2)(hp:H2 p=none):Q (.ref p) (upd H2 p (.lst [.int n])):=by refine k.told hO (s:=s) (by rw[e];rfl) (s2.new hp) ah ?_;rw[e];rfl
end Ob
namespace Ob
open PySem PySem.Spec PyProof.Rows L2
open PySem.W (CodeHd kla_obj kla_fn kla_eval kla_makeFunction kla_makeFunctionHit kla_callFunE kla_codeExpr tabObj)
def wm:Arguments:={posonlyargs:=[],args:=[{arg:="tree",annotation:=none,pos:=⟨389,39,389,43⟩}],vararg:=none,kwonlyargs:=[],kw_defaults:=[],kwarg:=none,defaults:=[]}
def o9:Expr:= .Attribute (.Subscript (.Name "tree" ⟨389,45,389,49⟩) (.Constant (.int 0) 0 ⟨389,50,389,51⟩) ⟨389,45,389,52⟩) "text" ⟨389,45,389,57⟩
def fR:Scope:={kind:= .function,names:=[("tree",.local)],isGenerator:=false,isCoroutine:=false,more:=[]}
abbrev gG(pm:Value)(c:Addr)(ct:Value):Obj:=kla_obj "<lambda>" dw wm o9 fR [] pm c ct
structure M_(H:Hp)(f c:Addr)(pm ct:Value):Prop where
 fn:H f=some (.ext λh=>h.get? f=some (gG pm c ct))
 cd:H c=some (.ext λh=>h.CodeRec (.ref c) dw)
structure oC(TP:Addr)(H H':Hp):Prop where
 keep:∀b o,H b=some o->b≠TP->H' b=some o
 tab:sP H' TP
def xx(mg:Str->Option Value)(base:Heap):Prop:=∃bm ob,mg "__builtins__"=some (.ref bm)/\bm≠builtinsNs/\base.get? bm=some ob/\ob.cls= .type "module"/\ob.dict=some builtinsNs/\ob.data= .plain
variable{P:Program}{w:World}{H:Hp}{h:Heap}{c:Addr}
theorem ID{q:Str}(hr:h.CodeRec (.ref c) q):dj P w H h c (.ext λh=>h.CodeRec (.ref c) q):=by
 refine⟨hr,?_,λh1 h2 a k=>?_⟩
 .obtain⟨c',o,vs,t,e,g,_⟩:=hr;cases e;exact⟨o,g⟩
 .obtain⟨c',o,vs,t,e,g,r⟩:=a;cases e;exact⟨_,o,vs,t,rfl,k o g,r⟩
variable{f:Addr}
theorem EJ{o:Obj}(hg:h.get? f=some o):dj P w H h f (.ext λh=>h.get? f=some o):=⟨hg,⟨o,hg⟩,λh1 h2 a k=>k o a⟩
section
variable{X:Cx}{aq:List (Addr×Obj)}{σ:L2.St}{H:Hp}{s:Shared}
theorem IE{TP:Addr}{E:Value->Shared->Prop}{Q:Value->Shared->Prop}(I:Inv X aq σ H s)(T:sP H TP)(EK:X.env.code= .ref c)(CH:CodeHd X.base c TP)(hq:X.env.qual++Str.ofString "<lambda>"=dw)(B:xx X.mg X.base)(h:∀(s':Shared)(H':Hp)(f c':Addr)(pm ct:Value),Inv X aq σ H' s'->oC TP H H'->M_ H' f c' pm ct->Q (.ref f) s'):wpAny (model X.prog X.w) X.A (eval (.Lambda wm o9 fR dS) X.env) Q E s:=by
 obtain⟨ps,hP,ht,Sj⟩:=T;have Ue:s.heap.get? TP=some (tabObj ps):=I.cx TP _ hP;have Ug:s.heap.Ns mainGlobals X.mg:=I.mod.glob.keeps I.bk;obtain⟨bm,ob,b1,b2,b3,b4,b5,b6⟩:=B;have ZT:mainGlobals≠TP:=λq=>by obtain⟨o,es,ep,e,hd,_⟩:=Ug;rw[q,Ue] at e;cases e;cases hd
 have ZU:bm≠TP:=λq=>by have e:=I.bk _ _ b3;rw[q,Ue] at e;cases e;cases b4
 have ZV:bm≠mainGlobals:=λq=>by obtain⟨o,es,ep,e,hd,_⟩:=Ug;have e2:=I.bk _ _ b3;rw[q,e] at e2;cases e2;rw[hd] at b6;cases b6
 have X0:s.heap.BuiltinsAt X.mg TP:=⟨bm,ob,b1,b2,ZV,ZU,I.bk _ _ b3,b4,b5,b6⟩;refine kla_eval rfl ?_;rw[hq];rcases Sj with hn|⟨c0,hf,IF⟩
 .refine kla_makeFunction (mg:=X.mg) (c:=c) (P:=TP) (ps:=ps) (clos:=[]) rfl I.ok.glob Ug EK (CH.keeps I.bk) Ue ht hn ZT X0 λc' Be h' tk hx kL fD IG ZW=>?_;have Px:H c'=none:=I.cx.fresh kL;have Sk:H h'.objs.size=none:=I.cx.fresh (bq kL (eX fD));have ZX:c'≠TP:=λq=>by rw[q,hP] at Px;cases Px
  have ZY:h'.objs.size≠TP:=λq=>by rw[q,hP] at Sk;cases Sk
  have ZZ:h'.objs.size≠c':=u1 fD;generalize Uh:h'.push (kla_obj (Str.ofString "<lambda>") dw wm o9 fR [] ((X.mg (Str.ofString "__name__")).getD .none) c' Be)=h3;have kp:∀b o,b≠TP->s.heap.get? b=some o->h3.get? b=some o:=λb o n e=>by rw[<-Uh];exact gq _ (hx b o n e)
  have J_:h3.get? TP=some (tabObj (ps++#[rawInt dS.line,rawInt dS.col,.ref c'])):=by rw[<-Uh];exact gq _ ZW
  have Z0:h3.get? h'.objs.size=some (gG ((X.mg (Str.ofString "__name__")).getD .none) c' Be):=by rw[<-Uh];exact jD _ rfl
  have Z1:h3.CodeRec (.ref c') dw:=by rw[<-Uh];exact IG.push _
  have nT:∀b u,H b=some u->(∀qs,u≠ .o1 qs)->b≠TP:=λb u e n q=>by rw[q,hP] at e;exact n _ (di e).symm
  have e3:∀b u,H b=some u->b≠TP->(upd (upd (upd H c' (.ext λh=>h.CodeRec (.ref c') dw)) TP (.o1 (ps++#[rawInt dS.line,rawInt dS.col,.ref c']))) h'.objs.size (.ext λh=>h.get? h'.objs.size=some (gG ((X.mg (Str.ofString "__name__")).getD .none) c' Be))) b=some u:=λb u e n=>by rw[az (bc e Sk),az n,az (bc e Px)];exact e
  have n3:∀b o,s.heap.get? b=some o->H b=none->(upd (upd (upd H c' (.ext λh=>h.CodeRec (.ref c') dw)) TP (.o1 (ps++#[rawInt dS.line,rawInt dS.col,.ref c']))) h'.objs.size (.ext λh=>h.get? h'.objs.size=some (gG ((X.mg (Str.ofString "__name__")).getD .none) c' Be))) b=none:=λb o e n=>by have hb:=dh e;rw[az (cE (dH hb (bq kL (eX fD)))),az (λq=>by rw[q,hP] at n;cases n),az (cE (dH hb kL))];exact n
  have eT:(upd (upd (upd H c' (.ext λh=>h.CodeRec (.ref c') dw)) TP (.o1 (ps++#[rawInt dS.line,rawInt dS.col,.ref c']))) h'.objs.size (.ext λh=>h.get? h'.objs.size=some (gG ((X.mg (Str.ofString "__name__")).getD .none) c' Be))) TP=some (.o1 (ps++#[rawInt dS.line,rawInt dS.col,.ref c'])):=by rw[az ZY.symm,ah]
  have eC:(upd (upd (upd H c' (.ext λh=>h.CodeRec (.ref c') dw)) TP (.o1 (ps++#[rawInt dS.line,rawInt dS.col,.ref c']))) h'.objs.size (.ext λh=>h.get? h'.objs.size=some (gG ((X.mg (Str.ofString "__name__")).getD .none) c' Be))) c'=some (.ext λh=>h.CodeRec (.ref c') dw):=by rw[az ZZ.symm,az ZX,ah]
  have eF:(upd (upd (upd H c' (.ext λh=>h.CodeRec (.ref c') dw)) TP (.o1 (ps++#[rawInt dS.line,rawInt dS.col,.ref c']))) h'.objs.size (.ext λh=>h.get? h'.objs.size=some (gG ((X.mg (Str.ofString "__name__")).getD .none) c' Be))) h'.objs.size=some (.ext λh=>h.get? h'.objs.size=some (gG ((X.mg (Str.ofString "__name__")).getD .none) c' Be)):=ah;have only:∀b u,(upd (upd (upd H c' (.ext λh=>h.CodeRec (.ref c') dw)) TP (.o1 (ps++#[rawInt dS.line,rawInt dS.col,.ref c']))) h'.objs.size (.ext λh=>h.get? h'.objs.size=some (gG ((X.mg (Str.ofString "__name__")).getD .none) c' Be))) b=some u->b≠h'.objs.size->b≠TP->b≠c'->H b=some u:=λb u e n1 n2 n3=>by rw[az n1,az n2,az n3] at e;exact e
  generalize upd (upd (upd H c' (.ext λh=>h.CodeRec (.ref c') dw)) TP (.o1 (ps++#[rawInt dS.line,rawInt dS.col,.ref c']))) h'.objs.size (.ext λh=>h.get? h'.objs.size=some (gG ((X.mg (Str.ofString "__name__")).getD .none) c' Be))=H3 at e3 n3 eT eC eF only;have un:Un X.fs [] H H3 s.heap h3:=by
   have nb:∀b,H b=none->b≠TP:=λb n q=>by rw[q,hP] at n;cases n
   refine⟨λb o e n _ _=>kp b o (nb b n) e,λb o e n _ _=>⟨o.slots,kp b o (nb b n) e⟩,λb o e n _=>n3 b o e n,λb o e _=>?_,λb xs e=>e3 b _ e (nT b _ e λqs q=>nomatch q),λb o u e=>e3 b _ e (nT b _ e λqs q=>nomatch q),λb qs e=>?_⟩
   .by_cases hb:b=TP
    .exact⟨_,by rw[hb];exact J_⟩
    .exact⟨o,kp b o hb e⟩
   .by_cases hb:b=TP
    .rw[hb,hP] at e;cases e;exact⟨_,by rw[hb];exact eT⟩
    .exact⟨#[],by rw[e3 b _ e hb];simp⟩
  have cx:nj X.prog X.w H3 h3:=λb u e=>by
   by_cases V9:b=h'.objs.size
   .rw[V9,eF] at e;cases e;rw[V9];exact EJ Z0
   .by_cases QH:b=TP
    .rw[QH,eT] at e;cases e;rw[QH];exact J_
    .by_cases QE:b=c'
     .rw[QE,eC] at e;cases e;rw[QE];exact ID Z1
     .have e0:=only b u e V9 QH QE;refine(I.cx b u e0).ui (λa v ha q=>kp a v ?_ q) (λa q=>e3 a _ q (nT a _ q λqs z=>nomatch z)) λa xs q=>e3 a _ q (nT a _ q λqs z=>nomatch z);rcases ha with z|z
      .rw[z];exact QH
      .exact nT a _ z λqs z=>nomatch z
  refine h _ H3 h'.objs.size c' ((X.mg (Str.ofString "__name__")).getD .none) Be (I.un (t':=tk) un cx) ⟨λb o e n=>e3 b o e n,⟨_,eT,?_,.inr ⟨c',?_,eC⟩⟩⟩ ⟨eF,eC⟩
  .rw[Tu];exact TriplesOk_snoc _ _ _ _ ht
  .rw[Tu];exact codeAmong_snoc _ ht hn
 .refine kla_makeFunctionHit (mg:=X.mg) (c:=c) (P:=TP) (ps:=ps) (clos:=[]) rfl I.ok.glob Ug EK (CH.keeps I.bk) Ue ht hf X0 λBe h' tk hk hsz=>?_;have new:dj X.prog X.w (upd H h'.objs.size (.ext λh=>h.get? h'.objs.size=some (gG ((X.mg (Str.ofString "__name__")).getD .none) c0 Be))) (h'.push (gG ((X.mg (Str.ofString "__name__")).getD .none) c0 Be)) h'.objs.size (.ext λh=>h.get? h'.objs.size=some (gG ((X.mg (Str.ofString "__name__")).getD .none) c0 Be)):=EJ (jD _ rfl);have Sk:H h'.objs.size=none:=I.cx.fresh hsz;have sm:aD H (upd H h'.objs.size (.ext λh=>h.get? h'.objs.size=some (gG ((X.mg (Str.ofString "__name__")).getD .none) c0 Be))):=aE Sk;refine h _ _ h'.objs.size c0 _ Be (I.laid (t':=tk) (λb u e=>gq _ (hk b u e)) hsz new) ⟨λb o e _=>sm _ _ e,⟨ps,sm _ _ hP,ht,.inr ⟨c0,hf,sm _ _ IF⟩⟩⟩ ⟨ah,sm _ _ IF⟩
theorem wo:aG ["tree"] ["tree"] fR:=⟨rfl,rfl,rfl,by decide+kernel,rfl,by decide+kernel,by decide+kernel⟩
theorem Lq{K:PySem.W.Frag}{mg:Str->Option Value}{base:Heap}{A:Around}{outer:List Env}{s:Shared}{H:Hp}{k:Nat}{p:Addr}{pm ct u:Value}{v r:V}{xs:List V}{a C dx:Addr}{fs:List (Str×V)}(hr:fL (k+1) A)(e0:vm P w K mg base A outer s H)(L:M_ H f c pm ct)(rv:RelV v u)(ev:v= .ref p)(hp:H p=some (.lst (.ref a::xs)))(ha:H a=some (.ins C dx fs))(hC:tO K C)(hN:cb K C "text")(hf:fs.lookup ("text":Str)=some r):
 codeAny (model P w) A (.call (.ref f) ⟨[u],[]⟩) (CR Aw outer P w H s (λv' H'=>v'=r/\H'=H) E0) s:=by
 have lim:s.heap.NoLimit:=e0.mod.nolimit.keeps λb o e=>(e0.bs b o e).1;have Z2:s.heap.get? f=some (gG pm c ct):=(e0.cx f _ L.fn).1;have Z3:s.heap.CodeRec (.ref c) dw:=(e0.cx c _ L.cd).1;have Ho:∀y∈[("tree":Str)].zip [u],fR.names.lookup y.1=some .local\/(fR.names.lookup y.1=some .cell/\((cellsFrom (s.heap.objs.size+1) fR.names []).lookup y.1).isSome=true):=λ⟨n,v⟩ hy=>by
  rcases wo.par n (DJ hy).1 with q|q
  .exact .inl q
  .exact .inr ⟨q,cellsFrom_some _ _ _ (.inl q)⟩
 have rr:Vals [v] [u]:= .cons rv .nil;refine kla_callFunE hr.depth Z2 rfl wo.co wo.gen rfl Z3 ?_;have hb:bindArgs (kla_fn "<lambda>" dw wm o9 fR [] pm (.ref c) ct) ⟨[u],[]⟩=pure ([("tree":Str)].zip [u]):=rfl;rw[hb];refine cY ?_;refine wpAny_newFunctionEnv_cells wo.kind Ho λenv he s1 x=>?_;subst he;refine⟨lim.keeps x.toInCall.keep,kla_codeExpr ?_⟩;have I:Inv (xn Aw P w K mg base ["tree"] dw fR f (.ref c) A outer s H E0) [] (start ["tree"] [v]) H s1:=xQ wo hr.hd e0 rfl rr x;have pe:PE (xn Aw P w K mg base ["tree"] dw fR f (.ref c) A outer s H E0) o9 (xm K (tL (Ft K) (cK 0) (tC (.int 0))) "text"):=aB (MN aJ (pv 0) au (λ_ _=>rfl)) rfl;refine ir (pe [] s1 _ H (λv' H'=>v'=r/\H'=H) I ⟨v,rfl,p,_,0,.ref a,ev,rfl,.inl (.inl hp),bU (j:=0) rfl,a,C,dx,fs,r,rfl,ha,hC,hN,hf,rfl,rfl⟩) (λu' s' hs=>?_) λe s' hs=>hs;obtain⟨v',H',J,Z4,q⟩:=hs;exact⟨v',H',J.os,J.bare,J.base,J.cx,Z4,q⟩
end
end Ob
namespace Ob
open PySem PySem.Spec PyProof.Rows L2
open PySem.W (CodeHd kas_kind)
section
variable{X:Cx}{aq:List (Addr×Obj)}{σ:L2.St}{H:Hp}{s:Shared}
theorem Inv.adopt{D:Addr}{o:HO}(I:Inv X aq σ H s)(hD:X.xb.heap.objs.size<=D)(hn:H D=none)(hL:D≠X.env.locals)(hc:∀x c,X.env.cells.lookup x=some c->c≠D)(hp:∀p∈X.pn++aq,p.1≠D)(new:dj X.prog X.w (upd H D o) s.heap D o):Inv X aq σ (upd H D o) s:=by
 have sm:aD H (upd H D o):=aE hn;refine⟨I.ok,I.os,I.bare,⟨I.base.keep,I.base.slot,λb u e n x=>?_,I.base.there,λb xs e=>sm _ _ (I.base.xk b xs e),λb u v e=>sm _ _ (I.base.uj b u v e),λb ps e=>?_⟩,I.loc,I.cell,?_,λx c e=>?_,λp h=>?_,λb u e=>?_,I.len⟩
 .rw[az (cE (dH (dh e) hD))];exact I.base.free b u e n x
 .obtain⟨more,q⟩:=I.base.u9 b ps e;exact⟨more,sm _ _ q⟩
 .rw[az hL.symm];exact I.free
 .rw[az (hc x c e)];exact I.kC x c e
 .obtain⟨a1,a2,a3⟩:=I.pin p h;exact⟨a1,by rw[az (hp p h)];exact a2,a3⟩
 .by_cases hb:b=D
  .subst hb;rw[ah] at e;cases e;exact new
  .rw[az hb] at e;exact(I.cx b u e).ui (λ_ _ _ q=>q) (λa q=>sm _ _ q) λa xs q=>sm _ _ q
structure V_(X:Cx)(aq:List (Addr×Obj))(H:Hp)(N0:Nat):Prop where
 h:∀b,N0<=b->H b=none
 s0:X.xb.heap.objs.size<=N0
 loc:X.env.locals<N0
 cl:∀x c,X.env.cells.lookup x=some c->c<N0
 pin:∀p∈X.pn++aq,p.1<N0
 st:∀b∈Fh X.stack,b<N0
theorem Inv.Z5(I:Inv X aq σ H s):V_ X aq H s.heap.objs.size where
 h:=λb hb=>I.cx.fresh hb
 s0:=I.sz
 loc:=I.lt
 cl:=λx c e=>by obtain⟨v,hv⟩:=I.cell x c e;obtain⟨o,ho,_⟩:=hv;exact dh ho
 pin:=λp hp=>dh (I.pin p hp).1
 st:=λb hb=>by obtain⟨_,o,ho,_⟩:=I.stack.mem hb;exact dh ho
theorem V_.Z6{N0:Nat}(V:V_ X aq H N0):Pp N0 λs=>Inv X aq σ H s where
 turn:=λs it h' tk I hn k=>I.turned (t':=tk) k (V.h it hn) (u1 (dH V.loc hn)) (.inr (bq V.s0 hn)) (λx c e=>cE (dH (V.cl x c e) hn)) λp hp=>cE (dH (V.pin p hp) hn)
 kept:=λs h' tk I k=>I.kept (t':=tk) k
structure Tk where
 p:Addr
 t:Addr
 key:List Int
 as:List Addr
 o:O
def Tk.At(K:PySem.W.Frag)(H:Hp)(x:Tk):Prop:=∃a xs C dx fs,H x.p=some (.lst (.ref a::xs))/\H a=some (.ins C dx fs)/\tO K C/\cb K C "text"/\fs.lookup ("text":Str)=some (.ref x.t)/\H x.t=some (.lst (aU x.key))
def Tk.less(x y:Tk):Bool:=fQ x.key y.key
theorem yj:∀xs:List Int,fQ xs xs=false
 |[]=>rfl
 |x::xs=>by show(if x=x then fQ xs xs else _)=false;rw[ao rfl];exact yj xs
theorem Bg:∀xs ys zs:List Int,fQ xs ys=true->fQ ys zs=true->fQ xs zs=true
 |[],[],_,h,_=>by cases h
 |[],_::_,[],_,h=>by cases h
 |[],_::_,_::_,_,_=>rfl
 |_::_,[],_,h,_=>by cases h
 |_::_,_::_,[],_,h=>by cases h
 |x::xs,y::ys,z::zs,h,g=>by
  replace h:(if x=y then fQ xs ys else decide (x<y))=true:=h;replace g:(if y=z then fQ ys zs else decide (y<z))=true:=g;show(if x=z then fQ xs zs else decide (x<z))=true;by_cases e1:x=y
  .rw[ao e1] at h;by_cases e2:y=z
   .rw[ao e2] at g;rw[ao (e1.trans e2)];exact Bg xs ys zs h g
   .rw[ak e2] at g;have:=i4 g;rw[ak (by omega)];exact aR (by omega)
  .rw[ak e1] at h;have:=i4 h;by_cases e2:y=z
   .rw[ak (by omega)];exact aR (by omega)
   .rw[ak e2] at g;have:=i4 g;rw[ak (by omega)];exact aR (by omega)
theorem Bh:∀xs ys zs:List Int,fQ xs zs=true->fQ xs ys=true\/fQ ys zs=true
 |[],[],[],h=>by cases h
 |[],[],_::_,_=> .inr rfl
 |[],_::_,_,_=> .inl rfl
 |_::_,_,[],h=>by cases h
 |_::_,[],_::_,_=> .inr rfl
 |x::xs,y::ys,z::zs,h=>by
  replace h:(if x=z then fQ xs zs else decide (x<z))=true:=h;show(if x=y then fQ xs ys else decide (x<y))=true\/(if y=z then fQ ys zs else decide (y<z))=true;by_cases e:x=z
  .rw[ao e] at h;by_cases e1:x=y
   .rw[ao e1,ao (e1.symm.trans e)];exact Bh xs ys zs h
   .rw[ak e1,ak (by omega)];by_cases l:x<y
    .exact .inl (aR l)
    .exact .inr (aR (by omega))
  .rw[ak e] at h;have:=i4 h;by_cases e1:x=y
   .rw[ak (show¬y=z by omega)];exact .inr (aR (by omega))
   .rw[ak e1];by_cases l:x<y
    .exact .inl (aR l)
    .rw[ak (by omega)];exact .inr (aR (by omega))
def M':Tk:=⟨0,0,[],[],[]⟩
theorem IH(ts:List Tk):xf λi j=>Tk.less (ts.getD i M') (ts.getD j M'):=⟨λi=>yj _,λi j k=>Bg _ _ _,λi j k=>Bh _ _ _⟩
theorem yk:∀{as:List Addr}{us:List Value},Vals (as.map V.ref) us->us=as.map Value.ref
 |[],[],_=>rfl
 |a::as,us,h=>by
  cases h with
  |cons r t=>rw[yk t];cases r;rfl
def Py(K:PySem.W.Frag)(TP:Addr)(te:TE):TE:=λσ H Q=>te σ H λv H1=>∃(l:Addr)(ts:List Tk),v= .ref l/\H1 l=some (.lst (ts.map λx=>V.ref x.p))/\ts.length<64/\sP H1 TP/\(∀x∈ts,x.At K H1)/\
 ∀H2 D,oC TP H1 H2->H1 D=none->H2 D=some (.lst ((ts.foldr (jI Tk.less) []).map λx=>V.ref x.p))->Q (.ref D) H2
theorem II{k:Nat}{TP c:Addr}{e:Expr}{te:TE}{p kp pos:Pos}(hg:Gl X "sorted")(hm:X.mg "sorted"=none)(hr:fL (k+3) X.A)(EK:X.env.code= .ref c)(CH:CodeHd X.base c TP)(hq:X.env.qual++Str.ofString "<lambda>"=dw)(B:xx X.mg X.base)(he:PE X e te)(hs:starEach [e] X.env=(false,eval e X.env)::starEach [] X.env:=by rfl):
 PE X (.Call (.Name "sorted" p) [e] [⟨some "key",.Lambda wm o9 fR dS,kp⟩] pos) (Py X.K TP te):=by
 intro aq s σ H Q I h;refine u6 (nA I hg hm FZ ?_);have pa:=aa he ag hs;refine PyProof.Rows.callWith_kw (dU (pa pos aq s σ H (λvs H1=>match vs with
  |[v]=>∃(l:Addr)(ts:List Tk),v=V.ref l/\H1 l=some (.lst (ts.map λx=>V.ref x.p))/\ts.length<64/\sP H1 TP/\(∀x∈ts,x.At X.K H1)/\
  ∀H2 D,oC TP H1 H2->H1 D=none->H2 D=some (.lst ((ts.foldr (jI Tk.less) []).map λx=>V.ref x.p))->Q (.ref D) H2
  |_=>False) I h) λus s1 ⟨vs,H1,I1,r1,q1⟩=>?_) (by rw[hs];rfl) (by rw[hs];rfl) rfl rfl
 match vs,q1 with
 |[v],q1=>
  obtain⟨l,ts,el,hl,zj,T1,HZ,q⟩:=q1;subst el;obtain⟨u,rfl,ru⟩:=vals1 r1;obtain rfl:u=Value.ref l:=ru;refine kws_cons (IE I1 T1 EK CH hq B λs2 H2 f c' pm ct I2 g L=>kws_nil ?_);have W:=Inv.Z5 I2;have Z7:l≠TP:=λz=>by obtain⟨ps,hP,_⟩:=T1;rw[z,hP] at hl;cases hl
  have B6:=g.keep _ _ hl Z7;obtain⟨its,Sl,pl,hz⟩:=I2.list (bf.of B6);have e1:(ts.map λx=>V.ref x.p)=(ts.map (·.p)).map V.ref:=by rw[iq];rfl
  rw[e1] at Sl;obtain rfl:=yk Sl;have nT:∀b xs,H1 b=some (.lst xs)->H2 b=some (.lst xs):=λb xs e=>g.keep _ _ e λz=>by obtain⟨ps,hP,_⟩:=T1;rw[z,hP] at e;cases e
  have nI:∀b C dx fs,H1 b=some (.ins C dx fs)->H2 b=some (.ins C dx fs):=λb C dx fs e=>g.keep _ _ e λz=>by obtain⟨ps,hP,_⟩:=T1;rw[z,hP] at e;cases e
  have Lr:∀x∈ts,x.At X.K H2:=λx hx=>by obtain⟨a,xs,C,dx,fs,h1,h2,h3,h4,h5,h6⟩:=HZ x hx;exact⟨a,xs,C,dx,fs,nT _ _ h1,nI _ _ _ _ h2,h3,h4,h5,nT _ _ h6⟩
  refine FY (J:=λs=>Inv X aq σ H2 s) (ks:=ts.map λx=>Value.ref x.t) W.Z6 (IH ts) I2 pl.isList (by simp) (by simpa using zj) (λi v s3 Q' I3 hv hk=>?_) (λh2 s3 Q' I3 B2=>?_) (λi j s3 Q' I3 hi hj B2=>?_) (λs3 D cc pp I3 hD QI hU M3 Sm=>?_)
  .obtain⟨x,hx,rfl⟩:∃x,ts[i]?=some x/\v=Value.ref x.p:=by
    rw[iq] at hv;rw[gX] at hv;cases e:ts[i]? with
    |none=>rw[e] at hv;cases hv
    |some x=>rw[e] at hv;exact⟨x,rfl,(di hv).symm⟩
   obtain⟨a,xs,C,dx,fs,h1,h2,h3,h4,h5,h6⟩:=Lr x (cJ hx);refine wpAny_call (zZ (Lq (k:=k) (v:= .ref x.p) hr.in1.in1 I3.Ot.in1.in1 L rfl rfl h1 h2 h3 h4 h5) λr s4 QJ=>?_);cases r with
   |error e=>exact QJ.elim
   |ok fl=>
    cases fl with
    |next=>exact QJ.elim
    |brk=>exact QJ.elim
    |cont=>exact QJ.elim
    |ret u=>
     have un:Un (Fh X.stack) [] H2 H2 s3.heap s4.heap:=by obtain⟨v',H',_,_,un,_,_,_,rfl⟩:=QJ;exact un
     obtain⟨v',H',I4,rv,rfl,rfl⟩:=I3.after QJ;obtain rfl:u=Value.ref x.t:=rv;refine hk s4 _ I4 (λb o hb e=>un.keep b o e (W.h b hb) (λz=>mX _ (dH (W.st b z) hb)) (by simp)) ?_;rw[gX,hx];rfl
  .refine kas_kind (T:= .type "list") (by simpa using h2) (λv hv=>?_) rfl rfl B2;obtain⟨x,hx,rfl⟩:=fc.mp hv;obtain⟨a,xs,C,dx,fs,_,_,_,_,_,h6⟩:=Lr x hx;obtain⟨_,its,n,_,e⟩:=I3.cx _ _ h6;exact(Looks.ld e).andThen .now
  .have J8:i<ts.length:=by simpa using hi
   have R_:j<ts.length:=by simpa using hj
   obtain⟨_,_,_,_,_,_,_,_,_,_,k1⟩:=Lr ts[i] (NU J8);obtain⟨_,_,_,_,_,_,_,_,_,_,k2⟩:=Lr ts[j] (NU R_);obtain⟨_,Z8,n1,r1,e1⟩:=I3.cx _ _ k1;obtain⟨_,jb,n2,r2,e2⟩:=I3.cx _ _ k2;have g1:ts.getD i M'=ts[i]:=by rw[uh,c_ J8];rfl
   have g2:ts.getD j M'=ts[j]:=by rw[uh,c_ R_];rfl
   have m1:(ts.map λx=>Value.ref x.t).getD i Value.none= .ref ts[i].t:=by rw[uh,gX,c_ J8];rfl
   have m2:(ts.map λx=>Value.ref x.t).getD j Value.none= .ref ts[j].t:=by rw[uh,gX,c_ R_];rfl
   rw[m1,m2];rw[g1,g2] at B2;exact Po (intsAre_of r1) (intsAre_of r2) (u0 (uY _ _) hr.in1.in1.units) e1 e2 B2
  .have KN:pp.size=ts.length:=by simpa using QI
   have Z9:Up (λi j=>Tk.less (ts.getD i M') (ts.getD j M')) pp ts.length:=by simpa using hU
   have Sn:pp.Perm (List.range ts.length).toArray:=by simpa using M3
   have so:=FU Tk.less M' ts (λi j=>rfl) (IH ts) KN Z9 Sn;have ev:(pp.toList.map λi=>((ts.map (·.p)).map Value.ref).getD i Value.none)=((ts.foldr (jI Tk.less) []).map λx=>Value.ref x.p):=by
    rw[<-so,iq (l:=pp.toList)];refine iX λi hi=>?_;have J8:i<ts.length:=by have:=(Sn.toList.mem_iff (a:=i)).mp hi;simpa using this
    show _=Value.ref (ts.getD i M').p;rw[uh,uh,gX,gX,c_ J8];rfl
   rw[ev] at Sm;have hsz:(ts.foldr (jI Tk.less) []).length=ts.length:=by rw[<-so,aT,QZ,KN]
   have Ad:H2 D=none:=W.h D hD;have GJ:H1 D=none:=by
    cases e:H1 D with
    |none=>rfl
    |some o=>
     by_cases z:D=TP
     .obtain⟨ps,hP,_⟩:=g.tab;rw[z,hP] at Ad;cases Ad
     .rw[g.keep _ _ e z] at Ad;cases Ad
   have new:dj X.prog X.w (upd H2 D (.lst ((ts.foldr (jI Tk.less) []).map λx=>V.ref x.p))) s3.heap D (.lst ((ts.foldr (jI Tk.less) []).map λx=>V.ref x.p)):=by
    refine⟨by rw[aT,hsz];exact dC (by omega),_,cc,?_,Sm⟩;generalize ts.foldr (jI Tk.less) []=zs;induction zs with
    |nil=>exact .nil
    |cons z zs ih=>exact .cons rfl ih
   refine⟨.ref D,_,Inv.adopt I3 (bq W.s0 hD) Ad (u1 (dH W.loc hD)) (λx c e=>cE (dH (W.cl x c e) hD)) (λp hp=>cE (dH (W.pin p hp) hD)) new,rfl,q _ D ⟨λb o e z=>(aE Ad) _ _ (g.keep b o e z),g.tab.same (aE Ad)⟩ GJ ah⟩
end
end Ob
namespace Ob
open PySem PySem.Spec PyProof.Rows L2
structure Tag(P:Program)(w:World)(K:PySem.W.Frag)(mg:Str->Option Value)(base:Heap):Type where
abbrev aZ{P:Program}{w:World}{K:PySem.W.Frag}{mg:Str->Option Value}{base:Heap}(_:Tag P w K mg base)(k:Nat)(x:Str)(ps:List Str)(sp:Sp):Prop:=Ud P w K mg base k x ps sp
section
variable{X:Cx}{x:Str}{a b e:Expr}{es:List Expr}{t:TA}{te ta tb:TE}{p pos pos':Pos}{N ps:List Str}{sc scope:Scope}{C CO CC:Addr}{r:R2}
theorem pc{k k':Nat}{sp:Sp}(G:Ud X.prog X.w X.K X.mg X.base k x ps sp)(hr:fL k' X.A)(ha:PA X (e::es) t)(hk:k<=k':=by decide)(hg:Gl X x:=by rfl)(Af:(x==("__debug__":Str))=false:=by decide)(he:starEach (e::es) X.env=(false,eval e X.env)::starEach es X.env:=by rfl)(rN:(backTo pos (starEach es X.env)).any (·.1)=false:=by rfl):PE X (.Call (.Name x p) (e::es) [] pos) (pD sp [] E0 t):=IA G (hr.mono hk) hg ha Af he rN
theorem bD(i:Nat)(S:aG X.N ps sc)(he:PE X e te)(hi:X.N[i]?=some x:=by rfl)(hx:Loc X.env.scope x:=by first|exact Or.inl rfl|exact Or.inr rfl)(hs:swapsWith e (some (.Name x pos')) pos.line X.env=pure false:=by rfl)(hf:X.fn x=true\/X.env.scope.names.lookup x=some .local:=by first|exact .inl rfl|exact .inr rfl|assumption):PS X (.Assign [.Name x pos'] e pos) (yK te (fK i)):=Oi S.nd hi hx he hs hf
theorem jB(i:Nat)(S:aG X.N ps sc)(hi:X.N[i]?=some x:=by rfl)(hx:Loc X.env.scope x:=by first|exact Or.inl rfl|exact Or.inr rfl)(hf:X.fn x=true\/X.env.scope.names.lookup x=some .local:=by first|exact .inl rfl|exact .inr rfl|assumption):
 PG X (.Name x pos) (fK i):=Kt S.nd hi hx hf
theorem bE{op:CmpOp}(ho:qF X (compareOp op) r)(ha:PE X a ta)(hb:PE X b tb)(hm:behindInMarks op b=false:=by exact k5 _):PT X (.Compare a [op] [b] pos) (lG (tL r ta tb)):=Kw ho ha hb hm
theorem c7(hr:RB X r)(ha:PE X a ta)(hb:PE X b tb)(hs:D_ b:=by exactλ_ _=>rfl):PE X (.Subscript a b pos) (tL r ta tb):=MN hr ha hb hs
theorem o_(T:Txt X.K X.mg C CO CC)(ha:PA X (e::es) t)(hg:Gl X "len":=by rfl)(he:starEach (e::es) X.env=(false,eval e X.env)::starEach es X.env:=by rfl)(rN:(backTo pos (starEach es X.env)).any (·.1)=false:=by rfl):
 PE X (.Call (.Name "len" p) (e::es) [] pos) (TX (λxs H Q=>∃p ys,xs=[.ref p]/\(bf X.K H p ys\/iu X.K H p ys)/\Q (.int ys.length) H) t):=fM qS hg T.len zX ha (he:=he) (rN:=rN)
theorem eu{i:Int}(T:Txt X.K X.mg C CO CC)(hx:IB.lookup x=some i:=by rfl)(hg:Gl X x:=by rfl)(hd:(x==("__debug__":Str))=false:=by decide):PE X (.Name x pos) (tC (.int i)):=Sh hg (T.gi hx) hd
theorem B7{own:List (Str×Nat)}{M:List Str}{sd:Scope}(S:aG N ps sc)(h:OG N sc scope own=true:=by decide+kernel)(e:M=N:=by rfl)(f:sd=sc:=by rfl):xR M sd scope own:=by rw[e,f];exact Hy h
theorem eP{N ps:List Str}{st:Stmt}(h:(aG N ps (ay st)):=by exact⟨rfl,rfl,rfl,by decide+kernel,rfl,by decide+kernel,by decide+kernel⟩):aG N ps (ay st):=h
end
end Ob
namespace Ob
open PySem PySem.Spec PyProof.Rows L2
open TL (tl Cv uB xW fE dq)
variable{tb:TS}{D:Ends}{σ:L2.St}{H:Hp}
variable{n:Nat}
variable{o:O}{z:Int}{i:Nat}
variable{H2:Hp}{l p:Addr}{as:List Addr}
variable{b:Addr}
variable{g:TG}{H1:Hp}
variable{m:List Nat}
variable{j:Nat}
variable{H':Hp}{ts:List Addr}{ps:List (Nat×Nat×Nat)}
variable{d:Addr}{a8:List (Key×V)}
variable{x:Nd}
variable{S:List Addr}
variable{u:HO}
variable{dx:Addr}
variable{f:Addr}{fd:FuncData}
variable{ob:Addr}{s:Vanbkn.State}
variable{R:V->Hp->Prop}
variable{cd:Addr}{a r:O}
variable{ls:List (List Int)}
variable{ta:TT}
variable{t:TT}{tx ty:TS}
variable{Q:VK}
variable{v:HO}
variable{ws row:List Int}{c:Vanbkn.Call}
variable{y:Str}{A B:Prop}
variable{wl rl:Addr}
variable{cs:List (List (List Int))}
variable{od:Obj}
section
variable{P:Program}{w:World}{K:PySem.W.Frag}{mg:Str->Option Value}{base:Heap}{C CO CC:Addr}{Z:Tag P w K mg base}
def WI{α:Type}(Pv:α->L2.St->Hp->Prop)(μ:α->Nat)(m:Nat)(σ:L2.St)(H:Hp):Prop:=∃x,m=μ x/\Pv x σ H
theorem fz{α:Type}{c:TT}(Pv:α->L2.St->Hp->Prop)(μ:α->Nat)(x0:α)(h0:Pv x0 σ H)(hs:∀x σ H,Pv x σ H->c σ H λb H1=>if b=true then∃N:L2.St->Hp->Prop,(∀σ' H',N σ' H'->∃m',m'<μ x/\WI Pv μ m' σ' H')/\tb {D with nx:=N,ct:=N,bk:=D.nx} σ H1 else D.nx σ H1):Hd c tb D σ H:=by refine⟨WI Pv μ,⟨_,x0,rfl,h0⟩,?_⟩;rintro m σ H ⟨x,rfl,p⟩;exact hs x σ H p
theorem m_{α:Type}{Pv:α->L2.St->Hp->Prop}{μ:α->Nat}(x:α)(h:tb {D with nx:=λσ' H'=>∃x',μ x'<n/\Pv x' σ' H',ct:=λσ' H'=>∃x',μ x'<n/\Pv x' σ' H',bk:=D.nx} σ H):
 ∃N:L2.St->Hp->Prop,(∀σ' H',N σ' H'->∃m',m'<n/\WI Pv μ m' σ' H')/\tb {D with nx:=N,ct:=N,bk:=D.nx} σ H:=
 ⟨λσ' H'=>∃x',μ x'<n/\Pv x' σ' H',λσ' H' ⟨x',h1,h2⟩=>⟨_,h1,x',rfl,h2⟩,h⟩
def fA(C:Addr):Sp:=λvs H Q _=>∃(l:Addr)(as:List Addr)(o:O)(z:Int),vs=[.ref l,.int z]/\NL C H l as o/\∀H',aD H H'->Q (ur (dE o z)) H'
theorem j8:aG ["nodes","number","position","node"] ["nodes","number"] (ay lg):=eP
theorem Pz(F:bG K mg "position_of" lg ["nodes","number"])(T:Txt K mg C CO CC):aZ Z 1 "position_of" ["nodes","number"] (fA C):=by
 refine F.ok j8 (λvs H Q E h=>?_) (λ_ _ _ _ _ H _ Q E hr h=>?_)
 .obtain⟨_,_,_,_,rfl,_⟩:=h;rfl
 .obtain⟨l,as,o,z,rfl,N,k⟩:=h;refine⟨_,(ae (eE PassesOwn.never rfl (yS rfl T.enumerate (aa (pv 0) ag)) (nD rfl (b_ (jB 2 j8) (b_ (jB 3 j8) jE))) (aj (aM (bE bw (aB (pv 3) rfl) (pv 1)) (aj (aw (pv 2))) aA))) (aj (aw a6))),?_⟩;refine⟨_,rfl,l,_,rfl,bf.of N.lst,wg (K:=K) (a:=l) (xs:=as.map V.ref) (λi σ H'=>∃v2 v3:Option V,σ=[some (.ref l),some (.int z),v2,v3]/\aD H H'/\∀y∈o.take i,(y.number:Int)≠z)
   ⟨none,none,rfl,aD.refl _,by simp⟩ (λi σ H' _ ⟨_,_,_,s1,_⟩=>bf.of (s1 _ _ N.lst)) ?_ ?_⟩
  .rintro i y σ H' p hi ⟨v2,v3,rfl,s1,rO⟩ hp;obtain⟨a,x,rfl,ha,hx,hn⟩:=N.item hi;have s2:aD H (upd H' p (.tup [.int (i:Nat),.ref a])):=s1.new hp;refine⟨p,_,rfl,.inl (.inl ah),rfl,_,_,rfl,_,_,rfl,rfl,?_⟩;refine⟨_,rfl,bX T (hn.same s2) ⟨_,rfl,rfl,_,rfl,?_⟩⟩;refine aK (λhc=>?_) (λhc=>?_)
   .have e:((x.number:Nat):Int)=z:=by have:=i4 hc;injection this
    refine⟨_,rfl,?_⟩;have m6:=(dm.mp hx).1;have PB:o=o.take i++x::o.drop (i+1):=by rw[<-(dm.mp hx).2];simp
    have e2:dE o z=some i:=by
     conv=>lhs;rw[PB]
     rw[O0 e rO,bj,iY (eX m6)]
    have:=k _ s2;rw[e2] at this;exact this
   .refine⟨_,_,rfl,s2,λy hy=>?_⟩;rw[take_snoc hx] at hy;rcases dZ.mp hy with hy|hy
    .exact rO y hy
    .simp at hy;subst hy;intro e;exact hc (aR (by rw[e]))
  .rintro σ H' ⟨v2,v3,rfl,s1,rO⟩;rw[aT,N.len,fm] at rO;have e:dE o z=none:=by unfold dE;rw[GU];intro y hy;simpa using rO y hy
   have q:=k _ s1;rw[e] at q;exact q
def fS(C:Addr):Sp:=λvs H Q _=>∃(l:Addr)(as:List Addr)(o:O)(i:Nat),vs=[.ref l,.int (i:Nat)]/\NL C H l as o/\i<o.length/\∀H',aD H H'->Q (.int (aP o i:Nat)) H'
theorem oE:aG ["nodes","start","end"] ["nodes","start"] (ay pZ):=eP
theorem Ls(F:bG K mg "tree_end" pZ ["nodes","start"])(T:Txt K mg C CO CC):aZ Z 1 "tree_end" ["nodes","start"] (fS C):=by
 refine F.ok oE (λvs H Q E h=>?_) (λ_ _ _ _ _ H _ Q E hr h=>?_)
 .obtain⟨_,_,_,_,rfl,_⟩:=h;rfl
 .obtain⟨l,as,o,i,rfl,N,hi,k⟩:=h;refine⟨_,(ae (bD 2 oE (bh bP (pv 1) au)) (ae (fo PassesOwn.never (PW.pt (gZ (bE g7 (pv 2) (o_ T (aa (pv 0) ag))) (fX (bE gL (aB (c7 aJ (pv 0) (pv 2)) rfl) (aB (c7 aJ (pv 0) (pv 1)) rfl))))) (aj (k4 (i:=2) oE.nd rfl (Or.inl rfl) au nE))) (aj (aw (pv 2))))),?_⟩;refine⟨_,rfl,_,_,rfl,rfl,?_⟩;refine fz (λ(j:Nat) σ H'=>j<=(inside (nd o i).depth (o.drop (i+1))).length/\σ=[some (.ref l),some (.int (i:Nat)),some (.int ((i+1+j:Nat):Int))]/\aD H H') (λj=>o.length - j) 0 ⟨a_ _,rfl,aD.refl _⟩ ?_;rintro j σ H' ⟨hj,rfl,s1⟩;have N':=N.same s1;have m5:=FN hj;have hL:=N.gW;refine⟨_,rfl,_,rfl,l,_,rfl,.inl (bf.of N'.lst),_,_,rfl,rfl,_,rfl,?_⟩;refine aK (λhc=>?_) (λhc=>?_)
  .have h1:i+1+j<o.length:=by have:=aH hc;rw[hL] at this;omega
   refine⟨_,rfl,_,rfl,c6 N' rfl h1 λa _ ha=>bp T ha ⟨_,rfl,_,rfl,c6 N' rfl hi λa _ hb=>bp T hb ⟨_,_,rfl,rfl,_,rfl,?_⟩⟩⟩;refine aK (λhd=>?_) (λhd=>?_)
   .have h2:(nd o i).depth<(nd o (i+1+j)).depth:=by have:=aH hd;omega
    have h3:=m5.mp ⟨h1,h2⟩;unfold aP at h3;refine m_ j ?_;refine⟨_,rfl,_,_,rfl,rfl,j+1,(by show o.length - (j+1)<o.length - j;omega),by omega,rfl,s1⟩
   .have h2:¬(nd o i).depth<(nd o (i+1+j)).depth:=λh=>cI hd (by omega);have h3:i+1+j=aP o i:=by have:¬i+1+j<aP o i:=λh=>h2 (m5.mpr h).2;unfold aP at this⊢;omega
    have q:=k _ s1;rw[<-h3] at q;exact⟨_,rfl,q⟩
  .have h1:¬i+1+j<o.length:=λh=>cI hc (by rw[hL];omega);have h3:i+1+j=aP o i:=by have:¬i+1+j<aP o i:=λh=>h1 (m5.mpr h).1;unfold aP at this⊢;omega
   refine fJ ?_;have q:=k _ s1;rw[<-h3] at q;exact⟨_,rfl,q⟩
def Bi(C:Addr):Sp:=λvs H Q _=>∃(l:Addr)(as:List Addr)(o:O)(i:Nat),vs=[.ref l,.int (i:Nat)]/\NL C H l as o/\i<o.length/\∀H',aD H H'->Q (ur (nt o i)) H'
theorem gH:aG ["nodes","position","above"] ["nodes","position"] (ay ia):=eP
theorem PD(F:bG K mg "parent_position" ia ["nodes","position"])(T:Txt K mg C CO CC):aZ Z 1 "parent_position" ["nodes","position"] (Bi C):=by
 refine F.ok gH (λvs H Q E h=>?_) (λ_ _ _ _ _ H _ Q E hr h=>?_)
 .obtain⟨_,_,_,_,rfl,_⟩:=h;rfl
 .obtain⟨l,as,o,i,rfl,N,hi,k⟩:=h;refine⟨_,(ae (bD 2 gH (bh gm (pv 1) au)) (ae (fo PassesOwn.never (PW.pt (gZ (bE nF (pv 2) au) (fX (bE nF (aB (c7 aJ (pv 0) (pv 2)) rfl) (aB (c7 aJ (pv 0) (pv 1)) rfl))))) (aj (k4 (i:=2) gH.nd rfl (Or.inl rfl) au Hc))) (aj (aw (g0 (bE nF (pv 2) au) (pv 2) a6))))),?_⟩;refine⟨_,rfl,_,_,rfl,rfl,?_⟩;refine fz (λ(j:Nat) σ H'=>j<=i/\jA (λj=>decide ((nd o i).depth<=(nd o j).depth)) j=nt o i/\σ=[some (.ref l),some (.int (i:Nat)),some (.int ((j:Int) - 1))]/\aD H H') (λj=>j) i ⟨aS _,rfl,rfl,aD.refl _⟩ ?_;rintro j σ H' ⟨hj,hb,rfl,s1⟩;have N':=N.same s1;refine⟨_,rfl,_,_,rfl,rfl,_,rfl,?_⟩;refine aK (λhc=>?_) (λhc=>?_)
  .obtain⟨j',rfl⟩:∃j',j=j'+1:=⟨j - 1,by have:=aH hc;omega⟩;refine⟨_,rfl,_,rfl,c6 (i:=j') N' (by omega) (by omega) λa _ ha=>bp T ha ⟨_,rfl,_,rfl,c6 N' rfl hi λa _ Pl=>bp T Pl ⟨_,_,rfl,rfl,_,rfl,?_⟩⟩⟩;rw[show jA (λj=>decide ((nd o i).depth<=(nd o j).depth)) (j'+1)=if decide ((nd o i).depth<=(nd o j').depth)=true then jA (λj=>decide ((nd o i).depth<=(nd o j).depth)) j' else some j' from rfl] at hb;refine aK (λhd=>?_) (λhd=>?_)
   .rw[ao (aR (by have:=aH hd;omega))] at hb;refine m_ (j'+1) ?_;refine⟨_,rfl,_,_,rfl,rfl,j',mY _,by omega,hb,?_,s1⟩;show[some (V.ref l),some (V.int i),some (V.int (((j'+1:Nat):Int) - 1 - 1))]=_;rw[show(((j'+1:Nat):Int) - 1 - 1)=(j':Int) - 1 by omega]
   .rw[ak (λh=>cI hd (by have:=aH h;omega))] at hb;refine⟨_,rfl,_,_,rfl,rfl,_,rfl,?_⟩;refine aK (λ_=>?_) (λh=>absurd (aR (by omega)) h);have q:=k _ s1;rw[<-hb] at q;refine⟨_,rfl,?_⟩;show Q (.int (((j'+1:Nat):Int) - 1)) H';rw[show(((j'+1:Nat):Int) - 1)=(j':Int) by omega];exact q
  .have h0:j=0:=by have:=cI hc;omega
   subst h0;refine fJ ?_;refine⟨_,rfl,_,_,rfl,rfl,_,rfl,?_⟩;refine aK (λh=>absurd h hc) (λ_=>?_);have q:=k _ s1;rw[<-hb] at q;exact q
def IK(C:Addr):Sp:=λvs H Q _=>∃(l:Addr)(as:List Addr)(o:O)(i:Nat),vs=[.ref l,.int (i:Nat)]/\NL C H l as o/\i<o.length/\∀H',aD H H'->Q (ur (xu o i)) H'
theorem ic:aG ["nodes","position","above"] ["nodes","position"] (ay iA):=eP
theorem PF(F:bG K mg "sibling_before" iA ["nodes","position"])(T:Txt K mg C CO CC):aZ Z 1 "sibling_before" ["nodes","position"] (IK C):=by
 refine F.ok ic (λvs H Q E h=>?_) (λ_ _ _ _ _ H _ Q E hr h=>?_)
 .obtain⟨_,_,_,_,rfl,_⟩:=h;rfl
 .obtain⟨l,as,o,i,rfl,N,hi,k⟩:=h;refine⟨_,(ae (bD 2 ic (bh gm (pv 1) au)) (ae (fo PassesOwn.never (PW.pt (gZ (bE nF (pv 2) au) (fX (bE gL (aB (c7 aJ (pv 0) (pv 2)) rfl) (aB (c7 aJ (pv 0) (pv 1)) rfl))))) (aj (k4 (i:=2) ic.nd rfl (Or.inl rfl) au Hc))) (ae (aM (PW.pt (gh (bE g7 (pv 2) au) (gz (bE g7 (aB (c7 aJ (pv 0) (pv 2)) rfl) (aB (c7 aJ (pv 0) (pv 1)) rfl))))) (aj (aw a6)) aA) (aj (aw (pv 2)))))),?_⟩;refine⟨_,rfl,_,_,rfl,rfl,?_⟩;refine fz (λ(j:Nat) σ H'=>j<=i/\jA (λj=>decide ((nd o i).depth<(nd o j).depth)) j=Pc o i/\σ=[some (.ref l),some (.int (i:Nat)),some (.int ((j:Int) - 1))]/\aD H H') (λj=>j) i ⟨aS _,rfl,rfl,aD.refl _⟩ ?_;rintro j σ H' ⟨hj,hb,rfl,s1⟩;have N':=N.same s1;refine⟨_,rfl,_,_,rfl,rfl,_,rfl,?_⟩;refine aK (λhc=>?_) (λhc=>?_)
  .obtain⟨j',rfl⟩:∃j',j=j'+1:=⟨j - 1,by have:=aH hc;omega⟩;refine⟨_,rfl,_,rfl,c6 (i:=j') N' (by omega) (by omega) λa _ ha=>bp T ha ⟨_,rfl,_,rfl,c6 N' rfl hi λa _ Pl=>bp T Pl ⟨_,_,rfl,rfl,_,rfl,?_⟩⟩⟩;rw[show jA (λj=>decide ((nd o i).depth<(nd o j).depth)) (j'+1)=if decide ((nd o i).depth<(nd o j').depth)=true then jA (λj=>decide ((nd o i).depth<(nd o j).depth)) j' else some j' from rfl] at hb;refine aK (λhd=>?_) (λhd=>?_)
   .rw[ao (aR (by have:=aH hd;omega))] at hb;refine m_ (j'+1) ?_;refine⟨_,rfl,_,_,rfl,rfl,j',mY _,by omega,hb,?_,s1⟩;show[some (V.ref l),some (V.int i),some (V.int (((j'+1:Nat):Int) - 1 - 1))]=_;rw[show(((j'+1:Nat):Int) - 1 - 1)=(j':Int) - 1 by omega]
   .rw[ak (λh=>cI hd (by have:=aH h;omega))] at hb;refine⟨_,rfl,_,_,rfl,rfl,_,rfl,?_⟩;refine aK (λh=>?_) (λ_=>?_)
    .exact absurd (aH h) (by omega)
    have e:xu o i=if(nd o j').depth<(nd o i).depth then none else some j':=by unfold xu;rw[<-hb]
    have q:=k _ s1;rw[e] at q;refine⟨_,rfl,_,rfl,c6 (i:=j') N' (by omega) (by omega) λa _ ha=>bp T ha ⟨_,rfl,_,rfl,c6 N' rfl hi λa _ hb=>bp T hb ⟨_,_,rfl,rfl,_,rfl,?_⟩⟩⟩;refine aK (λh=>?_) (λh=>?_)
    .rw[ao (by have:=aH h;omega)] at q;exact q
    .rw[ak (λh2=>cI h (by omega))] at q;refine⟨_,rfl,?_⟩;show Q (.int (((j'+1:Nat):Int) - 1)) H';rw[show(((j'+1:Nat):Int) - 1)=(j':Int) by omega];exact q
  .have h0:j=0:=by have:=cI hc;omega
   subst h0;refine fJ ?_;refine⟨_,rfl,_,_,rfl,rfl,_,rfl,?_⟩;refine aK (λ_=>?_) (λh=>?_)
   .have e:xu o i=none:=by unfold xu;rw[<-hb];rfl
    have q:=k _ s1;rw[e] at q;exact eG q
   .exact absurd (aR (by omega)) h
theorem IL(h:dE o z=some i):i<o.length:=by obtain⟨a,x,r,rfl,rfl,_⟩:=vz h;rw[bb,cn];omega
def IM(C:Addr):Sp:=λvs H Q _=>∃(l:Addr)(as:List Addr)(o:O)(p:Int),vs=[.ref l,.int p]/\NL C H l as o/\(runM o p=none->∀H',aD H H'->Q .fb H')/\
 ∀a b d:Nat,runM o p=some (a,b,d)->∀H' t,aD H H'->H' t=some (.tup [.int (a:Nat),.int (b:Nat),.int (d:Nat)])->Q (.ref t) H'
theorem nc:aG ["nodes","parent","position"] ["nodes","parent"] (ay j0):=eP
theorem PH(F:bG K mg "children_run" j0 ["nodes","parent"])(T:Txt K mg C CO CC)(ax:aZ Z 1 "position_of" ["nodes","number"] (fA C))(aQ:aZ Z 1 "tree_end" ["nodes","start"] (fS C)):
 aZ Z 2 "children_run" ["nodes","parent"] (IM C):=by
 refine F.ok nc (λvs H Q E h=>?_) (λ_ _ _ _ _ H _ Q E hr h=>?_)
 .obtain⟨_,_,_,_,rfl,_⟩:=h;rfl
 .obtain⟨l,as,o,p,rfl,N,k1,k2⟩:=h;refine⟨_,(ae (aM (bE bw (pv 1) au) (aj (aw (l9 (aa au (aa (o_ T (aa (pv 0) ag)) (aa au ag)))))) aA) (ae (bD 2 nc (pc ax hr (aa (pv 0) (aa (pv 1) ag)))) (ae (aM (PW.pt (gh (bE bC (pv 2) a6) (gz (bE bw (aB (c7 aJ (pv 0) (pv 2)) rfl) au)))) (aj (aw a6)) aA) (aj (aw (l9 (aa (bh bP (pv 2) au) (aa (pc aQ hr (aa (pv 0) (aa (pv 2) ag))) (aa (bh bP (aB (c7 aJ (pv 0) (pv 2)) rfl) au) ag))))))))),?_⟩;refine⟨_,rfl,rfl,_,rfl,?_⟩;refine aK (λhc=>?_) (λhc=>?_)
  .have e:p=0:=by have:=aH hc;injection this
   subst e;refine⟨_,rfl,l,_,rfl,.inl (bf.of N.lst),(by show 3<=sizeLine;decide),λt ht=>?_⟩;refine k2 0 o.length 1 (by simp[runM]) _ t (aE ht) ?_;rw[ah,N.gW];rfl
  .have Bj:p≠0:=λe=>hc (aR (by rw[e]));refine⟨_,rfl,_,rfl,l,as,o,p,rfl,N,λH2 s2=>?_⟩;have N2:=N.same s2;refine⟨_,rfl,rfl,_,rfl,?_⟩;cases hp:dE o p with
   |none=>refine aK (λ_=>eG ?_) (λh=>absurd (aR rfl) h);exact k1 (by unfold runM;rw[ak Bj,hp]) _ s2
   |some i=>
    have hi:=IL hp;refine aK (λh=>nomatch (aH h)) (λ_=>?_);refine⟨_,rfl,_,rfl,c6 N2 rfl hi λa _ ha=>fH T ha ⟨rfl,_,rfl,?_⟩⟩;have e:runM o p=if(nd o i).cell=true then none else some (i+1,aP o i,(nd o i).depth+1):=by unfold runM;rw[ak Bj,hp]
    cases bS:(nd o i).cell with
    |true=>refine aK (λ_=>?_) (λh=>absurd (aR rfl) h);rw[bS] at e;exact k1 e _ s2
    |false=>refine aK (λh=>absurd (aH h) (by intro q;cases q)) (λ_=>?_);rw[bS] at e;refine⟨_,rfl,_,_,rfl,rfl,_,rfl,_,rfl,l,as,o,i,rfl,N2,hi,λH3 s3=>?_⟩;refine⟨_,rfl,_,rfl,c6 (N2.same s3) rfl hi λa _ ha=>bp T ha ⟨_,_,rfl,rfl,(by show 3<=sizeLine;decide),λt ht=>?_⟩⟩;exact k2 _ _ _ e _ t ((s2.trans s3).new ht) ah
def yl(o:O)(i:Nat):Nat:=((inside (nd o i).depth (o.drop (i+1))).filter λy=>y.depth==(nd o i).depth+1).length
def zo(C:Addr):Sp:=λvs H Q _=>∃(l:Addr)(as:List Addr)(o:O)(i:Nat),vs=[.ref l,.int (i:Nat)]/\NL C H l as o/\i<o.length/\∀H',aD H H'->Q (.int (yl o i:Nat)) H'
theorem ro(xs:List V){a b:Nat}(ha:a<=xs.length)(hb:b<=xs.length):d_ xs (some (a:Int)) (some (b:Int))=(xs.drop a).take (b - a):=by unfold d_;rw[show HT.qG xs.length 0 (some (a:Int))=min a xs.length from HT.kE _ _ _,show HT.qG xs.length xs.length (some (b:Int))=min b xs.length from HT.kE _ _ _,iY ha,iY hb]
theorem sQ(xs:List V){b:Nat}(hb:b<=xs.length):d_ xs none (some (b:Int))=xs.take b:=by unfold d_;rw[show HT.qG xs.length 0 none=0 from rfl,show HT.qG xs.length xs.length (some (b:Int))=min b xs.length from HT.kE _ _ _,iY hb];rfl
theorem j9(xs:List V){a:Nat}(ha:a<=xs.length):d_ xs (some (a:Int)) none=xs.drop a:=by unfold d_;rw[show HT.qG xs.length 0 (some (a:Int))=min a xs.length from HT.kE _ _ _,show HT.qG xs.length xs.length none=xs.length from rfl,iY ha];rw[<-dD,fm]
theorem NL.cut(N:NL C H l as o){a b:Nat}(ha:a<=o.length)(hb:b<=o.length)(s:aD H H2)(hp:H2 p=none):
 NL C (upd H2 p (.lst (d_ (as.map V.ref) (some (a:Int)) (some (b:Int))))) p ((as.drop a).take (b - a)) ((o.drop a).take (b - a)):=by
 refine N.sub (s.new hp) a (b - a) ?_;rw[ah,ro _ (by rw[N.gW];exact ha) (by rw[N.gW];exact hb),mV,jR]
theorem Bk:(o.drop (i+1)).take (aP o i - (i+1))=inside (nd o i).depth (o.drop (i+1)):=by rw[nR];unfold aP;rw[xC]
theorem rp(o:O)(i:Nat):i+1<=aP o i:=uY _ _
theorem ez:aG ["nodes","position","inside","node"] ["nodes","position"] (ay iB):=eP
theorem Lu(F:bG K mg "children_count" iB ["nodes","position"])(T:Txt K mg C CO CC)(aQ:aZ Z 1 "tree_end" ["nodes","start"] (fS C)):
 aZ Z 2 "children_count" ["nodes","position"] (zo C):=by
 refine F.ok ez (λvs H Q E h=>?_) (λ_ _ _ _ _ H _ Q E hr h=>?_)
 .obtain⟨_,_,_,_,rfl,_⟩:=h;rfl
 .obtain⟨l,as,o,i,rfl,N,hi,k⟩:=h;refine⟨_,(ae (bD 2 ez (bo bA (pv 0) (aX (bh bP (pv 1) au)) (aX (pc aQ hr (aa (pv 0) (aa (pv 1) ag)))))) (aj (aw (o_ T (aa (kI rfl ez.nd (bM (pv 2)) (own:=[("node",3)]) (B7 ez) (λ_ _ _ _ _=>(jB 3 ez)) (λ_ _ _ _ _=>(kH (bE bw (eg (K:=K) rfl (pv 3) rfl) (bh bP (eg (K:=K) rfl (c7 (oB (K:=K) rfl) (pv 0) (pv 1)) rfl) au)))) (λ_ _ _ _ _=>(pv 3))) ag))))),?_⟩;refine⟨_,rfl,_,rfl,_,_,rfl,rfl,_,rfl,_,rfl,_,rfl,l,as,o,i,rfl,N,hi,λH2 s2=>⟨_,rfl,l,_,rfl,bf.of (s2 _ _ N.lst),λp hp=>?_⟩⟩;have ym:=jG hi;have M:=N.cut (a:=i+1) (b:=aP o i) hi ym s2 hp;rw[Bk] at M;have N3:=N.same (s2.new hp (u:= .lst (d_ (as.map V.ref) (some ((i+1:Nat):Int)) (some ((aP o i:Nat):Int)))));refine⟨_,rfl,p,rfl,⟨_,bf.of M.lst⟩,λD hD=>?_⟩;refine f9 (K:=K) (a:=p) (λq=>if(q.2.depth==(nd o i).depth+1)=true then some (V.ref q.1) else none) M.zip hD M.Lp (λm q H4 hq s4 R R0 k1 k2=>?_) (λH4 s4 h4=>?_)
  .refine⟨rfl,_,rfl,bp T ((M.at2 hq).same s4) ⟨_,rfl,_,rfl,c6 (N3.same s4) rfl hi λb _ hb=>bp T hb ⟨_,_,rfl,rfl,rfl,_,rfl,?_⟩⟩⟩;refine aK (λhc=>?_) (λhc=>?_)
   .have e:(q.2.depth==(nd o i).depth+1)=true:=by have:=aH hc;injection this;simp;omega
    exact⟨_,rfl,k1 _ _ (aD.refl _) (ao e)⟩
   .refine k2 _ (aD.refl _) (ak λe=>hc (aR ?_));simp at e;rw[e];rfl
  .refine⟨D,_,rfl,.inl (bf.of h4),?_⟩;rw[yh M.len (λy=>y.depth==(nd o i).depth+1)];exact k _ ((s2.new hp).trans s4)
def uL(C:Addr):Sp:=λvs H Q _=>∃(l:Addr)(as:List Addr)(o:O)(p a:Int),vs=[.ref l,.int p,.int a]/\NL C H l as o/\(gA o p a=none->∀H',aD H H'->Q .fb H')/\
 ∀i d:Nat,gA o p a=some (i,d)->∀H' t,aD H H'->H' t=some (.tup [.int (i:Nat),.int (d:Nat)])->Q (.ref t) H'
theorem gP:aG ["nodes","parent","after","run","start","end","depth","sibling"] ["nodes","parent","after"] (ay p0):=eP
theorem IP(F:bG K mg "place_at" p0 ["nodes","parent","after"])(T:Txt K mg C CO CC)(ax:aZ Z 1 "position_of" ["nodes","number"] (fA C))(aQ:aZ Z 1 "tree_end" ["nodes","start"] (fS C))(fF:aZ Z 2 "children_run" ["nodes","parent"] (IM C)):aZ Z 3 "place_at" ["nodes","parent","after"] (uL C):=by
 refine F.ok gP (λvs H Q E h=>?_) (λ_ _ _ _ _ H _ Q E hr h=>?_)
 .obtain⟨_,_,_,_,_,rfl,_⟩:=h;rfl
 .obtain⟨l,as,o,p,a,rfl,N,k1,k2⟩:=h;refine⟨_,(ae (bD 3 gP (pc fF hr (aa (pv 0) (aa (pv 1) ag)))) (ae (aM (bE bC (pv 3) a6) (aj (aw a6)) aA) (ae (bD 4 gP (c7 dR (pv 3) au)) (ae (bD 5 gP (c7 dR (pv 3) au)) (ae (bD 6 gP (c7 dR (pv 3) au)) (ae (aM (bE bw (pv 2) au) (aj (aw (l9 (aa (pv 4) (aa (pv 6) ag))))) aA) (ae (bD 7 gP (pc ax hr (aa (pv 0) (aa (pv 2) ag)))) (ae (aM (PW.pt (gh (bE bC (pv 7) a6) (gh (bE g7 (pv 7) (pv 4)) (gh (bE nF (pv 7) (pv 5)) (gz (bE lF (aB (c7 aJ (pv 0) (pv 7)) rfl) (pv 6))))))) (aj (aw a6)) aA) (aj (aw (l9 (aa (pc aQ hr (aa (pv 0) (aa (pv 7) ag))) (aa (pv 6) ag))))))))))))),?_⟩;refine⟨_,rfl,_,rfl,l,as,o,p,rfl,N,λhn H2 s2=>?_,λst en d hs H2 t s2 ht=>?_⟩
  .refine⟨_,rfl,rfl,_,rfl,?_⟩;refine aK (λ_=>?_) (λh=>absurd (aR rfl) h);exact k1 (by unfold gA;rw[hn]) _ s2
  .have N2:=N.same s2;refine⟨_,rfl,rfl,_,rfl,?_⟩;refine aK (λh=>nomatch (aH h)) (λ_=>?_);refine⟨_,rfl,t,_,_,_,rfl,rfl,iu.of ht,bU (j:=0) rfl,?_⟩;refine⟨_,rfl,t,_,_,_,rfl,rfl,iu.of ht,bU (j:=1) rfl,?_⟩;refine⟨_,rfl,t,_,_,_,rfl,rfl,iu.of ht,bU (j:=2) rfl,?_⟩;refine⟨_,rfl,rfl,_,rfl,?_⟩;refine aK (λhc=>?_) (λhc=>?_)
   .have e:a=0:=by have:=aH hc;injection this
    refine⟨_,rfl,_,rfl,(by show 2<=sizeLine;decide),λt2 PJ=>?_⟩;exact k2 st d (by unfold gA;rw[hs];exact ao e) _ t2 (s2.new PJ) ah
   .have Ui:a≠0:=λe=>hc (aR (by rw[e]));refine⟨_,rfl,_,rfl,l,as,o,a,rfl,N2,λH3 s3=>?_⟩;have N3:=N2.same s3;have jC:=s2.trans s3;have e:gA o p a=match dE o a with
     |none=>none
     |some j=>if j<st\/en<=j\/(nd o j).depth≠d then none else some (aP o j,d):=by
     unfold gA;rw[hs];exact ak Ui
    refine⟨_,rfl,rfl,_,rfl,?_⟩;cases hp:dE o a with
    |none=>rw[hp] at e;refine aK (λ_=>eG ?_) (λh=>absurd (aR rfl) h);exact k1 e _ jC
    |some j=>
     rw[hp] at e;have e:gA o p a=if j<st\/en<=j\/(nd o j).depth≠d then none else some (aP o j,d):=e;have hj:=IL hp;refine aK (λh=>nomatch (aH h)) (λ_=>?_);refine⟨_,rfl,_,rfl,_,_,rfl,rfl,_,rfl,?_⟩;refine aK (λh1=>eG ?_) (λh1=>?_)
     .have:=aH h1;rw[ao (Or.inl (by omega))] at e;exact k1 e _ jC
     have h1:=cI h1;refine⟨_,rfl,_,rfl,_,_,rfl,rfl,_,rfl,?_⟩;refine aK (λh2=>eG ?_) (λh2=>?_)
     .have:=aH h2;rw[ao (Or.inr (Or.inl (by omega)))] at e;exact k1 e _ jC
     have h2:=cI h2;refine⟨_,rfl,_,rfl,c6 N3 rfl hj λb _ hb=>bp T hb ⟨_,rfl,rfl,_,rfl,?_⟩⟩;by_cases hd:(nd o j).depth=d
     .rw[hd];refine aK (λh=>?_) (λ_=>?_)
      .simp at h
      rw[ak (by omega)] at e;refine⟨_,rfl,_,rfl,l,as,o,j,rfl,N3,hj,λH4 s4=>⟨_,rfl,(by show 2<=sizeLine;decide),λt2 PJ=>?_⟩⟩;exact k2 _ _ e _ t2 ((jC.trans s4).new PJ) ah
     .refine aK (λ_=>?_) (λh=>?_)
      .rw[ao (Or.inr (Or.inr hd))] at e;exact k1 e _ jC
      .exfalso;apply h;simp;omega
theorem C2(h:as.length=o.length)(c:Nd->Bool):((as.zip o).filterMap λp=>some (V.bl (c p.2)))=(o.map c).map V.bl:=by rw[CZ h (λx=>some (V.bl (c x))),Kn,iq];rfl
theorem Na{α:Type}(l:List α)(c:α->Bool):(l.filterMap λp=>some (V.bl (c p)))=(l.map c).map V.bl:=by rw[Kn,iq];rfl
theorem qj{α:Type}(l:List α)(c:α->Bool):(l.map c).any id=l.any c:=by rw[B9];rfl
theorem wq{α:Type}(l:List α)(c:α->Bool):(l.map c).all id=l.all c:=by rw[Kh];rfl
def tZ(o:O)(k:Int):Bool:=o.any λx=> !x.cell&&decide (6<(x.depth:Int)+k)
def jP(C:Addr):Sp:=λvs H Q _=>∃(l:Addr)(as:List Addr)(o:O)(k:Int),vs=[.ref l,.int k]/\NL C H l as o/\∀H',aD H H'->Q (.bl (tZ o k)) H'
theorem kR:aG ["nodes","shift","node"] ["nodes","shift"] (ay p8):=eP
theorem Bl(F:bG K mg "too_deep" p8 ["nodes","shift"])(T:Txt K mg C CO CC):aZ Z 1 "too_deep" ["nodes","shift"] (jP C):=by
 refine F.ok kR (λvs H Q E h=>?_) (λ_ _ _ _ _ H _ Q E hr h=>?_)
 .obtain⟨_,_,_,_,rfl,_⟩:=h;rfl
 .obtain⟨l,as,o,z,rfl,N,k⟩:=h;refine⟨_,(aj (aw (fM (Cn rfl) (by rfl) T.any CW (aa (kI rfl kR.nd (bM (pv 0)) (own:=[("node",2)]) (B7 kR) (λ_ _ _ _ _=>(jB 2 kR)) (λ_ _ _ _ _=>kG) (λ_ _ _ _ _=>(Hb (jF bw (eg (K:=K) rfl (pv 2) rfl) au (k5 _)) (Cc (jF gL (bh bP (eg (K:=K) rfl (pv 2) rfl) (pv 1)) (eu T) (k5 _)))))) ag)))),?_⟩;refine⟨_,rfl,l,rfl,⟨_,bf.of N.lst⟩,λD hD=>?_⟩;refine f9 (K:=K) (a:=l) (λq=>some (V.bl (!q.2.cell&&decide (6<(q.2.depth:Int)+z)))) N.zip hD N.Lp (λm q H4 hq s4 R R0 k1 k2=>?_) (λH4 s4 h4=>?_)
  .have hn:=(N.at2 hq).same s4;refine⟨rfl,Bd ⟨_,rfl,fH T hn ⟨rfl,_,rfl,?_⟩⟩⟩;cases bS:q.2.cell with
   |true=>refine aK (λh=>absurd (aH h) (by intro e;cases e)) (λ_=>?_);refine k1 _ _ (aD.refl _) ?_;rw[bS];rfl
   |false=>refine aK (λ_=>?_) (λh=>absurd (aR rfl) h);refine⟨_,rfl,bp T hn ⟨_,rfl,_,_,rfl,rfl,_,_,rfl,rfl,?_⟩⟩;refine k1 _ _ (aD.refl _) ?_;rw[bS];rfl
  .rw[C2 N.len (λx=> !x.cell&&decide (6<(x.depth:Int)+z))] at h4;refine⟨D,_,rfl,bf.of h4,?_⟩;rw[qj];exact k _ s4
def C3(k:Int)(x:Nd):Nd:={x with depth:=((x.depth:Int)+k).toNat}
theorem C4(x:Nd)(t:Addr)(z:Int)(d:Nat)(h:z=(d:Int)):eR "depth" (.int z) (nf x t)=nf {x with depth:=d} t:=by subst h;rfl
theorem t4(x:Nd)(t:Addr)(b:Bool):eR "folded" (.int (b2 b)) (nf x t)=nf {x with folded:=b} t:=rfl
theorem NL.oF(N:NL C H l as o){a:Addr}(h:a∈as):∃dx fs,H a=some (.ins C dx fs):=by obtain⟨i,hi⟩:=xj h;obtain⟨x,hx⟩:∃x,o[i]?=some x:=⟨o[i]'(by rw[<-N.len];exact(dm.mp hi).1),c_ _⟩;obtain⟨dx,t,h1,_⟩:=N.at_ i a x hi hx;exact⟨dx,_,h1⟩
theorem NL.EL{xs:List V}(N:NL C H l as o)(h:H b=some (.lst xs)):b∉as:=λhb=>by obtain⟨dx,fs,e⟩:=N.oF hb;rw[h] at e;cases e
def ql(as:List Addr)(H H':Hp):Prop:=∀b u,H b=some u->b∉as->H' b=some u
def oG(C:Addr):Sp:=λvs H Q _=>∃(l:Addr)(as:List Addr)(o:O)(k:Int),vs=[.ref l,.int k]/\NL C H l as o/\as.Nodup/\(∀x∈o,0<=(x.depth:Int)+k)/\
 ∀H',ql as H H'->(∀(i:Nat)(a:Addr)(x:Nd),as[i]?=some a->o[i]?=some x->bW C H' a (C3 k x))->Q .fb H'
theorem yn:aG ["nodes","shift","node"] ["nodes","shift"] (ay wc):=eP
theorem F0(F:bG K mg "deepen" wc ["nodes","shift"])(T:Txt K mg C CO CC):aZ Z 1 "deepen" ["nodes","shift"] (oG C):=by
 refine F.ok yn (λvs H Q E h=>?_) (λ_ _ _ _ _ H _ Q E hr h=>?_)
 .obtain⟨_,_,_,_,rfl,_⟩:=h;rfl
 .obtain⟨l,as,o,z,rfl,N,vA,hz,k⟩:=h;refine⟨_,(aj (eE PassesOwn.never rfl (bM (pv 0)) (jB 2 yn) (aj (rX (pv 2) (pv 1) Cf)))),?_⟩;refine⟨_,rfl,l,rfl,⟨_,bf.of N.lst⟩,dI (K:=K) (a:=l) (xs:=as.map V.ref) (λi σ H'=>∃v:Option V,σ=[some (.ref l),some (.int z),v]/\ql (as.take i) H H'/\∀j a x,j<i->as[j]?=some a->o[j]?=some x->bW C H' a (C3 z x))
   ⟨none,rfl,λb u e _=>e,λj a x h=>by omega⟩ (λi σ H' _ ⟨_,_,s1,_⟩=>bf.of (s1 _ _ N.lst λh=>N.EL N.lst (kx h))) ?_ ?_⟩
  .rintro i y σ H' hi ⟨v,rfl,s1,GH⟩;obtain⟨a,x,rfl,ha,hx,dx,t,h1,h2⟩:=N.item hi;have Z_:a∉as.take i:=λh=>by
    obtain⟨j,hj⟩:=xj h;rw[Fc] at hj;by_cases PK:j<i
    .rw[ao PK] at hj;have:=Ax vA ha hj;omega
    .rw[ak PK] at hj;cases hj
   have QK:=s1 _ _ h1 Z_;have MY:=s1 _ _ h2 λh=>N.EL h2 (kx h);refine⟨_,rfl,a,C,dx,_,_,rfl,QK,T.cl,T.C0,rfl,_,rfl,_,_,rfl,rfl,dx,_,QK,(by show 5<1000;decide),?_⟩;have hzx:=hz x (cJ hx);refine⟨_,rfl,λb u e hb=>?_,λj a' x' hj Uj V'=>?_⟩
   .rw[take_snoc ha] at hb;rw[az (λe=>hb (by rw[e];simp))];exact s1 _ _ e λh=>hb (dA _ h)
   .have F1:upd H' a (.ins C dx (eR "depth" (.int ((x.depth:Int)+z)) (nf x t))) a=some (.ins C dx (nf (C3 z x) t)):=by rw[ah,C4 x t _ ((x.depth:Int)+z).toNat (by omega)];rfl
    by_cases PK:j=i
    .subst PK;rw[ha] at Uj;cases Uj;rw[hx] at V';cases V';refine⟨dx,t,F1,?_⟩;rw[az (jz MY QK (by intro e;cases e))];exact MY
    .obtain⟨Wa,t2,g1,g2⟩:=GH j a' x' (by omega) Uj V';refine⟨Wa,t2,?_,?_⟩
     .rw[az (λe=>PK (Ax vA Uj (by rw[e];exact ha)))];exact g1
     .rw[az (jz g2 QK (by intro e;cases e))];exact g2
  .rintro σ H' ⟨v,rfl,s1,GH⟩;rw[aT] at s1 GH;rw[fm] at s1;exact k _ s1 λi a x ha hx=>GH i a x (dm.mp ha).1 ha hx
def EM:Sp:=λvs H Q _=>∃(l r:Addr)(xs ys:List V)(i:Nat),vs=[.ref l,.int (i:Nat),.ref r]/\H l=some (.lst xs)/\H r=some (.lst ys)/\i<=xs.length/\xs.length+ys.length<=100000/\
 ∀H' p,aD H H'->H' p=some (.lst (xs.take i++ys++xs.drop i))->Q (.ref p) H'
theorem Bm:aG ["nodes","position","run"] ["nodes","position","run"] (ay p_):=eP
theorem PL(F:bG K mg "inserted" p_ ["nodes","position","run"]):aZ Z 1 "inserted" ["nodes","position","run"] EM:=by
 refine F.ok Bm (λvs H Q E h=>?_) (λ_ _ _ _ _ H _ Q E hr h=>?_)
 .obtain⟨_,_,_,_,_,rfl,_⟩:=h;rfl
 .obtain⟨l,r,xs,ys,i,rfl,hl,hR,hi,hz,k⟩:=h;refine⟨_,(aj (aw (bh g9 (bh g9 (bo bA (pv 0) eS (aX (pv 1))) (pv 2)) (bo bA (pv 0) (aX (pv 1)) eS)))),?_⟩;refine⟨_,rfl,_,rfl,_,rfl,l,_,rfl,bf.of hl,λp1 h1=>?_⟩;rw[sQ _ hi];have s1:aD H (upd H p1 (.lst (xs.take i))):=aE h1;refine⟨_,rfl,p1,r,_,_,rfl,rfl,ah,s1 _ _ hR,dC (by rw[bj];omega),λp2 h2=>?_⟩;have s2:=s1.new h2 (u:= .lst (xs.take i++ys));refine⟨_,rfl,_,rfl,_,rfl,l,_,rfl,bf.of (s2 _ _ hl),λp3 h3=>?_⟩;rw[j9 _ hi];have s3:=s2.new h3 (u:= .lst (xs.drop i));refine⟨p2,p3,_,_,rfl,rfl,a9 ah h3,ah,dC (by rw[bb,bj,dD];omega),λp4 h4=>?_⟩;exact k _ p4 (s3.new h4) ah
def rq:Sp:=λvs H Q _=>∃(r:Addr)(t:List Int),vs=[.ref r]/\H r=some (.lst (aU t))/\t.length<=10000/\∀H',aD H H'->Q (.bl (isText t)) H'
theorem mE:aG ["row","byte"] ["row"] (ay sH):=eP
theorem F2(F:bG K mg "is_text" sH ["row"])(T:Txt K mg C CO CC):aZ Z 1 "is_text" ["row"] rq:=by
 refine F.ok mE (λvs H Q E h=>?_) (λ_ _ _ _ _ H _ Q E hr h=>?_)
 .obtain⟨_,_,rfl,_⟩:=h;rfl
 .obtain⟨r,t,rfl,hR,hz,k⟩:=h;refine⟨_,(ae (aM (bE gL (o_ T (aa (pv 0) ag)) (eu T)) (aj (aw D2)) aA) (aj (aw (fM (Hv rfl) (by rfl) T.all IC (aa (kI rfl mE.nd (bM (pv 0)) (own:=[("byte",1)]) (B7 mE) (λ_ _ _ _ _=>(jB 1 mE)) (λ_ _ _ _ _=>kG) (λ_ _ _ _ _=>(Hj vg vg (eu T) (pv 1) (eu T)))) ag))))),?_⟩;refine⟨_,rfl,r,_,rfl,.inl (bf.of hR),_,_,rfl,rfl,_,rfl,?_⟩;rw[bB];refine aK (λhc=>?_) (λhc=>?_)
  .have Bn:60<t.length:=by have:=aH hc;omega
   have e:isText t=false:=by unfold isText;rw[cR (by show¬t.length<=60;omega)];rfl
   have q:=k _ (aD.refl _);rw[e] at q;exact q
  .have Bn:t.length<=60:=by have:=cI hc;omega
   refine⟨_,rfl,r,rfl,⟨_,bf.of hR⟩,λD hD=>?_⟩;refine f9 (K:=K) (a:=r) (ys:=t) (v:=V.int) (λc=>some (V.bl (decide (32<=c/\c<=126)))) (bf.of hR) hD (eO (by omega)) (λm q H4 hq s4 R R0 k1 k2=>?_) (λH4 s4 h4=>?_)
   .refine⟨rfl,Bd ⟨_,rfl,_,_,rfl,rfl,_,rfl,?_⟩⟩;refine aK (λh1=>?_) (λh1=>?_)
    .refine⟨_,_,rfl,rfl,?_⟩;refine k1 _ _ (aD.refl _) ?_;have h1:=aH h1;have e:decide (32<=q/\q<=126)=decide (q<=126):=by rw[qM];exact⟨λh=>h.2,λh=>⟨h1,h⟩⟩
     rw[e]
    .refine k1 _ _ (aD.refl _) ?_;rw[cR (λh=>h1 (aR h.1))]
   .rw[Na t (λc=>decide (32<=c/\c<=126))] at h4;refine⟨D,_,rfl,bf.of h4,?_⟩;rw[wq];have e:isText t=t.all λc=>decide (32<=c/\c<=126):=by unfold isText;rw[aR (by show t.length<=60;exact Bn)];rfl
    have q:=k _ s4;rw[e] at q;exact q
theorem PM{x:Str}{tt:TT}{te:TE}{vs:List Nat}{D:Addr}{Q:Hp->Prop}(f:Nat->V)(hD:H1 D=none)(hz:(tl x).length<sizeLine)(hs:∀c H,aD H1 H->∀(R:V->Hp->Prop)(R0:Hp->Prop),(∀H',aD H H'->R (f c) H')->
 g (.str ⟨#[c]⟩) (wipe σ vs) H λσ2 H2=>wipe σ2 vs=wipe σ vs/\tt σ2 H2 λb H3=>if b=true then te σ2 H3 R else R0 H3)(hd:∀H,aD H1 H->H D=some (.lst ((tl x).map f))->Q H):
 ∃W:Nat->Nat->Hp->Prop,(∃m,W 0 m (upd H1 D (.lst [])))/\∀i m H,W i m H->
  ((RS x).stop i H/\Q H)\/((RS x).go i H/\∃Nx:Hp->Prop,(∀H',Nx H'->∃m',m'<m/\W (i+1) m' H')/\∀v H',(RS x).GG i H v H'->g v (wipe σ vs) H' λσ2 H2=>wipe σ2 vs=wipe σ vs/\tt σ2 H2 λb H3=>if b=true then te σ2 H3 λy H4=>∃acc,H4 D=some (.lst acc)/\acc.length<sizeLine/\Nx (upd H4 D (.lst (acc++[y]))) else Nx H3):=by
 have hsz:x.cps.size=(tl x).length:=by simp[tl]
 refine⟨λi m H=>m=(tl x).length - i/\i<=(tl x).length/\aD H1 H/\H D=some (.lst (((tl x).take i).map f)),⟨(tl x).length,(Nat.sub_zero _).symm,a_ _,aE hD,ah⟩,?_⟩;rintro i m H ⟨rfl,hi,s1,hH⟩;by_cases fD:i<(tl x).length
 .refine .inr ⟨by show i<x.cps.size;omega,λH'=>aD H1 H'/\H' D=some (.lst (((tl x).take (i+1)).map f)),λH' ⟨p1,p2⟩=>⟨(tl x).length - (i+1),by omega,rfl,fD,p1,p2⟩,λv H' y=>?_⟩;obtain⟨rfl,c,hc,rfl⟩:=y;have xI:(tl x)[i]?=some c:=by show x.cps.toList[i]?=some c;rw[Array.getElem?_toList];exact hc
  refine hs c _ s1 _ _ λH2 s2=>⟨_,s2 _ _ hH,?_,(s1.trans s2).put hD,?_⟩
  .rw[aT,bj];omega
  .rw[ah,take_snoc xI,cX];rfl
 .have e:i=(tl x).length:=by omega
  subst e;rw[fm] at hH;exact .inl ⟨by show x.cps.size<=(tl x).length;omega,hd H s1 hH⟩
def pb:Sp:=λvs H Q _=>∃(x:Str),vs=[.str x]/\(tl x).length<=10000/\∀H' p,aD H H'->H' p=some (.lst (aI (tl x)))->H p=none->Q (.ref p) H'
theorem kT:aG ["signs","sign"] ["signs"] (ay qa):=eP
theorem IQ(F:bG K mg "bytes_of" qa ["signs"])(T:Txt K mg C CO CC):aZ Z 1 "bytes_of" ["signs"] pb:=by
 refine F.ok kT (λvs H Q E h=>?_) (λ_ _ _ _ _ H _ Q E hr h=>?_)
 .obtain⟨_,rfl,_⟩:=h;rfl
 .obtain⟨x,rfl,hz,k⟩:=h;refine⟨_,(aj (aw (kI rfl kT.nd (OR (pv 0)) (own:=[("sign",1)]) (B7 kT) (λ_ _ _ _ _=>(jB 1 kT)) (λ_ _ _ _ _=>kG) (λ_ _ _ _ _=>(fM Hk (by rfl) T.ord Pu (aa (pv 1) ag)))))),?_⟩;refine⟨_,rfl,x,rfl,λD hD=>?_⟩;refine PM (λc=>V.int (c:Nat)) hD (eO (by omega)) (λc H4 s4 R R0 k1=>?_) (λH4 s4 h4=>k _ D s4 h4 hD);exact⟨rfl,Bd ⟨_,rfl,_,rfl,rfl,k1 _ (aD.refl _)⟩⟩
theorem lp(n:Nat):tl (Str.ofString (toString ((n:Nat):Int)))=decimal n:=by rw[Cv,jX];rfl
theorem wt(h:n<1900):((n:Nat):Int).natAbs.log2<1920:=by rw[Int.natAbs_natCast];exact u0 (Nat.log2_le_self _) (by omega)
def Bo:Sp:=λvs H Q _=>∃(n:Nat),vs=[.int (n:Nat)]/\n<1000/\∀H' p,aD H H'->H' p=some (.lst (aI (decimal n)))->H p=none->Q (.ref p) H'
theorem zp:aG ["number"] ["number"] (ay n9):=eP
theorem F3(F:bG K mg "digits_of" n9 ["number"])(T:Txt K mg C CO CC)(cF:aZ Z 1 "bytes_of" ["signs"] pb):aZ Z 2 "digits_of" ["number"] Bo:=by
 refine F.ok zp (λvs H Q E h=>?_) (λ_ _ _ _ _ H _ Q E hr h=>?_)
 .obtain⟨_,rfl,_⟩:=h;rfl
 .obtain⟨n,rfl,hz,k⟩:=h;refine⟨_,(aj (aw (pc cF hr (aa (lH g8 (by rfl) T.str we (aa (pv 0) ag)) ag)))),?_⟩;refine⟨_,rfl,_,rfl,?_,_,rfl,?_,λH' p s1 h1 h0=>?_⟩
  .exact wt (by omega)
  .rw[lp];exact bq (iS hz) (by decide)
  .rw[lp] at h1;exact k _ p s1 h1 h0
def oH:Sp:=λvs H Q _=>∃(r:Addr)(t:List Nat),vs=[.ref r]/\H r=some (.lst (aI t))/\t.length<=4/\(∀c∈t,48<=c/\c<=57)/\∀H',aD H H'->Q (.int (natOf t:Nat)) H'
theorem wu(t:List Nat)(c:Nat):natOf (t++[c])=10*natOf t+(c - 48):=by unfold natOf;rw[List.foldl_append];rfl
theorem Bp:∀(n:Nat)(t:List Nat),t.length=n->(∀c∈t,48<=c/\c<=57)->natOf t<10 ^ n
 |0,t,h,_=>by
  have:t=[]:=DG.mp h;subst this
  decide
 |n+1,t,h,hc=>by
  rcases List.eq_nil_or_concat t with rfl|⟨u,c,rfl⟩
  .cases h
  .rw[List.concat_eq_append] at h hc⊢;rw[wu];have h1:=Bp n u (by simpa using h) λd hd=>hc d (by simp[hd]);have h2:=hc c (by simp);rw[Nat.pow_succ];omega
theorem jJ:aG ["digits","number","digit"] ["digits"] (ay n_):=eP
theorem F4(F:bG K mg "number_of" n_ ["digits"])(T:Txt K mg C CO CC):aZ Z 1 "number_of" ["digits"] oH:=by
 refine F.ok jJ (λvs H Q E h=>?_) (λ_ _ _ _ _ H _ Q E hr h=>?_)
 .obtain⟨_,_,rfl,_⟩:=h;rfl
 .obtain⟨r,t,rfl,hR,hz,hd,k⟩:=h;refine⟨_,(ae (bD 1 jJ au) (ae (eE PassesOwn.never rfl (bM (pv 0)) (jB 2 jJ) (aj (bD 1 jJ (bh gm (bh bP (bh Om (pv 1) au) (pv 2)) (eu T))))) (aj (aw (pv 1))))),?_⟩;refine⟨_,rfl,r,rfl,⟨_,bf.of hR⟩,dI (K:=K) (a:=r) (xs:=aI t) (λi σ H'=>∃v:Option V,σ=[some (.ref r),some (.int (natOf (t.take i):Nat)),v]/\aD H H') ⟨none,rfl,aD.refl _⟩ (λi σ H' _ ⟨_,_,s1⟩=>bf.of (s1 _ _ hR)) ?_ ?_⟩
  .rintro i y σ H' hi ⟨v,rfl,s1⟩;obtain⟨c,hc,rfl⟩:=get_map hi;have fD:natOf (t.take i)<10 ^ (t.take i).length:=Bp _ _ rfl λd MD=>hd d (kx MD);have h4:(t.take i).length<=4:=by rw[bj];omega
   have h5:natOf (t.take i)<10 ^ 4:=dH fD (Nat.pow_le_pow_right (by decide) h4);have h6:=hd c (cJ hc);refine⟨_,rfl,_,_,rfl,rfl,.inl ⟨by omega,by omega⟩,_,rfl,_,_,rfl,rfl,_,_,rfl,rfl,?_⟩;refine⟨some (V.int (c:Nat)),?_,s1⟩;rw[take_snoc hc,wu];show[some (V.ref r),some (V.int (((natOf (t.take i):Nat):Int)*10+(c:Int) - 48)),some (V.int (c:Nat))]=_;rw[show(((natOf (t.take i):Nat):Int)*10+(c:Int) - 48)=((10*natOf (t.take i)+(c - 48):Nat):Int) by omega]
  .rintro σ H' ⟨v,rfl,s1⟩;rw[aF,fm];exact⟨_,rfl,k _ s1⟩
def Wb:R2:=λx y H Q=>∃(a c:Addr)(ns ms:List Int),x= .ref a/\y= .ref c/\H a=some (.lst (aU ns))/\H c=some (.lst (aU ms))/\Q (.bl (decide (ns=ms))) H
theorem qm(H:Hp):∀ns:List Int,vn K H (aU ns) (ns.map PyData.int)
 |[]=> .nil
 |n::r=> .cons (.int n) (qm H r)
theorem t5:∀ns:List Int,PyData.canLayAll0 (ns.map PyData.int)=true
 |[]=>by simp[PyData.canLayAll0]
 |n::r=>by simp[PyData.canLayAll0,PyData.canLay0,t5 r]
theorem wx:∀ns:List Int,PyData.depthAll (ns.map PyData.int)<=1
 |[]=>by simp[PyData.depthAll]
 |n::r=>by have:=wx r;simp[PyData.depthAll,PyData.depth];omega
theorem shaped_ints(ns:List Int):SeqAt.shaped (.list (ns.map PyData.int))=true:=by unfold SeqAt.shaped;have h1:=t5 ns;have h2:=wx ns;rw[uQ];refine⟨by simpa[PyData.canLay0] using h1,aR ?_⟩;simp[PyData.depth];omega
theorem Bq:∀ns ms:List Int,PyData.eqvAll (ns.map PyData.int) (ms.map PyData.int)=decide (ns=ms)
 |[],[]=>by simp[PyData.eqvAll]
 |[],m::ms=>by simp[PyData.eqvAll]
 |n::ns,[]=>by simp[PyData.eqvAll]
 |n::ns,m::ms=>by rw[cA,cA,PyData.eqvAll,PyData.eqv,Bq ns ms,GD];simp
theorem wy{X:Cx}(hu:X.A.units+64<cLine):qF X (compareOp .Eq) Wb:=by intro aq s σ H x y v u Q I rx ry h;obtain⟨a,c,ns,ms,rfl,rfl,ha,hc,q⟩:=h;refine OE hu aq s σ H _ _ v u Q I rx ry ⟨_,_,.lst (bf.of ha) (qm H ns),.lst (bf.of hc) (qm H ms),shaped_ints ns,shaped_ints ms,?_⟩;rw[show PyData.eqv (.list (ns.map PyData.int)) (.list (ms.map PyData.int))=decide (ns=ms) by rw[PyData.eqv,Bq]];exact q
def gj(l:List Nat):List Int:=l.map λc:Nat=>(c:Int)
theorem yo{l:List Nat}:gj l=gj m↔l=m:=by
 unfold gj;constructor
 .intro h;exact(List.map_inj_right (λa c h=>by omega)).mp h
 .intro h;rw[h]
theorem i9(t:List Nat):aI t=aU (gj t):=gO t
theorem byte_at{t:List Nat}{c:Nat}(h:t[i]?=some c):(aI t)[i]?=some (.int (c:Nat)):=by unfold aI;rw[gX,h];rfl
theorem fT(t:List Nat)(n:Nat):(aI t).take n=aI (t.take n):=(mV ..).symm
theorem gQ(t:List Nat)(n:Nat):(aI t).drop n=aI (t.drop n):=(jR ..).symm
theorem cU(t u:List Nat):aI t++aI u=aI (t++u):=(cX ..).symm
theorem lT(xs:List V)(a n:Nat):d_ xs (some (a:Int)) (some ((a:Int)+(n:Int)))=(xs.drop a).take n:=by
 unfold d_;rw[show HT.qG xs.length 0 (some (a:Int))=min a xs.length from HT.kE _ _ _,show((a:Int)+(n:Int))=((a+n:Nat):Int) by omega,show HT.qG xs.length xs.length (some ((a+n:Nat):Int))=min (a+n) xs.length from HT.kE _ _ _];by_cases h:a<=xs.length
 .rw[iY h];by_cases h2:a+n<=xs.length
  .rw[iY h2,xC]
  .rw[zT (by omega),pA (by rw[dD];omega),pA (by rw[dD];omega)]
 .rw[zT (by omega),zT (by omega),uS (aS xs.length),uS (show xs.length<=a by omega)];simp
def Br:Sp:=λvs H Q _=>∃(r:Addr)(t:List Nat)(i:Nat),vs=[.ref r,.int (i:Nat)]/\H r=some (.lst (aI t))/\i<=t.length/\∀H',aD H H'->Q (.int ((i+bV (t.drop i):Nat):Int)) H'
theorem mF{l:List Nat}{c:Nat}:l.take 1=[c]↔l.head?=some c:=by
 cases l with
 |nil=>simp
 |cons d r=>simp
theorem F5{l:List Nat}(hj:j<=((l.takeWhile digit).take 3).length):(j<l.length/\j<3/\(∃c,l[j]?=some c/\48<=c/\c<=57))↔j<((l.takeWhile digit).take 3).length:=by
 rw[bj] at hj⊢;have:=rm (p:=digit) (l:=l) (j:=j) (by omega);constructor
 .rintro⟨h1,h2,c,hc,hd⟩;have:j<(l.takeWhile digit).length:=this.mp ⟨c,hc,by unfold digit;exact aR hd⟩;omega
 .intro h;obtain⟨c,hc,hd⟩:=this.mpr (by omega);exact⟨(dm.mp hc).1,by omega,c,hc,i4 hd⟩
theorem iK:aG ["text","start","end"] ["text","start"] (ay jg):=eP
theorem F6(F:bG K mg "reference_end" jg ["text","start"])(T:Txt K mg C CO CC):aZ Z 1 "reference_end" ["text","start"] Br:=by
 refine F.ok iK (λvs H Q E h=>?_) (λ_ _ _ _ _ H _ Q E hr h=>?_)
 .obtain⟨_,_,_,rfl,_⟩:=h;rfl
 .obtain⟨r,t,i,rfl,hR,hi,k⟩:=h;refine⟨_,(ae (bD 2 iK (pv 1)) (ae (aM (bE (wy hr.units) (bo bA (pv 0) (aX (pv 1)) (aX (bh bP (pv 1) au))) (aL (aa (eu T) ag))) (aj (aw (pv 2))) aA) (ae (fo PassesOwn.never (PW.pt (gZ (bE g7 (pv 2) (o_ T (aa (pv 0) ag))) (gZ (bE g7 (pv 2) (bh bP (pv 1) (eu T))) (fX (Ac vg vg (eu T) (c7 aJ (pv 0) (pv 2)) (eu T)))))) (aj (k4 (i:=2) iK.nd rfl (Or.inl rfl) au nE))) (aj (aw (pv 2)))))),?_⟩;refine⟨_,rfl,?_⟩;refine⟨_,rfl,_,rfl,_,rfl,_,rfl,_,_,rfl,rfl,_,rfl,r,_,rfl,bf.of hR,λp1 h1=>?_⟩;rw[show d_ (aI t) (some (i:Int)) (some ((i:Int)+1))=aI ((t.drop i).take 1) by rw[show((i:Int)+1)=(i:Int)+((1:Nat):Int) by rfl,lT,gQ,fT]];have s1:aD H (upd H p1 (.lst (aI ((t.drop i).take 1)))):=aE h1;refine⟨aW,λp2 h2=>⟨p1,p2,gj ((t.drop i).take 1),[48],rfl,rfl,by rw[a9 ah h2,i9],ah,_,rfl,?_⟩⟩;have s2:=s1.new h2 (u:= .lst (aU [48]));by_cases Lv:(t.drop i).head?=some 48
  .refine aK (λ_=>?_) (λh=>?_)
   .have e:bV (t.drop i)=0:=by unfold bV;rw[ao Lv]
    have q:=k _ s2;rw[e] at q;exact⟨_,rfl,q⟩
   .exfalso;apply h;rw[mF.mpr Lv];rfl
  .refine aK (λh=>?_) (λ_=>?_)
   .exfalso;have h:gj ((t.drop i).take 1)=gj [48]:=aH h;exact Lv (mF.mp (yo.mp h))
   .have e:bV (t.drop i)=(((t.drop i).takeWhile digit).take 3).length:=by unfold bV;rw[ak Lv]
    refine fz (λ(j:Nat) σ H'=>j<=(((t.drop i).takeWhile digit).take 3).length/\σ=[some (.ref r),some (.int (i:Nat)),some (.int ((i+j:Nat):Int))]/\aD H H') (λj=>3 - j) 0 ⟨a_ _,rfl,s2⟩ ?_;rintro j σ H' ⟨hj,rfl,s3⟩;have m5:=F5 hj;have fin:¬j<(((t.drop i).takeWhile digit).take 3).length->∃v,[some (V.ref r),some (V.int (i:Nat)),some (V.int ((i+j:Nat):Int))][2]?=some (some v)/\Q v H':=λh=>by have q:=k _ s3;rw[e,show(((t.drop i).takeWhile digit).take 3).length=j by omega] at q;exact⟨_,rfl,q⟩
    refine⟨_,rfl,_,rfl,r,_,rfl,.inl (bf.of (s3 _ _ hR)),_,_,rfl,rfl,_,rfl,?_⟩;rw[aF];refine aK (λNb=>?_) (λNb=>fJ (fin λh=>Nb (aR ?_)))
    .have Nb:=aH Nb;refine⟨_,rfl,_,rfl,_,_,rfl,rfl,_,_,rfl,rfl,_,rfl,?_⟩;refine aK (λzk=>?_) (λzk=>fJ (fin λh=>zk (aR ?_)))
     .have zk:=aH zk;have hl:i+j<t.length:=by omega
      have hg:t[i+j]?=some t[i+j]:=c_ hl;refine⟨_,rfl,_,rfl,bH (s3 _ _ hR) rfl (byte_at hg) ⟨_,_,rfl,rfl,_,rfl,?_⟩⟩;have Qx:(t.drop i)[j]?=some t[i+j]:=by rw[xi,hg]
      refine aK (λNc=>?_) (λNc=>⟨_,rfl,fJ (fin λh=>Nc (aR ?_))⟩)
      .have Nc:=aH Nc;refine⟨_,_,rfl,rfl,_,rfl,?_⟩;refine aK (λNf=>?_) (λNf=>fin λh=>Nf (aR ?_))
       .have Nf:=aH Nf;have h5:=m5.mp ⟨by rw[dD];omega,by omega,_,Qx,by omega,by omega⟩;refine m_ j ?_;refine⟨_,rfl,_,_,rfl,rfl,j+1,(by show 3 - (j+1)<3 - j;omega),by omega,rfl,s3⟩
       .obtain⟨_,_,c,hc,hd⟩:=m5.mpr h;rw[Qx] at hc;cases hc;omega
      .obtain⟨_,_,c,hc,hd⟩:=m5.mpr h;rw[Qx] at hc;cases hc;omega
     .have:=(m5.mpr h).2.1;omega
    .have:=(m5.mpr h).1;rw[dD] at this;omega
def IS(q:Nat×Nat×Nat):List V:=[.int (q.1:Nat),.int (q.2.1:Nat),.int (q.2.2:Nat)]
structure lU(H:Hp)(p:Addr)(ts:List Addr)(ps:List (Nat×Nat×Nat)):Prop where
 lst:H p=some (.lst (ts.map V.ref))
 len:ts.length=ps.length
 at_:∀(i:Nat)(a:Addr)(q:Nat×Nat×Nat),ts[i]?=some a->ps[i]?=some q->H a=some (.tup (IS q))
theorem lU.same(h:lU H p ts ps)(s:aD H H'):lU H' p ts ps:=⟨s _ _ h.lst,h.len,λi a q ha hq=>s _ _ (h.at_ i a q ha hq)⟩
theorem lU.item(h:lU H p ts ps){v:V}(hv:(ts.map V.ref)[i]?=some v):∃a q,v= .ref a/\ts[i]?=some a/\ps[i]?=some q/\H a=some (.tup (IS q)):=by
 obtain⟨a,ha,rfl⟩:=get_map hv;have hi:i<ps.length:=by rw[<-h.len];exact(dm.mp ha).1
 exact⟨a,ps[i],rfl,ha,c_ hi,h.at_ i a _ ha (c_ hi)⟩
theorem lU.push{a:Addr}{q:Nat×Nat×Nat}(h:lU H p ts ps)(ha:H a=some (.tup (IS q))):lU (upd H p (.lst (ts.map V.ref++[V.ref a]))) p (ts++[a]) (ps++[q]) where
 lst:=by rw[ah,cX];rfl
 len:=by rw[bb,bb,h.len];rfl
 at_:=λi b r hb hr=>by
  have tk:∀{c:Addr}{xs:List V},H c=some (.tup xs)->upd H p (.lst (ts.map V.ref++[V.ref a])) c=some (.tup xs):=λ{c xs} hc=>by rw[az (jz hc h.lst (by intro e;cases e))];exact hc
  by_cases hi:i<ts.length
  .rw[nv hi] at hb;rw[nv (by rw[<-h.len];exact hi)] at hr;exact tk (h.at_ i b r hb hr)
  .rw[k3 (by omega)] at hb;rw[k3 (by rw[<-h.len];omega),<-h.len] at hr;cases e:i - ts.length with
   |zero=>rw[e] at hb hr;cases hb;cases hr;exact tk ha
   |succ n=>rw[e] at hb;simp at hb
def zq:Sp:=λvs H Q _=>∃(r:Addr)(t:List Nat),vs=[.ref r]/\H r=some (.lst (aI t))/\t.length<=60/\∀H' p ts,aD H H'->lU H' p ts (bK t.length 0 t)->H p=none->Q (.ref p) H'
theorem mG:∀(k i:Nat)(t:List Nat),(bK k i t).length<=k
 |k,i,[]=>by rw[parts_nil];exact a_ _
 |0,i,c::r=>aS _
 |k+1,i,c::r=>by rw[eJ,cn];exact zW (mG k _ _)
theorem Bs:∀(k i:Nat)(t:List Nat),t.length<=k->∀m,t.length<=m->bK k i t=bK m i t
 |k,i,[],_,m,_=>by rw[parts_nil,parts_nil]
 |0,i,c::r,h,m,_=>by simp at h
 |k+1,i,c::r,h,0,h2=>by simp at h2
 |k+1,i,c::r,h,m+1,h2=>by rw[eJ,eJ];have:=step_pos (c::r);simp at h h2;rw[Bs k _ _ (by rw[dD];simp;omega) m (by rw[dD];simp;omega)]
theorem C5{t:List Nat}(hi:i<t.length):bK t.length i (t.drop i)=(i,i+(bJ (t.drop i)).1,(bJ (t.drop i)).2)::bK t.length (i+(bJ (t.drop i)).1) (t.drop (i+(bJ (t.drop i)).1)):=by
 cases e:t.drop i with
 |nil=>have:=da List.length e;simp at this;omega
 |cons c r=>
  obtain⟨n,hn⟩:∃n,t.length=n+1:=⟨t.length - 1,by omega⟩;have hl:(c::r).length=t.length - i:=by rw[<-e,dD]
  have h1:=step_pos (c::r);have e2:t.drop (i+(bJ (c::r)).1)=(c::r).drop (bJ (c::r)).1:=by rw[<-e,ni]
  rw[hn,eJ,e2];rw[Bs n _ _ (by rw[dD];omega) (n+1) (by rw[dD];omega)]
theorem Bt(l:List Nat):∀c∈l.take (bV l),48<=c/\c<=57:=λc hc=>by
 unfold bV at hc;split at hc
 .simp at hc
 .have e:l.take ((l.takeWhile digit).take 3).length=(l.takeWhile digit).take 3:=by
   have h1:(l.takeWhile digit)=l.take (l.takeWhile digit).length:=zN.mp (G3 _);rw[bj]
   conv=>rhs;rw[h1]
   rw[List.take_take]
  rw[e] at hc;have:=takeWhile_all l c (kx hc);exact i4 this
theorem IT(l:List Nat):bV l<=3:=by
 unfold bV;split
 .exact a_ _
 .rw[bj];exact Nat.min_le_left _ _
theorem eA:aG ["text","parts","start","end","number"] ["text"] (ay qb):=eP
theorem IU(F:bG K mg "parts_of" qb ["text"])(T:Txt K mg C CO CC)(j_:aZ Z 1 "reference_end" ["text","start"] Br)(iL:aZ Z 1 "number_of" ["digits"] oH):
 aZ Z 2 "parts_of" ["text"] zq:=by
 refine F.ok eA (λvs H Q E h=>?_) (λ_ _ _ _ _ H _ Q E hr h=>?_)
 .obtain⟨_,_,rfl,_⟩:=h;rfl
 .obtain⟨r,t,rfl,hR,hz,k⟩:=h;refine⟨_,(ae (bD 1 eA (aL ag)) (ae (bD 2 eA au) (ae (fo PassesOwn.never (bE g7 (pv 2) (o_ T (aa (pv 0) ag))) (ae (bD 3 eA (bh bP (pv 2) au)) (ae (bD 4 eA au) (ae (aM (PW.pt (gZ (bE bw (c7 aJ (pv 0) (pv 2)) (eu T)) (fX (bE (wy hr.units) (bo bA (pv 0) (aX (pv 3)) (aX (bh bP (pv 3) au))) (aL (aa (eu T) ag)))))) (aj (k4 (i:=3) eA.nd rfl (Or.inl rfl) au nE)) (aj (aM (bE bw (c7 aJ (pv 0) (pv 2)) (eu T)) (ae (bD 3 eA (pc j_ hr (aa (pv 0) (aa (pv 3) ag)))) (aj (bD 4 eA (pc iL hr (aa (bo bA (pv 0) (aX (bh bP (pv 2) au)) (aX (pv 3))) ag))))) aA))) (ae (bF (eY eN iZ i0 cy (pv 1) (aa (l9 (aa (pv 2) (aa (pv 3) (aa (pv 4) ag)))) ag))) (aj (bD 2 eA (pv 3)))))))) (aj (aw (pv 1)))))),?_⟩;refine⟨a_ _,λp hp=>?_⟩;refine fz (λ(i:Nat) σ H'=>i<=t.length/\∃(v3 v4:Option V)(ts:List Addr)(ps:List (Nat×Nat×Nat)),σ=[some (.ref r),some (.ref p),some (.int (i:Nat)),v3,v4]/\aD H H'/\lU H' p ts ps/\ps.length<=i/\ps++bK t.length i (t.drop i)=bK t.length 0 t) (λi=>t.length - i) 0
   ⟨a_ _,none,none,[],[],rfl,aE hp,⟨ah,rfl,λi a q h=>by simp at h⟩,aS _,rfl⟩ ?_
  rintro i σ H' ⟨hi,v3,v4,ts,ps,rfl,s1,TL,rN,QI⟩;have J':=s1 _ _ hR;refine⟨_,rfl,_,rfl,r,_,rfl,.inl (bf.of J'),_,_,rfl,rfl,_,rfl,?_⟩;rw[aF];refine aK (λhc=>?_) (λhc=>?_)
  .have fD:i<t.length:=by have:=aH hc;omega
   have hg:t[i]?=some t[i]:=c_ fD;have yV:t.drop i=t[i]::t.drop (i+1):=rQ fD;have PN:(t.drop i).drop 1=t.drop (i+1):=by rw[ni]
   rw[C5 fD] at QI;have Z':=step_pos (t.drop i);have Lw:i+(bJ (t.drop i)).1<=t.length:=by rw[yV];have:=ze (c:=t[i]) (r:=t.drop (i+1));rw[<-yV,dD] at this;rw[<-yV];omega
   have fin:∀(H2:Hp),aD H' H2->∀(q:Nat×Nat×Nat),q=(i,i+(bJ (t.drop i)).1,(bJ (t.drop i)).2)->∀a,H2 a=none->
    lU (upd (upd H2 a (.tup (IS q))) p (.lst (ts.map V.ref++[V.ref a]))) p (ts++[a]) (ps++[q])/\aD H (upd (upd H2 a (.tup (IS q))) p (.lst (ts.map V.ref++[V.ref a])))/\(ps++[q])++bK t.length (i+(bJ (t.drop i)).1) (t.drop (i+(bJ (t.drop i)).1))=bK t.length 0 t:=λH2 s2 q hq a ha=>by
    refine⟨lU.push (TL.same (s2.new ha)) ah,((s1.trans s2).new ha).put hp,?_⟩;rw[dQ,hq];exact QI
   refine m_ i ?_;refine⟨_,rfl,_,_,rfl,rfl,?_⟩;refine⟨_,rfl,_,rfl,bH J' rfl (byte_at hg) ⟨rfl,_,rfl,?_⟩⟩;by_cases zj:t[i]=64
   .have Ng:(t.drop i).head?=some 64:=by rw[yV,zj];rfl
    refine aK (λ_=>?_) (λh=>absurd (aR (by rw[zj];rfl)) h);refine⟨_,rfl,_,rfl,_,rfl,_,rfl,_,_,rfl,rfl,_,rfl,r,_,rfl,bf.of J',λp1 h1=>?_⟩;rw[show d_ (aI t) (some ((i:Int)+1)) (some ((i:Int)+1+1))=aI ((t.drop (i+1)).take 1) by rw[show((i:Int)+1)=((i+1:Nat):Int) by omega,show(((i+1:Nat):Int)+1)=((i+1:Nat):Int)+((1:Nat):Int) by rfl,lT,gQ,fT]]
    have s2:aD H' (upd H' p1 (.lst (aI ((t.drop (i+1)).take 1)))):=aE h1;refine⟨aW,λp2 h2=>⟨p1,p2,gj ((t.drop (i+1)).take 1),[64],rfl,rfl,by rw[a9 ah h2,i9],ah,_,rfl,?_⟩⟩;have s3:=s2.new h2 (u:= .lst (aU [64]));by_cases h2:(t.drop (i+1)).head?=some 64
    .have GK:bJ (t.drop i)=(2,0):=by unfold bJ;rw[ao ⟨Ng,by rw[PN];exact h2⟩]
     refine aK (λ_=>?_) (λh=>?_)
     .refine⟨_,rfl,_,_,rfl,rfl,?_⟩;refine⟨_,rfl,.inl ⟨rfl,_,bf.of (s3 _ _ TL.lst)⟩,_,rfl,_,rfl,_,rfl,(by show 3<=sizeLine;decide),λa ha=>?_⟩;have q:=fin _ s3 (i,i+2,0) (by rw[GK]) a ha;refine⟨p,_,_,rfl,rfl,a9 (s3 _ _ TL.lst) ha,eO (by rw[aT,TL.len];omega),_,rfl,i+2,(by show t.length - (i+2)<t.length - i;omega),(by rw[GK] at Lw;exact Lw),some (V.int ((i:Int)+1+1)),some (V.int 0),ts++[a],ps++[(i,i+2,0)],?_,q.2.1,q.1,(by rw[bb];simp;omega),?_⟩
      .show[some (V.ref r),some (V.ref p),some (V.int ((i:Int)+1+1)),some (V.int ((i:Int)+1+1)),some (V.int 0)]=_;rw[show((i:Int)+1+1)=((i+2:Nat):Int) by omega]
      .have:=q.2.2;rw[GK] at this;exact this
     .exfalso;apply h;rw[mF.mpr h2];rfl
    .refine aK (λh=>?_) (λ_=>?_)
     .exfalso;have h:gj ((t.drop (i+1)).take 1)=gj [64]:=aH h;exact h2 (mF.mp (yo.mp h))
     .have GK:bJ (t.drop i)=(1+bV (t.drop (i+1)),natOf ((t.drop (i+1)).take (bV (t.drop (i+1))))):=by unfold bJ;rw[ak (by rw[PN];exactλh=>h2 h.2),ao Ng,PN]
      have Lx:=s3 _ _ J';refine⟨_,rfl,_,rfl,bH Lx rfl (byte_at hg) ⟨rfl,_,rfl,?_⟩⟩;refine aK (λ_=>?_) (λh=>absurd (aR (by rw[zj];rfl)) h);refine⟨_,rfl,_,rfl,r,t,i+1,(by show[V.ref r,V.int ((i:Int)+1)]=_;rfl),Lx,fD,λH4 s4=>?_⟩;have So:=s4 _ _ Lx;refine⟨_,rfl,_,rfl,_,_,rfl,rfl,_,rfl,_,rfl,_,rfl,r,_,rfl,bf.of So,λp5 h5=>?_⟩;have Nh:i+1+bV (t.drop (i+1))<=t.length:=by rw[GK] at Lw;exact(zR i 1 _▸Lw)
      have sR:d_ (aI t) (some ((i:Int)+1)) (some ((i+1+bV (t.drop (i+1)):Nat):Int))=aI ((t.drop (i+1)).take (bV (t.drop (i+1)))):=by rw[show((i:Int)+1)=((i+1:Nat):Int) by omega,ro _ (by rw[aF];omega) (by rw[aF];omega),xC,gQ,fT]
      rw[sR];refine⟨p5,_,rfl,ah,(by rw[bj];have:=IT (t.drop (i+1));omega),Bt _,λH6 s6=>?_⟩;have Wc:aD H' H6:=(s3.trans s4).trans ((aE h5).trans s6);refine⟨_,rfl,.inl ⟨rfl,_,bf.of (Wc _ _ TL.lst)⟩,_,rfl,_,rfl,_,rfl,(by show 3<=sizeLine;decide),λa ha=>?_⟩;have q:=fin _ Wc (i,i+1+bV (t.drop (i+1)),natOf ((t.drop (i+1)).take (bV (t.drop (i+1))))) (by rw[GK];show _=(i,i+(1+bV (t.drop (i+1))),_);rw[zR]) a ha;refine⟨p,_,_,rfl,rfl,a9 (Wc _ _ TL.lst) ha,eO (by rw[aT,TL.len];omega),_,rfl,i+1+bV (t.drop (i+1)),(by show t.length - (i+1+bV (t.drop (i+1)))<t.length - i;omega),Nh,_,_,_,_,rfl,q.2.1,q.1,(by rw[bb];simp;omega),?_⟩;have:=q.2.2;rw[GK,<-zR] at this;exact this
   .have Ng:¬(t.drop i).head?=some 64:=λh=>by rw[yV] at h;exact zj (di h)
    have GK:bJ (t.drop i)=(1,0):=by unfold bJ;rw[ak (λh=>Ng h.1),ak Ng]
    refine aK (λh=>?_) (λ_=>?_)
    .exfalso;have:=aH h;injection this;omega
    .refine fJ ?_;refine⟨_,rfl,_,rfl,bH J' rfl (byte_at hg) ⟨rfl,_,rfl,?_⟩⟩;refine aK (λh=>?_) (λ_=>?_)
     .exfalso;have:=aH h;injection this;omega
     refine⟨_,rfl,.inl ⟨rfl,_,bf.of TL.lst⟩,_,rfl,_,rfl,_,rfl,(by show 3<=sizeLine;decide),λa ha=>?_⟩;have q:=fin _ (aD.refl _) (i,i+1,0) (by rw[GK]) a ha;refine⟨p,_,_,rfl,rfl,a9 TL.lst ha,eO (by rw[aT,TL.len];omega),_,rfl,i+1,(by show t.length - (i+1)<t.length - i;omega),fD,_,_,_,_,rfl,q.2.1,q.1,(by rw[bb];simp;omega),?_⟩;have:=q.2.2;rw[GK] at this;exact this
  .have e:i=t.length:=by have:=cI hc;omega
   subst e;rw[Kk,parts_nil,pw] at QI;subst QI;exact⟨_,rfl,k _ p ts s1 TL hp⟩
def C6:Sp:=λvs H Q _=>∃(r:Addr)(t:List Nat),vs=[.ref r]/\H r=some (.lst (aI t))/\t.length<=60/\∀H' p ts,aD H H'->lU H' p ts (scan t.length 0 t)->H p=none->Q (.ref p) H'
theorem dF:aG ["text","start","end","number"] ["text"] (ay jh):=eP
theorem Ly(F:bG K mg "references_in" jh ["text"])(T:Txt K mg C CO CC)(jQ:aZ Z 2 "parts_of" ["text"] zq):aZ Z 3 "references_in" ["text"] C6:=by
 refine F.ok dF (λvs H Q E h=>?_) (λ_ _ _ _ _ H _ Q E hr h=>?_)
 .obtain⟨_,_,rfl,_⟩:=h;rfl
 .obtain⟨r,t,rfl,hR,hz,k⟩:=h;refine⟨_,(aj (aw (kI rfl dF.nd (bM (pc jQ hr (aa (pv 0) ag))) (own:=[("start",1),("end",2),("number",3)]) (B7 dF) (λ_ _ _ _ _=>(EG (K:=K) (n:=3) rfl rfl (b_ (jB 1 dF) (b_ (jB 2 dF) (b_ (jB 3 dF) jE))))) (λ_ _ _ _ _=>(kH (bE lF (pv 3) au))) (λ_ _ _ _ _=>(l9 (aa (bh bP (pv 1) au) (aa (pv 2) (aa (pv 3) ag)))))))),?_⟩;refine⟨_,rfl,r,t,rfl,hR,hz,λH2 p ts s2 TL Bj=>⟨p,rfl,⟨_,bf.of TL.lst⟩,λD hD=>?_⟩⟩;have rN:(bK t.length 0 t).length<=60:=bq (mG _ _ _) hz;refine Ee (K:=K) (a:=p) (xs:=ts.map V.ref) (λi H'=>aD H2 H'/\∃us,lU H' D us (((bK t.length 0 t).take i).filterMap sy)) ⟨aE hD,[],ah,rfl,λi a q h=>by simp at h⟩ (λi H' _ ⟨s3,_⟩=>bf.of (s3 _ _ TL.lst)) ?_ ?_
  .rintro i y H' hi ⟨s3,us,UL⟩;obtain⟨a,q,rfl,ha,hq,F7⟩:=TL.item hi;refine⟨a,_,rfl,iu.of (s3 _ _ F7),rfl,_,_,rfl,_,_,rfl,_,_,rfl,rfl,rfl,?_⟩;refine⟨_,rfl,rfl,_,rfl,?_⟩;by_cases h0:q.2.2=0
   .refine aK (λh=>?_) (λ_=>⟨s3,us,?_⟩)
    .rw[h0] at h;simp at h
    .rw[take_snoc hq,Km];have e:sy q=none:=by unfold sy;rw[ao h0]
     simp[e];exact UL
   .refine aK (λ_=>?_) (λh=>?_)
    .refine⟨_,rfl,_,_,rfl,rfl,_,rfl,_,rfl,(by show 3<=sizeLine;decide),λu hu=>⟨_,a9 UL.lst hu,?_,(s3.new hu).put hD,us++[u],?_⟩⟩
     .refine eO ?_;rw[aT,UL.len];refine u0 (DH _ _) ?_;rw[bj];omega
     .rw[take_snoc hq,Km];have e:sy q=some (q.1+1,q.2.1,q.2.2):=by unfold sy;rw[ak h0]
      rw[show[q].filterMap sy=[(q.1+1,q.2.1,q.2.2)] by simp[e]];exact lU.push (UL.same (aE hu)) ah
    .exfalso;apply h;simp;omega
  .rintro H' ⟨s3,us,UL⟩;rw[aT,TL.len,fm,ff] at UL;exact k _ D us (s2.trans s3) UL (s2.free hD)
def zr:Sp:=λvs H Q _=>∃(r:Addr)(t:List Nat),vs=[.ref r]/\H r=some (.lst (aI t))/\t.length<=60/\∀H' p,aD H H'->H' p=some (.lst (aI (refs t)))->Q (.ref p) H'
theorem cG:aG ["text","start","end","number"] ["text"] (ay gD):=eP
theorem Lz(F:bG K mg "numbers_referred" gD ["text"])(T:Txt K mg C CO CC)(eZ:aZ Z 3 "references_in" ["text"] C6):aZ Z 4 "numbers_referred" ["text"] zr:=by
 refine F.ok cG (λvs H Q E h=>?_) (λ_ _ _ _ _ H _ Q E hr h=>?_)
 .obtain⟨_,_,rfl,_⟩:=h;rfl
 .obtain⟨r,t,rfl,hR,hz,k⟩:=h;refine⟨_,(aj (aw (kI rfl cG.nd (bM (pc eZ hr (aa (pv 0) ag))) (own:=[("start",1),("end",2),("number",3)]) (B7 cG) (λ_ _ _ _ _=>(EG (K:=K) (n:=3) rfl rfl (b_ (jB 1 cG) (b_ (jB 2 cG) (b_ (jB 3 cG) jE))))) (λ_ _ _ _ _=>kG) (λ_ _ _ _ _=>(pv 3))))),?_⟩;refine⟨_,rfl,r,t,rfl,hR,hz,λH2 p ts s2 TL _=>⟨p,rfl,⟨_,bf.of TL.lst⟩,λD hD=>?_⟩⟩;have hL:bf K H2 p ((ts.zip (scan t.length 0 t)).map λq=>V.ref q.1):=by rw[<-uJ TL.len];exact bf.of TL.lst
  have hsz:(ts.zip (scan t.length 0 t)).length<sizeLine:=by refine eO ?_;have:=scan_len t;rw[List.length_zip,TL.len];omega
  refine f9 (K:=K) (a:=p) (λq=>some (V.int (q.2.2.2:Nat))) hL hD hsz (λm q H4 hq s4 R R0 k1 k2=>?_) (λH4 s4 h4=>?_)
  .have F7:=s4 _ _ (TL.at_ m _ _ (qi hq).1 (qi hq).2);refine⟨q.1,_,rfl,iu.of F7,rfl,_,_,rfl,_,_,rfl,_,_,rfl,rfl,rfl,Bd ⟨_,rfl,k1 _ _ (aD.refl _) rfl⟩⟩
  .refine k _ D (s2.trans s4) ?_;rw[h4,CZ TL.len (λq=>some (V.int (q.2.2:Nat))),Kn,<-vT,ff];unfold aI;rw[iq];rfl
structure wz(H:Hp)(d:Addr)(a8:List (Key×V))(ls:List (Nat×List Nat)):Prop where
 at_:H d=some (.dK a8)
 len:a8.length=ls.length
 items:∀(i:Nat)(q:Nat×List Nat),ls[i]?=some q->∃a,a8[i]?=some (Sum.inl (q.1:Int),V.ref a)/\H a=some (.lst (aI q.2))
theorem wz.same{ls:List (Nat×List Nat)}(h:wz H d a8 ls)(s:aD H H'):wz H' d a8 ls:=
 ⟨s _ _ h.at_,h.len,λi q hq=>by obtain⟨a,h1,h2⟩:=h.items i q hq;exact⟨a,h1,s _ _ h2⟩⟩
theorem EN{R:Addr->List Nat->Prop}(n:Nat):∀(a8:List (Key×V))(ls:List (Nat×List Nat)),a8.length=ls.length->(∀(i:Nat)(q:Nat×List Nat),ls[i]?=some q->∃a,a8[i]?=some (Sum.inl (q.1:Int),V.ref a)/\R a q.2)->
 (labelIn ls n=none/\gU a8 (Sum.inl (n:Int))=none)\/∃qo a,labelIn ls n=some qo/\gU a8 (Sum.inl (n:Int))=some (.ref a)/\R a qo
 |[],[],_,_=> .inl ⟨rfl,rfl⟩
 |[],_::_,h,_=>by cases h
 |_::_,[],h,_=>by cases h
 |kv::a8,q::ls,hl,h=>by
  obtain⟨a,h1,h2⟩:=h 0 q rfl;have h1:kv=(Sum.inl (q.1:Int),V.ref a):=by simpa using h1
  by_cases e:q.1=n
  .refine .inr ⟨q.2,a,?_,?_,h2⟩
   .unfold labelIn;rw[rT,show(q.1==n)=true by simpa using e];rfl
   .rw[fq (by rw[h1,e]),h1]
  .have ih:=EN (R:=R) n a8 ls (by simpa using hl) λi q' B2=>by obtain⟨a',g1,g2⟩:=h (i+1) q' (by simpa using B2);exact⟨a',by simpa using g1,g2⟩
   have e1:labelIn (q::ls) n=labelIn ls n:=by unfold labelIn;rw[rT,show(q.1==n)=false by simpa using e]
   have e2:gU (kv::a8) (Sum.inl (n:Int))=gU a8 (Sum.inl (n:Int)):=ft (by
    rw[h1];intro h;injection h with h
    omega)
   rw[e1,e2];exact ih
theorem wz.find{ls:List (Nat×List Nat)}(h:wz H d a8 ls)(n:Nat):
 (labelIn ls n=none/\gU a8 (Sum.inl (n:Int))=none)\/∃qo a,labelIn ls n=some qo/\gU a8 (Sum.inl (n:Int))=some (.ref a)/\H a=some (.lst (aI qo)):=
 EN (R:=λa l=>H a=some (.lst (aI l))) n a8 ls h.len h.items
def uM:Sp:=λvs H Q _=>∃(r d:Addr)(t:List Nat)(a8:List (Key×V))(ls:List (Nat×List Nat)),vs=[.ref r,.ref d]/\H r=some (.lst (aI t))/\t.length<=60/\wz H d a8 ls/\(∀q∈ls,q.2.length<=24)/\
 ∀H' p,aD H H'->H' p=some (.lst (aI (shownWith ls t)))->Q (.ref p) H'
theorem oI:aG ["text","labels","bytes_shown","start","end","number"] ["text","labels"] (ay zl):=eP
theorem IV(F:bG K mg "shown" zl ["text","labels"])(T:Txt K mg C CO CC)(jQ:aZ Z 2 "parts_of" ["text"] zq):aZ Z 3 "shown" ["text","labels"] uM:=by
 refine F.ok oI (λvs H Q E h=>?_) (λ_ _ _ _ _ H _ Q E hr h=>?_)
 .obtain⟨_,_,_,_,_,rfl,_⟩:=h;rfl
 .obtain⟨r,d,t,a8,ls,rfl,hR,hz,LD,Uk,k⟩:=h;refine⟨_,(ae (bD 2 oI (aL ag)) (ae (eE PassesOwn.never rfl (bM (pc jQ hr (aa (pv 0) ag))) (nD rfl (b_ (jB 3 oI) (b_ (jB 4 oI) (b_ (jB 5 oI) jE)))) (aj (aM (bE bw (pv 5) au) (aj (bF (eY eN iZ i0 cy (pv 2) (aa (c7 aJ (pv 0) (pv 3)) ag)))) (aj (bF (eY eN qJ qK fY (pv 2) (aa (HC (qW hr) (pv 1) (pv 5) (aL (aa (eu T) ag)) (by constructor<;>rfl)) ag))))))) (aj (aw (pv 2))))),?_⟩;refine⟨a_ _,λb hb=>?_⟩;have s1:aD H (upd H b (.lst [])):=aE hb;refine⟨_,rfl,r,t,rfl,s1 _ _ hR,hz,λH2 p ts s2 TL Bj=>⟨p,rfl,⟨_,bf.of TL.lst⟩,?_⟩⟩;have rN:(bK t.length 0 t).length<=60:=bq (mG _ _ _) hz;have hlen:∀i,(((bK t.length 0 t).take i).flatMap (dP ls t)).length<=1440:=λi=>by refine bq (vZ _ 24 _ λp _=>o7 ls t p Uk) ?_;rw[bj];omega
  have Sq:p≠b:=λe=>by rw[e] at Bj;rw[ah] at Bj;cases Bj
  refine dI (K:=K) (a:=p) (xs:=ts.map V.ref) (λi σ H'=>∃v3 v4 v5:Option V,σ=[some (.ref r),some (.ref d),some (.ref b),v3,v4,v5]/\aD H H'/\lU H' p ts (bK t.length 0 t)/\H' b=some (.lst (aI (((bK t.length 0 t).take i).flatMap (dP ls t)))))
   ⟨none,none,none,rfl,s1.trans s2,TL,s2 _ _ ah⟩ (λi σ H' _ ⟨_,_,_,_,_,yp,_⟩=>bf.of yp.lst) ?_ ?_
  .rintro i y σ H' hi ⟨v3,v4,v5,rfl,s3,yp,hB⟩;obtain⟨a,q,rfl,ha,hq,F7⟩:=yp.item hi;have Sr:=vY t t.length 0 (a_ _) q (by rw[zI];exact cJ hq);have xc:((bK t.length 0 t).take (i+1)).flatMap (dP ls t)=((bK t.length 0 t).take i).flatMap (dP ls t)++dP ls t q:=by rw[take_snoc hq,B_];simp
   refine⟨a,_,rfl,iu.of F7,rfl,_,_,rfl,_,_,rfl,_,_,rfl,rfl,?_⟩;refine⟨_,rfl,rfl,_,rfl,?_⟩;have Ni:∀(u:HO),lU (upd H' b u) p ts (bK t.length 0 t):=λu=>⟨by rw[az Sq];exact yp.lst,yp.len,λi a q ha hq=>by have:=yp.at_ i a q ha hq;rw[az (jz this hB (by intro e;cases e))];exact this⟩
   by_cases h0:q.2.2=0
   .refine aK (λ_=>?_) (λh=>absurd (aR (by rw[h0];rfl)) h);have hg:t[q.1]?=some t[q.1]:=c_ Sr.1;refine⟨_,rfl,.inl ⟨rfl,_,bf.of hB⟩,_,rfl,_,rfl,bH (s3 _ _ hR) rfl (byte_at hg) ⟨b,_,_,rfl,rfl,hB,eO (by rw[aF];have:=hlen i;omega),?_⟩⟩;refine⟨_,_,_,rfl,s3.put hb,Ni _,?_⟩;rw[ah,xc,<-cU];have e:dP ls t q=[t[q.1]]:=by unfold dP;rw[ao h0,rQ Sr.1];rfl
    rw[e];rfl
   .refine aK (λh=>?_) (λ_=>?_)
    .exfalso;have:=aH h;injection this;omega
    refine⟨_,rfl,.inl ⟨rfl,_,bf.of hB⟩,_,rfl,d,rfl,.inl ⟨_,.inl (s3 _ _ LD.at_)⟩,_,rfl,aW,λu hu=>?_⟩;have X1:=(LD.same s3).same (aE hu (u:= .lst [V.int 63]));refine⟨_,pQ.k (k:=Sum.inl ((q.2.2:Nat):Int)) X1.at_,?_⟩;have Ul:=a9 hB hu (u:= .lst [V.int 63]);rcases X1.find q.2.2 with⟨e1,e2⟩|⟨qo,a2,e1,e2,h2⟩
    .rw[e2];refine⟨b,u,_,_,rfl,rfl,Ul,ah,dC (by rw[aF];have:=hlen i;show _+1<=100000;omega),?_⟩;refine⟨_,_,_,rfl,(s3.new hu).put hb,?_,?_⟩
     .have:=Ni (.lst []);refine⟨by rw[az Sq];exact a9 yp.lst hu,yp.len,λi a q ha hq=>?_⟩;have:=a9 (yp.at_ i a q ha hq) hu (u:= .lst [V.int 63]);rw[az (jz this Ul (by intro e;cases e))];exact this
     .rw[ah,xc,<-cU];have e:dP ls t q=[63]:=by unfold dP;rw[ak h0,e1];rfl
      rw[e];rfl
    .rw[e2];have lV:qo.length<=24:=by have:=o7 ls t q Uk;unfold dP at this;rw[ak h0,e1] at this;exact this
     refine⟨b,a2,_,_,rfl,rfl,Ul,h2,dC (by rw[aF,aF];have:=hlen i;omega),?_⟩;refine⟨_,_,_,rfl,(s3.new hu).put hb,?_,?_⟩
     .refine⟨by rw[az Sq];exact a9 yp.lst hu,yp.len,λi a q ha hq=>?_⟩;have:=a9 (yp.at_ i a q ha hq) hu (u:= .lst [V.int 63]);rw[az (jz this Ul (by intro e;cases e))];exact this
     .rw[ah,xc,<-cU];have e:dP ls t q=qo:=by unfold dP;rw[ak h0,e1];rfl
      rw[e]
  .rintro σ H' ⟨v3,v4,v5,rfl,s3,yp,hB⟩;rw[aT,TL.len,fm,kP] at hB;exact⟨_,rfl,k _ b s3 hB⟩
def Nj:Sp:=λvs H Q _=>∃(r d:Addr)(t:List Nat)(a8:List (Key×V))(m:Nat->Option Nat),vs=[.ref r,.ref d]/\H r=some (.lst (aI t))/\t.length<=60/\H d=some (.dK a8)/\(∀n:Nat,gU a8 (Sum.inl (n:Int))=(m n).map λv=>V.int (v:Nat))/\(∀n v,m n=some v->v<1000)/\
 ∀H' p,aD H H'->H' p=some (.lst (aI (su m (scan t.length 0 t) 0 t)))->H p=none->Q (.ref p) H'
theorem eK:aG ["text","numbers","changed","taken","start","end","number"] ["text","numbers"] (ay mr):=eP
theorem PQ(F:bG K mg "renumbered" mr ["text","numbers"])(T:Txt K mg C CO CC)(eZ:aZ Z 3 "references_in" ["text"] C6)(qp:aZ Z 2 "digits_of" ["number"] Bo):
 aZ Z 4 "renumbered" ["text","numbers"] Nj:=by
 refine F.ok eK (λvs H Q E h=>?_) (λ_ _ _ _ _ H _ Q E hr h=>?_)
 .obtain⟨_,_,_,_,_,rfl,_⟩:=h;rfl
 .obtain⟨r,d,t,a8,m,rfl,hR,hz,hd,hm,hv,k⟩:=h;refine⟨_,(ae (bD 2 eK (aL ag)) (ae (bD 3 eK au) (ae (eE PassesOwn.never rfl (bM (pc eZ hr (aa (pv 0) ag))) (nD rfl (b_ (jB 4 eK) (b_ (jB 5 eK) (b_ (jB 6 eK) jE)))) (aj (aM (Oe (OJ (qW hr) (pv 6) (pv 1))) (ae (bF (eY eN qJ qK fY (pv 2) (aa (bo bA (pv 0) (aX (pv 3)) (aX (pv 4))) ag))) (ae (bF (eY eN qJ qK fY (pv 2) (aa (pc qp hr (aa (uA (qW hr) (pv 1) (pv 6) (λ_ _=>rfl)) ag)) ag))) (aj (bD 3 eK (pv 5))))) aA))) (aj (aw (bh g9 (pv 2) (bo bA (pv 0) (aX (pv 3)) eS))))))),?_⟩;refine⟨a_ _,λc hc=>?_⟩;have s1:aD H (upd H c (.lst [])):=aE hc;refine⟨_,rfl,r,t,rfl,s1 _ _ hR,hz,λH2 p ts s2 TL Bj=>⟨p,rfl,⟨_,bf.of TL.lst⟩,?_⟩⟩;have TZ:=scan_len t;have F8:p≠c:=λe=>by rw[e] at Bj;rw[ah] at Bj;cases Bj
  refine dI (K:=K) (a:=p) (xs:=ts.map V.ref) (λi σ H'=>∃(v4 v5 v6:Option V)(tk:Nat)(dn:List Nat),σ=[some (.ref r),some (.ref d),some (.ref c),some (.int (tk:Nat)),v4,v5,v6]/\aD H H'/\lU H' p ts (scan t.length 0 t)/\H' c=some (.lst (aI dn))/\tk<=t.length/\dn.length<=64*i/\
   dn++su m ((scan t.length 0 t).drop i) tk t=su m (scan t.length 0 t) 0 t)
   ⟨none,none,none,0,[],rfl,s1.trans s2,TL,s2 _ _ ah,a_ _,by simp,by simp⟩ (λi σ H' _ ⟨_,_,_,_,_,_,_,yp,_⟩=>bf.of yp.lst) ?_ ?_
  .rintro i y σ H' hi ⟨v4,v5,v6,tk,dn,rfl,s3,yp,hC,EO,GH,sS⟩;obtain⟨a,q,rfl,ha,hq,F7⟩:=yp.item hi;have Ss:=K_ t q (cJ hq);have m6:i<(scan t.length 0 t).length:=(dm.mp hq).1;have yV:(scan t.length 0 t).drop i=q::(scan t.length 0 t).drop (i+1):=by rw[rQ m6,(dm.mp hq).2]
   rw[yV] at sS;have sS:dn++(match m q.2.2 with
    |some v=>(t.take q.1).drop tk++decimal v++su m ((scan t.length 0 t).drop (i+1)) q.2.1 t
    |none=>su m ((scan t.length 0 t).drop (i+1)) tk t)=su m (scan t.length 0 t) 0 t:=sS
   refine⟨a,_,rfl,iu.of F7,rfl,_,_,rfl,_,_,rfl,_,_,rfl,rfl,?_⟩;refine⟨_,rfl,_,rfl,d,_,rfl,pQ.k (k:=Sum.inl ((q.2.2:Nat):Int)) (s3 _ _ hd),_,rfl,?_⟩;have wA:=hm q.2.2;cases Um:m q.2.2 with
   |none=>rw[Um] at wA sS;rw[wA];refine fJ ?_;exact⟨_,_,_,tk,dn,rfl,s3,yp,hC,EO,by omega,sS⟩
   |some v=>
    rw[Um] at wA sS;rw[wA];refine eG ?_;have Nk:∀{H3:Hp}{u:HO}{xs:List V},lU H3 p ts (scan t.length 0 t)->H3 c=some (.lst xs)->lU (upd H3 c u) p ts (scan t.length 0 t):=λ{H3 u xs} Wd hC3=>⟨by rw[az F8];exact Wd.lst,Wd.len,λi a q ha hq=>by have:=Wd.at_ i a q ha hq;rw[az (jz this hC3 (by intro e;cases e))];exact this⟩
    refine⟨_,rfl,.inl ⟨rfl,_,bf.of hC⟩,_,rfl,_,rfl,_,rfl,_,rfl,_,rfl,r,_,rfl,bf.of (s3 _ _ hR),λu hu=>?_⟩;have sR:d_ (aI t) (some (tk:Int)) (some (q.1:Int))=aI ((t.take q.1).drop tk):=by rw[ro _ (by rw[aF];exact EO) (by rw[aF];exact Ss.1),gQ,fT,List.drop_take]
    rw[sR];have hl1:((t.take q.1).drop tk).length<=60:=by rw[dD,bj];omega
    refine⟨c,u,_,_,rfl,rfl,a9 hC hu,ah,dC (by rw[aF,aF];omega),?_⟩;rw[cU];have s4:aD H (upd (upd H' u (.lst (aI ((t.take q.1).drop tk)))) c (.lst (aI (dn++(t.take q.1).drop tk)))):=(s3.new hu).put hc;have TL4:=Nk (u:= .lst (aI (dn++(t.take q.1).drop tk))) (yp.same (aE hu (u:= .lst (aI ((t.take q.1).drop tk))))) (a9 hC hu);refine⟨_,rfl,.inl ⟨rfl,_,bf.of ah⟩,_,rfl,_,rfl,d,V.int (v:Nat),rfl,?_,v,rfl,hv _ _ Um,λH5 g s5 hg hg0=>?_⟩
    .have:=pQ.k (k:=Sum.inl ((q.2.2:Nat):Int)) (s4 _ _ hd);rw[wA] at this;exact this
    have X2:=s5 _ _ ah;have B6:=iS (hv _ _ Um);refine⟨c,g,_,_,rfl,rfl,X2,hg,dC (by rw[aF,aF,bb];omega),?_⟩;rw[cU];refine⟨_,rfl,?_⟩;refine⟨_,_,_,q.2.1,dn++(t.take q.1).drop tk++decimal v,rfl,(s4.trans s5).put hc,Nk (TL4.same s5) X2,ah,Ss.2,?_,?_⟩
    .rw[bb,bb];omega
    .rw[<-sS];simp
  .rintro σ H' ⟨v4,v5,v6,tk,dn,rfl,s3,yp,hC,EO,GH,sS⟩;rw[aT,TL.len] at sS GH;rw[Kk] at sS;have sS:dn++t.drop tk=su m (scan t.length 0 t) 0 t:=sS;refine⟨_,rfl,_,rfl,_,rfl,_,rfl,r,_,rfl,bf.of (s3 _ _ hR),λu hu=>?_⟩;rw[j9 _ (by rw[aF];exact EO),gQ];refine⟨c,u,_,_,rfl,rfl,a9 hC hu,ah,dC (by rw[aF,aF,dD];omega),λp2 Cq=>?_⟩;rw[cU];refine k _ p2 ((s3.new hu).new Cq) ?_ ((s3.new hu).free Cq);rw[ah,sS]
structure Itm(C:Addr)(H:Hp)(as:List Addr)(o:O):Prop where
 len:as.length=o.length
 at_:∀(i:Nat)(a:Addr)(x:Nd),as[i]?=some a->o[i]?=some x->bW C H a x
theorem NL.sT(N:NL C H l as o):Itm C H as o:=⟨N.len,N.at_⟩
theorem Itm.nl(I:Itm C H as o)(hl:H l=some (.lst (as.map V.ref)))(sm:o.length<=1000):NL C H l as o:=⟨hl,I.len,sm,I.at_⟩
theorem Itm.same{H H':Hp}{as:List Addr}{o:O}(I:Itm C H as o)(s:aD H H'):Itm C H' as o:=⟨I.len,λi a x ha hx=>(I.at_ i a x ha hx).same s⟩
theorem Itm.one{a:Addr}(h:bW C H a x):Itm C H [a] [x]:=⟨rfl,λi a' x' ha hx=>by
 cases i with
 |zero=>cases ha;cases hx;exact h
 |succ i=>simp at ha⟩
theorem Itm.append{bs:List Addr}{q:O}(I:Itm C H as o)(J:Itm C H bs q):Itm C H (as++bs) (o++q):=⟨by rw[bb,bb,I.len,J.len],λi a x ha hx=>by
 by_cases h:i<as.length
 .rw[nv h] at ha;rw[nv (by rw[<-I.len];exact h)] at hx;exact I.at_ i a x ha hx
 .rw[k3 (by omega)] at ha;rw[k3 (by rw[<-I.len];omega),<-I.len] at hx;exact J.at_ _ a x ha hx⟩
theorem Itm.take{H:Hp}{as:List Addr}{o:O}(I:Itm C H as o)(n:Nat):Itm C H (as.take n) (o.take n):=⟨by rw[bj,bj,I.len],λi a x ha hx=>by
 rw[Fc] at ha hx;by_cases h:i<n
 .rw[ao h] at ha hx;exact I.at_ i a x ha hx
 .rw[ak h] at ha;cases ha⟩
theorem Itm.drop{H:Hp}{as:List Addr}{o:O}(I:Itm C H as o)(n:Nat):Itm C H (as.drop n) (o.drop n):=⟨by rw[dD,dD,I.len],λi a x ha hx=>by rw[xi] at ha hx;exact I.at_ _ a x ha hx⟩
theorem Itm.oF(I:Itm C H as o){a:Addr}(h:a∈as):∃dx fs,H a=some (.ins C dx fs):=by obtain⟨i,hi⟩:=xj h;obtain⟨x,hx⟩:∃x,o[i]?=some x:=⟨o[i]'(by rw[<-I.len];exact(dm.mp hi).1),c_ _⟩;obtain⟨dx,t,h1,_⟩:=I.at_ i a x hi hx;exact⟨dx,_,h1⟩
theorem Itm.but(I:Itm C H as o)(hS:∀b∈S,∃D dx fs,H b=some (.ins D dx fs))(hd:∀a∈as,a∉S)(b:ql S H H'):Itm C H' as o:=⟨I.len,λi a x ha hx=>by obtain⟨dx,t,h1,h2⟩:=I.at_ i a x ha hx;refine⟨dx,t,b _ _ h1 (hd a (cJ ha)),b _ _ h2 λh=>?_⟩;obtain⟨D,vj,fs,e⟩:=hS t h;rw[h2] at e;cases e⟩
theorem Itm.nodup(I:Itm C H as o)(hn:(nums o).Nodup):as.Nodup:=by
 unfold List.Nodup;rw[DK];intro i j hi hj uq e;have X3:i<o.length:=by rw[<-I.len];exact hi
 have X4:j<o.length:=by rw[<-I.len];exact hj
 obtain⟨dx,t,h1,_⟩:=I.at_ i _ _ (c_ hi) (c_ X3);obtain⟨vj,t',QK,_⟩:=I.at_ j _ _ (c_ hj) (c_ X4);rw[e,QK] at h1;have PR:o[i].number=o[j].number:=by have:=di h1;injection this with _ _ e3;unfold nf at e3;injection e3 with e4 _;injection e4 with _ e5;injection e5 with e6;omega
 have h2:=(DK.mp hn) i j (by unfold nums;rw[aT];exact X3) (by unfold nums;rw[aT];exact X4) uq;apply h2;unfold nums;rw[GV,GV];exact PR
theorem ql.of_same(s:aD H H'):ql S H H':=λb u e _=>s b u e
theorem ql.qr(s:aD H H')(h:ql S H' H2):ql S H H2:=λb u e hb=>h b u (s b u e) hb
theorem mH{a:Addr}:ql [a] H (upd H a u):=λb o e hb=>by rw[az (λq=>hb (by rw[q];simp))];exact e
theorem ql.fr(h:ql S H H')(hS:∀b∈S,(∃dx fs,H b=some (.ins C dx fs))\/∃dx fs,H b=some (.ins CO dx fs)):Fr C CO H H':=by
 have off:∀{b:Addr}{o:HO},H b=some o->(∀D dx fs,o≠ .ins D dx fs)->b∉S:=λ{b o} e n hb=>by
  rcases hS b hb with⟨dx,fs,q⟩|⟨dx,fs,q⟩
  .rw[e] at q;exact n _ _ _ (di q)
  .rw[e] at q;exact n _ _ _ (di q)
 refine⟨λb o e n1 n2 _=>h b o e λhb=>?_,λP ⟨ps,h1,h2,h3⟩=>⟨ps,h _ _ h1 (off h1 (by intros;intro q;cases q)),h2,?_⟩⟩
 .rcases hS b hb with⟨dx,fs,q⟩|⟨dx,fs,q⟩
  .rw[e] at q;exact n1 _ _ (di q)
  .rw[e] at q;exact n2 _ _ (di q)
 .rcases h3 with h3|⟨c,h3,h4⟩
  .exact .inl h3
  .exact .inr ⟨c,h3,h _ _ h4 (off h4 (by intros;intro q;cases q))⟩
theorem pd{x D:Addr}(hx:H1 x=none)(VR:H1 dx=none)(hk:∀b,b≠x->H2 b=upd (upd H1 dx (.own x)) x (.ins D dx []) b):aD H1 H2:=λb o e=>by have h1:=bc e hx;rw[hk b h1,az h1,az (bc e VR)];exact e
def rA(C:Addr):Sp:=λvs H Q _=>∃(x dx:Addr)(n c d:Int)(t:Addr),vs=[.ref x,.int n,.int c,.int d,.ref t]/\H x=some (.ins C dx [])/\
 ∀H',H' x=some (.ins C dx [("number",.int n),("cell",.int c),("depth",.int d),("text",.ref t),("folded",.int 0)])->(∀b,b≠x->H' b=H b)->Q .fb H'
theorem Bu:aG ["self","number","cell","depth","text"] ["self","number","cell","depth","text"] (ay pY):=eP
theorem IW(F:HH K "__init__" "Node.__init__" pY f fd)(T:Txt K mg C CO CC):nq P w K mg base Aw 1 f fd ["self","number","cell","depth","text"] (rA C):=by
 refine F.ok Bu (λvs H Q E h=>?_) (λnr A outer s H vs Q E hr h=>?_)
 .obtain⟨_,_,_,_,_,_,rfl,_⟩:=h;rfl
 .obtain⟨x,dx,n,c,d,t,rfl,hx,k⟩:=h;refine⟨_,(ae (df (pv 0) (pv 1) rfl) (ae (df (pv 0) (pv 2) rfl) (ae (df (pv 0) (pv 3) rfl) (ae (df (pv 0) (pv 4) rfl) (aj (df (pv 0) au rfl)))))),?_⟩;refine⟨_,rfl,_,rfl,x,C,dx,_,rfl,hx,T.cl,T.zm,(by show 0<1000;decide),?_⟩;refine⟨_,rfl,_,rfl,x,C,dx,_,rfl,ah,T.cl,T.M6,(by show 1<1000;decide),?_⟩;refine⟨_,rfl,_,rfl,x,C,dx,_,rfl,ah,T.cl,T.C0,(by show 2<1000;decide),?_⟩;refine⟨_,rfl,_,rfl,x,C,dx,_,rfl,ah,T.cl,T.EH,(by show 3<1000;decide),?_⟩;refine⟨_,rfl,x,C,dx,_,rfl,ah,T.cl,T.mC,(by show 4<1000;decide),?_⟩;exact k _ ah λb hb=>by rw[az hb,az hb,az hb,az hb,az hb]
def zt(CO:Addr):Sp:=λvs H Q _=>∃(x dx:Addr),vs=[.ref x]/\H x=some (.ins CO dx [])/\
 ∀H' l,H l=none->l≠x->H' l=some (.lst [])->H' x=some (.ins CO dx (yi 1 l))->(∀b,b≠x->b≠l->H' b=H b)->Q .fb H'
theorem wB:aG ["self"] ["self"] (ay lb):=eP
theorem LA(F:HH K "__init__" "Outline.__init__" lb f fd)(T:Txt K mg C CO CC):nq P w K mg base Aw 1 f fd ["self"] (zt CO):=by
 refine F.ok wB (λvs H Q E h=>?_) (λnr A outer s H vs Q E hr h=>?_)
 .obtain⟨_,_,rfl,_⟩:=h;rfl
 .obtain⟨x,dx,rfl,hx,k⟩:=h;refine⟨_,(ae (df (pv 0) (aL ag) rfl) (aj (df (pv 0) au rfl))),?_⟩;refine⟨a_ _,λl hl=>?_⟩;have We:x≠l:=bc hx hl;refine⟨_,rfl,x,CO,dx,_,rfl,a9 hx hl,T.zF,T.j7,(by show 0<1000;decide),?_⟩;refine⟨_,rfl,x,CO,dx,_,rfl,ah,T.zF,T.wj,(by show 1<1000;decide),?_⟩;refine k _ l hl (λe=>We e.symm) ?_ ah λb hb Pl=>?_
  .rw[az (λe=>We e.symm),az (λe=>We e.symm),ah]
  .rw[az hb,az hb,az Pl]
def zu(CC:Addr):Sp:=λvs H Q _=>∃(x dx:Addr)(n:Str)(a b:Addr),vs=[.ref x,.str n,.ref a,.ref b]/\H x=some (.ins CC dx [])/\
 ∀H',H' x=some (.ins CC dx [("name",.str n),("wholes",.ref a),("row",.ref b)])->(∀b,b≠x->H' b=H b)->Q .fb H'
theorem Bv:aG ["self","name","wholes","row"] ["self","name","wholes","row"] (ay pX):=eP
theorem IX(F:HH K "__init__" "Call.__init__" pX f fd)(T:Txt K mg C CO CC):nq P w K mg base Aw 1 f fd ["self","name","wholes","row"] (zu CC):=by
 refine F.ok Bv (λvs H Q E h=>?_) (λnr A outer s H vs Q E hr h=>?_)
 .obtain⟨_,_,_,_,_,rfl,_⟩:=h;rfl
 .obtain⟨x,dx,n,a,b,rfl,hx,k⟩:=h;refine⟨_,(ae (df (pv 0) (pv 1) rfl) (ae (df (pv 0) (pv 2) rfl) (aj (df (pv 0) (pv 3) rfl)))),?_⟩;refine⟨_,rfl,_,rfl,x,CC,dx,_,rfl,hx,T.QG,T.nName,(by show 0<1000;decide),?_⟩;refine⟨_,rfl,_,rfl,x,CC,dx,_,rfl,ah,T.QG,T.EI,(by show 1<1000;decide),?_⟩;refine⟨_,rfl,_,rfl,x,CC,dx,_,rfl,ah,T.QG,T.Si,(by show 2<1000;decide),?_⟩;exact k _ ah λb hb=>by rw[az hb,az hb,az hb]
def e_:Sp:=λvs H Q _=>∃(r:Addr)(xs:List V),vs=[.ref r]/\H r=some (.lst xs)/\xs.length<=90000/\∀H' p,aD H H'->H' p=some (.lst (.int (xs.length:Nat)::xs))->Q (.ref p) H'
theorem C7:aG ["row"] ["row"] (ay sG):=eP
theorem C8(F:bG K mg "counted" sG ["row"])(T:Txt K mg C CO CC):aZ Z 1 "counted" ["row"] e_:=by
 refine F.ok C7 (λvs H Q E h=>?_) (λ_ _ _ _ _ H _ Q E hr h=>?_)
 .obtain⟨_,_,rfl,_⟩:=h;rfl
 .obtain⟨r,xs,rfl,hR,hz,k⟩:=h;refine⟨_,(aj (aw (bh g9 (aL (aa (o_ T (aa (pv 0) ag)) ag)) (pv 0)))),?_⟩;refine⟨_,rfl,r,_,rfl,.inl (bf.of hR),aW,λp hp=>⟨_,rfl,p,r,_,_,rfl,rfl,ah,a9 hR hp,dC (by show 1+_<=100000;omega),λq hq=>?_⟩⟩;exact k _ q ((aE hp).new hq) ah
def kr(s:Vanbkn.State)(t:List Int)(deep:Bool):Int:=if isText t=false then -3 else if 60<=s.nodes.length then -4 else if deep=true then -5 else if 999<s.next then -6 else 0
def sU(C CO:Addr):Sp:=λvs H Q _=>∃(ob dx l r:Addr)(as:List Addr)(s:Vanbkn.State)(t:List Int)(deep:Bool),vs=[.ref ob,.ref r,.bl deep]/\ba C CO H ob dx l as s/\H r=some (.lst (aU t))/\t.length<=200/\
 ∀H',aD H H'->Q (.int (kr s t deep)) H'
theorem px:aG ["outline","text","deep"] ["outline","text","deep"] (ay gE):=eP
theorem C9(F:bG K mg "new_node_refusal" gE ["outline","text","deep"])(T:Txt K mg C CO CC)(ie:aZ Z 1 "is_text" ["row"] rq):aZ Z 2 "new_node_refusal" ["outline","text","deep"] (sU C CO):=by
 refine F.ok px (λvs H Q E h=>?_) (λ_ _ _ _ _ H _ Q E hr h=>?_)
 .obtain⟨_,_,_,_,_,_,_,_,rfl,_⟩:=h;rfl
 .obtain⟨ob,dx,l,r,as,st,t,deep,rfl,O,hR,hz,k⟩:=h;refine⟨_,(ae (aM (vc (gk (pc ie hr (aa (pv 1) ag)))) (aj (aw (eu T))) aA) (ae (aM (bE nF (o_ T (aa (aB (pv 0) rfl) ag)) (eu T)) (aj (aw (eu T))) aA) (ae (aM (gk (pv 2)) (aj (aw (eu T))) aA) (ae (aM (bE gL (aB (pv 0) rfl) (eu T)) (aj (aw (eu T))) aA) (aj (aw au)))))),?_⟩;refine⟨_,rfl,r,t,rfl,hR,by omega,λH2 s2=>⟨_,rfl,?_⟩⟩;have O2:=O.same s2;have q:=k _ s2;unfold kr at q;cases ht:isText t with
  |false=>rw[ht,ao rfl] at q;exact eG q
  |true=>
   rw[ht,ak (by decide)] at q;refine fJ ?_;refine⟨_,rfl,aV T O2 ⟨l,_,rfl,.inl (bf.of O2.N.lst),_,_,rfl,rfl,_,rfl,?_⟩⟩;rw[O2.N.gW];refine aK (λhc=>?_) (λhc=>?_)
   .rw[ao (by have:=aH hc;omega)] at q;exact q
   .rw[ak (λh=>hc (aR (by omega)))] at q;refine⟨_,rfl,_,rfl,?_⟩;cases deep with
    |true=>rw[ao rfl] at q;exact eG q
    |false=>
     rw[ak (by decide)] at q;refine fJ ?_;refine⟨_,rfl,mD T O2 ⟨_,_,rfl,rfl,_,rfl,?_⟩⟩;refine aK (λhc=>?_) (λhc=>?_)
     .rw[ao (by have:=aH hc;omega)] at q;exact q
     .rw[ak (λh=>hc (aR (by omega)))] at q;exact q
def IY(C CO:Addr):Sp:=λvs H Q _=>∃(ob dx l r:Addr)(as:List Addr)(s:Vanbkn.State)(cell:Bool)(i d:Nat)(tx:List Nat),vs=[.ref ob,.int (b2 cell),.int (i:Nat),.int (d:Nat),.ref r]/\ba C CO H ob dx l as s/\i<=s.nodes.length/\s.nodes.length<=60/\H r=some (.lst (aI tx))/\
 ∀H' l' kq,ql [ob] H H'->ba C CO H' ob dx l' kq ⟨s.nodes.take i++⟨s.next,d,cell,false,tx⟩::s.nodes.drop i,s.next+1⟩->Q (.int (s.next:Nat)) H'
theorem wC(n:Nat)(l l':Addr):eR "nodes" (.ref l') (yi n l)=yi n l':=rfl
theorem yq(n:Nat)(l:Addr)(z:Int)(m:Nat)(h:z=(m:Int)):eR "next_number" (.int z) (yi n l)=yi m l:=by subst h;rfl
theorem nh:aG ["outline","cell","position","depth","text","node"] ["outline","cell","position","depth","text"] (ay j2):=eP
theorem PU(F:bG K mg "put_new_node" j2 ["outline","cell","position","depth","text"])(T:Txt K mg C CO CC)(rB:EF P w K mg base 1 "Node" C ["self","number","cell","depth","text"] (rA C))(f_:aZ Z 1 "inserted" ["nodes","position","run"] EM):aZ Z 3 "put_new_node" ["outline","cell","position","depth","text"] (IY C CO):=by
 refine F.ok nh (λvs H Q E h=>?_) (λ_ _ _ _ _ H _ Q E hr h=>?_)
 .obtain⟨_,_,_,_,_,_,_,_,_,_,rfl,_⟩:=h;rfl
 .obtain⟨ob,dx,l,r,as,st,cell,i,d,tx,rfl,O,hi,hz,hR,k⟩:=h;refine⟨_,(ae (bD 5 nh (rB.make (hr.mono (by decide)) rfl (aa (aB (pv 0) rfl) (aa (pv 1) (aa (pv 3) (aa (pv 4) ag)))))) (ae (df (pv 0) (pc f_ hr (aa (aB (pv 0) rfl) (aa (pv 2) (aa (aL (aa (pv 5) ag)) ag)))) rfl) (ae (rX (pv 0) au Cf) (aj (aw (aB (pv 5) rfl)))))),?_⟩;refine⟨_,rfl,mD T O ⟨_,rfl,_,rfl,_,rfl,λx xd hx F9 fk=>⟨x,xd,_,_,_,r,rfl,ah,λH2 h2 hk=>⟨rfl,?_⟩⟩⟩⟩;have s2:aD H H2:=pd hx F9 hk;have O2:=O.same s2;have F1:bW C H2 x ⟨st.next,d,cell,false,tx⟩:=⟨xd,r,h2,s2 _ _ hR⟩;refine⟨_,rfl,aV T O2 ⟨_,rfl,_,rfl,aW,λp hp=>?_⟩⟩;have s3:=aE hp (u:= .lst [V.ref x]);have O3:=O2.same s3;refine⟨l,p,_,_,i,rfl,O3.N.lst,ah,by rw[O2.N.gW];exact hi,(by rw[O2.N.gW];show _+1<=100000;omega),λH4 q s4 hq=>?_⟩;have O4:=O3.same s4;refine⟨_,rfl,ob,CO,dx,_,rfl,O4.at_,T.zF,T.j7,(by show 2<1000;decide),?_⟩;refine⟨_,rfl,ob,CO,dx,_,_,rfl,ah,T.zF,T.wj,rfl,_,_,rfl,rfl,dx,_,ah,(by show 2<1000;decide),?_⟩;have LB:ql [ob] H4 (upd (upd H4 ob (.ins CO dx (eR "nodes" (.ref q) (yi st.next l)))) ob (.ins CO dx (eR "next_number" (.int ((st.next:Int)+1)) (eR "nodes" (.ref q) (yi st.next l))))):=λb u e hb=>by have hb:b≠ob:=λz=>hb (by rw[z];simp);rw[az hb,az hb];exact e
  have hob:∀b∈[ob],∃D dx fs,H4 b=some (.ins D dx fs):=λb hb=>by simp at hb;subst hb;exact⟨_,_,_,O4.at_⟩
  have Uo:aD H2 H4:=s3.trans s4;have hI:Itm C H4 (as.take i++[x]++as.drop i) (st.nodes.take i++[⟨st.next,d,cell,false,tx⟩]++st.nodes.drop i):=
   ((O4.N.sT.take i).append (Itm.one (F1.same Uo))).append (O4.N.sT.drop i)
  have rO:∀a∈as.take i++[x]++as.drop i,a∉[ob]:=λa ha hb=>by simp at hb;subst hb;obtain⟨vj,fs,e⟩:=hI.oF ha;rw[O4.at_] at e;injection e with e;injection e with e _ _;exact T.ne1 e.symm
  have Wg:=hI.but hob rO LB;have hqn:q∉[ob]:=λhb=>by simp at hb;subst hb;have h:=O4.at_;rw[hq] at h;cases h
  have hq5:=LB _ _ hq hqn;have hO5:ba C CO (upd (upd H4 ob (.ins CO dx (eR "nodes" (.ref q) (yi st.next l)))) ob (.ins CO dx (eR "next_number" (.int ((st.next:Int)+1)) (eR "nodes" (.ref q) (yi st.next l))))) ob dx q (as.take i++[x]++as.drop i) ⟨st.nodes.take i++⟨st.next,d,cell,false,tx⟩::st.nodes.drop i,st.next+1⟩:=by
   refine⟨?_,?_⟩
   .rw[ah,wC,yq _ _ _ (st.next+1) (by omega)]
   .have e:st.nodes.take i++[⟨st.next,d,cell,false,tx⟩]++st.nodes.drop i=st.nodes.take i++⟨st.next,d,cell,false,tx⟩::st.nodes.drop i:=by simp
    rw[e] at Wg;refine Wg.nl ?_ ?_
    .rw[hq5,cX,cX,mV,jR];rfl
    .show(st.nodes.take i++_::st.nodes.drop i).length<=1000;rw[bb,cn,bj,dD];omega
  have hx5:bW C (upd (upd H4 ob (.ins CO dx (eR "nodes" (.ref q) (yi st.next l)))) ob (.ins CO dx (eR "next_number" (.int ((st.next:Int)+1)) (eR "nodes" (.ref q) (yi st.next l))))) x ⟨st.next,d,cell,false,tx⟩:=
   Wg.at_ i x _ (by rw[dQ,k3 (by rw[bj];omega),bj,O.N.len,iY hi,tI];rfl) (by rw[dQ,k3 (by rw[bj];omega),bj,iY hi,tI];rfl)
  refine⟨_,rfl,bX T hx5 ?_⟩;exact k _ q _ (ql.qr (s2.trans Uo) LB) hO5
def Nl(C CO:Addr):Sp:=λvs H Q _=>∃(ob dx l r:Addr)(as:List Addr)(s:Vanbkn.State)(cell:Bool)(p a:Int)(t:List Int),vs=[.ref ob,.int (b2 cell),.int p,.int a,.ref r]/\ba C CO H ob dx l as s/\Wf s/\H r=some (.lst (aU t))/\t.length<=200/\
 ek C CO H ob (doNew s p a cell t) Q
theorem Bw(O:ba C CO H ob dx l as s):∀b∈[ob],(∃dx fs,H b=some (.ins C dx fs))\/∃dx fs,H b=some (.ins CO dx fs):=λb hb=>by simp at hb;subst hb;exact .inr ⟨_,_,O.at_⟩
theorem LC(cell:Bool)(d:Nat)(h1:σ[1]?=some (some (.int (b2 cell))))(h7:σ[7]?=some (some (.int (d:Nat))))(hR:R (.bl (decide (cell=false/\6<d))) H):
 MJ (tL Vj (cK 1) (tC (.int 0))) (tL (xK λi j=>V.bl (decide (j<i))) (cK 7) (tC (.int 6))) σ H R:=by
 refine⟨_,h1,rfl,_,rfl,?_⟩;cases cell with
 |true=>refine aK (λh=>absurd (aH h) (by intro e;cases e)) (λ_=>?_);rw[cR (by rintro⟨h,_⟩;cases h)] at hR;exact hR
 |false=>
  refine aK (λ_=>?_) (λh=>absurd (aR rfl) h);refine⟨_,h7,_,_,rfl,rfl,?_⟩;have e:decide (false=false/\6<d)=decide ((6:Int)<(d:Int)):=by
   rw[qM];constructor
   .rintro⟨_,h⟩;omega
   .intro h;exact⟨rfl,by omega⟩
  rw[e] at hR;exact hR
theorem i_:aG ["outline","cell","parent","after","text","place","position","depth","refusal"] ["outline","cell","parent","after","text"] (ay qc):=eP
theorem PV(F:bG K mg "add_node" qc ["outline","cell","parent","after","text"])(T:Txt K mg C CO CC)(gb:aZ Z 3 "place_at" ["nodes","parent","after"] (uL C))(de:aZ Z 2 "new_node_refusal" ["outline","text","deep"] (sU C CO))(fG:aZ Z 3 "put_new_node" ["outline","cell","position","depth","text"] (IY C CO)):aZ Z 4 "add_node" ["outline","cell","parent","after","text"] (Nl C CO):=by
 refine F.ok i_ (λvs H Q E h=>?_) (λ_ _ _ _ _ H _ Q E hr h=>?_)
 .obtain⟨_,_,_,_,_,_,_,_,_,_,rfl,_⟩:=h;rfl
 .obtain⟨ob,dx,l,r,as,st,cell,p,a,t,rfl,O,W,hR,hz,k⟩:=h;rw[Cy W] at k;unfold HP at k;refine⟨_,(ae (bD 5 i_ (pc gb hr (aa (aB (pv 0) rfl) (aa (pv 2) (aa (pv 3) ag))))) (ae (aM (bE bC (pv 5) a6) (aj (aw (aL (aa (eu T) ag)))) aA) (ae (bD 6 i_ (c7 dR (pv 5) au)) (ae (bD 7 i_ (c7 dR (pv 5) au)) (ae (bD 8 i_ (pc de hr (aa (pv 0) (aa (pv 4) (aa (Hb (jF bw (pv 1) au (k5 _)) (Cc (jF gL (pv 7) (eu T) (k5 _)))) ag))))) (ae (aM (bE lF (pv 8) au) (aj (aw (aL (aa (pv 8) ag)))) aA) (aj (aw (aL (aa (pc fG hr (aa (pv 0) (aa (pv 1) (aa (pv 6) (aa (pv 7) (aa (pv 4) ag)))))) ag)))))))))),?_⟩;refine⟨_,rfl,aV T O ⟨_,rfl,_,rfl,l,as,_,p,a,rfl,O.N,λhn H2 s2=>?_,λi d hs H2 tt s2 ht=>?_⟩⟩
  .rw[hn] at k;refine⟨_,rfl,rfl,_,rfl,?_⟩;refine aK (λ_=>?_) (λh=>absurd (aR rfl) h);exact⟨aW,λq hq=>k.refuse O rfl s2 hq⟩
  .rw[hs] at k;have k:ek C CO H ob (if isText t=false then refused st (-3) else if 60<=st.nodes.length then refused st (-4) else if cell=false/\6<d then refused st (-5) else if 999<st.next then refused st (-6)
    else(⟨st.nodes.take i++⟨st.next,d,cell,false,textOf t⟩::st.nodes.drop i,st.next+1⟩,⟨(st.next:Nat),[]⟩)) Q:=k
   have O2:=O.same s2;have QL:=s2 _ _ hR;refine⟨_,rfl,rfl,_,rfl,?_⟩;refine aK (λh=>nomatch (aH h)) (λ_=>?_);refine⟨_,rfl,tt,_,_,_,rfl,rfl,iu.of ht,bU (j:=0) rfl,?_⟩;refine⟨_,rfl,tt,_,_,_,rfl,rfl,iu.of ht,bU (j:=1) rfl,?_⟩;refine⟨_,rfl,_,rfl,LC cell d rfl rfl ?_⟩;refine⟨ob,dx,l,r,as,st,t,decide (cell=false/\6<d),rfl,O2,QL,hz,λH3 s3=>?_⟩;have O3:=O2.same s3;have jC:=s2.trans s3;refine⟨_,rfl,rfl,_,rfl,?_⟩;cases pH:isText t with
   |false=>
    rw[pH,ao rfl] at k;have e:kr st t (decide (cell=false/\6<d))=-3:=by unfold kr;rw[pH,ao rfl]
    rw[e];exact eG ⟨_,rfl,aW,λq hq=>k.refuse O rfl jC hq⟩
   |true=>
    rw[pH,ak (by decide)] at k;by_cases Bn:60<=st.nodes.length
    .rw[ao Bn] at k;have e:kr st t (decide (cell=false/\6<d))=-4:=by unfold kr;rw[pH,ak (by decide),ao Bn]
     rw[e];exact eG ⟨_,rfl,aW,λq hq=>k.refuse O rfl jC hq⟩
    .rw[ak Bn] at k;by_cases oJ:cell=false/\6<d
     .rw[ao oJ] at k;have e:kr st t (decide (cell=false/\6<d))=-5:=by unfold kr;rw[pH,ak (by decide),ak Bn,ao (aR oJ)]
      rw[e];exact eG ⟨_,rfl,aW,λq hq=>k.refuse O rfl jC hq⟩
     .rw[ak oJ] at k;by_cases xc:999<st.next
      .rw[ao xc] at k;have e:kr st t (decide (cell=false/\6<d))=-6:=by unfold kr;rw[pH,ak (by decide),ak Bn,ak (λh=>oJ (aH h)),ao xc]
       rw[e];exact eG ⟨_,rfl,aW,λq hq=>k.refuse O rfl jC hq⟩
      .rw[ak xc] at k;have e:kr st t (decide (cell=false/\6<d))=0:=by unfold kr;rw[pH,ak (by decide),ak Bn,ak (λh=>oJ (aH h)),ak xc]
       rw[e];refine fJ ?_;have m6:i<=st.nodes.length:=by
        rcases fO W.n p a with⟨h1,_⟩|⟨pre,post,d',h1,_,S⟩
        .rw[hs] at h1;cases h1
        .rw[hs] at h1;cases h1;rw[S.eq,bb];omega
       have Lx:H3 r=some (.lst (aI (textOf t))):=by rw[jC _ _ hR,gO,kM pH]
       refine⟨_,rfl,_,rfl,_,rfl,_,rfl,_,rfl,ob,dx,l,r,as,st,cell,i,d,textOf t,rfl,O3,m6,by omega,Lx,λH4 l' kq b4 O4=>⟨aW,λq hq=>?_⟩⟩;have f4:Fr C CO H H4:=jC.fr.trans (b4.fr (Bw O3));exact k _ q dx l' kq (f4.trans (aE hq).fr) (O4.same (aE hq)) ah
theorem ba.nodup{H:Hp}{ob dx l:Addr}{as:List Addr}{s:Vanbkn.State}(O:ba C CO H ob dx l as s)(W:Wf s):as.Nodup:=O.N.sT.nodup W.n.nd
theorem ba.Nm(O:ba C CO H ob dx l as s)(h:C≠CO):∀a∈as,a≠ob:=λa ha e=>by obtain⟨vj,fs,q⟩:=O.N.oF ha;rw[e,O.at_] at q;injection q with q;injection q with q _ _;exact h q.symm
theorem ba.set{c t:Addr}{x':Nd}{fs:List (Str×V)}(O:ba C CO H ob dx l as s)(fk:C≠CO)(vA:as.Nodup)(e:s.nodes=a++x::r)(hc:as[a.length]?=some c)(h1:H c=some (.ins C cd fs))(ht:H t=some (.lst (aI x'.text))):
 ba C CO (upd H c (.ins C cd (nf x' t))) ob dx l as ⟨a++x'::r,s.next⟩:=by
 have hco:=O.Nm fk c (cJ hc);have lk:∀{b:Addr}{xs:List V},H b=some (.lst xs)->upd H c (.ins C cd (nf x' t)) b=some (.lst xs):=λ{b xs} hb=>by rw[az (jz hb h1 (by intro q;cases q))];exact hb
 refine⟨by rw[az (λq=>hco q.symm)];exact O.at_,⟨lk O.N.lst,?_,?_,λi b y hb hy=>?_⟩⟩
 .rw[O.N.len,e];simp
 .have:=O.N.sm;rw[e] at this;simp at this⊢;exact this
 .by_cases hi:i=a.length
  .subst hi;rw[hc] at hb;cases hb;have:y=x':=by have hy:(a++x'::r)[a.length]?=some y:=hy;rw[cZ] at hy;exact(di hy).symm
   subst this;exact⟨cd,t,ah,lk ht⟩
  .have V0:s.nodes[i]?=some y:=by
    have hy:(a++x'::r)[i]?=some y:=hy;rw[e];by_cases h:i<a.length
    .rw[nv h] at hy⊢;exact hy
    .rw[k3 (by omega)] at hy⊢;obtain⟨n,hn⟩:∃n,i - a.length=n+1:=⟨i - a.length - 1,by omega⟩;rw[hn] at hy⊢;exact hy
   obtain⟨Wa,t2,g1,g2⟩:=O.N.at_ i b y hb V0;refine⟨Wa,t2,?_,lk g2⟩;rw[az (λq=>hi (Ax vA hb (by rw[q];exact hc)))];exact g1
theorem zw{c:Addr}{fs Kr:List (Str×V)}(h1:H c=some (.ins C cd fs)):Fr C CO H (upd H c (.ins C cd Kr)):=(mH (u:= .ins C cd Kr)).fr λb hb=>by simp at hb;subst hb;exact .inl ⟨_,_,h1⟩
theorem dO{f:Nd->Vanbkn.State×Answer}(W:Wf s)(h:dE s.nodes z=none):withNode s z f=refused s (-1):=bx W.n h
theorem fI(e:o=a++x::r):nd o a.length=x:=by rw[e];exact fu
theorem bt(e:o=a++x::r):a.length<o.length:=by rw[e];simp
theorem gw(e:o=a++x::r):aP o a.length=a.length+1+(inside x.depth r).length:=by rw[e];exact iw
def ER(C CO:Addr):Sp:=λvs H Q _=>∃(ob dx l r:Addr)(as:List Addr)(s:Vanbkn.State)(z:Int)(t:List Int),vs=[.ref ob,.int z,.ref r]/\ba C CO H ob dx l as s/\Wf s/\H r=some (.lst (aU t))/\t.length<=200/\ek C CO H ob (Vanbkn.step s (.write z t)) Q
theorem lq:aG ["outline","number","text","position","node"] ["outline","number","text"] (ay mv):=eP
theorem IZ(F:bG K mg "write_text" mv ["outline","number","text"])(T:Txt K mg C CO CC)(ax:aZ Z 1 "position_of" ["nodes","number"] (fA C))(ie:aZ Z 1 "is_text" ["row"] rq):aZ Z 2 "write_text" ["outline","number","text"] (ER C CO):=by
 refine F.ok lq (λvs H Q E h=>?_) (λ_ _ _ _ _ H _ Q E hr h=>?_)
 .obtain⟨_,_,_,_,_,_,_,_,rfl,_⟩:=h;rfl
 .obtain⟨ob,dx,l,r,as,st,z,t,rfl,O,W,hR,hz,k⟩:=h;refine⟨_,(ae (bD 3 lq (pc ax hr (aa (aB (pv 0) rfl) (aa (pv 1) ag)))) (ae (aM (bE bC (pv 3) a6) (aj (aw (aL (aa (eu T) ag)))) aA) (ae (aM (vc (gk (pc ie hr (aa (pv 2) ag)))) (aj (aw (aL (aa (eu T) ag)))) aA) (ae (bD 4 lq (c7 aJ (aB (pv 0) rfl) (pv 3))) (ae (df (pv 4) (pv 2) rfl) (aj (aw (aL (aa au ag))))))))),?_⟩;refine⟨_,rfl,aV T O ⟨_,rfl,l,as,_,z,rfl,O.N,λH2 s2=>?_⟩⟩;have O2:=O.same s2;refine⟨_,rfl,rfl,_,rfl,?_⟩;rcases aY (o:=st.nodes) z with hp|⟨a,x,rr,e,hp,kU⟩
  .rw[hp];refine aK (λ_=>?_) (λh=>absurd (aR rfl) h);exact⟨aW,λq hq=>k.refuse O (dO W hp) s2 hq⟩
  .rw[hp];refine aK (λh=>nomatch (aH h)) (λ_=>?_);rw[HR W e kU] at k;refine⟨_,rfl,r,t,rfl,s2 _ _ hR,by omega,λH3 s3=>⟨_,rfl,?_⟩⟩;have jC:=s2.trans s3;have O3:=O2.same s3;cases ht:isText t with
   |false=>rw[ht,ao rfl] at k;exact eG ⟨aW,λq hq=>k.refuse O rfl jC hq⟩
   |true=>
    rw[ht,ak (by decide)] at k;refine fJ ?_;refine⟨_,rfl,aV T O3 ⟨_,rfl,c6 O3.N rfl (bt e) λc hc hn=>?_⟩⟩;obtain⟨cd,t0,h1,h2⟩:=hn;refine⟨_,rfl,_,rfl,c,C,cd,_,rfl,h1,T.cl,T.EH,(by show 5<1000;decide),aW,λq hq=>?_⟩;have Lx:H3 r=some (.lst (aI (textOf t))):=by rw[jC _ _ hR,gO,kM ht]
    have O4:=O3.set T.ne1 (O3.nodup W) e hc (x':={x with text:=textOf t}) h1 Lx;rw[fI e] at hq⊢;exact k _ q dx l as ((jC.fr.trans (zw h1)).trans (aE hq).fr) (O4.same (aE hq)) ah
theorem ba.put{l':Addr}{kq:List Addr}{s':Vanbkn.State}(O:ba C CO H ob dx l as s)(fk:C≠CO)(N:NL C H l' kq s'.nodes):ba C CO (upd H ob (.ins CO dx (yi s'.next l'))) ob dx l' kq s':=by
 have hb:ql [ob] H (upd H ob (.ins CO dx (yi s'.next l'))):=mH;have hS:∀b∈[ob],∃D dx fs,H b=some (.ins D dx fs):=λb hb=>by simp at hb;subst hb;exact⟨_,_,_,O.at_⟩
 have hl:l'≠ob:=jz N.lst O.at_ (by intro q;cases q);refine⟨ah,(N.sT.but hS (λa ha h=>?_) hb).nl (by rw[az hl];exact N.lst) N.sm⟩;simp at h;subst h;obtain⟨vj,fs,q⟩:=N.oF ha;rw[O.at_] at q;injection q with q;injection q with q _ _;exact fk q.symm
theorem zx{fs:List (Str×V)}(O:ba C CO H ob dx l as s):Fr C CO H (upd H ob (.ins CO dx fs)):=(mH (u:= .ins CO dx fs)).fr (Bw O)
def I0(C CO:Addr):Sp:=λvs H Q _=>∃(ob dx l:Addr)(as:List Addr)(s:Vanbkn.State)(z:Int),vs=[.ref ob,.int z]/\ba C CO H ob dx l as s/\Wf s/\ek C CO H ob (Vanbkn.step s (.drop z)) Q
theorem PX(d:Nat)(r:O):(inside d r).length+(outside d r).length=r.length:=by rw[<-bb,bQ]
theorem I_(d:Nat)(r:O):r.drop (inside d r).length=outside d r:=by have h:(inside d r++outside d r).drop (inside d r).length=outside d r:=ug ..;rw[bQ] at h;exact h
theorem iM(e:o=a++x::r):o.drop (aP o a.length)=outside x.depth r:=by rw[gw e,e,<-ni,jW,I_]
theorem rC(e:o=a++x::r):o.take a.length=a:=by rw[e];exact fN
theorem zy(e:o=a++x::r):o.drop (a.length+1)=r:=by rw[e];exact jW
theorem jK:aG ["outline","number","nodes","start","end"] ["outline","number"] (ay oh):=eP
theorem LF(F:bG K mg "drop_tree" oh ["outline","number"])(T:Txt K mg C CO CC)(ax:aZ Z 1 "position_of" ["nodes","number"] (fA C))(aQ:aZ Z 1 "tree_end" ["nodes","start"] (fS C)):aZ Z 2 "drop_tree" ["outline","number"] (I0 C CO):=by
 refine F.ok jK (λvs H Q E h=>?_) (λ_ _ _ _ _ H _ Q E hr h=>?_)
 .obtain⟨_,_,_,_,_,_,rfl,_⟩:=h;rfl
 .obtain⟨ob,dx,l,as,st,z,rfl,O,W,k⟩:=h;refine⟨_,(ae (bD 2 jK (aB (pv 0) rfl)) (ae (bD 3 jK (pc ax hr (aa (pv 2) (aa (pv 1) ag)))) (ae (aM (bE bC (pv 3) a6) (aj (aw (aL (aa (eu T) ag)))) aA) (ae (bD 4 jK (pc aQ hr (aa (pv 2) (aa (pv 3) ag)))) (ae (df (pv 0) (bh g9 (bo bA (pv 2) eS (aX (pv 3))) (bo bA (pv 2) (aX (pv 4)) eS)) rfl) (aj (aw (aL (aa (bh gm (pv 4) (pv 3)) ag))))))))),?_⟩;refine⟨_,rfl,aV T O ?_⟩;refine⟨_,rfl,_,rfl,l,as,_,z,rfl,O.N,λH2 s2=>?_⟩;have O2:=O.same s2;refine⟨_,rfl,rfl,_,rfl,?_⟩;rcases aY (o:=st.nodes) z with hp|⟨a,x,r,e,hp,kU⟩
  .rw[hp];refine aK (λ_=>?_) (λh=>absurd (aR rfl) h);exact⟨aW,λq hq=>k.refuse O (dO W hp) s2 hq⟩
  .rw[hp];refine aK (λh=>nomatch (aH h)) (λ_=>?_);rw[drop_eq W e kU] at k;refine⟨_,rfl,_,rfl,l,as,_,a.length,rfl,O2.N,bt e,λH3 s3=>?_⟩;have O3:=O2.same s3;have jC:=s2.trans s3;have ym:=jG (bt e);have pE:=O3.N.gW;refine⟨_,rfl,_,rfl,_,rfl,l,_,rfl,bf.of O3.N.lst,λp1 h1=>?_⟩;rw[sQ _ (by rw[pE];exact eX (bt e))];have s4:=aE h1 (u:= .lst ((as.map V.ref).take a.length));refine⟨_,rfl,_,rfl,_,rfl,l,_,rfl,bf.of (s4 _ _ O3.N.lst),λp2 h2=>?_⟩;rw[j9 _ (by rw[pE];exact ym)];have s5:=s4.new h2 (u:= .lst ((as.map V.ref).drop (aP st.nodes a.length)));refine⟨p1,p2,_,_,rfl,rfl,a9 ah h2,ah,dC (by rw[bj,dD,pE];have:=W.n.len;omega),λp3 h3=>?_⟩;have s6:=s5.new h3 (u:= .lst ((as.map V.ref).take a.length++(as.map V.ref).drop (aP st.nodes a.length)));have O6:=O3.same s6;have N6:NL C _ p3 (as.take a.length++as.drop (aP st.nodes a.length)) (st.nodes.take a.length++st.nodes.drop (aP st.nodes a.length)):=
    ((O6.N.sT.take a.length).append (O6.N.sT.drop (aP st.nodes a.length))).nl (by rw[ah,cX,mV,jR]) (by rw[bb,bj,dD];have:=W.n.len;omega)
   rw[rC e,iM e] at N6;refine⟨_,rfl,ob,CO,dx,_,rfl,O6.at_,T.zF,T.j7,(by show 2<1000;decide),?_⟩;have O7:=O6.put T.ne1 (s':=⟨a++outside x.depth r,st.next⟩) N6;refine⟨_,rfl,_,rfl,_,_,rfl,rfl,aW,λq hq=>?_⟩;refine k _ q dx p3 _ (((jC.trans s6).fr.trans (zx O6)).trans (aE hq).fr) (O7.same (aE hq)) ?_;rw[ah];show some (HO.lst [V.int ((aP st.nodes a.length:Nat) - (a.length:Nat))])=some (HO.lst [V.int ((1+(inside x.depth r).length:Nat):Int)]);rw[gw e,show(((a.length+1+(inside x.depth r).length:Nat):Int) - (a.length:Int))=((1+(inside x.depth r).length:Nat):Int) by omega]
theorem Bx(h:as.Nodup)(m n:Nat):(∀a∈as.take m,a∉(as.drop m).take n)/\∀a∈as.drop (m+n),a∉(as.drop m).take n:=by
 constructor
 .intro a ha hb;obtain⟨i,hi⟩:=xj ha;obtain⟨j,hj⟩:=xj hb;rw[Fc] at hi hj;by_cases h1:i<m
  .rw[ao h1] at hi;by_cases h2:j<n
   .rw[ao h2,xi] at hj;have:=Ax h hi hj;omega
   .rw[ak h2] at hj;cases hj
  .rw[ak h1] at hi;cases hi
 .intro a ha hb;obtain⟨i,hi⟩:=xj ha;obtain⟨j,hj⟩:=xj hb;rw[Fc] at hj;rw[xi] at hi;by_cases h2:j<n
  .rw[ao h2,xi] at hj;have:=Ax h hi hj;omega
  .rw[ak h2] at hj;cases hj
theorem PY{α:Type}(l:List α)(m n:Nat):l.take m++(l.drop m).take n++l.drop (m+n)=l:=by rw[<-ni,dQ,DN,DN]
theorem Itm.deep{k:Int}(I:Itm C H as o)(vA:as.Nodup)(m n:Nat)(b:ql ((as.drop m).take n) H H')(hd:∀(i:Nat)(a:Addr)(x:Nd),((as.drop m).take n)[i]?=some a->((o.drop m).take n)[i]?=some x->bW C H' a (C3 k x)):
 Itm C H' as (o.take m++((o.drop m).take n).map (C3 k)++o.drop (m+n)):=by
 have hS:∀b∈(as.drop m).take n,∃D dx fs,H b=some (.ins D dx fs):=λb hb=>by obtain⟨dx,fs,q⟩:=I.oF (zL (kx hb));exact⟨_,dx,fs,q⟩
 obtain⟨h1,h2⟩:=Bx vA m n;have I1:=(I.take m).but hS h1 b;have I3:=(I.drop (m+n)).but hS h2 b;have I2:Itm C H' ((as.drop m).take n) (((o.drop m).take n).map (C3 k)):=⟨by rw[aT,((I.drop m).take n).len],λi a x ha hx=>by obtain⟨y,hy,rfl⟩:=get_map hx;exact hd i a y ha hy⟩
 have:=(I1.append I2).append I3;rw[PY] at this;exact this
theorem ql.lst{H H':Hp}{as:List Addr}{o:O}{S:List Addr}(I:Itm C H as o)(hS:∀b∈S,b∈as)(b:ql S H H'){p:Addr}{xs:List V}(h:H p=some (.lst xs)):H' p=some (.lst xs):=b _ _ h λq=>by obtain⟨dx,fs,e⟩:=I.oF (hS p q);rw[h] at e;cases e
theorem rD{m:Nat}:∀b∈(as.drop m).take n,b∈as:=λb hb=>zL (kx hb)
theorem zz{m:Nat}(I:Itm C H as o)(b:ql ((as.drop m).take n) H H'):Fr C CO H H':=b.fr λb hb=>by obtain⟨dx,fs,q⟩:=I.oF (rD b hb);exact .inl ⟨_,_,q⟩
theorem ba.deep{H H':Hp}{ob dx l:Addr}{as:List Addr}{s:Vanbkn.State}{k:Int}(O:ba C CO H ob dx l as s)(fk:C≠CO)(W:Wf s)(m n:Nat)(b:ql ((as.drop m).take n) H H')(hd:∀(i:Nat)(a:Addr)(x:Nd),((as.drop m).take n)[i]?=some a->((s.nodes.drop m).take n)[i]?=some x->bW C H' a (C3 k x)):
 ba C CO H' ob dx l as ⟨s.nodes.take m++((s.nodes.drop m).take n).map (C3 k)++s.nodes.drop (m+n),s.next⟩:=by
 have I:=O.N.sT.deep (O.nodup W) m n b hd;refine⟨b _ _ O.at_ λq=>O.Nm fk ob (rD _ q) rfl,I.nl (b.lst O.N.sT rD O.N.lst) ?_⟩;rw[<-I.len,O.N.len];exact O.N.sm
def wD(C CO:Addr):Sp:=λvs H Q _=>∃(ob dx l:Addr)(as:List Addr)(s:Vanbkn.State)(z:Int),vs=[.ref ob,.int z]/\ba C CO H ob dx l as s/\Wf s/\ek C CO H ob (Vanbkn.step s (.dissolve z)) Q
theorem PZ(e:o=a++x::r):(o.drop (a.length+1)).take (aP o a.length - (a.length+1))=inside x.depth r:=by rw[Bk,fI e,zy e]
theorem LG{l:O}{d:Nat}(h:∀y∈l,d<y.depth):l.map (C3 (-1))=l.map AK:=iX λy hy=>by have:=h y hy;unfold C3 AK;rw[show((y.depth:Int)+-1).toNat=y.depth - 1 by omega]
theorem eV:aG ["outline","number","nodes","start","children"] ["outline","number"] (ay gF):=eP
theorem By(F:bG K mg "dissolve_section" gF ["outline","number"])(T:Txt K mg C CO CC)(ax:aZ Z 1 "position_of" ["nodes","number"] (fA C))(aQ:aZ Z 1 "tree_end" ["nodes","start"] (fS C))(dW:aZ Z 2 "children_count" ["nodes","position"] (zo C))(gy:aZ Z 1 "deepen" ["nodes","shift"] (oG C)):aZ Z 3 "dissolve_section" ["outline","number"] (wD C CO):=by
 refine F.ok eV (λvs H Q E h=>?_) (λ_ _ _ _ _ H _ Q E hr h=>?_)
 .obtain⟨_,_,_,_,_,_,rfl,_⟩:=h;rfl
 .obtain⟨ob,dx,l,as,st,z,rfl,O,W,k⟩:=h;refine⟨_,(ae (bD 2 eV (aB (pv 0) rfl)) (ae (bD 3 eV (pc ax hr (aa (pv 2) (aa (pv 1) ag)))) (ae (aM (bE bC (pv 3) a6) (aj (aw (aL (aa (eu T) ag)))) aA) (ae (aM (bE bw (aB (c7 aJ (pv 2) (pv 3)) rfl) au) (aj (aw (aL (aa (eu T) ag)))) aA) (ae (bD 4 eV (pc dW hr (aa (pv 2) (aa (pv 3) ag)))) (ae (bF (pc gy hr (aa (bo bA (pv 2) (aX (bh bP (pv 3) au)) (aX (pc aQ hr (aa (pv 2) (aa (pv 3) ag))))) (aa (vf pP au) ag)))) (ae (df (pv 0) (bh g9 (bo bA (pv 2) eS (aX (pv 3))) (bo bA (pv 2) (aX (bh bP (pv 3) au)) eS)) rfl) (aj (aw (aL (aa (pv 4) ag))))))))))),?_⟩;refine⟨_,rfl,aV T O ?_⟩;refine⟨_,rfl,_,rfl,l,as,_,z,rfl,O.N,λH2 s2=>?_⟩;have O2:=O.same s2;refine⟨_,rfl,rfl,_,rfl,?_⟩;rcases aY (o:=st.nodes) z with hp|⟨a,x,r,e,hp,kU⟩
  .rw[hp];refine aK (λ_=>?_) (λh=>absurd (aR rfl) h);exact⟨aW,λq hq=>k.refuse O (dO W hp) s2 hq⟩
  .rw[hp];refine aK (λh=>nomatch (aH h)) (λ_=>?_);rw[tR W e kU] at k;refine⟨_,rfl,_,rfl,c6 O2.N rfl (bt e) λc _ hc=>fH T hc ⟨rfl,_,rfl,?_⟩⟩;rw[fI e];cases bS:x.cell with
   |true=>rw[bS,ao rfl] at k;refine aK (λ_=>?_) (λh=>absurd (aR rfl) h);exact⟨aW,λq hq=>k.refuse O rfl s2 hq⟩
   |false=>
    rw[bS,ak (by decide)] at k;refine aK (λh=>absurd (aH h) (by intro q;cases q)) (λ_=>?_);refine⟨_,rfl,_,rfl,l,as,_,a.length,rfl,O2.N,bt e,λH3 s3=>?_⟩;have O3:=O2.same s3;have ym:=jG (bt e);refine⟨_,rfl,_,rfl,_,_,rfl,rfl,_,rfl,_,rfl,_,rfl,l,as,_,a.length,rfl,O3.N,bt e,λH4 s4=>⟨_,rfl,l,_,rfl,bf.of (s4 _ _ O3.N.lst),λp hp=>?_⟩⟩;have Ja:=(s2.trans s3).trans s4;have O5:=(O3.same s4).same (aE hp (u:= .lst (d_ (as.map V.ref) (some ((a.length+1:Nat):Int)) (some ((aP st.nodes a.length:Nat):Int)))));have M:=O3.N.cut (a:=a.length+1) (b:=aP st.nodes a.length) (bt e) ym s4 hp;have uE:∀y∈inside x.depth r,x.depth<y.depth:=λy hy=>cp y hy;have y8:=PZ e;refine⟨_,rfl,p,_,_,_,rfl,M,(O5.nodup W).sublist ((zP _ _).trans (Kl _ _)),(λy hy=>by rw[y8] at hy;have:=uE y hy;omega),λH6 b6 d6=>?_⟩;have O6:=O5.deep T.ne1 W _ _ b6 d6;rw[y8,LG uE,show a.length+1+(aP st.nodes a.length - (a.length+1))=aP st.nodes a.length by have:=rp st.nodes a.length;omega,iM e,show st.nodes.take (a.length+1)=a++[x] by rw[e,show a++x::r=(a++[x])++r by simp,DO (by simp)]] at O6;have pE:=O6.N.gW;have hlen:(a++[x]++(inside x.depth r).map AK++outside x.depth r).length=st.nodes.length:=by rw[<-O6.N.len,O.N.len]
    have pE:(as.map V.ref).length=st.nodes.length:=by rw[pE];exact hlen
    refine⟨_,rfl,_,rfl,_,rfl,l,_,rfl,bf.of O6.N.lst,λp1 h1=>?_⟩;rw[sQ _ (by rw[pE];exact eX (bt e))];have s7:=aE h1 (u:= .lst ((as.map V.ref).take a.length));refine⟨_,rfl,_,rfl,_,_,rfl,rfl,_,rfl,l,_,rfl,bf.of (s7 _ _ O6.N.lst),λp2 h2=>?_⟩;rw[show((a.length:Int)+1)=((a.length+1:Nat):Int) by omega,j9 _ (by rw[pE];exact bt e)];have s8:=s7.new h2 (u:= .lst ((as.map V.ref).drop (a.length+1)));have:=W.n.len;refine⟨p1,p2,_,_,rfl,rfl,a9 ah h2,ah,dC (by rw[bj,dD,pE];omega),λp3 h3=>?_⟩;have s9:=s8.new h3 (u:= .lst ((as.map V.ref).take a.length++(as.map V.ref).drop (a.length+1)));have O9:=O6.same s9;have I9:=(O9.N.sT.take a.length).append (O9.N.sT.drop (a.length+1));have e9:(a++[x]++(inside x.depth r).map AK++outside x.depth r).take a.length++(a++[x]++(inside x.depth r).map AK++outside x.depth r).drop (a.length+1)=a++(inside x.depth r).map AK++outside x.depth r:=by
     have Wh:a++[x]++(inside x.depth r).map AK++outside x.depth r=a++x::((inside x.depth r).map AK++outside x.depth r):=by simp
     rw[Wh,fN,jW,dQ]
    have I9:Itm C _ (as.take a.length++as.drop (a.length+1)) (a++(inside x.depth r).map AK++outside x.depth r):=e9▸I9;have N9:NL C _ p3 (as.take a.length++as.drop (a.length+1)) (a++(inside x.depth r).map AK++outside x.depth r):=I9.nl (by rw[ah,cX,mV,jR]) (by
     have:=hlen;simp at this⊢
     omega)
    refine⟨_,rfl,ob,CO,dx,_,rfl,O9.at_,T.zF,T.j7,(by show 2<1000;decide),?_⟩;have P0:=O9.put T.ne1 (s':=⟨a++(inside x.depth r).map AK++outside x.depth r,st.next⟩) N9;refine⟨_,rfl,aW,λq hq=>?_⟩;refine k _ q dx p3 _ ((((Ja.new hp).fr.trans (zz O5.N.sT b6)).trans (s9.fr.trans (zx O9))).trans (aE hq).fr) (P0.same (aE hq)) ?_;rw[ah];show some (HO.lst [V.int ((yl st.nodes a.length:Nat):Int)])=_;unfold yl;rw[fI e,zy e];rfl
def C_(o:O)(i j:Nat):Bool:=decide (i<=j/\(nd o j).depth=(nd o i).depth/\∀w∈(o.drop i).take (j - i),(nd o i).depth<=w.depth)
def Jb(C:Addr):Sp:=λvs H Q _=>∃(l:Addr)(as:List Addr)(o:O)(i j:Nat),vs=[.ref l,.int (i:Nat),.int (j:Nat)]/\NL C H l as o/\i<o.length/\j<o.length/\∀H',aD H H'->Q (.bl (C_ o i j)) H'
theorem c8:aG ["nodes","start","final","depth","node"] ["nodes","start","final"] (ay gn):=eP
theorem LH(F:bG K mg "siblings_in_order" gn ["nodes","start","final"])(T:Txt K mg C CO CC):aZ Z 1 "siblings_in_order" ["nodes","start","final"] (Jb C):=by
 refine F.ok c8 (λvs H Q E h=>?_) (λ_ _ _ _ _ H _ Q E hr h=>?_)
 .obtain⟨_,_,_,_,_,rfl,_⟩:=h;rfl
 .obtain⟨l,as,o,i,j,rfl,N,hi,hj,k⟩:=h;refine⟨_,(ae (bD 3 c8 (aB (c7 aJ (pv 0) (pv 1)) rfl)) (ae (aM (PW.pt (gh (bE gL (pv 1) (pv 2)) (gz (bE lF (aB (c7 aJ (pv 0) (pv 2)) rfl) (pv 3))))) (aj (aw D2)) aA) (aj (aw (fM (Hv rfl) (by rfl) T.all IC (aa (kI rfl c8.nd (bM (bo bA (pv 0) (aX (pv 1)) (aX (pv 2)))) (own:=[("node",4)]) (B7 c8) (λ_ _ _ _ _=>(jB 4 c8)) (λ_ _ _ _ _=>kG) (λ_ _ _ _ _=>(jF nF (eg (K:=K) rfl (pv 4) rfl) (pv 3) (k5 _)))) ag)))))),?_⟩;refine⟨_,rfl,_,rfl,c6 N rfl hi λc _ hc=>bp T hc ?_⟩;refine⟨_,rfl,_,rfl,_,_,rfl,rfl,_,rfl,?_⟩;refine aK (λh1=>eG ?_) (λh1=>?_)
  .have e:C_ o i j=false:=cR λh=>by have:=aH h1;omega
   have q:=k _ (aD.refl _);rw[e] at q;exact q
  have h1:=cI h1;have uq:i<=j:=by omega
  refine⟨_,rfl,_,rfl,c6 N rfl hj λc _ hc=>bp T hc ⟨_,rfl,rfl,_,rfl,?_⟩⟩;by_cases hd:(nd o j).depth=(nd o i).depth
  .rw[hd];refine aK (λh=>?_) (λ_=>?_)
   .simp at h
   refine⟨_,rfl,_,rfl,_,rfl,_,rfl,_,rfl,l,_,rfl,bf.of N.lst,λp hp=>?_⟩;have M:=N.cut (a:=i) (b:=j) (eX hi) (eX hj) (aD.refl _) hp;refine⟨p,rfl,⟨_,bf.of M.lst⟩,λD hD=>?_⟩;refine f9 (K:=K) (a:=p) (λq=>some (V.bl (decide ((nd o i).depth<=q.2.depth)))) M.zip hD M.Lp (λm q H4 hq s4 R R0 k1 k2=>?_) (λH4 s4 h4=>?_)
   .refine⟨rfl,Bd ⟨_,rfl,bp T ((M.at2 hq).same s4) ⟨_,rfl,_,_,rfl,rfl,k1 _ _ (aD.refl _) ?_⟩⟩⟩;have e:decide ((nd o i).depth<=q.2.depth)=decide (((nd o i).depth:Int)<=(q.2.depth:Int)):=by rw[qM];omega
    rw[e]
   .rw[C2 M.len (λy=>decide ((nd o i).depth<=y.depth))] at h4;refine⟨D,_,rfl,bf.of h4,?_⟩;rw[wq];have e:C_ o i j=((o.drop i).take (j - i)).all λy=>decide ((nd o i).depth<=y.depth):=by
     unfold C_;rw[GD,yH,d8];constructor
     .rintro⟨_,_,h⟩ y hy;exact aR (h y hy)
     .intro h;exact⟨uq,hd,λw hw=>i4 (h w hw)⟩
    have q:=k _ ((aE hp).trans s4);rw[e] at q;exact q
  .refine aK (λ_=>?_) (λh=>?_)
   .have e:C_ o i j=false:=cR λh=>hd h.2.1;have q:=k _ (aD.refl _);rw[e] at q;exact q
   .exfalso;apply h;simp;omega
theorem LI(d:Nat)(N:NL C H p as o)(h7:σ[7]?=some (some (.int (d:Nat))))(h8:σ[8]?=some (some (.ref p)))(hR:∀H',aD H H'->R (.bl (decide (6<d)||tZ o 1)) H'):
 Rk (tL (xK λi j=>V.bl (decide (j<i))) (cK 7) (tC (.int 6))) (pD (jP C) [] E0 (dk (cK 8) (dk (tC (.int 1)) k6))) σ H R:=by
 refine⟨_,h7,_,_,rfl,rfl,_,rfl,?_⟩;refine aK (λh=>?_) (λh=>?_)
 .have q:=hR _ (aD.refl _);rw[aR (by have:=aH h;omega)] at q;exact q
 .refine⟨_,h8,p,as,o,1,rfl,N,λH' s'=>?_⟩;have q:=hR _ s';rw[cR (λh2=>h (aR (by omega)))] at q;exact q
def Jc(C CO:Addr):Sp:=λvs H Q _=>∃(ob dx l r:Addr)(as:List Addr)(s:Vanbkn.State)(z w:Int)(t:List Int),vs=[.ref ob,.int z,.int w,.ref r]/\ba C CO H ob dx l as s/\Wf s/\H r=some (.lst (aU t))/\t.length<=200/\ek C CO H ob (Vanbkn.step s (.wrap z w t)) Q
theorem Jd{w:Int}{t:List Int}(W:Wf s)(h:dE s.nodes z=none):Vanbkn.step s (.wrap z w t)=refused s (-1):=bx W.n h
theorem Je{w:Int}{t:List Int}(W:Wf s)(e:s.nodes=a++x::r)(hz:(x.number:Int)=z)(h:dE s.nodes w=none):Vanbkn.step s (.wrap z w t)=refused s (-1):=by show withNode s z _=_;rw[aO W.n e hz];exact bx W.n h
theorem LJ(o:O):tZ o 1=cu o 0 1:=by unfold tZ cu;congr 1;funext x;congr 1;rw[qM];omega
theorem LK(l:O):l.map (C3 1)=l.map inc:=iX λy _=>by unfold C3 inc;rw[show((y.depth:Int)+1).toNat=y.depth+1 by omega]
theorem cP:aG ["outline","first","last","title","nodes","start","final","depth","wrapped","refusal"] ["outline","first","last","title"] (ay ji):=eP
theorem LL(F:bG K mg "wrap_siblings" ji ["outline","first","last","title"])(T:Txt K mg C CO CC)(ax:aZ Z 1 "position_of" ["nodes","number"] (fA C))(aQ:aZ Z 1 "tree_end" ["nodes","start"] (fS C))(gI:aZ Z 1 "siblings_in_order" ["nodes","start","final"] (Jb C))(de:aZ Z 2 "new_node_refusal" ["outline","text","deep"] (sU C CO))(dX:aZ Z 1 "too_deep" ["nodes","shift"] (jP C))(gy:aZ Z 1 "deepen" ["nodes","shift"] (oG C))(fG:aZ Z 3 "put_new_node" ["outline","cell","position","depth","text"] (IY C CO)):aZ Z 4 "wrap_siblings" ["outline","first","last","title"] (Jc C CO):=by
 refine F.ok cP (λvs H Q E h=>?_) (λ_ _ _ _ _ H _ Q E hr h=>?_)
 .obtain⟨_,_,_,_,_,_,_,_,_,rfl,_⟩:=h;rfl
 .obtain⟨ob,dx,l,tr,as,st,z,v,t,rfl,O,W,hR,hz,k⟩:=h;refine⟨_,(ae (bD 4 cP (aB (pv 0) rfl)) (ae (bD 5 cP (pc ax hr (aa (pv 4) (aa (pv 1) ag)))) (ae (bD 6 cP (pc ax hr (aa (pv 4) (aa (pv 2) ag)))) (ae (aM (PW.pt (gh (bE bC (pv 5) a6) (gz (bE bC (pv 6) a6)))) (aj (aw (aL (aa (eu T) ag)))) aA) (ae (aM (vc (gk (pc gI hr (aa (pv 4) (aa (pv 5) (aa (pv 6) ag)))))) (aj (aw (aL (aa (eu T) ag)))) aA) (ae (bD 7 cP (aB (c7 aJ (pv 4) (pv 5)) rfl)) (ae (bD 8 cP (bo bA (pv 4) (aX (pv 5)) (aX (pc aQ hr (aa (pv 4) (aa (pv 6) ag)))))) (ae (bD 9 cP (pc de hr (aa (pv 0) (aa (pv 3) (aa (Rl (jF gL (pv 7) (eu T) (k5 _)) (Cc (pc dX hr (aa (pv 8) (aa au ag))))) ag))))) (ae (aM (bE lF (pv 9) au) (aj (aw (aL (aa (pv 9) ag)))) aA) (ae (bF (pc gy hr (aa (pv 8) (aa au ag)))) (aj (aw (aL (aa (pc fG hr (aa (pv 0) (aa au (aa (pv 5) (aa (pv 7) (aa (pv 3) ag)))))) ag)))))))))))))),?_⟩;refine⟨_,rfl,aV T O ?_⟩;refine⟨_,rfl,_,rfl,l,as,_,z,rfl,O.N,λH2 s2=>?_⟩;refine⟨_,rfl,_,rfl,l,as,_,v,rfl,O.N.same s2,λH3 s3=>?_⟩;have jC:=s2.trans s3;have O3:=O.same jC;refine⟨_,rfl,rfl,_,rfl,?_⟩;rcases aY (o:=st.nodes) z with hp|⟨a,x,r,e,hp,kU⟩
  .rw[hp];refine aK (λ_=>eG ?_) (λh=>absurd (aR rfl) h);exact⟨aW,λq hq=>k.refuse O (Jd W hp) jC hq⟩
  rw[hp];refine aK (λh=>nomatch (aH h)) (λ_=>?_);refine⟨_,rfl,rfl,_,rfl,?_⟩;rcases aY (o:=st.nodes) v with Cq|⟨a2,y,r2,e2,Cq,X5⟩
  .rw[Cq];refine aK (λ_=>?_) (λh=>absurd (aR rfl) h);exact⟨aW,λq hq=>k.refuse O (Je W e kU Cq) jC hq⟩
  rw[Cq];refine aK (λh=>nomatch (aH h)) (λ_=>?_);refine⟨_,rfl,_,rfl,_,rfl,l,as,_,a.length,a2.length,rfl,O3.N,bt e,bt e2,λH4 s4=>⟨_,rfl,?_⟩⟩;have Ja:=jC.trans s4;have O4:=O3.same s4;have X6:C_ st.nodes a.length a2.length=decide (a.length<=a2.length/\y.depth=x.depth/\∀w∈(st.nodes.drop a.length).take (a2.length - a.length),x.depth<=w.depth):=by unfold C_;rw[fI e,fI e2]
  rcases x5 W.n.nd e e2 with⟨mid,M⟩|rO
  .rw[x8 W e kU e2 X5 t M] at k;rw[X6,aR (M.cond e)];refine fJ ?_;refine⟨_,rfl,_,rfl,c6 O4.N rfl (bt e) λc _ hc=>bp T hc ?_⟩;rw[fI e];refine⟨_,rfl,_,rfl,_,rfl,_,rfl,_,rfl,l,as,_,a2.length,rfl,O4.N,bt e2,λH5 s5=>⟨_,rfl,l,_,rfl,bf.of (s5 _ _ O4.N.lst),λp hp=>?_⟩⟩;have ym:=jG (bt e2);have y8:(st.nodes.drop a.length).take (aP st.nodes a2.length - a.length)=mid++y::inside y.depth r2:=by
    have hd:st.nodes.drop a.length=(mid++y::inside y.depth r2)++outside y.depth r2:=by rw[e,ug];exact M.y0
    rw[gw e2,hd];apply DO;rw[M.ea];simp;omega
   have Su:st.nodes.drop (aP st.nodes a2.length)=outside y.depth r2:=iM e2;have NM:=O4.N.cut (a:=a.length) (b:=aP st.nodes a2.length) (eX (bt e)) ym s5 hp;have O6:=(O4.same s5).same (aE hp (u:= .lst (d_ (as.map V.ref) (some ((a.length:Nat):Int)) (some ((aP st.nodes a2.length:Nat):Int)))));have Nn:aD H (upd H5 p (.lst (d_ (as.map V.ref) (some ((a.length:Nat):Int)) (some ((aP st.nodes a2.length:Nat):Int))))):=(Ja.trans s5).new hp;refine⟨_,rfl,_,rfl,LI x.depth NM rfl rfl λH7 s7=>?_⟩;rw[y8,LJ];have O7:=O6.same s7;have Uq:=Nn.trans s7;refine⟨ob,dx,l,tr,as,st,t,_,rfl,O7,Uq _ _ hR,hz,λH8 s8=>?_⟩;have O8:=O7.same s8;have GL:=Uq.trans s8;unfold Er at k;refine⟨_,rfl,rfl,_,rfl,?_⟩;cases pH:isText t with
   |false=>
    rw[pH,ao rfl] at k;have er:∀b,kr st t b=-3:=λb=>by unfold kr;rw[pH,ao rfl]
    rw[er];exact eG ⟨_,rfl,aW,λq hq=>k.refuse O rfl GL hq⟩
   |true=>
    rw[pH,ak (by decide)] at k;by_cases Bn:60<=st.nodes.length
    .rw[ao Bn] at k;have er:∀b,kr st t b=-4:=λb=>by unfold kr;rw[pH,ak (by decide),ao Bn]
     rw[er];exact eG ⟨_,rfl,aW,λq hq=>k.refuse O rfl GL hq⟩
    .rw[ak Bn] at k;by_cases oJ:6<x.depth\/cu (mid++y::inside y.depth r2) 0 1=true
     .rw[ao oJ] at k;have er:kr st t (decide (6<x.depth)||cu (mid++y::inside y.depth r2) 0 1)=-5:=by
       unfold kr;rw[pH,ak (by decide),ak Bn,ao];rcases oJ with h|h
       .rw[aR h];rfl
       .rw[h];exact Bool.or_true _
      rw[er];exact eG ⟨_,rfl,aW,λq hq=>k.refuse O rfl GL hq⟩
     .rw[ak oJ] at k;have Sv:¬(decide (6<x.depth)||cu (mid++y::inside y.depth r2) 0 1)=true:=λh=>by
       rw[rP] at h;rcases h with h|h
       .exact oJ (.inl (aH h))
       .exact oJ (.inr h)
      by_cases xc:999<st.next
      .rw[ao xc] at k;have er:kr st t (decide (6<x.depth)||cu (mid++y::inside y.depth r2) 0 1)=-6:=by unfold kr;rw[pH,ak (by decide),ak Bn,ak Sv,ao xc]
       rw[er];exact eG ⟨_,rfl,aW,λq hq=>k.refuse O rfl GL hq⟩
      .rw[ak xc] at k;have er:kr st t (decide (6<x.depth)||cu (mid++y::inside y.depth r2) 0 1)=0:=by unfold kr;rw[pH,ak (by decide),ak Bn,ak Sv,ak xc]
       rw[er];refine fJ ?_;have Wi:=(NM.same s7).same s8;refine⟨_,rfl,p,_,_,_,rfl,Wi,(O8.nodup W).sublist ((zP _ _).trans (Kl _ _)),(λy hy=>by omega),λH9 b9 d9=>?_⟩;have O9:=O8.deep T.ne1 W _ _ b9 d9;have FV:a.length+(aP st.nodes a2.length - a.length)=aP st.nodes a2.length:=by have:=gw e2;have:=(M.cond e).1;omega
       rw[y8,LK,FV,Su,rC e] at O9;have hlen:(a++(mid++y::inside y.depth r2).map inc++outside y.depth r2).length=st.nodes.length:=by rw[<-O9.N.len,O.N.len]
       have hR9:H9 tr=some (.lst (aI (textOf t))):=by rw[b9.lst O8.N.sT rD (GL _ _ hR),gO,kM pH]
       refine⟨_,rfl,_,rfl,_,rfl,_,rfl,ob,dx,l,tr,as,_,false,a.length,x.depth,textOf t,rfl,O9,?_,?_,hR9,λT4 l' kq QM P0=>⟨aW,λq hq=>?_⟩⟩
       .show a.length<=(a++(mid++y::inside y.depth r2).map inc++outside y.depth r2).length;rw[hlen];exact eX (bt e)
       .show(a++(mid++y::inside y.depth r2).map inc++outside y.depth r2).length<=60;rw[hlen];omega
       have Wh:(a++(mid++y::inside y.depth r2).map inc++outside y.depth r2).take a.length++(⟨st.next,x.depth,false,false,textOf t⟩:Nd)::(a++(mid++y::inside y.depth r2).map inc++outside y.depth r2).drop a.length=
        a++(⟨st.next,x.depth,false,false,textOf t⟩:Nd)::(mid++y::inside y.depth r2).map inc++outside y.depth r2:=by
        rw[dQ,tG,ug];simp
       have P0:ba C CO T4 ob dx l' kq ⟨a++(⟨st.next,x.depth,false,false,textOf t⟩:Nd)::(mid++y::inside y.depth r2).map inc++outside y.depth r2,st.next+1⟩:=Wh▸P0;exact k _ q dx l' kq (((GL.fr.trans (zz O8.N.sT b9)).trans (QM.fr (Bw O9))).trans (aE hq).fr) (P0.same (aE hq)) ah
  .rw[x6 W e kU e2 X5 t rO] at k;rw[X6,cR rO];exact eG ⟨aW,λq hq=>k.refuse O rfl Ja hq⟩
def uN(C CO:Addr):Sp:=λvs H Q _=>∃(ob dx l:Addr)(as:List Addr)(s:Vanbkn.State)(a r:O)(x:Nd)(k d:Nat),vs=[.ref ob,.int (a.length:Nat),.int (k:Nat),.int (d:Nat)]/\ba C CO H ob dx l as s/\Wf s/\s.nodes=a++x::r/\k<=(a++outside x.depth r).length/\
 ∀H' l' kq,Fr C CO H H'->ba C CO H' ob dx l' kq ⟨(a++outside x.depth r).take k++shifted (x::inside x.depth r) x.depth d++(a++outside x.depth r).drop k,s.next⟩->Q .fb H'
theorem yr{d:Nat}:(x::inside x.depth r).map (C3 ((d:Int) - (x.depth:Int)))=shifted (x::inside x.depth r) x.depth d:=iX λy hy=>by have h:x.depth<=y.depth:=h_ y hy;unfold C3;rw[show((y.depth:Int)+((d:Int) - (x.depth:Int))).toNat=y.depth - x.depth+d by omega]
theorem lW(e:o=a++x::r):(o.drop a.length).take (aP o a.length - a.length)=x::inside x.depth r:=by rw[gw e,e,ug,show a.length+1+(inside x.depth r).length - a.length=(inside x.depth r).length+1 by omega,List.take_succ_cons,<-nR]
theorem iU:aG ["outline","start","position","depth","nodes","end","tree"] ["outline","start","position","depth"] (ay mw):=eP
theorem Jf(F:bG K mg "carry_tree" mw ["outline","start","position","depth"])(T:Txt K mg C CO CC)(aQ:aZ Z 1 "tree_end" ["nodes","start"] (fS C))(gy:aZ Z 1 "deepen" ["nodes","shift"] (oG C))(f_:aZ Z 1 "inserted" ["nodes","position","run"] EM):aZ Z 2 "carry_tree" ["outline","start","position","depth"] (uN C CO):=by
 refine F.ok iU (λvs H Q E h=>?_) (λ_ _ _ _ _ H _ Q E hr h=>?_)
 .obtain⟨_,_,_,_,_,_,_,_,_,_,rfl,_⟩:=h;rfl
 .obtain⟨ob,dx,l,as,st,a,r,x,kk,d,rfl,O,W,e,QF,k⟩:=h;refine⟨_,(ae (bD 4 iU (aB (pv 0) rfl)) (ae (bD 5 iU (pc aQ hr (aa (pv 4) (aa (pv 1) ag)))) (ae (bD 6 iU (bo bA (pv 4) (aX (pv 1)) (aX (pv 5)))) (ae (bF (pc gy hr (aa (pv 6) (aa (bh gm (pv 3) (aB (c7 aJ (pv 4) (pv 1)) rfl)) ag)))) (aj (df (pv 0) (pc f_ hr (aa (bh g9 (bo bA (pv 4) eS (aX (pv 1))) (bo bA (pv 4) (aX (pv 5)) eS)) (aa (pv 2) (aa (pv 6) ag)))) rfl)))))),?_⟩;have hw:=W.n.len;have ym:=jG (bt e);refine⟨_,rfl,aV T O ?_⟩;refine⟨_,rfl,_,rfl,l,as,_,a.length,rfl,O.N,bt e,λH2 s2=>?_⟩;have O2:=O.same s2;refine⟨_,rfl,_,rfl,_,rfl,_,rfl,_,rfl,l,_,rfl,bf.of O2.N.lst,λp hp=>?_⟩;have NM:=O2.N.cut (a:=a.length) (b:=aP st.nodes a.length) (eX (bt e)) ym (aD.refl _) hp;have s3:aD H2 (upd H2 p (.lst (d_ (as.map V.ref) (some ((a.length:Nat):Int)) (some ((aP st.nodes a.length:Nat):Int))))):=aE hp;have O3:=O2.same s3;refine⟨_,rfl,_,rfl,_,rfl,_,rfl,c6 O3.N rfl (bt e) λc _ hc=>bp T hc ⟨_,_,rfl,rfl,?_⟩⟩;rw[fI e];refine⟨p,_,_,_,rfl,NM,(O3.nodup W).sublist ((zP _ _).trans (Kl _ _)),(λy hy=>by rw[lW e] at hy;have:x.depth<=y.depth:=h_ y hy;omega),λH4 b4 d4=>?_⟩;have O4:=O3.deep T.ne1 W _ _ b4 d4;have FV:a.length+(aP st.nodes a.length - a.length)=aP st.nodes a.length:=by have:=rp st.nodes a.length;omega
  rw[lW e,yr,FV,iM e,rC e] at O4;have pE:(as.map V.ref).length=st.nodes.length:=O.N.gW;have htp:H4 p=some (.lst (((as.drop a.length).take (aP st.nodes a.length - a.length)).map V.ref)):=b4.lst O3.N.sT rD NM.lst;have fr4:Fr C CO H H4:=(s2.trans s3).fr.trans (zz O3.N.sT b4);refine⟨_,rfl,_,rfl,_,rfl,l,_,rfl,bf.of O4.N.lst,λp1 h1=>?_⟩;rw[sQ _ (by rw[pE];exact eX (bt e))];have s5:=aE h1 (u:= .lst ((as.map V.ref).take a.length));refine⟨_,rfl,_,rfl,_,rfl,l,_,rfl,bf.of (s5 _ _ O4.N.lst),λp2 h2=>?_⟩;rw[j9 _ (by rw[pE];exact ym)];have s6:=s5.new h2 (u:= .lst ((as.map V.ref).drop (aP st.nodes a.length)));refine⟨p1,p2,_,_,rfl,rfl,a9 ah h2,ah,dC (by rw[bj,dD,pE];omega),λp3 h3=>?_⟩;have s7:=s6.new h3 (u:= .lst ((as.map V.ref).take a.length++(as.map V.ref).drop (aP st.nodes a.length)));have Sw:(outside x.depth r).length=st.nodes.length - aP st.nodes a.length:=by rw[<-iM e,dD]
  have X7:((as.map V.ref).take a.length++(as.map V.ref).drop (aP st.nodes a.length)).length=(a++outside x.depth r).length:=by rw[bb,bb,bj,dD,pE,Sw,iY (eX (bt e))]
  have aal:(a++outside x.depth r).length<=60:=by rw[bb,Sw];have:=bt e;have:=rp st.nodes a.length;omega
  refine⟨_,rfl,_,rfl,p3,p,_,_,kk,rfl,ah,s7 _ _ htp,by rw[X7];exact QF,?_,λH8 q s8 hq=>?_⟩
  .rw[X7,aT,bj,dD,O.N.len];omega
  have O8:=(O4.same s7).same s8;have Iw:Itm C H8 (as.take a.length++as.drop (aP st.nodes a.length)) (a++outside x.depth r):=by
   have:=(O8.N.sT.take a.length).append (O8.N.sT.drop (aP st.nodes a.length));have e1:(a++shifted (x::inside x.depth r) x.depth d++outside x.depth r).take a.length=a:=by rw[dQ,tG]
   have e2:(a++shifted (x::inside x.depth r) x.depth d++outside x.depth r).drop (aP st.nodes a.length)=outside x.depth r:=by apply List.drop_left';rw[bb,gw e];unfold shifted;rw[aT,cn];omega
   rw[e1,e2] at this;exact this
  have It:Itm C H8 ((as.drop a.length).take (aP st.nodes a.length - a.length)) (shifted (x::inside x.depth r) x.depth d):=by
   have:=(O8.N.sT.drop a.length).take (aP st.nodes a.length - a.length);have e1:((a++shifted (x::inside x.depth r) x.depth d++outside x.depth r).drop a.length).take (aP st.nodes a.length - a.length)=shifted (x::inside x.depth r) x.depth d:=by rw[dQ,ug];apply DO;rw[gw e];unfold shifted;rw[aT,cn];omega
   rw[e1] at this;exact this
  have Iq:=((Iw.take kk).append It).append (Iw.drop kk);have Nq:NL C H8 q ((as.take a.length++as.drop (aP st.nodes a.length)).take kk++(as.drop a.length).take (aP st.nodes a.length - a.length)++(as.take a.length++as.drop (aP st.nodes a.length)).drop kk) ((a++outside x.depth r).take kk++shifted (x::inside x.depth r) x.depth d++(a++outside x.depth r).drop kk):=by
   refine Iq.nl ?_ ?_
   .rw[hq];simp only[cX,mV,jR]
   .rw[bb,bb,bj,dD];unfold shifted;rw[aT,cn];have:=PX x.depth r;have:r.length<=60:=by rw[e] at hw;simp at hw;omega
    omega
  refine⟨_,rfl,ob,CO,dx,_,rfl,O8.at_,T.zF,T.j7,(by show 2<1000;decide),?_⟩;have O9:=O8.put T.ne1 (s':=⟨(a++outside x.depth r).take kk++shifted (x::inside x.depth r) x.depth d++(a++outside x.depth r).drop kk,st.next⟩) Nq;exact k _ q _ ((fr4.trans (s7.trans s8).fr).trans (zx O8)) O9
theorem oK{d:Nat}:tZ (x::inside x.depth r) ((d:Int) - (x.depth:Int))=cu (x::inside x.depth r) x.depth d:=by
 unfold tZ cu;rw[GD,NG,NG];constructor
 .rintro⟨y,hy,h⟩;refine⟨y,hy,?_⟩;have:x.depth<=y.depth:=h_ y hy;rw[uQ,d8] at h⊢;exact⟨h.1,by omega⟩
 .rintro⟨y,hy,h⟩;refine⟨y,hy,?_⟩;have:x.depth<=y.depth:=h_ y hy;rw[uQ,d8] at h⊢;exact⟨h.1,by omega⟩
def Jg(C CO:Addr):Sp:=λvs H Q _=>∃(ob dx l:Addr)(as:List Addr)(s:Vanbkn.State)(z p af:Int),vs=[.ref ob,.int z,.int p,.int af]/\ba C CO H ob dx l as s/\Wf s/\ek C CO H ob (Vanbkn.step s (.move z p af)) Q
theorem Bz(W:l8 o){p a:Int}{k d:Nat}(h:gA o p a=some (k,d)):k<=o.length:=by
 rcases fO W p a with⟨h1,_⟩|⟨pre,post,d',h1,_,S⟩
 .rw[h] at h1;cases h1
 .rw[h] at h1;cases h1;rw[S.eq,bb];omega
theorem fg:aG ["outline","number","parent","after","nodes","start","end","tree","place","depth"] ["outline","number","parent","after"] (ay oj):=eP
theorem LM(F:bG K mg "move_tree" oj ["outline","number","parent","after"])(T:Txt K mg C CO CC)(ax:aZ Z 1 "position_of" ["nodes","number"] (fA C))(aQ:aZ Z 1 "tree_end" ["nodes","start"] (fS C))(gb:aZ Z 3 "place_at" ["nodes","parent","after"] (uL C))(dX:aZ Z 1 "too_deep" ["nodes","shift"] (jP C))(eB:aZ Z 2 "carry_tree" ["outline","start","position","depth"] (uN C CO)):
 aZ Z 4 "move_tree" ["outline","number","parent","after"] (Jg C CO):=by
 refine F.ok fg (λvs H Q E h=>?_) (λ_ _ _ _ _ H _ Q E hr h=>?_)
 .obtain⟨_,_,_,_,_,_,_,_,rfl,_⟩:=h;rfl
 .obtain⟨ob,dx,l,as,st,z,p,af,rfl,O,W,k⟩:=h;refine⟨_,(ae (bD 4 fg (aB (pv 0) rfl)) (ae (bD 5 fg (pc ax hr (aa (pv 4) (aa (pv 1) ag)))) (ae (aM (bE bC (pv 5) a6) (aj (aw (aL (aa (eu T) ag)))) aA) (ae (bD 6 fg (pc aQ hr (aa (pv 4) (aa (pv 5) ag)))) (ae (bD 7 fg (bo bA (pv 4) (aX (pv 5)) (aX (pv 6)))) (ae (aM (bE uz (pc ax hr (aa (pv 7) (aa (pv 2) ag))) a6) (aj (aw (aL (aa (eu T) ag)))) aA) (ae (bD 8 fg (pc gb hr (aa (bh g9 (bo bA (pv 4) eS (aX (pv 5))) (bo bA (pv 4) (aX (pv 6)) eS)) (aa (pv 2) (aa (pv 3) ag))))) (ae (aM (bE bC (pv 8) a6) (aj (aw (aL (aa (eu T) ag)))) aA) (ae (bD 9 fg (c7 dR (pv 8) au)) (ae (aM (gk (pc dX hr (aa (pv 7) (aa (bh gm (pv 9) (aB (c7 aJ (pv 4) (pv 5)) rfl)) ag)))) (aj (aw (aL (aa (eu T) ag)))) aA) (ae (bF (pc eB hr (aa (pv 0) (aa (pv 5) (aa (c7 dR (pv 8) au) (aa (pv 9) ag)))))) (aj (aw (aL (aa au ag))))))))))))))),?_⟩;refine⟨_,rfl,aV T O ?_⟩;refine⟨_,rfl,_,rfl,l,as,_,z,rfl,O.N,λH2 s2=>?_⟩;have O2:=O.same s2;refine⟨_,rfl,rfl,_,rfl,?_⟩;rcases aY (o:=st.nodes) z with hp|⟨a,x,r,e,hp,kU⟩
  .rw[hp];refine aK (λ_=>?_) (λh=>absurd (aR rfl) h);exact⟨aW,λq hq=>k.refuse O (dO W hp) s2 hq⟩
  rw[hp];refine aK (λh=>nomatch (aH h)) (λ_=>?_);rw[Eo W e kU] at k;have ym:=jG (bt e);have hw:=W.n.len;refine⟨_,rfl,_,rfl,l,as,_,a.length,rfl,O2.N,bt e,λH3 s3=>?_⟩;have O3:=O2.same s3;refine⟨_,rfl,_,rfl,_,rfl,_,rfl,_,rfl,l,_,rfl,bf.of O3.N.lst,λt ht=>?_⟩;have NM:=O3.N.cut (a:=a.length) (b:=aP st.nodes a.length) (eX (bt e)) ym (aD.refl _) ht;rw[lW e] at NM;have s4:aD H (upd H3 t (.lst (d_ (as.map V.ref) (some ((a.length:Nat):Int)) (some ((aP st.nodes a.length:Nat):Int))))):=(s2.trans s3).new ht;have O4:=O.same s4;refine⟨_,rfl,_,rfl,t,_,_,p,rfl,NM,λH5 s5=>⟨rfl,_,rfl,?_⟩⟩;have O5:=O4.same s5;have Ur:=s4.trans s5;cases Qz:dE (x::inside x.depth r) p with
  |some i=>
   rw[Qz,ao (by simp)] at k;refine aK (λ_=>?_) (λh=>?_)
   .exact⟨aW,λq hq=>k.refuse O rfl Ur hq⟩
   .exact absurd rfl h
  |none=>
   rw[Qz,ak (by simp)] at k;refine aK (λh=>?_) (λ_=>?_)
   .cases h
   have pE:(as.map V.ref).length=st.nodes.length:=O.N.gW;refine⟨_,rfl,_,rfl,_,rfl,l,_,rfl,bf.of O5.N.lst,λp1 h1=>?_⟩;rw[sQ _ (by rw[pE];exact eX (bt e))];have s6:=aE h1 (u:= .lst ((as.map V.ref).take a.length));refine⟨_,rfl,_,rfl,_,rfl,l,_,rfl,bf.of (s6 _ _ O5.N.lst),λp2 h2=>?_⟩;rw[j9 _ (by rw[pE];exact ym)];have s7:=s6.new h2 (u:= .lst ((as.map V.ref).drop (aP st.nodes a.length)));refine⟨p1,p2,_,_,rfl,rfl,a9 ah h2,ah,dC (by rw[bj,dD,pE];omega),λp3 h3=>?_⟩;have s8:=s7.new h3 (u:= .lst ((as.map V.ref).take a.length++(as.map V.ref).drop (aP st.nodes a.length)));have O8:=O5.same s8;have N8:NL C _ p3 (as.take a.length++as.drop (aP st.nodes a.length)) (st.nodes.take a.length++st.nodes.drop (aP st.nodes a.length)):=
    ((O8.N.sT.take a.length).append (O8.N.sT.drop (aP st.nodes a.length))).nl (by rw[ah,cX,mV,jR]) (by rw[bb,bj,dD];omega)
   rw[rC e,iM e] at N8;have GL:=Ur.trans s8;have Wi:=(NM.same s5).same s8;refine⟨_,rfl,_,rfl,p3,_,_,p,af,rfl,N8,λhn H9 s9=>?_,λi d hs H9 tt s9 Dc=>?_⟩
   .rw[hn] at k;refine⟨_,rfl,rfl,_,rfl,?_⟩;refine aK (λ_=>?_) (λh=>absurd (aR rfl) h);exact⟨aW,λq hq=>k.refuse O rfl (GL.trans s9) hq⟩
   .rw[hs] at k;have k:ek C CO H ob (if cu (x::inside x.depth r) x.depth d=true then refused st (-5) else(⟨(a++outside x.depth r).take i++shifted (x::inside x.depth r) x.depth d++(a++outside x.depth r).drop i,st.next⟩,⟨0,[]⟩)) Q:=k;have s19:=GL.trans s9;have O9:=O8.same s9;have NM9:=Wi.same s9;refine⟨_,rfl,rfl,_,rfl,?_⟩;refine aK (λh=>nomatch (aH h)) (λ_=>?_);refine⟨_,rfl,tt,_,_,_,rfl,rfl,iu.of Dc,bU (j:=1) rfl,?_⟩;refine⟨_,rfl,_,rfl,_,rfl,_,rfl,c6 O9.N rfl (bt e) λc _ hc=>bp T hc ⟨_,_,rfl,rfl,?_⟩⟩;rw[fI e];refine⟨t,_,_,_,rfl,NM9,λT4 MQ=>⟨_,rfl,?_⟩⟩;have Sx:=s19.trans MQ;have P0:=O9.same MQ;rw[oK];cases Np:cu (x::inside x.depth r) x.depth d with
    |true=>rw[Np,ao rfl] at k;exact eG ⟨aW,λq hq=>k.refuse O rfl Sx hq⟩
    |false=>rw[Np,ak (by decide)] at k;refine fJ ?_;have W':=W.n;rw[e] at W';refine⟨_,rfl,_,rfl,_,rfl,tt,_,_,_,rfl,rfl,iu.of (MQ _ _ Dc),bU (j:=0) rfl,_,rfl,ob,dx,l,as,st,a,r,x,i,d,rfl,P0,W,e,Bz W'.without hs,λH11 l' kq f11 Wj=>⟨aW,λq hq=>?_⟩⟩;exact k _ q dx l' kq ((Sx.fr.trans f11).trans (aE hq).fr) (Wj.same (aE hq)) ah
def Jh(C CO:Addr):Sp:=λvs H Q _=>∃(ob dx l:Addr)(as:List Addr)(s:Vanbkn.State)(z:Int),vs=[.ref ob,.int z]/\ba C CO H ob dx l as s/\Wf s/\ek C CO H ob (Vanbkn.step s (.promote z)) Q
theorem fB:aG ["outline","number","nodes","start","parent","size"] ["outline","number"] (ay j3):=eP
theorem Dd(F:bG K mg "promote_tree" j3 ["outline","number"])(T:Txt K mg C CO CC)(ax:aZ Z 1 "position_of" ["nodes","number"] (fA C))(aQ:aZ Z 1 "tree_end" ["nodes","start"] (fS C))(br:aZ Z 1 "parent_position" ["nodes","position"] (Bi C))(eB:aZ Z 2 "carry_tree" ["outline","start","position","depth"] (uN C CO)):
 aZ Z 3 "promote_tree" ["outline","number"] (Jh C CO):=by
 refine F.ok fB (λvs H Q E h=>?_) (λ_ _ _ _ _ H _ Q E hr h=>?_)
 .obtain⟨_,_,_,_,_,_,rfl,_⟩:=h;rfl
 .obtain⟨ob,dx,l,as,st,z,rfl,O,W,k⟩:=h;refine⟨_,(ae (bD 2 fB (aB (pv 0) rfl)) (ae (bD 3 fB (pc ax hr (aa (pv 2) (aa (pv 1) ag)))) (ae (aM (bE bC (pv 3) a6) (aj (aw (aL (aa (eu T) ag)))) aA) (ae (bD 4 fB (pc br hr (aa (pv 2) (aa (pv 3) ag)))) (ae (aM (bE bC (pv 4) a6) (aj (aw (aL (aa (eu T) ag)))) aA) (ae (bD 5 fB (bh gm (pc aQ hr (aa (pv 2) (aa (pv 3) ag))) (pv 3))) (ae (bF (pc eB hr (aa (pv 0) (aa (pv 3) (aa (bh gm (pc aQ hr (aa (pv 2) (aa (pv 4) ag))) (pv 5)) (aa (aB (c7 aJ (pv 2) (pv 4)) rfl) ag)))))) (aj (aw (aL (aa au ag))))))))))),?_⟩;refine⟨_,rfl,aV T O ?_⟩;refine⟨_,rfl,_,rfl,l,as,_,z,rfl,O.N,λH2 s2=>?_⟩;have O2:=O.same s2;refine⟨_,rfl,rfl,_,rfl,?_⟩;rcases aY (o:=st.nodes) z with hp|⟨a,x,r,e,hp,kU⟩
  .rw[hp];refine aK (λ_=>?_) (λh=>absurd (aR rfl) h);exact⟨aW,λq hq=>k.refuse O (dO W hp) s2 hq⟩
  rw[hp];refine aK (λh=>nomatch (aH h)) (λ_=>?_);refine⟨_,rfl,_,rfl,l,as,_,a.length,rfl,O2.N,bt e,λH3 s3=>?_⟩;have O3:=O2.same s3;have jC:=s2.trans s3;refine⟨_,rfl,rfl,_,rfl,?_⟩;rcases o6 e with⟨b,q,c,ea,hq,hc,P1⟩|⟨nO,P1⟩
  .rw[P1];refine aK (λh=>nomatch (aH h)) (λ_=>?_);obtain⟨pre,post,S,rN,m5⟩:=rg W e kU ea hq hc;rw[m5] at k;have eb:st.nodes=b++q::(c++x::r):=by rw[e,ea];simp
   refine⟨_,rfl,_,rfl,l,as,_,a.length,rfl,O3.N,bt e,λH4 s4=>⟨_,rfl,_,_,rfl,rfl,?_⟩⟩;have O4:=O3.same s4;refine⟨_,rfl,_,rfl,_,rfl,_,rfl,l,as,_,b.length,rfl,O4.N,bt eb,λH5 s5=>⟨_,rfl,_,_,rfl,rfl,?_⟩⟩;have O5:=O4.same s5;refine⟨_,rfl,_,rfl,c6 O5.N rfl (bt eb) λn _ hn=>bp T hn ?_⟩;rw[fI eb];have hk:((aP st.nodes b.length:Nat):Int) - ((aP st.nodes a.length:Nat) - (a.length:Nat))=(pre.length:Nat):=by have:=gw e;omega
   have Ur:=(jC.trans s4).trans s5;refine⟨ob,dx,l,as,st,a,r,x,pre.length,q.depth,?_,O5,W,e,by rw[S.eq,bb];omega,λH6 l' kq f6 O6=>⟨aW,λqq Nr=>?_⟩⟩
   .show[V.ref ob,V.int (a.length:Nat),V.int (((aP st.nodes b.length:Nat):Int) - ((aP st.nodes a.length:Nat) - (a.length:Nat))),V.int (q.depth:Nat)]=_;rw[hk]
   .rw[S.eq,tG,ug] at O6;exact k _ qq dx l' kq ((Ur.fr.trans f6).trans (aE Nr).fr) (O6.same (aE Nr)) ah
  .rw[P1];refine aK (λ_=>?_) (λh=>absurd (aR rfl) h);rw[rf W e kU nO] at k;exact⟨aW,λq hq=>k.refuse O rfl jC hq⟩
def Nt(C CO:Addr):Sp:=λvs H Q _=>∃(ob dx l:Addr)(as:List Addr)(s:Vanbkn.State)(z:Int),vs=[.ref ob,.int z]/\ba C CO H ob dx l as s/\Wf s/\ek C CO H ob (Vanbkn.step s (.demote z)) Q
theorem fU:aG ["outline","number","nodes","start","before","tree"] ["outline","number"] (ay lj):=eP
theorem F_(F:bG K mg "demote_tree" lj ["outline","number"])(T:Txt K mg C CO CC)(ax:aZ Z 1 "position_of" ["nodes","number"] (fA C))(aQ:aZ Z 1 "tree_end" ["nodes","start"] (fS C))(dY:aZ Z 1 "sibling_before" ["nodes","position"] (IK C))(dX:aZ Z 1 "too_deep" ["nodes","shift"] (jP C))(gy:aZ Z 1 "deepen" ["nodes","shift"] (oG C)):
 aZ Z 2 "demote_tree" ["outline","number"] (Nt C CO):=by
 refine F.ok fU (λvs H Q E h=>?_) (λ_ _ _ _ _ H _ Q E hr h=>?_)
 .obtain⟨_,_,_,_,_,_,rfl,_⟩:=h;rfl
 .obtain⟨ob,dx,l,as,st,z,rfl,O,W,k⟩:=h;refine⟨_,(ae (bD 2 fU (aB (pv 0) rfl)) (ae (bD 3 fU (pc ax hr (aa (pv 2) (aa (pv 1) ag)))) (ae (aM (bE bC (pv 3) a6) (aj (aw (aL (aa (eu T) ag)))) aA) (ae (bD 4 fU (pc dY hr (aa (pv 2) (aa (pv 3) ag)))) (ae (aM (PW.pt (gh (bE bC (pv 4) a6) (gz (bE bw (aB (c7 aJ (pv 2) (pv 4)) rfl) au)))) (aj (aw (aL (aa (eu T) ag)))) aA) (ae (bD 5 fU (bo bA (pv 2) (aX (pv 3)) (aX (pc aQ hr (aa (pv 2) (aa (pv 3) ag)))))) (ae (aM (gk (pc dX hr (aa (pv 5) (aa au ag)))) (aj (aw (aL (aa (eu T) ag)))) aA) (ae (bF (pc gy hr (aa (pv 5) (aa au ag)))) (aj (aw (aL (aa au ag)))))))))))),?_⟩;refine⟨_,rfl,aV T O ?_⟩;refine⟨_,rfl,_,rfl,l,as,_,z,rfl,O.N,λH2 s2=>?_⟩;have O2:=O.same s2;refine⟨_,rfl,rfl,_,rfl,?_⟩;rcases aY (o:=st.nodes) z with hp|⟨a,x,r,e,hp,kU⟩
  .rw[hp];refine aK (λ_=>?_) (λh=>absurd (aR rfl) h);exact⟨aW,λq hq=>k.refuse O (dO W hp) s2 hq⟩
  rw[hp];refine aK (λh=>nomatch (aH h)) (λ_=>?_);refine⟨_,rfl,_,rfl,l,as,_,a.length,rfl,O2.N,bt e,λH3 s3=>?_⟩;have O3:=O2.same s3;have jC:=s2.trans s3;refine⟨_,rfl,rfl,_,rfl,?_⟩;rcases AX W.n e with⟨b,y,c,ea,hy,hc,De,LN⟩|⟨De,LN⟩
  .rw[LN];refine aK (λh=>nomatch (aH h)) (λ_=>?_);have eb:st.nodes=b++y::(c++x::r):=by rw[e,ea];simp
   obtain⟨_,m5⟩:=tT W e kU De ea hy hc;rw[m5] at k;refine⟨_,rfl,_,rfl,c6 O3.N rfl (bt eb) λn _ hn=>fH T hn ⟨rfl,_,rfl,?_⟩⟩;rw[fI eb];cases bS:y.cell with
   |true=>rw[bS,ao rfl] at k;refine aK (λ_=>?_) (λh=>absurd (aR rfl) h);exact⟨aW,λq hq=>k.refuse O rfl jC hq⟩
   |false=>
    rw[bS,ak (by decide)] at k;refine aK (λh=>absurd (aH h) (by intro q;cases q)) (λ_=>?_);have ym:=jG (bt e);refine⟨_,rfl,_,rfl,_,rfl,_,rfl,_,rfl,l,as,_,a.length,rfl,O3.N,bt e,λH4 s4=>⟨_,rfl,l,_,rfl,bf.of (s4 _ _ O3.N.lst),λt ht=>?_⟩⟩;have NM:=O3.N.cut (a:=a.length) (b:=aP st.nodes a.length) (eX (bt e)) ym s4 ht;have s5:aD H (upd H4 t (.lst (d_ (as.map V.ref) (some ((a.length:Nat):Int)) (some ((aP st.nodes a.length:Nat):Int))))):=(jC.trans s4).new ht;have O5:=O.same s5;refine⟨_,rfl,t,_,_,1,rfl,NM,λH6 s6=>⟨_,rfl,?_⟩⟩;have Nn:=s5.trans s6;have O6:=O5.same s6;have Sy:=NM.same s6;have e1:(1:Int)=((x.depth+1:Nat):Int) - (x.depth:Int):=by omega
    have eq1:tZ (x::inside x.depth r) 1=cu (x::inside x.depth r) x.depth (x.depth+1):=by
     conv=>lhs;rw[e1]
     exact oK
    have em1:(x::inside x.depth r).map (C3 1)=shifted (x::inside x.depth r) x.depth (x.depth+1):=by
     conv=>lhs;rw[e1]
     exact yr
    rw[lW e,eq1];cases Np:cu (x::inside x.depth r) x.depth (x.depth+1) with
    |true=>rw[Np,ao rfl] at k;exact eG ⟨aW,λq hq=>k.refuse O rfl Nn hq⟩
    |false=>
     rw[Np,ak (by decide)] at k;refine fJ ?_;refine⟨_,rfl,t,_,_,1,rfl,Sy,(O6.nodup W).sublist ((zP _ _).trans (Kl _ _)),(λy hy=>by omega),λH7 b7 d7=>⟨aW,λq hq=>?_⟩⟩;have O7:=O6.deep T.ne1 W _ _ b7 d7;have FV:a.length+(aP st.nodes a.length - a.length)=aP st.nodes a.length:=by have:=rp st.nodes a.length;omega
     rw[lW e,em1,FV,iM e,rC e] at O7;exact k _ q dx l as ((Nn.fr.trans (zz O6.N.sT b7)).trans (aE hq).fr) (O7.same (aE hq)) ah
  .rw[LN];refine aK (λ_=>eG ?_) (λh=>absurd (aR rfl) h);rw[tS W e kU De] at k;exact⟨aW,λq hq=>k.refuse O rfl jC hq⟩
def ES(C CO:Addr):Sp:=λvs H Q _=>∃(ob dx l:Addr)(as:List Addr)(s:Vanbkn.State)(z:Int),vs=[.ref ob,.int z]/\ba C CO H ob dx l as s/\Wf s/\ek C CO H ob (Vanbkn.step s (.raise z)) Q
theorem Df:shifted (x::inside x.depth r) x.depth x.depth=x::inside x.depth r:=by
 unfold shifted
 conv=>rhs;rw[<-uU (x::inside x.depth r)]
 refine iX λy hy=>?_;have h:x.depth<=y.depth:=h_ y hy;show{y with depth:=y.depth - x.depth+x.depth}=y;rw[Nat.sub_add_cancel h]
theorem iV:aG ["outline","number","nodes","start","before"] ["outline","number"] (ay mx):=eP
theorem Ji(F:bG K mg "raise_tree" mx ["outline","number"])(T:Txt K mg C CO CC)(ax:aZ Z 1 "position_of" ["nodes","number"] (fA C))(dY:aZ Z 1 "sibling_before" ["nodes","position"] (IK C))(eB:aZ Z 2 "carry_tree" ["outline","start","position","depth"] (uN C CO)):aZ Z 3 "raise_tree" ["outline","number"] (ES C CO):=by
 refine F.ok iV (λvs H Q E h=>?_) (λ_ _ _ _ _ H _ Q E hr h=>?_)
 .obtain⟨_,_,_,_,_,_,rfl,_⟩:=h;rfl
 .obtain⟨ob,dx,l,as,st,z,rfl,O,W,k⟩:=h;refine⟨_,(ae (bD 2 iV (aB (pv 0) rfl)) (ae (bD 3 iV (pc ax hr (aa (pv 2) (aa (pv 1) ag)))) (ae (aM (bE bC (pv 3) a6) (aj (aw (aL (aa (eu T) ag)))) aA) (ae (bD 4 iV (pc dY hr (aa (pv 2) (aa (pv 3) ag)))) (ae (aM (bE bC (pv 4) a6) (aj (aw (aL (aa (eu T) ag)))) aA) (ae (bF (pc eB hr (aa (pv 0) (aa (pv 3) (aa (pv 4) (aa (aB (c7 aJ (pv 2) (pv 3)) rfl) ag)))))) (aj (aw (aL (aa au ag)))))))))),?_⟩;refine⟨_,rfl,aV T O ?_⟩;refine⟨_,rfl,_,rfl,l,as,_,z,rfl,O.N,λH2 s2=>?_⟩;have O2:=O.same s2;refine⟨_,rfl,rfl,_,rfl,?_⟩;rcases aY (o:=st.nodes) z with hp|⟨a,x,r,e,hp,kU⟩
  .rw[hp];refine aK (λ_=>?_) (λh=>absurd (aR rfl) h);exact⟨aW,λq hq=>k.refuse O (dO W hp) s2 hq⟩
  rw[hp];refine aK (λh=>nomatch (aH h)) (λ_=>?_);refine⟨_,rfl,_,rfl,l,as,_,a.length,rfl,O2.N,bt e,λH3 s3=>?_⟩;have O3:=O2.same s3;have jC:=s2.trans s3;refine⟨_,rfl,rfl,_,rfl,?_⟩;rcases AX W.n e with⟨b,y,c,ea,hy,hc,De,LN⟩|⟨De,LN⟩
  .rw[LN];refine aK (λh=>nomatch (aH h)) (λ_=>?_);rw[vF W e kU De ea hy hc] at k;refine⟨_,rfl,_,rfl,_,rfl,_,rfl,_,rfl,c6 O3.N rfl (bt e) λn _ hn=>bp T hn ?_⟩;rw[fI e];refine⟨ob,dx,l,as,st,a,r,x,b.length,x.depth,rfl,O3,W,e,by rw[ea];simp,λH6 l' kq f6 O6=>⟨aW,λqq Nr=>?_⟩⟩;have e6:(a++outside x.depth r).take b.length++shifted (x::inside x.depth r) x.depth x.depth++(a++outside x.depth r).drop b.length=b++(x::inside x.depth r)++(y::c++outside x.depth r):=by rw[Df,ea,dQ b,tG,ug]
   rw[e6] at O6;exact k _ qq dx l' kq ((jC.fr.trans f6).trans (aE Nr).fr) (O6.same (aE Nr)) ah
  .rw[LN];refine aK (λ_=>?_) (λh=>absurd (aR rfl) h);rw[vE W e kU De] at k;exact⟨aW,λq hq=>k.refuse O rfl jC hq⟩
def Jj(C CO:Addr):Sp:=λvs H Q _=>∃(ob dx l:Addr)(as:List Addr)(s:Vanbkn.State)(z m:Int),vs=[.ref ob,.int z,.int m]/\ba C CO H ob dx l as s/\Wf s/\ek C CO H ob (Vanbkn.step s (.fold z m)) Q
theorem F'(x:Nd)(t:Addr)(m:Int)(b:Bool)(h:m=b2 b):eR "folded" (.int m) (nf x t)=nf {x with folded:=b} t:=by subst h;rfl
theorem jo:aG ["outline","number","mark","position","node"] ["outline","number","mark"] (ay j1):=eP
theorem LO(F:bG K mg "fold_section" j1 ["outline","number","mark"])(T:Txt K mg C CO CC)(ax:aZ Z 1 "position_of" ["nodes","number"] (fA C)):aZ Z 2 "fold_section" ["outline","number","mark"] (Jj C CO):=by
 refine F.ok jo (λvs H Q E h=>?_) (λ_ _ _ _ _ H _ Q E hr h=>?_)
 .obtain⟨_,_,_,_,_,_,_,rfl,_⟩:=h;rfl
 .obtain⟨ob,dx,l,as,st,z,m,rfl,O,W,k⟩:=h;refine⟨_,(ae (bD 3 jo (pc ax hr (aa (aB (pv 0) rfl) (aa (pv 1) ag)))) (ae (aM (bE bC (pv 3) a6) (aj (aw (aL (aa (eu T) ag)))) aA) (ae (bD 4 jo (c7 aJ (aB (pv 0) rfl) (pv 3))) (ae (aM (bE bw (aB (pv 4) rfl) au) (aj (aw (aL (aa (eu T) ag)))) aA) (ae (aM (PW.pt (gZ (bE lF (pv 2) au) (fX (bE lF (pv 2) au)))) (aj (aw (aL (aa (eu T) ag)))) aA) (ae (df (pv 4) (pv 2) rfl) (aj (aw (aL (aa au ag)))))))))),?_⟩;refine⟨_,rfl,aV T O ⟨_,rfl,l,as,_,z,rfl,O.N,λH2 s2=>?_⟩⟩;have O2:=O.same s2;refine⟨_,rfl,rfl,_,rfl,?_⟩;rcases aY (o:=st.nodes) z with hp|⟨a,x,r,e,hp,kU⟩
  .rw[hp];refine aK (λ_=>?_) (λh=>absurd (aR rfl) h);exact⟨aW,λq hq=>k.refuse O (dO W hp) s2 hq⟩
  rw[hp];refine aK (λh=>nomatch (aH h)) (λ_=>?_);rw[fold_eq W e kU] at k;refine⟨_,rfl,aV T O2 ⟨_,rfl,c6 O2.N rfl (bt e) λc hc hn=>?_⟩⟩;rw[fI e] at hn;refine⟨_,rfl,fH T hn ⟨rfl,_,rfl,?_⟩⟩;cases bS:x.cell with
  |true=>rw[ao bS] at k;refine aK (λ_=>?_) (λh=>absurd (aR rfl) h);exact⟨aW,λq hq=>k.refuse O rfl s2 hq⟩
  |false=>
   rw[ak (by rw[bS];decide)] at k;refine aK (λh=>absurd (aH h) (by intro q;cases q)) (λ_=>?_);refine⟨_,rfl,rfl,_,rfl,?_⟩;have fin:(m=0\/m=1)->∀(D:Ends),D.rt=Q->qO (Rz K (cK 4) (cK 2) "folded") (yJ (Cj (dk (tC (.int 0)) k6))) D [some (V.ref ob),some (V.int z),some (V.int m),some (V.int (a.length:Nat)),some (V.ref c)] H2:=λhm D hD=>by rw[ak (λh=>h hm)] at k;obtain⟨cd,t0,h1,h2⟩:=hn;refine⟨_,rfl,_,rfl,c,C,cd,_,rfl,h1,T.cl,T.mC,(by show 5<1000;decide),aW,λq hq=>?_⟩;have O4:=O2.set T.ne1 (O2.nodup W) e hc (x':={x with folded:=m==1}) h1 h2;rw[F' x t0 m (m==1) (by rcases hm with rfl|rfl<;>rfl)] at hq⊢;show D.rt _ _;rw[hD];exact k _ q dx l as ((s2.fr.trans (zw h1)).trans (aE hq).fr) (O4.same (aE hq)) ah
   by_cases h0:m=0
   .refine aK (λh=>?_) (λ_=>fJ (fin (.inl h0) _ rfl));rw[h0] at h;simp at h
   .refine aK (λ_=>?_) (λh=>?_)
    .refine⟨_,rfl,rfl,_,rfl,?_⟩;by_cases h1:m=1
     .refine aK (λh=>?_) (λ_=>fin (.inr h1) _ rfl);rw[h1] at h;simp at h
     .refine aK (λ_=>?_) (λh=>?_)
      .rw[ao (by omega)] at k;exact⟨aW,λq hq=>k.refuse O rfl s2 hq⟩
      .exfalso;apply h;simp;exact h1
    .exfalso;apply h;simp;exact h0
theorem BA(n:Nat)(y:Nd):((n+([y].filter λx=>x.folded).length:Nat):Int)=(n:Int)+b2 y.folded:=by
 cases h:y.folded with
 |true=>rw[rS,ao h];rfl
 |false=>rw[rS,ak (by rw[h];decide)];show((n+0:Nat):Int)=(n:Int)+0;omega
def wF(C CO:Addr):Sp:=λvs H Q _=>∃(ob dx l:Addr)(as:List Addr)(s:Vanbkn.State)(d:Int),vs=[.ref ob,.int d]/\ba C CO H ob dx l as s/\Wf s/\ek C CO H ob (Vanbkn.step s (.foldFrom d)) Q
theorem sV(h:o[i]?=some x):o.drop i=x::o.drop (i+1):=by obtain⟨h1,h2⟩:=dm.mp h;rw[rQ h1,h2]
theorem jL:aG ["outline","depth","count","node"] ["outline","depth"] (ay og):=eP
theorem BB(F:bG K mg "fold_from" og ["outline","depth"])(T:Txt K mg C CO CC):aZ Z 1 "fold_from" ["outline","depth"] (wF C CO):=by
 refine F.ok jL (λvs H Q E h=>?_) (λ_ _ _ _ _ H _ Q E hr h=>?_)
 .obtain⟨_,_,_,_,_,_,rfl,_⟩:=h;rfl
 .obtain⟨ob,dx,l,as,st,d,rfl,O,W,k⟩:=h;refine⟨_,(ae (aM (PW.pt (gh (bE g7 (pv 1) au) (gz (bE gL (pv 1) (eu T))))) (aj (aw (aL (aa (eu T) ag)))) aA) (ae (bD 2 jL au) (ae (eE PassesOwn.never rfl (bM (aB (pv 0) rfl)) (jB 3 jL) (aj (aM (bE bw (aB (pv 3) rfl) au) (ae (df (pv 3) (g0 (bE nF (aB (pv 3) rfl) (pv 1)) au au) rfl) (aj (k4 (i:=2) jL.nd rfl (Or.inl rfl) (aB (pv 3) rfl) nE))) aA))) (aj (aw (aL (aa (pv 2) ag))))))),?_⟩;rw[foldFrom_eq] at k;refine⟨_,rfl,_,_,rfl,rfl,_,rfl,?_⟩;refine aK (λh1=>eG ?_) (λh1=>?_)
  .rw[ao (λh=>by have:=aH h1;omega)] at k;exact⟨aW,λq hq=>k.refuse O rfl (aD.refl _) hq⟩
  have h1:=cI h1;refine⟨_,rfl,_,_,rfl,rfl,_,rfl,?_⟩;refine aK (λh2=>?_) (λh2=>?_)
  .rw[ao (λh=>by have:=aH h2;omega)] at k;exact⟨aW,λq hq=>k.refuse O rfl (aD.refl _) hq⟩
  have h2:=cI h2;rw[ak (λh=>h (by omega))] at k;have vA:=O.nodup W;refine⟨_,rfl,aV T O ⟨l,rfl,⟨_,bf.of O.N.lst⟩,dI (K:=K) (a:=l) (xs:=as.map V.ref) (λi σ H'=>∃v:Option V,σ=[some (.ref ob),some (.int d),some (.int (((st.nodes.take i).map (um d)).filter λx=>x.folded).length),v]/\Fr C CO H H'/\ba C CO H' ob dx l as ⟨(st.nodes.take i).map (um d)++st.nodes.drop i,st.next⟩)
   ⟨none,rfl,(aD.refl _).fr,O⟩ (λi σ H' _ ⟨_,_,_,O'⟩=>bf.of O'.N.lst) ?_ ?_⟩⟩
  .rintro i y σ H' hi ⟨v,rfl,f1,O'⟩;obtain⟨c,x,rfl,hc,hx,_⟩:=O.N.item hi;have m6:i<st.nodes.length:=(dm.mp hx).1;have ha:((st.nodes.take i).map (um d)).length=i:=by rw[aT,bj];omega
   have e:(⟨(st.nodes.take i).map (um d)++st.nodes.drop i,st.next⟩:Vanbkn.State).nodes=(st.nodes.take i).map (um d)++x::st.nodes.drop (i+1):=by show _++st.nodes.drop i=_;rw[sV hx]
   have xI:as[((st.nodes.take i).map (um d)).length]?=some c:=by rw[ha];exact hc
   have hn:bW C H' c x:=O'.N.at_ i c x hc (by
    show((st.nodes.take i).map (um d)++st.nodes.drop i)[i]?=some x;rw[k3 (by omega),ha,tI,sV hx]
    rfl)
   have nx:(st.nodes.take (i+1)).map (um d)=(st.nodes.take i).map (um d)++[um d x]:=by rw[take_snoc hx,cX];rfl
   refine⟨_,rfl,fH T hn ⟨rfl,_,rfl,?_⟩⟩;cases bS:x.cell with
   |true=>
    refine aK (λh=>absurd (aH h) (by intro q;cases q)) (λ_=>?_);have ef:um d x=x:=by unfold um;rw[ao bS]
    have hxf:x.folded=false:=(W.n.good x (cJ hx)).cf bS;refine⟨some (V.ref c),?_,f1,?_⟩
    .rw[nx,qI,ef];show[some (V.ref ob),some (V.int d),some (V.int _),some (V.ref c)]=_;rw[show[x].filter (λx=>x.folded)=[] by rw[rS,ak (by rw[hxf];decide),List.filter_nil],pw]
    .rw[nx,ef,dQ];rw[sV hx] at O';exact O'
   |false=>
    refine aK (λ_=>?_) (λh=>absurd (aR rfl) h);have ef:um d x={x with folded:=decide (d<=(x.depth:Int))}:=by unfold um;rw[ak (by rw[bS];decide)]
    have hn0:=hn;obtain⟨cd,t0,g1,g2⟩:=hn;refine⟨_,rfl,bp T hn0 ⟨_,rfl,_,_,rfl,rfl,_,rfl,?_⟩⟩;have fin:∀(b:Bool),decide (d<=(x.depth:Int))=b->∃v,[some (V.ref ob),some (V.int d),some (V.int (((st.nodes.take i).map (um d)).filter λx=>x.folded).length),some (V.ref c)][3]?=some (some v)/\∃(a C' vj:Addr)(fs:List (Str×V)),v= .ref a/\H' a=some (.ins C' vj fs)/\tO K C'/\cb K C' "folded"/\fs.length<1000/\
     Rq 2 (xm K (cK 3) "folded") (Vf λi j=>i+j) {nx:=λσ H'=>∃v:Option V,σ=[some (.ref ob),some (.int d),some (.int (((st.nodes.take (i+1)).map (um d)).filter λx=>x.folded).length),v]/\Fr C CO H H'/\ba C CO H' ob dx l as ⟨(st.nodes.take (i+1)).map (um d)++st.nodes.drop (i+1),st.next⟩,rt:=Q,bk:=λ_ _=>False,ct:=λ_ _=>False} [some (V.ref ob),some (V.int d),some (V.int (((st.nodes.take i).map (um d)).filter λx=>x.folded).length),some (V.ref c)] (upd H' a (.ins C' vj (eR "folded" (.int (b2 b)) fs))):=λb hb=>by
     refine⟨_,rfl,c,C,cd,_,rfl,g1,T.cl,T.mC,(by show 5<1000;decide),?_⟩;have O4:=O'.set T.ne1 vA e xI (x':={x with folded:=b}) g1 g2;rw[t4];have LP:bW C (upd H' c (.ins C cd (nf {x with folded:=b} t0))) c {x with folded:=b}:=⟨cd,t0,ah,by rw[az (jz g2 g1 (by intro q;cases q))];exact g2⟩;refine⟨_,rfl,_,rfl,iJ T LP ⟨_,_,rfl,rfl,some (V.ref c),?_,f1.trans (zw g1),?_⟩⟩
     .rw[nx,qI,bb,ef,hb];rw[BA];rfl
     .rw[nx,ef,hb,dQ];exact O4
    refine aK (λh=>?_) (λh=>?_)
    .exact fin true (by rw[d8];exact aH h)
    .exact fin false (by rw[m3];exact cI h)
  .rintro σ H' ⟨v,rfl,f1,O'⟩;rw[aT,O.N.len,fm,Kk,pw] at O';refine⟨_,rfl,aW,λq hq=>?_⟩;rw[aT,O.N.len,fm];exact k _ q dx l as (f1.trans (aE hq).fr) (O'.same (aE hq)) ah
def BC(C CO:Addr):Sp:=λvs H Q _=>∃(ob dx l:Addr)(as:List Addr)(s:Vanbkn.State)(z:Int),vs=[.ref ob,.int z]/\ba C CO H ob dx l as s/\Wf s/\ek C CO H ob (Vanbkn.step s (.reveal z)) Q
theorem wG:∀(l:O)(d:Nat),(upFrom d l).Sublist l
 |[],d=>NF _
 |x::r,d=>by
  show(if x.depth<d then x::upFrom x.depth r else upFrom d r).Sublist (x::r);split
  .exact(wG r _).cons_cons _
  .exact(wG r _).cons _
theorem Jk{f:Nd->Nd}(hf:∀y,(f y).depth=y.depth)(i:Nat):(nd (o.map f) i).depth=(nd o i).depth:=by
 unfold nd;rw[uh,uh,gX];cases o[i]? with
 |none=>rfl
 |some y=>exact hf y
theorem LQ{f:Nd->Nd}(hf:∀y,(f y).depth=y.depth)(i:Nat):nt (o.map f) i=nt o i:=by unfold nt;congr 1;funext j;rw[Jk hf,Jk hf]
theorem LR(P:Nd->Bool)(y:Nd):(pG P y).depth=y.depth:=by unfold pG;split<;>rfl
def P2(o:O)(U:List Nd)(ab:Option Nat):Prop:=(U=[]/\ab=none)\/∃b q c,o=b++q::c/\U=q::upFrom q.depth b.reverse/\ab=some b.length
theorem Jl(e:o=a++x::r):P2 o (upFrom x.depth a.reverse) (nt o a.length):=by
 rcases o6 e with⟨b,q,c,ea,hq,hc,hp⟩|⟨ha,hp⟩
 .exact .inr ⟨b,q,c++x::r,by rw[e,ea];simp,Ew ea hq hc,hp⟩
 .exact .inl ⟨Ex ha,hp⟩
theorem c9:aG ["outline","number","nodes","position","count","above","section"] ["outline","number"] (ay lh):=eP
theorem Ga(F:bG K mg "reveal_node" lh ["outline","number"])(T:Txt K mg C CO CC)(ax:aZ Z 1 "position_of" ["nodes","number"] (fA C))(br:aZ Z 1 "parent_position" ["nodes","position"] (Bi C)):
 aZ Z 2 "reveal_node" ["outline","number"] (BC C CO):=by
 refine F.ok c9 (λvs H Q E h=>?_) (λ_ _ _ _ _ H _ Q E hr h=>?_)
 .obtain⟨_,_,_,_,_,_,rfl,_⟩:=h;rfl
 .obtain⟨ob,dx,l,as,st,z,rfl,O,W,k⟩:=h;refine⟨_,(ae (bD 2 c9 (aB (pv 0) rfl)) (ae (bD 3 c9 (pc ax hr (aa (pv 2) (aa (pv 1) ag)))) (ae (aM (bE bC (pv 3) a6) (aj (aw (aL (aa (eu T) ag)))) aA) (ae (bD 4 c9 au) (ae (bD 5 c9 (pc br hr (aa (pv 2) (aa (pv 3) ag)))) (ae (fo PassesOwn.never (bE uz (pv 5) a6) (ae (bD 6 c9 (c7 aJ (pv 2) (pv 5))) (ae (k4 (i:=4) c9.nd rfl (Or.inl rfl) (aB (pv 6) rfl) nE) (ae (df (pv 6) au rfl) (aj (bD 5 c9 (pc br hr (aa (pv 2) (aa (pv 5) ag))))))))) (aj (aw (aL (aa (pv 4) ag)))))))))),?_⟩;refine⟨_,rfl,aV T O ?_⟩;refine⟨_,rfl,_,rfl,l,as,_,z,rfl,O.N,λH2 s2=>?_⟩;have O2:=O.same s2;refine⟨_,rfl,rfl,_,rfl,?_⟩;rcases aY (o:=st.nodes) z with hp|⟨a,x,r,e,hp,kU⟩
  .rw[hp];refine aK (λ_=>?_) (λh=>absurd (aR rfl) h);exact⟨aW,λq hq=>k.refuse O (dO W hp) s2 hq⟩
  rw[hp];refine aK (λh=>nomatch (aH h)) (λ_=>?_);rw[FL W e kU] at k;have vA:=O.nodup W;refine⟨_,rfl,_,rfl,l,as,_,a.length,rfl,O2.N,bt e,λH3 s3=>?_⟩;have O3:=O2.same s3;have X8:(nums (upFrom x.depth a.reverse)).Nodup:=by
   have h1:(nums a).Nodup:=by have:=W.n.nd;rw[e,c5] at this;exact(xA.mp this).1
   have h2:(nums a.reverse).Nodup:=by unfold nums;rw[DI];exact(List.reverse_perm _).nodup_iff.mpr h1
   exact lQ (wG _ _) h2
  refine fz (λ(U:List Nd×List Nd) σ H'=>upFrom x.depth a.reverse=U.1++U.2/\∃(ab:Option Nat)(v:Option V),P2 st.nodes U.2 ab/\σ=[some (.ref ob),some (.int z),some (.ref l),some (.int (a.length:Nat)),some (.int ((U.1.filter λy=>y.folded).length:Nat)),some (ur ab),v]/\
   Fr C CO H H'/\ba C CO H' ob dx l as ⟨st.nodes.map (pG λy=>(nums U.1).contains y.number),st.next⟩) (λU=>U.2.length) ([],upFrom x.depth a.reverse)
   ⟨rfl,_,none,Jl e,rfl,(s2.trans s3).fr,?_⟩ ?_
  .have e0:st.nodes.map (pG λy=>(nums ([]:List Nd)).contains y.number)=st.nodes:=by
    conv=>rhs;rw[<-uU st.nodes]
    refine iX λy _=>?_;unfold pG;rw[ak (by simp[nums])];rfl
   show ba C CO H3 ob dx l as ⟨st.nodes.map (pG λy=>(nums ([]:List Nd)).contains y.number),st.next⟩;rw[e0];exact O3
  .rintro⟨U1,U2⟩ σ H' ⟨hU,ab,v,Wk,rfl,f1,O'⟩;refine⟨_,rfl,rfl,_,rfl,?_⟩;rcases Wk with⟨zh,rfl⟩|⟨b,q,c,eo,zh,rfl⟩
   .refine aK (λh=>?_) (λ_=>?_)
    .cases h
    have zh:U2=[]:=zh;subst zh;rw[pw] at hU;refine⟨_,rfl,aW,λqq Nr=>?_⟩;have hU:upFrom x.depth a.reverse=U1:=hU;rw[hU] at k;exact k _ qq dx l as (f1.trans (aE Nr).fr) (O'.same (aE Nr)) ah
   .refine aK (λ_=>?_) (λh=>absurd rfl h);have zh:U2=q::upFrom q.depth b.reverse:=zh;have hU:upFrom x.depth a.reverse=U1++U2:=hU;rw[zh] at hU;have hqU:q.number∉nums U1:=by rw[hU,c5] at X8;intro hm;exact(xA.mp X8).2.2 _ hm _ (by simp[nums]) rfl
    refine m_ (U1,U2) ?_;have X9:(⟨st.nodes.map (pG λy=>(nums U1).contains y.number),st.next⟩:Vanbkn.State).nodes=b.map (pG λy=>(nums U1).contains y.number)++q::c.map (pG λy=>(nums U1).contains y.number):=by
     show st.nodes.map _=_;rw[eo,cX,cA];have:pG (λy=>(nums U1).contains y.number) q=q:=by unfold pG;rw[ak (by simpa using hqU)]
     rw[this]
    have Wl:(b.map (pG λy=>(nums U1).contains y.number)).length=b.length:=aT _;have fD:b.length<(st.nodes.map (pG λy=>(nums U1).contains y.number)).length:=by rw[aT];exact bt eo
    have Wm:nd (st.nodes.map (pG λy=>(nums U1).contains y.number)) b.length=q:=by rw[<-Wl];exact fI X9
    refine⟨_,rfl,_,rfl,c6 O'.N rfl fD λcc MH hn=>?_⟩;have hn:bW C H' cc q:=Wm▸hn;refine⟨_,rfl,_,rfl,iJ T hn ⟨_,_,rfl,rfl,?_⟩⟩;obtain⟨cd,t0,g1,g2⟩:=hn;refine⟨_,rfl,cc,C,cd,_,rfl,g1,T.cl,T.mC,(by show 5<1000;decide),?_⟩;have O4:=O'.set T.ne1 vA X9 (by rw[Wl];exact MH) (x':={q with folded:=false}) g1 g2;rw[show eR "folded" (V.int 0) (nf q t0)=nf {q with folded:=false} t0 from t4 q t0 false];have e4:b.map (pG λy=>(nums U1).contains y.number)++{q with folded:=false}::c.map (pG λy=>(nums U1).contains y.number)=st.nodes.map (pG λy=>(nums (U1++[q])).contains y.number):=by
     rw[eo,cX,cA];have hnq:∀y,y∈b\/y∈c->y.number≠q.number:=λy hy=>by
      have hh:=W.n.nd;rw[eo] at hh;obtain⟨h1,h2⟩:=gr hh;rcases hy with hy|hy
      .exact h1 y hy
      .exact h2 y hy
     have X_:∀y,y∈b\/y∈c->pG (λy=>(nums U1).contains y.number) y=pG (λy=>(nums (U1++[q])).contains y.number) y:=λy hy=>by
      unfold pG;have:(nums (U1++[q])).contains y.number=(nums U1).contains y.number:=by rw[c5,GD];have:=hnq y hy;simp[nums];intro h;exact absurd h this
      simp only[this]
     have hq:pG (λy=>(nums (U1++[q])).contains y.number) q={q with folded:=false}:=by unfold pG;rw[ao (by rw[c5];simp[nums])]
     rw[hq];congr 1
     .exact iX λy hy=>X_ y (.inl hy)
     .congr 1;exact iX λy hy=>X_ y (.inr hy)
    rw[e4] at O4;refine⟨_,rfl,_,rfl,l,as,_,b.length,rfl,O4.N,(by show b.length<(st.nodes.map _).length;rw[aT];exact bt eo),λH5 s5=>?_⟩;refine⟨(U1++[q],upFrom q.depth b.reverse),(by show(upFrom q.depth b.reverse).length<U2.length;rw[zh];simp),(by show _=U1++[q]++_;rw[hU];simp),nt st.nodes b.length,some (V.ref cc),Jl eo,?_,(f1.trans (zw g1)).trans s5.fr,O4.same s5⟩;have ep:nt (⟨st.nodes.map (pG λy=>(nums (U1++[q])).contains y.number),st.next⟩:Vanbkn.State).nodes b.length=nt st.nodes b.length:=LQ (LR _) _;rw[ep];show[some (V.ref ob),some (V.int z),some (V.ref l),some (V.int (a.length:Nat)),some (V.int (((U1.filter λy=>y.folded).length:Nat)+b2 q.folded)),some (ur (nt st.nodes b.length)),some (V.ref cc)]=[some (V.ref ob),some (V.int z),some (V.ref l),some (V.int (a.length:Nat)),some (V.int (((U1++[q]).filter λy=>y.folded).length:Nat)),some (ur (nt st.nodes b.length)),some (V.ref cc)];rw[qI,bb];rw[BA]
theorem fh(a b:List Int):aU a++aU b=aU (a++b):=(cX ..).symm
theorem qt(a:Int)(b:List Int):aU (a::b)=V.int a::aU b:=rfl
theorem yt{α:Type}(f:α->List Int)(m:Nat):∀(l:List α),(∀x∈l,(f x).length<=m)->(l.flatMap f).length<=m*l.length
 |[],_=>by simp
 |x::l,h=>by rw[nu,bb,cn,zV];have h1:=h x (by simp);have h2:=yt f m l λy hy=>h y (bz _ hy);omega
theorem pf{α:Type}(f:α->List Int){l:List α}{x:α}(h:l[i]?=some x):(l.take (i+1)).flatMap f=(l.take i).flatMap f++f x:=by rw[take_snoc h,B_];simp
theorem ph{α:Type}(f:α->List Int)(m:Nat){l:List α}(i:Nat)(h:∀x∈l,(f x).length<=m):((l.take i).flatMap f).length<=m*l.length:=by refine bq (yt f m _ λx hx=>h x (kx hx)) ?_;rw[bj];exact DS _ (zU _ _)
def lr(C CO:Addr)(c:Vanbkn.Call):Sp:=λvs H Q _=>∃(ob dx l:Addr)(as:List Addr)(s:Vanbkn.State),vs=[.ref ob]/\ba C CO H ob dx l as s/\Wf s/\ek C CO H ob (Vanbkn.step s c) Q
def eW(C CO:Addr)(c:Int->Vanbkn.Call):Sp:=λvs H Q _=>∃(ob dx l:Addr)(as:List Addr)(s:Vanbkn.State)(z:Int),vs=[.ref ob,.int z]/\ba C CO H ob dx l as s/\Wf s/\ek C CO H ob (Vanbkn.step s (c z)) Q
theorem oM:aG ["outline","answer","node"] ["outline"] (ay qd):=eP
theorem Jm(F:bG K mg "order_of" qd ["outline"])(T:Txt K mg C CO CC):aZ Z 1 "order_of" ["outline"] (lr C CO .order):=by
 refine F.ok oM (λvs H Q E h=>?_) (λ_ _ _ _ _ H _ Q E hr h=>?_)
 .obtain⟨_,_,_,_,_,rfl,_⟩:=h;rfl
 .obtain⟨ob,dx,l,as,st,rfl,O,W,k⟩:=h;refine⟨_,(ae (bD 1 oM (aL (aa (o_ T (aa (aB (pv 0) rfl) ag)) ag))) (ae (eE PassesOwn.never rfl (bM (aB (pv 0) rfl)) (jB 2 oM) (ae (bF (eY eN iZ i0 cy (pv 1) (aa (aB (pv 2) rfl) ag))) (aj (bF (eY eN iZ i0 cy (pv 1) (aa (aB (pv 2) rfl) ag)))))) (aj (aw (pv 1))))),?_⟩;refine⟨_,rfl,aV T O ⟨l,_,rfl,.inl (bf.of O.N.lst),aW,λb hb=>?_⟩⟩;rw[O.N.gW];have hw:=W.n.len;have hf:∀i,((st.nodes.take i).flatMap λx=>[(x.number:Int),(x.depth:Int)]).length<=2*st.nodes.length:=λi=>ph _ 2 i λx _=>by simp
  have O1:=O.same (aE hb (u:= .lst [V.int st.nodes.length]));refine⟨_,rfl,aV T O1 ⟨l,rfl,⟨_,bf.of O1.N.lst⟩,dI (K:=K) (a:=l) (xs:=as.map V.ref) (λi σ H'=>∃v:Option V,σ=[some (.ref ob),some (.ref b),v]/\aD H H'/\H' b=some (.lst (aU ((st.nodes.length:Int)::(st.nodes.take i).flatMap λx=>[(x.number:Int),(x.depth:Int)]))))
   ⟨none,rfl,aE hb,ah⟩ (λi σ H' _ ⟨_,_,s1,_⟩=>bf.of (s1 _ _ O.N.lst)) ?_ ?_⟩⟩
  .rintro i y σ H' hi ⟨v,rfl,s1,hB⟩;obtain⟨c,x,rfl,hc,hx,hn⟩:=O.N.item hi;have GJ:=hn.same s1;have QN:=hf i;refine⟨_,rfl,.inl ⟨rfl,_,bf.of hB⟩,_,rfl,bX T GJ ⟨b,_,_,rfl,rfl,hB,eO (by rw[bB,cn];omega),?_⟩⟩;have s2:=s1.put hb (u:= .lst (aU ((st.nodes.length:Int)::(st.nodes.take i).flatMap λx=>[(x.number:Int),(x.depth:Int)])++[V.int x.number]));refine⟨_,rfl,.inl ⟨rfl,_,bf.of ah⟩,_,rfl,bp T (hn.same s2) ⟨b,_,_,rfl,rfl,ah,eO (by rw[bb,bB,cn];show _+1<100000;omega),?_⟩⟩;refine⟨_,rfl,s2.put hb,?_⟩;rw[ah,pf _ hx,dQ,<-iW,<-fh];rfl
  .rintro σ H' ⟨v,rfl,s1,hB⟩;rw[aT,O.N.len,fm] at hB;exact⟨_,rfl,k.told O rfl s1 hB rfl⟩
theorem gR:aG ["outline","cells","count","node"] ["outline"] (ay qe):=eP
theorem Jn(F:bG K mg "state_of" qe ["outline"])(T:Txt K mg C CO CC):aZ Z 1 "state_of" ["outline"] (lr C CO .state):=by
 refine F.ok gR (λvs H Q E h=>?_) (λ_ _ _ _ _ H _ Q E hr h=>?_)
 .obtain⟨_,_,_,_,_,rfl,_⟩:=h;rfl
 .obtain⟨ob,dx,l,as,st,rfl,O,W,k⟩:=h;refine⟨_,(ae (bD 1 gR (o_ T (aa (kI rfl gR.nd (bM (aB (pv 0) rfl)) (own:=[("node",3)]) (B7 gR) (λ_ _ _ _ _=>(jB 3 gR)) (λ_ _ _ _ _=>(kH (bE bw (eg (K:=K) rfl (pv 3) rfl) au))) (λ_ _ _ _ _=>(pv 3))) ag))) (ae (bD 2 gR (o_ T (aa (aB (pv 0) rfl) ag))) (aj (aw (aL (aa (pv 2) (aa (bh gm (pv 2) (pv 1)) (aa (pv 1) (aa (aB (pv 0) rfl) ag))))))))),?_⟩;refine⟨_,rfl,aV T O ⟨l,rfl,⟨_,bf.of O.N.lst⟩,λD hD=>?_⟩⟩;refine f9 (K:=K) (a:=l) (λq=>if q.2.cell=true then some (V.ref q.1) else none) O.N.zip hD O.N.Lp (λm q H4 hq s4 R R0 k1 k2=>?_) (λH4 s4 h4=>?_)
  .have hn:=(O.N.at2 hq).same s4;refine⟨rfl,_,rfl,fH T hn ⟨rfl,_,rfl,?_⟩⟩;cases bS:q.2.cell with
   |true=>refine aK (λ_=>?_) (λh=>absurd (aR rfl) h);exact⟨_,rfl,k1 _ _ (aD.refl _) (ao bS)⟩
   |false=>refine aK (λh=>absurd (aH h) (by intro e;cases e)) (λ_=>?_);exact k2 _ (aD.refl _) (ak (by rw[bS];decide))
  .refine⟨D,_,rfl,.inl (bf.of h4),?_⟩;rw[yh O.N.len (λy=>y.cell)];have O4:=O.same s4;refine⟨_,rfl,aV T O4 ⟨l,_,rfl,.inl (bf.of O4.N.lst),?_⟩⟩;rw[O4.N.gW];refine⟨_,rfl,_,rfl,_,rfl,_,_,rfl,rfl,_,rfl,_,rfl,mD T O4 ⟨(by show 4<=sizeLine;decide),λp hp=>?_⟩⟩;refine k.told O rfl (s4.new hp) ah ?_;have hc:(st.nodes.filter λy=> !y.cell).length+(st.nodes.filter λy=>y.cell).length=st.nodes.length:=by
    have:∀o:List Nd,(o.filter λy=> !y.cell).length+(o.filter λy=>y.cell).length=o.length:=by
     intro o;induction o with
     |nil=>rfl
     |cons x o ih=>rw[rS,rS,cn];cases x.cell<;>simp<;>omega
    exact this _
   show[V.int (st.nodes.length:Nat),V.int ((st.nodes.length:Nat) - ((st.nodes.filter λy=>y.cell).length:Nat)),V.int ((st.nodes.filter λy=>y.cell).length:Nat),V.int (st.next:Nat)]=[V.int (st.nodes.length:Nat),V.int ((st.nodes.filter λy=> !y.cell).length:Nat),V.int ((st.nodes.filter λy=>y.cell).length:Nat),V.int (st.next:Nat)];rw[show((st.nodes.length:Nat):Int) - ((st.nodes.filter λy=>y.cell).length:Nat)=((st.nodes.filter λy=> !y.cell).length:Nat) by omega]
def ET(C:Addr):Sp:=λvs H Q _=>∃(l:Addr)(as:List Addr)(o:O),vs=[.ref l]/\NL C H l as o/\∀H' p,aD H H'->H' p=some (.lst (aI (gV o)))->Q (.ref p) H'
theorem Jo{k:Nat}(h:¬i<o.length):pU o k i=[]:=by
 cases k with
 |zero=>rfl
 |succ k=>unfold pU;rw[ak h]
theorem eD:aG ["nodes","found","position"] ["nodes"] (ay gp):=eP
theorem P4(F:bG K mg "visible_positions" gp ["nodes"])(T:Txt K mg C CO CC)(aQ:aZ Z 1 "tree_end" ["nodes","start"] (fS C)):aZ Z 2 "visible_positions" ["nodes"] (ET C):=by
 refine F.ok eD (λvs H Q E h=>?_) (λ_ _ _ _ _ H _ Q E hr h=>?_)
 .obtain⟨_,_,_,rfl,_⟩:=h;rfl
 .obtain⟨l,as,o,rfl,N,k⟩:=h;refine⟨_,(ae (bD 1 eD (aL ag)) (ae (bD 2 eD au) (ae (fo PassesOwn.never (bE g7 (pv 2) (o_ T (aa (pv 0) ag))) (ae (bF (eY eN iZ i0 cy (pv 1) (aa (pv 2) ag))) (aj (bD 2 eD (g0 (bE bw (aB (c7 aJ (pv 0) (pv 2)) rfl) au) (pc aQ hr (aa (pv 0) (aa (pv 2) ag))) (bh bP (pv 2) au)))))) (aj (aw (pv 1)))))),?_⟩;refine⟨a_ _,λp hp=>?_⟩;refine fz (λ(m:Nat) σ H'=>∃(i:Nat)(dn:List Nat),σ=[some (.ref l),some (.ref p),some (.int (i:Nat))]/\aD H H'/\H' p=some (.lst (aI dn))/\dn++pU o m i=gV o/\o.length - i<=m/\dn.length<=i) (λm=>m) o.length
   ⟨0,[],rfl,aE hp,ah,rfl,aS _,aS _⟩ ?_
  rintro m σ H' ⟨i,dn,rfl,s1,hP,hv,hm,J9⟩;have N1:=N.same s1;have LN:=N.sm;refine⟨_,rfl,_,rfl,l,_,rfl,.inl (bf.of N1.lst),_,_,rfl,rfl,_,rfl,?_⟩;rw[N.gW];refine aK (λhc=>?_) (λhc=>?_)
  .have fD:i<o.length:=by have:=aH hc;omega
   obtain⟨m',rfl⟩:∃m',m=m'+1:=⟨m - 1,by omega⟩;have hv:dn++(if i<o.length then i::pU o m' (if(nd o i).folded=true then aP o i else i+1) else[])=gV o:=hv;rw[ao fD] at hv;refine m_ (m'+1) ?_;refine⟨_,rfl,.inl ⟨rfl,_,bf.of hP⟩,_,rfl,p,_,_,rfl,rfl,hP,eO (by rw[aF];omega),?_⟩;have s2:=s1.put hp (u:= .lst (aI dn++[V.int (i:Nat)]));have N2:=N.same s2;have QO:upd H' p (.lst (aI dn++[V.int (i:Nat)])) p=some (.lst (aI (dn++[i]))):=by rw[ah,<-cU];rfl
   refine⟨_,rfl,_,rfl,c6 N2 rfl fD λc _ hc=>iJ T hc ⟨rfl,_,rfl,?_⟩⟩;cases hf:(nd o i).folded with
   |true=>rw[hf,ao rfl] at hv;refine aK (λ_=>?_) (λh=>absurd (aR rfl) h);refine⟨_,rfl,_,rfl,l,as,o,i,rfl,N2,fD,λH3 s3=>?_⟩;have:=rp o i;exact⟨m',mY _,aP o i,dn++[i],rfl,s2.trans s3,s3 _ _ QO,by rw[dQ];exact hv,by omega,by rw[bb];simp;omega⟩
   |false=>rw[hf,ak (by decide)] at hv;refine aK (λh=>absurd (aH h) (by intro e;cases e)) (λ_=>?_);refine⟨_,rfl,_,_,rfl,rfl,?_⟩;exact⟨m',mY _,i+1,dn++[i],rfl,s2,QO,by rw[dQ];exact hv,by omega,by rw[bb];simp;omega⟩
  .have kL:¬i<o.length:=λh=>cI hc (by omega);rw[Jo kL,pw] at hv;rw[hv] at hP;exact⟨_,rfl,k _ p s1 hP⟩
def t6(o:O)(j:Nat):List Int:=[((nd o j).number:Int),((nd o j).depth:Int),if(nd o j).folded=true then((aP o j:Nat):Int) - (j:Nat) - 1 else 0]
theorem LS(W:Wf s):tellView s=⟨((gV s.nodes).length:Nat),(gV s.nodes).flatMap (t6 s.nodes)⟩:=by
 unfold tellView;have h1:=(k_ W.n.nd).1;have h2:=(k_ W.n.nd).2;have hl:(visible s.nodes).length=(gV s.nodes).length:=by rw[<-h1,aT]
 have hf:((visible s.nodes).flatMap λx=>[ofNat x.number,ofNat x.depth,if x.folded=true then ofNat ((Vanbkn.tree s.nodes x.number).length - 1) else 0])=(gV s.nodes).flatMap (t6 s.nodes):=by
  rw[<-h1,List.flatMap_map];have:∀l:List Nat,(∀j∈l,j<s.nodes.length)->(l.flatMap λj=>[ofNat (nd s.nodes j).number,ofNat (nd s.nodes j).depth,if(nd s.nodes j).folded=true then ofNat ((Vanbkn.tree s.nodes (nd s.nodes j).number).length - 1) else 0])=l.flatMap (t6 s.nodes):=by
   intro l;induction l with
   |nil=>intro _;rfl
   |cons j l ih=>
    intro hj;rw[nu,nu,ih λi hi=>hj i (bz _ hi)];congr 1;unfold t6;obtain⟨e,hlen⟩:=La (hj j (by simp));have ht:=A4 W.n.nd e;have X':=gw e;rw[hlen] at X';rw[ht];split
    .show[_,_,((1+_ - 1:Nat):Int)]=[_,_,_];rw[X',show((1+(inside (nd s.nodes j).depth (s.nodes.drop (j+1))).length - 1:Nat):Int)=((j+1+(inside (nd s.nodes j).depth (s.nodes.drop (j+1))).length:Nat):Int) - (j:Nat) - 1 by omega];rfl
    .rfl
  exact this _ h2
 dsimp only;rw[hl,hf];rfl
theorem gJ:aG ["outline","nodes","visible","answer","position","node","hidden"] ["outline"] (ay sI):=eP
theorem LU(F:bG K mg "view_of" sI ["outline"])(T:Txt K mg C CO CC)(aQ:aZ Z 1 "tree_end" ["nodes","start"] (fS C))(cQ:aZ Z 2 "visible_positions" ["nodes"] (ET C)):aZ Z 3 "view_of" ["outline"] (lr C CO .view):=by
 refine F.ok gJ (λvs H Q E h=>?_) (λ_ _ _ _ _ H _ Q E hr h=>?_)
 .obtain⟨_,_,_,_,_,rfl,_⟩:=h;rfl
 .obtain⟨ob,dx,l,as,st,rfl,O,W,k⟩:=h;refine⟨_,(ae (bD 1 gJ (aB (pv 0) rfl)) (ae (bD 2 gJ (pc cQ hr (aa (pv 1) ag))) (ae (bD 3 gJ (aL (aa (o_ T (aa (pv 2) ag)) ag))) (ae (eE PassesOwn.never rfl (bM (pv 2)) (jB 4 gJ) (ae (bD 5 gJ (c7 aJ (pv 1) (pv 4))) (ae (bD 6 gJ (g0 (bE bw (aB (pv 5) rfl) au) (bh gm (bh gm (pc aQ hr (aa (pv 1) (aa (pv 4) ag))) (pv 4)) au) au)) (aj (bF (eY eN qJ qK fY (pv 3) (aa (aL (aa (aB (pv 5) rfl) (aa (aB (pv 5) rfl) (aa (pv 6) ag)))) ag))))))) (aj (aw (pv 3))))))),?_⟩;have hw:=W.n.len;have Vy:(gV st.nodes).length<=60:=by
   have:(gV st.nodes).length=(visible st.nodes).length:=by rw[<-(k_ W.n.nd).1,aT]
   rw[this];exact bq (lE _ _) hw
  refine⟨_,rfl,aV T O ?_⟩;refine⟨_,rfl,l,as,_,rfl,O.N,λH2 p s2 hP=>?_⟩;refine⟨_,rfl,p,_,rfl,.inl (bf.of hP),aW,λb hb=>?_⟩;rw[aF];have s3:=s2.new hb (u:= .lst [V.int (gV st.nodes).length]);have Sz:H b=none:=s2.free hb;have Us:p≠b:=bc hP hb;have hf:∀i,(((gV st.nodes).take i).flatMap (t6 st.nodes)).length<=3*(gV st.nodes).length:=λi=>ph _ 3 i λx _=>by simp[t6]
  refine⟨_,rfl,p,rfl,⟨_,bf.of (a9 hP hb)⟩,dI (K:=K) (a:=p) (xs:=aI (gV st.nodes)) (λi σ H'=>∃v4 v5 v6:Option V,σ=[some (.ref ob),some (.ref l),some (.ref p),some (.ref b),v4,v5,v6]/\aD H H'/\H' p=some (.lst (aI (gV st.nodes)))/\H' b=some (.lst (aU (((gV st.nodes).length:Int)::((gV st.nodes).take i).flatMap (t6 st.nodes)))))
   ⟨none,none,none,rfl,s3,a9 hP hb,ah⟩ (λi σ H' _ ⟨_,_,_,_,_,Wn,_⟩=>bf.of Wn) ?_ ?_⟩
  .rintro i y σ H' hi ⟨v4,v5,v6,rfl,s4,SD,hB⟩;obtain⟨j,hj,rfl⟩:=get_map hi;have Cm:=(k_ W.n.nd).2 j (cJ hj);have O4:=O.same s4;have QN:=hf i;refine⟨_,rfl,_,rfl,c6 O4.N rfl Cm λc _ hc=>?_⟩;refine⟨_,rfl,iJ T hc ⟨rfl,_,rfl,?_⟩⟩;have fin:∀(H5:Hp)(z:Int),aD H' H5->z=(if(nd st.nodes j).folded=true then((aP st.nodes j:Nat):Int) - (j:Nat) - 1 else 0)->∀D:Ends,(D.nx=λσ H'=>∃v4 v5 v6:Option V,σ=[some (.ref ob),some (.ref l),some (.ref p),some (.ref b),v4,v5,v6]/\aD H H'/\H' p=some (.lst (aI (gV st.nodes)))/\H' b=some (.lst (aU (((gV st.nodes).length:Int)::((gV st.nodes).take (i+1)).flatMap (t6 st.nodes)))))->
    MK (Vq K "list" Ea (cK 3) (dk (Cj (dk (xm K (cK 5) "number") (dk (xm K (cK 5) "depth") (dk (cK 6) k6)))) k6)) D [some (.ref ob),some (.ref l),some (.ref p),some (.ref b),some (V.int (j:Nat)),some (V.ref c),some (V.int z)] H5:=λH5 z s5 hz D hD=>by
    have Ya:=s5 _ _ hB;refine⟨_,rfl,.inl ⟨rfl,_,bf.of Ya⟩,_,rfl,bX T (hc.same s5) ⟨_,rfl,bp T (hc.same s5) ⟨_,rfl,(by show 3<=sizeLine;decide),λt ht=>?_⟩⟩⟩;refine⟨b,t,_,_,rfl,rfl,a9 Ya ht,ah,dC (by rw[bB,cn];show _+3<=100000;omega),?_⟩;show D.nx _ _;rw[hD];refine⟨_,_,_,rfl,((s4.trans s5).new ht).put Sz,?_,?_⟩
    .rw[az Us];exact a9 (s5 _ _ SD) ht
    .rw[ah,pf _ hj,<-iW,<-fh,hz];rfl
   cases Yb:(nd st.nodes j).folded with
   |true=>refine aK (λ_=>?_) (λh=>absurd (aR rfl) h);refine⟨_,rfl,_,rfl,l,as,_,j,rfl,O4.N,Cm,λH5 s5=>⟨_,rfl,_,_,rfl,rfl,_,_,rfl,rfl,?_⟩⟩;exact fin H5 _ s5 (by rw[Yb,ao rfl]) _ rfl
   |false=>refine aK (λh=>absurd (aH h) (by intro e;cases e)) (λ_=>?_);exact fin H' _ (aD.refl _) (by rw[Yb,ak (by decide)]) _ rfl
  .rintro σ H' ⟨v4,v5,v6,rfl,s4,SD,hB⟩;rw[aF,fm] at hB;refine⟨_,rfl,k.told O rfl s4 hB ?_⟩;show _=aU (encode (tellView st));rw[LS W];rfl
theorem LV(W:Wf s)(e:s.nodes=a++x::r)(hz:(x.number:Int)=z):Vanbkn.step s (.info z)=
 (s,⟨b2 x.cell,[(x.depth:Int),b2 x.folded,(yl s.nodes a.length:Nat),((aP s.nodes a.length:Nat):Int) - (a.length:Nat),match nt s.nodes a.length with
  |none=>0
  |some j=>((nd s.nodes j).number:Int)]⟩):=by
 show withNode s z _=_;rw[aO W.n e hz];unfold Vanbkn.tellInfo;have h0:x.number≠0:=by have:=(W.n.good x (by rw[e];simp)).num;omega
 rw[K' W.n.nd h0 e,A4 W.n.nd e,FR W.n.nd e];have hk:yl s.nodes a.length=((inside x.depth r).filter λy=>y.depth==x.depth+1).length:=by unfold yl;rw[fI e,zy e]
 have ht:((aP s.nodes a.length:Nat):Int) - (a.length:Nat)=((1+(inside x.depth r).length:Nat):Int):=by rw[gw e];omega
 rw[hk,ht];rcases o6 e with⟨b,q,c,ea,hq,hc,hp⟩|⟨ha,hp⟩
 .have eb:s.nodes=b++q::(c++x::r):=by rw[e,ea];simp
  rw[hp,Ew ea hq hc];show(s,(⟨_,[_,_,_,_,((q.number:Nat):Int)]⟩:Answer))=(s,⟨_,[_,_,_,_,(((nd s.nodes b.length).number:Nat):Int)]⟩);rw[fI eb];rfl
 .rw[hp,Ex ha];rfl
theorem gK:aG ["outline","number","nodes","position","node","above","parent","children"] ["outline","number"] (ay sJ):=eP
theorem LW(F:bG K mg "info_of" sJ ["outline","number"])(T:Txt K mg C CO CC)(ax:aZ Z 1 "position_of" ["nodes","number"] (fA C))(aQ:aZ Z 1 "tree_end" ["nodes","start"] (fS C))(br:aZ Z 1 "parent_position" ["nodes","position"] (Bi C))(dW:aZ Z 2 "children_count" ["nodes","position"] (zo C)):aZ Z 3 "info_of" ["outline","number"] (eW C CO .info):=by
 refine F.ok gK (λvs H Q E h=>?_) (λ_ _ _ _ _ H _ Q E hr h=>?_)
 .obtain⟨_,_,_,_,_,_,rfl,_⟩:=h;rfl
 .obtain⟨ob,dx,l,as,st,z,rfl,O,W,k⟩:=h;refine⟨_,(ae (bD 2 gK (aB (pv 0) rfl)) (ae (bD 3 gK (pc ax hr (aa (pv 2) (aa (pv 1) ag)))) (ae (aM (bE bC (pv 3) a6) (aj (aw (aL (aa (eu T) ag)))) aA) (ae (bD 4 gK (c7 aJ (pv 2) (pv 3))) (ae (bD 5 gK (pc br hr (aa (pv 2) (aa (pv 3) ag)))) (ae (bD 6 gK (g0 (bE bC (pv 5) a6) au (aB (c7 aJ (pv 2) (pv 5)) rfl))) (ae (bD 7 gK (pc dW hr (aa (pv 2) (aa (pv 3) ag)))) (aj (aw (aL (aa (aB (pv 4) rfl) (aa (aB (pv 4) rfl) (aa (aB (pv 4) rfl) (aa (pv 7) (aa (bh gm (pc aQ hr (aa (pv 2) (aa (pv 3) ag))) (pv 3)) (aa (pv 6) ag)))))))))))))))),?_⟩;refine⟨_,rfl,aV T O ?_⟩;refine⟨_,rfl,_,rfl,l,as,_,z,rfl,O.N,λH2 s2=>?_⟩;have O2:=O.same s2;refine⟨_,rfl,rfl,_,rfl,?_⟩;rcases aY (o:=st.nodes) z with hp|⟨a,x,r,e,hp,kU⟩
  .rw[hp];refine aK (λ_=>?_) (λh=>absurd (aR rfl) h);exact⟨aW,λq hq=>k.refuse O (dO W hp) s2 hq⟩
  rw[hp];refine aK (λh=>nomatch (aH h)) (λ_=>?_);rw[LV W e kU] at k;refine⟨_,rfl,_,rfl,c6 O2.N rfl (bt e) λc _ hc=>?_⟩;rw[fI e] at hc;refine⟨_,rfl,_,rfl,l,as,_,a.length,rfl,O2.N,bt e,λH3 s3=>?_⟩;have O3:=O2.same s3;refine⟨_,rfl,rfl,_,rfl,?_⟩;have fin:∀(ov:Option Nat),nt st.nodes a.length=ov->∀(n:Int),n=(match ov with
   |none=>0
   |some j=>((nd st.nodes j).number:Int))->∀D:Ends,D.rt=Q->qO (yK (pD (zo C) [] E0 (dk (cK 2) (dk (cK 3) k6))) (fK 7)) (yJ (Cj (dk (xm K (cK 4) "cell") (dk (xm K (cK 4) "depth") (dk (xm K (cK 4) "folded") (dk (cK 7) (dk (tL (xK λi j=>V.int (i - j)) (pD (fS C) [] E0 (dk (cK 2) (dk (cK 3) k6))) (cK 3)) (dk (cK 6) k6))))))))
    D [some (.ref ob),some (.int z),some (.ref l),some (.int (a.length:Nat)),some (V.ref c),some (ur ov),some (V.int n),none] H3:=λov hov n hn D hD=>by
   refine⟨_,rfl,_,rfl,l,as,_,a.length,rfl,O3.N,bt e,λH4 s4=>?_⟩;have O4:=O3.same s4;have Nf:=(hc.same s3).same s4;refine⟨_,rfl,fH T Nf ⟨_,rfl,bp T Nf ⟨_,rfl,iJ T Nf ⟨_,rfl,_,rfl,_,rfl,l,as,_,a.length,rfl,O4.N,bt e,λH5 s5=>⟨_,rfl,_,_,rfl,rfl,_,rfl,(by show 6<=sizeLine;decide),λp hp=>?_⟩⟩⟩⟩⟩;show D.rt _ _;rw[hD];refine k.told O rfl ((((s2.trans s3).trans s4).trans s5).new hp) ah ?_;rw[hn,hov];rfl
  rcases M3:nt st.nodes a.length with _|j
  .refine aK (λ_=>?_) (λh=>absurd (aR rfl) h);exact fin none M3 0 rfl _ rfl
  .refine aK (λh=>nomatch (aH h)) (λ_=>?_);have Cm:j<st.nodes.length:=by
    rcases o6 e with⟨b,q,c',ea,hq,xI,Cq⟩|⟨ha,Cq⟩
    .rw[M3] at Cq;cases Cq;have:=bt e;rw[ea] at this;simp at this;omega
    .rw[M3] at Cq;cases Cq
   refine⟨_,rfl,_,rfl,c6 O3.N rfl Cm λn _ hn=>bX T hn ?_⟩;exact fin (some j) M3 _ rfl _ rfl
def Jp(C CO:Addr):Sp:=λvs H Q _=>∃(ob dx l:Addr)(as:List Addr)(s:Vanbkn.State)(z d:Int),vs=[.ref ob,.int z,.int d]/\ba C CO H ob dx l as s/\Wf s/\ek C CO H ob (Vanbkn.step s (.step z d)) Q
theorem wH(i:Nat):∀l:List Nat,RD (.int (i:Nat)) (aI l)=decide (i∈l)
 |[]=>by simp[RD,aI]
 |c::l=>by
  have ih:=wH i l;unfold RD aI at ih⊢;rw[cA,uR,ih,GD,rP,d8,d8,bZ];show(((c:Nat):Int)==(i:Nat))=true\/_↔_;rw[qL];constructor
  .rintro(h|h)
   .exact .inl (by omega)
   .exact .inr h
  .rintro(h|h)
   .exact .inl (by omega)
   .exact .inr h
theorem sW(l:List Nat):(aI l).all lI=true:=by unfold aI;rw[Kh];exact yH.mpr λ_ _=>rfl
theorem Gb{d:Int}(W:Wf s)(e:s.nodes=a++x::r)(hz:(x.number:Int)=z):Vanbkn.step s (.step z d)=(s,tellStep s x d):=by show withNode s z _=_;rw[aO W.n e hz]
theorem ig:aG ["outline","number","direction","nodes","position","visible","place"] ["outline","number","direction"] (ay om):=eP
theorem LX(F:bG K mg "step_from" om ["outline","number","direction"])(T:Txt K mg C CO CC)(ax:aZ Z 1 "position_of" ["nodes","number"] (fA C))(cQ:aZ Z 2 "visible_positions" ["nodes"] (ET C)):
 aZ Z 3 "step_from" ["outline","number","direction"] (Jp C CO):=by
 refine F.ok ig (λvs H Q E h=>?_) (λ_ _ _ _ _ H _ Q E hr h=>?_)
 .obtain⟨_,_,_,_,_,_,_,rfl,_⟩:=h;rfl
 .obtain⟨ob,dx,l,as,st,z,d,rfl,O,W,k⟩:=h;refine⟨_,(ae (bD 3 ig (aB (pv 0) rfl)) (ae (bD 4 ig (pc ax hr (aa (pv 3) (aa (pv 1) ag)))) (ae (aM (bE bC (pv 4) a6) (aj (aw (aL (aa (eu T) ag)))) aA) (ae (aM (PW.pt (gZ (bE lF (pv 2) au) (fX (bE lF (pv 2) (vf pP au))))) (aj (aw (aL (aa (eu T) ag)))) aA) (ae (bD 5 ig (pc cQ hr (aa (pv 3) ag))) (ae (aM (bE yO (pv 4) (pv 5) rfl) (aj (aw (aL (aa (eu T) ag)))) aA) (ae (bD 6 ig (bh bP (eY eN MA PySem.F.type_list_index (Hu) (pv 5) (aa (pv 4) ag)) (pv 2))) (ae (aM (PW.pt (gh (bE g7 (pv 6) au) (gz (bE nF (pv 6) (o_ T (aa (pv 5) ag)))))) (aj (aw (aL (aa au ag)))) aA) (aj (aw (aL (aa (aB (c7 aJ (pv 3) (c7 aJ (pv 5) (pv 6))) rfl) ag)))))))))))),?_⟩;refine⟨_,rfl,aV T O ?_⟩;refine⟨_,rfl,_,rfl,l,as,_,z,rfl,O.N,λH2 s2=>?_⟩;have O2:=O.same s2;refine⟨_,rfl,rfl,_,rfl,?_⟩;rcases aY (o:=st.nodes) z with hp|⟨a,x,r,e,hp,kU⟩
  .rw[hp];refine aK (λ_=>?_) (λh=>absurd (aR rfl) h);exact⟨aW,λq hq=>k.refuse O (dO W hp) s2 hq⟩
  rw[hp];refine aK (λh=>nomatch (aH h)) (λ_=>?_);rw[Gb W e kU] at k;unfold tellStep at k;dsimp only at k;have main:d=1\/d=-1->∀D:Ends,D.rt=Q->qO (yK (pD (ET C) [] E0 (dk (cK 3) k6)) (fK 5)) (qO (Ab (lG (tL (TY K true) (cK 4) (cK 5))) (yJ (Cj (dk (tC (.int (-15))) k6))) kD)
   (qO (yK (tL (xK λi j=>V.int (i+j)) (Vq K "list" (Ht K) (cK 5) (dk (cK 4) k6)) (cK 2)) (fK 6))
   (qO (Ab (MI (lG (tL (xK λi j=>V.bl (decide (i<j))) (cK 6) (tC (.int 0)))) (lG (tL (xK λi j=>V.bl (decide (j<=i))) (cK 6) (TX (λxs H Q=>∃p ys,xs=[.ref p]/\(bf K H p ys\/iu K H p ys)/\Q (.int ys.length) H) (dk (cK 5) k6))))) (yJ (Cj (dk (tC (.int 0)) k6))) kD)
   (yJ (Cj (dk (xm K (tL (Ft K) (cK 3) (tL (Ft K) (cK 5) (cK 6))) "number") k6)))))) D [some (.ref ob),some (.int z),some (.int d),some (.ref l),some (.int (a.length:Nat)),none,none] H2:=λhd D hD=>by
   rw[ak (λh=>h hd)] at k;refine⟨_,rfl,l,as,_,rfl,O2.N,λH3 p s3 hP=>?_⟩;have jC:=s2.trans s3;have O3:=O2.same s3;refine⟨_,rfl,_,rfl,p,_,rfl,.inl (bf.of hP),rfl,sW _,_,rfl,?_⟩;rw[ao rfl,wH];rw[Lb W.n.nd e] at k;by_cases uE:a.length∈gV st.nodes
   .rw[aR uE,ak (by decide)] at k;rw[aR uE];refine fJ ?_;obtain⟨j,hj,VV⟩:∃j,(gV st.nodes)[j]?=some a.length/\∀m i,m<j->(gV st.nodes)[m]?=some i->i≠a.length:=by have hpw:(gV st.nodes).Pairwise (·<·):=(EA st.nodes st.nodes.length 0).1;obtain⟨j,hj⟩:=xj uE;refine⟨j,hj,λm i hm hi=>?_⟩;obtain⟨Cm,Qt⟩:=dm.mp hj;obtain⟨pE,Vz⟩:=dm.mp hi;have:=DK.mp hpw m j pE Cm hm;rw[Qt,Vz] at this;omega
    have Cm:=(dm.mp hj).1;refine⟨_,rfl,.inl ⟨rfl,_,bf.of hP⟩,_,rfl,p,_,_,j,_,rfl,rfl,bf.of hP,rfl,sW _,byte_at hj,(by show(((a.length:Nat):Int)==(a.length:Nat))=true;exact beq_self_eq_true _),(λm z' hm KN=>?_),_,rfl,_,_,rfl,rfl,?_⟩
    .obtain⟨i,hi,rfl⟩:=get_map KN;have:=VV m i hm hi;show(((i:Nat):Int)==(a.length:Nat))=false;rw[ny];omega
    have Ut:(visible st.nodes)[j]?=some x:=by rw[CS W.n.nd hj,fI e]
    have Uu:=FT W.n.nd;have Vy:(visible st.nodes).length=(gV st.nodes).length:=by rw[<-(k_ W.n.nd).1,aT]
    refine⟨_,rfl,_,_,rfl,rfl,_,rfl,?_⟩;refine aK (λh=>eG ?_) (λh1=>?_)
    .have h:=aH h;have P5:d=-1:=by omega
     subst P5;have hj0:j=0:=by omega
     subst hj0;rw[show((-1:Int)==1)=false by decide,CP Uu Ut] at k;refine⟨aW,λq hq=>?_⟩;show D.rt _ _;rw[hD];exact k.told O rfl (jC.new hq) ah rfl
    have h1:=cI h1;refine⟨_,rfl,_,rfl,p,_,rfl,.inl (bf.of hP),_,_,rfl,rfl,_,rfl,?_⟩;rw[aF];refine aK (λh=>?_) (λh2=>?_)
    .have h:=aH h;have P5:d=1:=by omega
     subst P5;have SE:(visible st.nodes)[j+1]?=none:=Ko (by rw[Vy];omega);rw[show((1:Int)==1)=true by decide,A5 Uu Ut,SE] at k;refine⟨aW,λq hq=>?_⟩;show D.rt _ _;rw[hD];exact k.told O rfl (jC.new hq) ah rfl
    have h2:=cI h2;obtain⟨t,ht⟩:∃t:Nat,(j:Int)+d=(t:Int):=⟨((j:Int)+d).toNat,by omega⟩;have Nu:t<(gV st.nodes).length:=by omega
    obtain⟨i,hi⟩:∃i,(gV st.nodes)[t]?=some i:=⟨_,c_ Nu⟩;have m6:=(k_ W.n.nd).2 i (cJ hi);refine⟨_,rfl,_,rfl,_,rfl,bH hP ht (byte_at hi) (c6 O3.N rfl m6 λc _ hc=>bX T hc ⟨aW,λq hq=>?_⟩)⟩;show D.rt _ _;rw[hD];refine k.told O rfl (jC.new hq) ah ?_;rcases hd with hd|hd
    .subst hd;have Wq:t=j+1:=by omega
     subst Wq;rw[show((1:Int)==1)=true by decide,A5 Uu Ut,CS W.n.nd hi];rfl
    .subst hd;obtain⟨j',rfl⟩:∃j',j=j'+1:=⟨j - 1,by omega⟩;have Wq:t=j':=by omega
     subst Wq;rw[show((-1:Int)==1)=false by decide,CQ Uu Ut (CS W.n.nd hi)];rfl
   .rw[cR uE,ao rfl] at k;rw[cR uE];refine eG ⟨aW,λq hq=>?_⟩;show D.rt _ _;rw[hD];exact k.told O rfl (jC.new hq) ah rfl
  refine⟨_,rfl,rfl,_,rfl,?_⟩;by_cases h1:d=1
  .refine aK (λh=>?_) (λ_=>fJ (main (.inl h1) _ rfl));rw[h1] at h;simp at h
  .refine aK (λ_=>?_) (λh=>?_)
   .refine⟨_,rfl,_,rfl,rfl,_,rfl,?_⟩;by_cases h2:d=-1
    .refine aK (λh=>?_) (λ_=>main (.inr h2) _ rfl);rw[h2] at h;simp at h
    .refine aK (λ_=>?_) (λh=>?_)
     .rw[ao (by omega)] at k;exact⟨aW,λq hq=>k.told O rfl (s2.new hq) ah rfl⟩
     .exfalso;apply h;simp;exact h2
   .exfalso;apply h;simp;exact h1
def Jq:Sp:=λvs H Q _=>∃(r:Addr)(way:List Nat)(d:Nat),vs=[.ref r,.int (d:Nat)]/\H r=some (.lst (aI way))/\way.length<=60/\1<=d/\d<=60/\∀H' p,aD H H'->H' p=some (.lst (aI (je way d)))->Q (.ref p) H'
theorem Gd(xs:List V)(b:Nat):d_ xs none (some (b:Int))=xs.take b:=by
 unfold d_;rw[show HT.qG xs.length 0 none=0 from rfl,show HT.qG xs.length xs.length (some (b:Int))=min b xs.length from HT.kE _ _ _];by_cases h:b<=xs.length
 .rw[iY h];rfl
 .rw[zT (by omega),pA (show xs.length<=b by omega)];show(xs.drop 0).take (xs.length - 0)=xs;simp
theorem Jr(xs:List V)(h:xs≠[]):d_ xs none (some (-1))=xs.take (xs.length - 1):=by
 unfold d_;have hl:1<=xs.length:=List.length_pos_iff.mpr h;have e:HT.qG xs.length xs.length (some (-1))=xs.length - 1:=by show(if(-1:Int)<0 then((-1:Int)+(xs.length:Int)).toNat else min (-1:Int).toNat xs.length)=_;rw[ao (by decide)];omega
 rw[show HT.qG xs.length 0 none=0 from rfl,e];rfl
theorem kW:aG ["places","depth","kept"] ["places","depth"] (ay iF):=eP
theorem LY(F:bG K mg "section_places" iF ["places","depth"])(T:Txt K mg C CO CC):aZ Z 1 "section_places" ["places","depth"] Jq:=by
 refine F.ok kW (λvs H Q E h=>?_) (λ_ _ _ _ _ H _ Q E hr h=>?_)
 .obtain⟨_,_,_,rfl,_⟩:=h;rfl
 .obtain⟨r,way,d,rfl,hR,hz,P5,hd2,k⟩:=h;refine⟨_,(ae (bD 2 kW (bo bA (pv 0) eS (aX (pv 1)))) (ae (aM (bE g7 (o_ T (aa (pv 2) ag)) (pv 1)) (aj (aw (bh g9 (pv 2) (aL (aa au ag))))) aA) (aj (aw (bh g9 (bo bA (pv 2) eS (aX (vf pP au))) (aL (aa (bh bP (c7 aJ (pv 2) (vf pP au)) au) ag))))))),?_⟩;refine⟨_,rfl,_,rfl,_,rfl,r,_,rfl,bf.of hR,λp hp=>?_⟩;rw[Gd,fT];have s1:=aE hp (u:= .lst (aI (way.take d)));refine⟨_,rfl,p,_,rfl,.inl (bf.of ah),_,rfl,_,_,rfl,rfl,_,rfl,?_⟩;rw[aF];have Wr:(way.take d).length<=60:=by rw[bj];omega
  refine aK (λhc=>?_) (λhc=>?_)
  .have fD:(way.take d).length<d:=by have:=aH hc;omega
   refine⟨_,rfl,aW,λq hq=>⟨p,q,_,_,rfl,rfl,a9 ah hq,ah,dC (by rw[aF];show _+1<=100000;omega),λt ht=>?_⟩⟩;refine k _ t ((s1.new hq).new ht) ?_;rw[ah,Ii fD,<-cU];rfl
  .have kL:¬(way.take d).length<d:=λh=>cI hc (by omega);obtain⟨n,hn,B3,hl⟩:=Ij P5 kL;have fk:aI (way.take d)≠[]:=λh=>by have:=da List.length h;rw[aF,hl] at this;simp at this;omega
   refine⟨_,rfl,_,rfl,_,rfl,p,_,rfl,bf.of ah,λq hq=>?_⟩;rw[show(-1:Int)=-(1:Int) from rfl,Jr _ fk,aF,hl,fT];have s2:=s1.new hq (u:= .lst (aI ((way.take d).take (d - 1))));have F7:B4 (aI (way.take d)) (-(1:Int))=some (V.int (n:Nat)):=by unfold B4 KI;rw[aF,hl,ak (by decide),ao (by omega)];show(aI (way.take d))[((d:Int)+-(1:Int)).toNat]?=_;rw[show((d:Int)+-(1:Int)).toNat=d - 1 by omega];exact byte_at hn
   refine⟨_,rfl,_,rfl,p,_,_,_,rfl,rfl,bf.of (a9 ah hq),F7,_,_,rfl,rfl,aW,λt ht=>?_⟩;refine⟨q,t,_,_,rfl,rfl,a9 ah ht,ah,dC (by rw[aF,bj];show _+1<=100000;omega),λu hu=>?_⟩;refine k _ u ((s2.new ht).new hu) ?_;rw[ah,B3,<-cU];rfl
def lX(C:Addr):Sp:=λvs H Q _=>∃(l:Addr)(as:List Addr)(o:O),vs=[.ref l]/\NL C H l as o/\l8 o/\∀H' d a8,aD H H'->wz H' d a8 (labels o)->H d=none->Q (.ref d) H'
theorem t7:∀w:List Nat,dotted w=xW [46] (w.map decimal)
 |[]=>rfl
 |[n]=>rfl
 |n::m::r=>by rw[tW,t7 (m::r)];rfl
theorem wz.push{a:Addr}{ls:List (Nat×List Nat)}{qo:List Nat}(h:wz H d a8 ls)(ha:H a=some (.lst (aI qo)))(hn:n∉ls.map (·.1)):
 wz (upd H d (.dK (putK a8 (Sum.inl (n:Int)) (.ref a)))) d (a8++[(Sum.inl (n:Int),.ref a)]) (ls++[(n,qo)]):=by
 have hv:gU a8 (Sum.inl (n:Int))=none:=by
  rcases h.find n with⟨_,e⟩|⟨SF,a',e,_,_⟩
  .exact e
  .exfalso;unfold labelIn at e;cases f:ls.find? (λx=>x.1==n) with
   |none=>rw[f] at e;cases e
   |some q=>have h1:=xy f;have h2:=List.find?_some f;exact hn (fc.mpr ⟨q,h1,by simpa using h2⟩)
 have lk:∀{b:Addr}{xs:List V},H b=some (.lst xs)->upd H d (.dK (putK a8 (Sum.inl (n:Int)) (.ref a))) b=some (.lst xs):=λ{b xs} hb=>by rw[az (jz hb h.at_ (by intro q;cases q))];exact hb
 refine⟨by rw[ah,HA _ hv],by rw[bb,bb,h.len];rfl,λi q hq=>?_⟩;by_cases hi:i<ls.length
 .rw[nv hi] at hq;obtain⟨b,h1,h2⟩:=h.items i q hq;exact⟨b,by rw[nv (by rw[h.len];exact hi)];exact h1,lk h2⟩
 .rw[k3 (by omega)] at hq;cases e:i - ls.length with
  |zero=>rw[e] at hq;cases hq;refine⟨a,?_,lk ha⟩;rw[k3 (by rw[h.len];omega),h.len,e];rfl
  |succ m=>rw[e] at hq;simp at hq
theorem Js(m:Nat):∀l:List Nat,(∀x∈l,x<=m)->l.sum<=m*l.length
 |[],_=>by simp
 |x::l,h=>by have h1:=h x (by simp);have h2:=Js m l λy hy=>h y (bz _ hy);rw[List.sum_cons,cn,zV];omega
theorem cV:aG ["nodes","labels","places","cells","node","place"] ["nodes"] (ay ot):=eP
theorem Ge(F:bG K mg "labels_of" ot ["nodes"])(T:Txt K mg C CO CC)(cF:aZ Z 1 "bytes_of" ["signs"] pb)(jq:aZ Z 1 "section_places" ["places","depth"] Jq):aZ Z 2 "labels_of" ["nodes"] (lX C):=by
 refine F.ok cV (λvs H Q E h=>?_) (λ_ _ _ _ _ H _ Q E hr h=>?_)
 .obtain⟨_,_,_,rfl,_⟩:=h;rfl
 .obtain⟨l,as,o,rfl,N,W,k⟩:=h;refine⟨_,(ae (bD 1 cV Au) (ae (bD 2 cV (aL ag)) (ae (bD 3 cV au) (ae (eE PassesOwn.never rfl (bM (pv 0)) (jB 4 cV) (aj (aM (bE bw (aB (pv 4) rfl) au) (ae (k4 (i:=3) cV.nd rfl (Or.inl rfl) au nE) (aj (yR (qW hr) (pv 1) (aB (pv 4) rfl) (pc cF hr (aa (bh jV bO (lH g8 (by rfl) T.str we (aa (pv 3) ag))) ag)) rfl))) (ae (bD 2 cV (pc jq hr (aa (pv 2) (aa (aB (pv 4) rfl) ag)))) (aj (yR (qW hr) (pv 1) (aB (pv 4) rfl) (pc cF hr (aa (KQ bO (kI rfl cV.nd (bM (pv 2)) (own:=[("place",5)]) (B7 cV) (λ_ _ _ _ _=>(jB 5 cV)) (λ_ _ _ _ _=>kG) (λ_ _ _ _ _=>(lH g8 (by rfl) T.str we (aa (pv 5) ag))))) ag)) rfl)))))) (aj (aw (pv 1))))))),?_⟩;intro d hd;have s1:aD H (upd H d (.dK [])):=aE hd;refine⟨a_ _,λr Yc=>?_⟩;have s2:=s1.new Yc (u:= .lst []);have hd2:upd (upd H d (.dK [])) r (.lst []) d=some (.dK []):=a9 ah Yc;have hw:=W.len;refine⟨_,rfl,l,rfl,⟨_,bf.of (s2 _ _ N.lst)⟩,dI (K:=K) (a:=l) (xs:=as.map V.ref) (λi σ H'=>∃(v4 v5:Option V)(rr:Addr)(a8:List (Key×V)),σ=[some (.ref l),some (.ref d),some (.ref rr),some (.int ((bT [] 0 (o.take i)).2:Nat)),v4,v5]/\aD H H'/\H' rr=some (.lst (aI (bT [] 0 (o.take i)).1))/\wz H' d a8 (labelsFrom [] 0 (o.take i)))
   ⟨none,none,r,[],rfl,s2,ah,hd2,rfl,λi q h=>by simp[labelsFrom] at h⟩ (λi σ H' _ ⟨_,_,_,_,_,s3,_⟩=>bf.of (s3 _ _ N.lst)) ?_ ?_⟩
  .rintro i y σ H' hi ⟨v4,v5,rr,a8,rfl,s3,Uv,LD⟩;obtain⟨c,x,rfl,hc,hx,hn⟩:=N.item hi;have SG:=hn.same s3;have EO:o.take (i+1)=o.take i++[x]:=take_snoc hx;have m6:i<o.length:=(dm.mp hx).1;have QP:(o.take i).length<=60:=by rw[bj];omega
   have WO:EB (0+(o.take i).length) (bT [] 0 (o.take i)):=CK (o.take i) 0 ([],0) ⟨by simp,by simp,aS _⟩ λy hy=>W.Pd y (kx hy);have F1:x.number∉(labelsFrom [] 0 (o.take i)).map (·.1):=by
    rw[i8];intro hm;have vA:=W.nd;have e:o=o.take i++x::o.drop (i+1):=by rw[<-(dm.mp hx).2];simp
    rw[e] at vA;obtain⟨y,hy,VT⟩:=fc.mp hm;exact(gr vA).1 y hy VT
   have Wr:a8.length<=60:=by rw[LD.len];have:=da List.length (i8 (o.take i) [] 0);rw[aT] at this;rw[this];unfold nums;rw[aT];exact QP
   refine⟨_,rfl,fH T SG ⟨rfl,_,rfl,?_⟩⟩;cases bS:x.cell with
   |true=>
    refine aK (λ_=>?_) (λh=>absurd (aR rfl) h);have ew:bT [] 0 (o.take (i+1))=((bT [] 0 (o.take i)).1,(bT [] 0 (o.take i)).2+1):=by rw[EO,jH];simp[bT,bS]
    have el:labelsFrom [] 0 (o.take (i+1))=labelsFrom [] 0 (o.take i)++[(x.number,35::decimal ((bT [] 0 (o.take i)).2+1))]:=by rw[EO,iR,i7 bS];rfl
    have MZ:(bT [] 0 (o.take i)).2+1<1000:=by have:=WO.k;omega
    have SH:tl (Str.ofString "#"++Str.ofString (toString (((bT [] 0 (o.take i)).2+1:Nat):Int)))=35::decimal ((bT [] 0 (o.take i)).2+1):=by rw[fE,lp];rfl
    refine⟨_,rfl,_,_,rfl,rfl,?_⟩;refine⟨_,rfl,_,rfl,?_,_,_,rfl,rfl,?_,_,rfl,?_,λH4 p s4 hp Bj=>?_⟩
    .exact wt (n:=(bT [] 0 (o.take i)).2+1) (by omega)
    .rw[dq,dq];have:=iS MZ;refine dC ?_;show(tl (Str.ofString "#")).length+(tl (Str.ofString (toString (((bT [] 0 (o.take i)).2+1:Nat):Int)))).length<=_;rw[lp];show 1+_<=_;omega
    .show(tl (Str.ofString "#"++Str.ofString (toString (((bT [] 0 (o.take i)).2+1:Nat):Int)))).length<=10000;rw[SH];have:=iS MZ;rw[cn];omega
    have hp:H4 p=some (.lst (aI (35::decimal ((bT [] 0 (o.take i)).2+1)))):=by rw[<-SH];exact hp
    have Nv:=LD.same s4;refine⟨_,rfl,_,rfl,bX T (SG.same s4) ⟨d,_,rfl,Cp.k (k:=Sum.inl ((x.number:Nat):Int)) Nv.at_ (eO (by omega)),?_⟩⟩;refine⟨some (V.ref c),v5,rr,a8++[(Sum.inl (x.number:Int),.ref p)],?_,(s3.trans s4).put hd,?_,?_⟩
    .rw[ew];rfl
    .rw[ew,az (jz (s4 _ _ Uv) Nv.at_ (by intro q;cases q))];exact s4 _ _ Uv
    .rw[el];exact Nv.push hp F1
   |false=>
    refine aK (λh=>absurd (aH h) (by intro q;cases q)) (λ_=>?_);have FI:=W.Pd x (cJ hx) bS;have ew:bT [] 0 (o.take (i+1))=(je (bT [] 0 (o.take i)).1 x.depth,(bT [] 0 (o.take i)).2):=by rw[EO,jH];simp[bT,bS]
    have el:labelsFrom [] 0 (o.take (i+1))=labelsFrom [] 0 (o.take i)++[(x.number,dotted (je (bT [] 0 (o.take i)).1 x.depth))]:=by rw[EO,iR,jZ bS];rfl
    obtain⟨hle,hlen⟩:=zf WO.le WO.len FI;refine⟨_,rfl,_,rfl,bp T SG ⟨rr,_,x.depth,rfl,Uv,by have:=WO.len;omega,FI.1,by omega,λH4 p s4 hp=>?_⟩⟩;have LP:=SG.same s4;have Nv:=LD.same s4;have hsz:(aI (je (bT [] 0 (o.take i)).1 x.depth)).length<=6:=by rw[aF];exact hlen
    refine⟨⟨_,rfl⟩,_,rfl,p,rfl,⟨_,bf.of hp⟩,λD hD=>?_⟩;refine f9 (K:=K) (a:=p) (ys:=je (bT [] 0 (o.take i)).1 x.depth) (v:=λc:Nat=>V.int (c:Int)) (λc=>some (V.str (Str.ofString (toString ((c:Nat):Int))))) (bf.of hp) hD (eO (by omega)) (λm q H5 hq s5 R R0 k1 k2=>?_) (λH5 s5 h5=>?_)
    .have hql:q<1900:=by have:=hle q (cJ hq);omega
     exact⟨rfl,Bd ⟨_,rfl,_,rfl,wt hql,k1 _ _ (aD.refl _) rfl⟩⟩
    .have h5:H5 D=some (.lst (((je (bT [] 0 (o.take i)).1 x.depth).map λc:Nat=>Str.ofString (toString ((c:Nat):Int))).map V.str)):=by rw[h5,Kn,iq];rfl
     have J9:∀n∈je (bT [] 0 (o.take i)).1 x.depth,n<1000:=λn hn=>by have:=hle n hn;omega
     have SH:tl (Txt.join (Str.ofString ".") ((je (bT [] 0 (o.take i)).1 x.depth).map λc:Nat=>Str.ofString (toString ((c:Nat):Int))))=dotted (je (bT [] 0 (o.take i)).1 x.depth):=by rw[TL.join_eq,uB,t7,iq];have e1:tl (Str.ofString ".")=[46]:=rfl;rw[e1];congr 1;exact iX λc _=>lp c
     refine⟨_,D,_,rfl,rfl,.inl (bf.of h5),?_,_,rfl,?_,λH6 p6 s6 h6 Bn=>?_⟩
     .have h1:=Js 3 (((je (bT [] 0 (o.take i)).1 x.depth).map λc:Nat=>Str.ofString (toString ((c:Nat):Int))).map (·.length)) (λn hn=>by rw[iq] at hn;obtain⟨c,hc,rfl⟩:=fc.mp hn;show(Str.ofString (toString ((c:Nat):Int))).length<=3;rw[dq,lp];exact iS (J9 c hc))
      rw[aT,aT] at h1;have e1:(Str.ofString ".").length=1:=rfl;rw[aT,e1];omega
     .rw[SH];have:=(sD _ J9).1;omega
     .rw[SH] at h6;have QQ:=(Nv.same s5).same s6;refine⟨_,rfl,_,rfl,bX T ((LP.same s5).same s6) ⟨d,_,rfl,Cp.k (k:=Sum.inl ((x.number:Nat):Int)) QQ.at_ (eO (by omega)),?_⟩⟩;refine⟨some (V.ref c),v5,p,a8++[(Sum.inl (x.number:Int),.ref p6)],?_,(((s3.trans s4).trans s5).trans s6).put hd,?_,?_⟩
      .rw[ew];rfl
      .have Yd:=s6 _ _ (s5 _ _ hp);rw[ew,az (jz Yd QQ.at_ (by intro q;cases q))];exact Yd
      .rw[el];exact QQ.push h6 F1
  .rintro σ H' ⟨v4,v5,rr,a8,rfl,s3,Uv,LD⟩;rw[aT,N.len,fm] at LD;exact⟨_,rfl,k _ d a8 s3 LD hd⟩
theorem BD(l:List Nat):aU (encode (tell l))=V.int (l.length:Nat)::aI l:=by show V.int _::aU (nats l)=_;congr 1;unfold aU nats aI;rw[iq];rfl
theorem Wf.txt{s:Vanbkn.State}(W:Wf s){x:Nd}(h:x∈s.nodes):x.text.length<=60/\∀c∈x.text,32<=c/\c<=126:=(W.n.good x h).txt
theorem mem_of(e:o=a++x::r):x∈o:=by rw[e];simp
theorem Jt(W:l8 o)(e:o=a++x::r):∃qo,labelIn (labels o) x.number=some qo:=by
 have hn:((labels o).map (·.1))=nums o:=i8 o [] 0;have hl:(labels o).length=o.length:=by have:=da List.length hn;rw[aT] at this;rw[this];exact aT _
 have hi:a.length<(labels o).length:=by rw[hl];exact bt e
 have h1:(labels o)[a.length]?=some (labels o)[a.length]:=c_ hi;have h2:(nums o)[a.length]?=some x.number:=by unfold nums;rw[gX,e,cZ];rfl
 rw[<-hn,gX,h1] at h2;have h3:(labels o)[a.length].1=x.number:=di h2;have:=vW (by rw[hn];exact W.nd) h1;rw[h3] at this;exact⟨_,this⟩
theorem Ju(W:Wf s)(e:s.nodes=a++x::r):Vanbkn.step s (.label (x.number:Int))=(s,tell ((labelIn (labels s.nodes) x.number).getD [])):=by show withNode s _ _=_;rw[aO W.n e rfl]
theorem BE:aG ["outline","number"] ["outline","number"] (ay qh):=eP
theorem Jv(F:bG K mg "label_of" qh ["outline","number"])(T:Txt K mg C CO CC)(ax:aZ Z 1 "position_of" ["nodes","number"] (fA C))(cv:aZ Z 2 "labels_of" ["nodes"] (lX C))(bu:aZ Z 1 "counted" ["row"] e_):
 aZ Z 3 "label_of" ["outline","number"] (eW C CO .label):=by
 refine F.ok BE (λvs H Q E h=>?_) (λ_ _ _ _ _ H _ Q E hr h=>?_)
 .obtain⟨_,_,_,_,_,_,rfl,_⟩:=h;rfl
 .obtain⟨ob,dx,l,as,st,z,rfl,O,W,k⟩:=h;refine⟨_,(ae (aM (bE bC (pc ax hr (aa (aB (pv 0) rfl) (aa (pv 1) ag))) a6) (aj (aw (aL (aa (eu T) ag)))) aA) (aj (aw (pc bu hr (aa (uA (qW hr) (pc cv hr (aa (aB (pv 0) rfl) ag)) (pv 1) (λ_ _=>rfl)) ag))))),?_⟩;refine⟨_,rfl,aV T O ⟨_,rfl,l,as,_,z,rfl,O.N,λH2 s2=>⟨rfl,_,rfl,?_⟩⟩⟩;have O2:=O.same s2;rcases aY (o:=st.nodes) z with hp|⟨a,x,r,e,hp,kU⟩
  .rw[hp];refine aK (λ_=>?_) (λh=>absurd (aR rfl) h);exact⟨aW,λq hq=>k.refuse O (dO W hp) s2 hq⟩
  rw[hp];refine aK (λh=>nomatch (aH h)) (λ_=>?_);subst kU;rw[Ju W e] at k;refine⟨_,rfl,aV T O2 ⟨l,as,_,rfl,O2.N,W.n,λH3 d a8 s3 LD SI=>?_⟩⟩;obtain⟨qo,lV⟩:=Jt W.n e;rcases LD.find x.number with⟨h1,_⟩|⟨SF,a',h1,h2,h3⟩
  .rw[lV] at h1;cases h1
  rw[lV] at h1;cases h1;refine⟨_,rfl,d,.ref a',rfl,?_,?_⟩
  .have:=pQ.k (k:=Sum.inl ((x.number:Nat):Int)) LD.at_;rw[h2] at this;exact this
  have Pn:qo.length<=24:=by
   unfold labelIn at lV;cases f:(labels st.nodes).find? (λy=>y.1==x.number) with
   |none=>rw[f] at lV;cases lV
   |some q=>rw[f] at lV;cases lV;exact(fZ W.n q (xy f)).1
  refine⟨a',_,rfl,h3,by rw[aF];omega,λH4 p s4 QR=>?_⟩;refine k.told O rfl ((s2.trans s3).trans s4) QR ?_;rw[lV,BD,aF];rfl
theorem LZ(W:Wf s)(e:s.nodes=a++x::r)(hz:(x.number:Int)=z):Vanbkn.step s (.text z)=(s,tell x.text):=by show withNode s _ _=_;rw[aO W.n e hz]
theorem wI:aG ["outline","number","position"] ["outline","number"] (ay sO):=eP
theorem L0(F:bG K mg "text_of" sO ["outline","number"])(T:Txt K mg C CO CC)(ax:aZ Z 1 "position_of" ["nodes","number"] (fA C))(bu:aZ Z 1 "counted" ["row"] e_):aZ Z 2 "text_of" ["outline","number"] (eW C CO .text):=by
 refine F.ok wI (λvs H Q E h=>?_) (λ_ _ _ _ _ H _ Q E hr h=>?_)
 .obtain⟨_,_,_,_,_,_,rfl,_⟩:=h;rfl
 .obtain⟨ob,dx,l,as,st,z,rfl,O,W,k⟩:=h;refine⟨_,(ae (bD 2 wI (pc ax hr (aa (aB (pv 0) rfl) (aa (pv 1) ag)))) (ae (aM (bE bC (pv 2) a6) (aj (aw (aL (aa (eu T) ag)))) aA) (aj (aw (pc bu hr (aa (aB (c7 aJ (aB (pv 0) rfl) (pv 2)) rfl) ag)))))),?_⟩;refine⟨_,rfl,aV T O ⟨_,rfl,l,as,_,z,rfl,O.N,λH2 s2=>?_⟩⟩;have O2:=O.same s2;refine⟨_,rfl,rfl,_,rfl,?_⟩;rcases aY (o:=st.nodes) z with hp|⟨a,x,r,e,hp,kU⟩
  .rw[hp];refine aK (λ_=>?_) (λh=>absurd (aR rfl) h);exact⟨aW,λq hq=>k.refuse O (dO W hp) s2 hq⟩
  rw[hp];refine aK (λh=>nomatch (aH h)) (λ_=>?_);rw[LZ W e kU] at k;refine⟨_,rfl,aV T O2 ⟨_,rfl,c6 O2.N rfl (bt e) λc _ hc=>iT T hc λt ht=>?_⟩⟩;rw[fI e] at ht;refine⟨t,_,rfl,ht,by rw[aF];have:=(W.txt (mem_of e)).1;omega,λH3 p s3 hp3=>?_⟩;refine k.told O rfl (s2.trans s3) hp3 ?_;rw[BD,aF]
theorem Jw(W:Wf s)(e:s.nodes=a++x::r)(hz:(x.number:Int)=z):Vanbkn.step s (.shown z)=(s,tell (shownWith (labels s.nodes) x.text)):=by show withNode s _ _=_;rw[aO W.n e hz];rfl
theorem lY:aG ["outline","number","position"] ["outline","number"] (ay jk):=eP
theorem Gf(F:bG K mg "shown_text_of" jk ["outline","number"])(T:Txt K mg C CO CC)(ax:aZ Z 1 "position_of" ["nodes","number"] (fA C))(cv:aZ Z 2 "labels_of" ["nodes"] (lX C))(mI:aZ Z 3 "shown" ["text","labels"] uM)(bu:aZ Z 1 "counted" ["row"] e_):aZ Z 4 "shown_text_of" ["outline","number"] (eW C CO .shown):=by
 refine F.ok lY (λvs H Q E h=>?_) (λ_ _ _ _ _ H _ Q E hr h=>?_)
 .obtain⟨_,_,_,_,_,_,rfl,_⟩:=h;rfl
 .obtain⟨ob,dx,l,as,st,z,rfl,O,W,k⟩:=h;refine⟨_,(ae (bD 2 lY (pc ax hr (aa (aB (pv 0) rfl) (aa (pv 1) ag)))) (ae (aM (bE bC (pv 2) a6) (aj (aw (aL (aa (eu T) ag)))) aA) (aj (aw (pc bu hr (aa (pc mI hr (aa (aB (c7 aJ (aB (pv 0) rfl) (pv 2)) rfl) (aa (pc cv hr (aa (aB (pv 0) rfl) ag)) ag))) ag)))))),?_⟩;refine⟨_,rfl,aV T O ⟨_,rfl,l,as,_,z,rfl,O.N,λH2 s2=>?_⟩⟩;have O2:=O.same s2;refine⟨_,rfl,rfl,_,rfl,?_⟩;rcases aY (o:=st.nodes) z with hp|⟨a,x,r,e,hp,kU⟩
  .rw[hp];refine aK (λ_=>?_) (λh=>absurd (aR rfl) h);exact⟨aW,λq hq=>k.refuse O (dO W hp) s2 hq⟩
  rw[hp];refine aK (λh=>nomatch (aH h)) (λ_=>?_);rw[Jw W e kU] at k;refine⟨_,rfl,aV T O2 ⟨_,rfl,c6 O2.N rfl (bt e) λc _ hc=>iT T hc λt ht=>?_⟩⟩;rw[fI e] at ht;refine⟨_,rfl,aV T O2 ⟨l,as,_,rfl,O2.N,W.n,λH3 d a8 s3 LD SI=>?_⟩⟩;have wb:∀q∈labels st.nodes,q.2.length<=24:=λq hq=>(fZ W.n q hq).1;refine⟨t,d,_,a8,_,rfl,s3 _ _ ht,(W.txt (mem_of e)).1,LD,wb,λH4 p4 s4 QR=>?_⟩;have TZ:=o8 wb x.text (W.txt (mem_of e)).1;refine⟨p4,_,rfl,QR,by rw[aF];omega,λH5 p s5 L1=>?_⟩;refine k.told O rfl (((s2.trans s3).trans s4).trans s5) L1 ?_;rw[BD,aF]
theorem Gg{ob:Obj}(Pv:Nat->L2.St->Hp->Prop)(h0:Pv 0 σ H)(hl:∀i σ H,i<=a8.length->Pv i σ H->H d=some (.jO ob (.dK a8)))(hs:∀i k v σ H t,a8[i]?=some (k,v)->Pv i σ H->H t=none->g (.ref t) σ (upd H t (.tup [kV k,v])) λσ2 H2=>tb {D with nx:=Pv (i+1),ct:=Pv (i+1),bk:=D.nx} σ2 H2)(hd:∀σ H,Pv a8.length σ H->D.nx σ H):
 ∃W:Nat->Nat->L2.St->Hp->Prop,(∃m,W 0 m σ H)/\∀i m σ H,W i m σ H->
  ((RT d ob a8).stop i H/\D.nx σ H)\/((RT d ob a8).go i H/\∃N:L2.St->Hp->Prop,(∀σ' H',N σ' H'->∃m',m'<m/\W (i+1) m' σ' H')/\∀x H',(RT d ob a8).GG i H x H'->g x σ H' λσ2 H2=>tb {D with nx:=N,ct:=N,bk:=D.nx} σ2 H2):=by
 refine⟨λi m σ H=>m=a8.length - i/\i<=a8.length/\Pv i σ H,⟨a8.length,(Nat.sub_zero _).symm,a_ _,h0⟩,?_⟩;rintro i m σ H ⟨rfl,hi,p⟩;have q:=hl i σ H hi p;by_cases fD:i<a8.length
 .refine .inr ⟨⟨q,fD⟩,Pv (i+1),λσ' H' p'=>⟨a8.length - (i+1),by omega,rfl,fD,p'⟩,λx H' y=>?_⟩;obtain⟨t,k,v,MT,rfl,ht,rfl⟩:=y;exact hs i k v σ _ t MT p ht
 .have e:i=a8.length:=by omega
  subst e;exact .inl ⟨⟨q,aS _⟩,hd σ H p⟩
def EU(C CO:Addr)(c:List Int->Vanbkn.Call):Sp:=λvs H Q _=>∃(ob dx l r:Addr)(as:List Addr)(s:Vanbkn.State)(t:List Int),vs=[.ref ob,.ref r]/\ba C CO H ob dx l as s/\Wf s/\H r=some (.lst (aU t))/\t.length<=10000/\ek C CO H ob (Vanbkn.step s (c t)) Q
theorem find_eq(s:Vanbkn.State)(t:List Int):Vanbkn.step s (.find t)=match (labels s.nodes).find? λx=>x.2==textOf t with
 |some x=>(s,⟨(x.1:Nat),[]⟩)
 |none=>refused s (-13):=rfl
theorem L3{α:Type}{p:α->Bool}{l:List α}{x:α}(h:l[i]?=some x)(hp:p x=true)(hn:∀y∈l.take i,p y=false):l.find? p=some x:=by
 obtain⟨hi,hx⟩:=dm.mp h;have e:l=l.take i++x::l.drop (i+1):=by rw[<-hx];simp
 rw[e,NN,GR.mpr (λy hy=>by rw[hn y hy];decide),rT,hp];rfl
theorem lu:aG ["outline","told","number","label"] ["outline","told"] (ay mz):=eP
theorem L4(F:bG K mg "find_label" mz ["outline","told"])(T:Txt K mg C CO CC)(cv:aZ Z 2 "labels_of" ["nodes"] (lX C)):aZ Z 3 "find_label" ["outline","told"] (EU C CO .find):=by
 refine F.ok lu (λvs H Q E h=>?_) (λ_ _ _ _ _ H _ Q E hr h=>?_)
 .obtain⟨_,_,_,_,_,_,_,rfl,_⟩:=h;rfl
 .obtain⟨ob,dx,l,r,as,st,t,rfl,O,W,hR,hz,k⟩:=h;refine⟨_,(ae (eE PassesOwn.never rfl (HE (Pw (pc cv hr (aa (aB (pv 0) rfl) ag)))) (nD rfl (b_ (jB 2 lu) (b_ (jB 3 lu) jE))) (aj (aM (bE (wy hr.units) (pv 3) (pv 1)) (aj (aw (aL (aa (pv 2) ag)))) aA))) (aj (aw (aL (aa (eu T) ag))))),?_⟩;rw[find_eq] at k;refine⟨_,rfl,aV T O ⟨l,as,_,rfl,O.N,W.n,λH2 d a8 s2 LD SI=>⟨d,_,rfl,LD.at_,trivial,λod=>⟨d,od,a8,rfl,ah,?_⟩⟩⟩⟩;have s3:aD H (upd H2 d (.jO od (.dK a8))):=s2.put SI;have hit:∀(i:Nat)(q:Nat×List Nat),(labels st.nodes)[i]?=some q->∃a,a8[i]?=some (Sum.inl (q.1:Int),V.ref a)/\upd H2 d (.jO od (.dK a8)) a=some (.lst (aI q.2)):=λi q hq=>by obtain⟨a,h1,h2⟩:=LD.items i q hq;exact⟨a,h1,by rw[az (jz h2 LD.at_ (by intro z;cases z))];exact h2⟩
  refine Gg (λi σ H'=>∃v2 v3:Option V,σ=[some (.ref ob),some (.ref r),v2,v3]/\aD (upd H2 d (.jO od (.dK a8))) H'/\∀q∈(labels st.nodes).take i,(q.2==textOf t)=false)
   ⟨none,none,rfl,aD.refl _,by simp⟩ (λi σ H' _ ⟨_,_,_,s4,_⟩=>s4 _ _ ah) ?_ ?_
  .rintro i kk vv σ H' tt MT ⟨v2,v3,rfl,s4,rO⟩ Dc;have m6:i<(labels st.nodes).length:=by rw[<-LD.len];exact(dm.mp MT).1
   obtain⟨a,h1,h2⟩:=hit i _ (c_ m6);rw[MT] at h1;cases h1;have hq:(labels st.nodes)[i]?=some (labels st.nodes)[i]:=c_ m6;generalize (labels st.nodes)[i]=q at hq h2 MT⊢;have Ye:∀c∈q.2,c<=255:=λc hc=>by have:=(fZ W.n q (cJ hq)).2 c hc;omega
   have s5:aD (upd H2 d (.jO od (.dK a8))) (upd H' tt (.tup [kV (Sum.inl (q.1:Int)),V.ref a])):=s4.new Dc;refine⟨tt,_,rfl,iu.of ah,rfl,_,_,rfl,_,_,rfl,rfl,?_⟩;refine⟨_,rfl,_,rfl,a,r,gj q.2,t,rfl,rfl,by rw[s5 _ _ h2,i9],s5 _ _ (s3 _ _ hR),_,rfl,?_⟩;refine aK (λhc=>?_) (λhc=>?_)
   .have hc:gj q.2=t:=aH hc;have he:(q.2==textOf t)=true:=by rw[qL];exact(iz Ye).mpr hc
    rw[L3 hq he rO] at k;refine⟨_,rfl,aW,λp hp=>?_⟩;exact k.told O rfl ((s3.trans s5).new hp) ah rfl
   .refine⟨_,_,rfl,s5,λy hy=>?_⟩;rw[take_snoc hq] at hy;rcases dZ.mp hy with hy|hy
    .exact rO y hy
    .simp at hy;subst hy;rw[ny];intro he;exact hc (aR ((iz Ye).mp he))
  .rintro σ H' ⟨v2,v3,rfl,s4,rO⟩;rw[LD.len,fm] at rO;have hf:((labels st.nodes).find? λx=>x.2==textOf t)=none:=GR.mpr λy hy=>by rw[rO y hy];decide
   rw[hf] at k;exact⟨aW,λp hp=>k.refuse O rfl (s3.trans s4) hp⟩
theorem mJ(l:List Nd):aU (encode (tellNodes l))=V.int (l.length:Nat)::aI (nums l):=by show aU (encode (tell (l.map λx=>x.number)))=_;rw[BD,aT];rfl
theorem wJ(h:as.length=o.length)(c:Nd->Bool):((as.zip o).filterMap λp=>if c p.2=true then some (V.int (p.2.number:Nat)) else none)=aI (nums (o.filter c)):=by
 rw[CZ h (λx=>if c x=true then some (V.int (x.number:Nat)) else none)];unfold aI nums;rw[iq];induction o generalizing as with
 |nil=>rfl
 |cons x o ih=>
  cases as with
  |nil=>cases h
  |cons a as=>
   have ih:=ih (as:=as) (by simpa using h);by_cases hc:c x=true
   .rw[rR,rS,ao hc,ao hc,ih];rfl
   .rw[rR,rS,ak hc,ak hc,ih]
theorem L5(W:Wf s)(e:s.nodes=a++x::r):Vanbkn.step s (.referring (x.number:Int))=(s,tellNodes (s.nodes.filter λy=>(refs y.text).contains x.number)):=by show withNode s _ _=_;rw[aO W.n e rfl]
theorem fC:aG ["outline","number","nodes","node"] ["outline","number"] (ay j6):=eP
theorem L7(F:bG K mg "referring_to" j6 ["outline","number"])(T:Txt K mg C CO CC)(ax:aZ Z 1 "position_of" ["nodes","number"] (fA C))(bN:aZ Z 4 "numbers_referred" ["text"] zr)(bu:aZ Z 1 "counted" ["row"] e_):
 aZ Z 5 "referring_to" ["outline","number"] (eW C CO .referring):=by
 refine F.ok fC (λvs H Q E h=>?_) (λ_ _ _ _ _ H _ Q E hr h=>?_)
 .obtain⟨_,_,_,_,_,_,rfl,_⟩:=h;rfl
 .obtain⟨ob,dx,l,as,st,z,rfl,O,W,k⟩:=h;refine⟨_,(ae (bD 2 fC (aB (pv 0) rfl)) (ae (aM (bE bC (pc ax hr (aa (pv 2) (aa (pv 1) ag))) a6) (aj (aw (aL (aa (eu T) ag)))) aA) (aj (aw (pc bu hr (aa (kI rfl fC.nd (bM (pv 2)) (own:=[("node",3)]) (B7 fC) (λ_ _ _ _ _=>(jB 3 fC)) (λ_ _ _ _ _=>(kH (bE (CY (K:=K) rfl) (pv 1) (pc bN hr (aa (eg (K:=K) rfl (pv 3) rfl) ag)) rfl))) (λ_ _ _ _ _=>(eg (K:=K) rfl (pv 3) rfl))) ag)))))),?_⟩;refine⟨_,rfl,aV T O ?_⟩;refine⟨_,rfl,_,rfl,l,as,_,z,rfl,O.N,λH2 s2=>⟨rfl,_,rfl,?_⟩⟩;have O2:=O.same s2;rcases aY (o:=st.nodes) z with hp|⟨a,x,r,e,hp,kU⟩
  .rw[hp];refine aK (λ_=>?_) (λh=>absurd (aR rfl) h);exact⟨aW,λq hq=>k.refuse O (dO W hp) s2 hq⟩
  rw[hp];refine aK (λh=>nomatch (aH h)) (λ_=>?_);subst kU;rw[L5 W e] at k;refine⟨_,rfl,l,rfl,⟨_,bf.of O2.N.lst⟩,λD hD=>?_⟩;refine f9 (K:=K) (a:=l) (λq=>if(refs q.2.text).contains x.number=true then some (V.int (q.2.number:Nat)) else none) O2.N.zip hD O2.N.Lp (λm q H4 hq s4 R R0 k1 k2=>?_) (λH4 s4 h4=>?_)
  .have hn:=(O2.N.at2 hq).same s4;have gS:q.2∈st.nodes:=cJ (qi hq).2;refine⟨rfl,_,rfl,_,rfl,iT T hn λt ht=>⟨t,_,rfl,ht,(W.txt gS).1,λH5 p5 s5 h5=>⟨p5,_,rfl,.inl (bf.of h5),rfl,sW _,_,rfl,?_⟩⟩⟩;rw[ak (by decide),wH];by_cases uE:x.number∈refs q.2.text
   .rw[aR uE];refine eG ⟨_,rfl,bX T (hn.same s5) (k1 _ _ s5 (ao ?_))⟩;simpa using uE
   .rw[cR uE];refine fJ (k2 _ s5 (ak ?_));simpa using uE
  .rw[wJ O2.N.len (λy=>(refs y.text).contains x.number)] at h4;have L8:=lE (λy:Nd=>(refs y.text).contains x.number) st.nodes;have hw:=W.n.len;have Nw:(aI (nums (st.nodes.filter λy=>(refs y.text).contains x.number))).length=(st.nodes.filter λy=>(refs y.text).contains x.number).length:=by rw[aF];exact aT _
   refine⟨D,_,rfl,h4,by rw[Nw];exact bq L8 (by omega),λH5 p s5 L1=>?_⟩;refine k.told O rfl ((s2.trans s4).trans s5) L1 ?_;rw[mJ,Nw]
def kX(o:O)(t:List Nat):Bool:=(refs t).any λk=> !Vanbkn.has o k
def BF(C:Addr):Sp:=λvs H Q _=>∃(l r:Addr)(as:List Addr)(o:O)(t:List Nat),vs=[.ref l,.ref r]/\NL C H l as o/\H r=some (.lst (aI t))/\t.length<=60/\∀H',aD H H'->Q (.bl (kX o t)) H'
theorem wK(t:List Nat):(refs t).length<=t.length:=by rw[<-vT,aT];exact bq (DH _ _) (mG _ _ _)
theorem jM:aG ["nodes","text","number"] ["nodes","text"] (ay ow):=eP
theorem BG(F:bG K mg "is_broken" ow ["nodes","text"])(T:Txt K mg C CO CC)(ax:aZ Z 1 "position_of" ["nodes","number"] (fA C))(bN:aZ Z 4 "numbers_referred" ["text"] zr):aZ Z 5 "is_broken" ["nodes","text"] (BF C):=by
 refine F.ok jM (λvs H Q E h=>?_) (λ_ _ _ _ _ H _ Q E hr h=>?_)
 .obtain⟨_,_,_,_,_,rfl,_⟩:=h;rfl
 .obtain⟨l,r,as,o,t,rfl,N,hR,hz,k⟩:=h;refine⟨_,(aj (aw (fM (Cn rfl) (by rfl) T.any CW (aa (kI rfl jM.nd (bM (pc bN hr (aa (pv 1) ag))) (own:=[("number",2)]) (B7 jM) (λ_ _ _ _ _=>(jB 2 jM)) (λ_ _ _ _ _=>kG) (λ_ _ _ _ _=>(jF bC (pc ax hr (aa (pv 0) (aa (pv 2) ag))) a6 (k5 _)))) ag)))),?_⟩;refine⟨_,rfl,r,t,rfl,hR,hz,λH2 p s2 hP=>⟨p,rfl,⟨_,bf.of hP⟩,λD hD=>?_⟩⟩;have Nh:=wK t;refine f9 (K:=K) (a:=p) (ys:=refs t) (v:=λc:Nat=>V.int (c:Int)) (λn=>some (V.bl (!Vanbkn.has o n))) (bf.of hP) hD (eO (by omega)) (λm q H4 hq s4 R R0 k1 k2=>?_) (λH4 s4 h4=>?_)
  .refine⟨rfl,Bd ⟨_,rfl,_,rfl,l,as,o,_,rfl,N.same (s2.trans s4),λH5 s5=>⟨rfl,?_⟩⟩⟩;refine k1 _ _ s5 ?_;rw[uG];cases dE o (q:Int) with
   |none=>rfl
   |some i=>rfl
  .rw[Na (refs t) (λn=> !Vanbkn.has o n)] at h4;refine⟨D,_,rfl,bf.of h4,?_⟩;rw[qj];exact k _ (s2.trans s4)
theorem ij:aG ["outline","nodes","node"] ["outline"] (ay oy):=eP
theorem Gh(F:bG K mg "broken_in" oy ["outline"])(T:Txt K mg C CO CC)(qu:aZ Z 5 "is_broken" ["nodes","text"] (BF C))(bu:aZ Z 1 "counted" ["row"] e_):aZ Z 6 "broken_in" ["outline"] (lr C CO .broken):=by
 refine F.ok ij (λvs H Q E h=>?_) (λ_ _ _ _ _ H _ Q E hr h=>?_)
 .obtain⟨_,_,_,_,_,rfl,_⟩:=h;rfl
 .obtain⟨ob,dx,l,as,st,rfl,O,W,k⟩:=h;refine⟨_,(ae (bD 1 ij (aB (pv 0) rfl)) (aj (aw (pc bu hr (aa (kI rfl ij.nd (bM (pv 1)) (own:=[("node",2)]) (B7 ij) (λ_ _ _ _ _=>(jB 2 ij)) (λ_ _ _ _ _=>(kH (gk (pc qu hr (aa (pv 1) (aa (eg (K:=K) rfl (pv 2) rfl) ag)))))) (λ_ _ _ _ _=>(eg (K:=K) rfl (pv 2) rfl))) ag))))),?_⟩;refine⟨_,rfl,aV T O ?_⟩;refine⟨_,rfl,l,rfl,⟨_,bf.of O.N.lst⟩,λD hD=>?_⟩;refine f9 (K:=K) (a:=l) (λq=>if kX st.nodes q.2.text=true then some (V.int (q.2.number:Nat)) else none) O.N.zip hD O.N.Lp (λm q H4 hq s4 R R0 k1 k2=>?_) (λH4 s4 h4=>?_)
  .have hn:=(O.N.at2 hq).same s4;have gS:q.2∈st.nodes:=cJ (qi hq).2;refine⟨rfl,_,rfl,_,rfl,iT T hn λt ht=>⟨l,t,as,_,_,rfl,O.N.same s4,ht,(W.txt gS).1,λH5 s5=>⟨_,rfl,?_⟩⟩⟩;cases hb:kX st.nodes q.2.text with
   |true=>exact eG ⟨_,rfl,bX T (hn.same s5) (k1 _ _ s5 (ao hb))⟩
   |false=>exact fJ (k2 _ s5 (ak (by rw[hb];decide)))
  .rw[wJ O.N.len (λy=>kX st.nodes y.text)] at h4;have L8:=lE (λy:Nd=>kX st.nodes y.text) st.nodes;have hw:=W.n.len;have Nw:(aI (nums (st.nodes.filter λy=>kX st.nodes y.text))).length=(st.nodes.filter λy=>kX st.nodes y.text).length:=by rw[aF];exact aT _
   refine⟨D,_,rfl,h4,by rw[Nw];exact bq L8 (by omega),λH5 p s5 L1=>?_⟩;refine k.told O rfl (s4.trans s5) L1 ?_;show _=aU (encode (tellNodes (st.nodes.filter λy=>kX st.nodes y.text)));rw[mJ,Nw]
def BH:Sp:=λvs H Q _=>∃(a r:Addr)(t:List Int)(y:List Nat),vs=[.ref a,.ref r]/\H a=some (.lst (aU t))/\H r=some (.lst (aI y))/\t.length<=10000/\y.length<=10000/\(∀c∈y,c<=255)/\∀H',aD H H'->Q (.bl (holds (textOf t) y)) H'
theorem rE:aG ["run","row","start"] ["run","row"] (ay oz):=eP
theorem Gi(F:bG K mg "stands_in" oz ["run","row"])(T:Txt K mg C CO CC):aZ Z 1 "stands_in" ["run","row"] BH:=by
 refine F.ok rE (λvs H Q E h=>?_) (λ_ _ _ _ _ H _ Q E hr h=>?_)
 .obtain⟨_,_,_,_,rfl,_⟩:=h;rfl
 .obtain⟨a,r,t,y,rfl,hA,hR,XZ,V7,Yf,k⟩:=h;refine⟨_,(ae (eE PassesOwn.never rfl (xJ rfl T.range (aa (bh bP (bh gm (o_ T (aa (pv 1) ag)) (o_ T (aa (pv 0) ag))) au) ag)) (jB 2 rE) (aj (aM (bE (wy hr.units) (bo bA (pv 1) (aX (pv 2)) (aX (bh bP (pv 2) (o_ T (aa (pv 0) ag))))) (pv 0)) (aj (aw D2)) aA))) (aj (aw D2))),?_⟩;refine⟨_,rfl,r,_,rfl,.inl (bf.of hR),_,rfl,a,_,rfl,.inl (bf.of hA),_,_,rfl,rfl,_,_,rfl,rfl,_,rfl,?_,?_,?_⟩
  .rw[aF,bB];omega
  .rw[aF,bB];omega
  rw[aF,bB];refine Fo (λi σ H'=>∃v2:Option V,σ=[some (.ref a),some (.ref r),v2]/\aD H H'/\∀j,j<i->¬gj ((y.drop j).take t.length)=t) ⟨none,rfl,aD.refl _,λj hj=>by omega⟩ ?_ ?_
  .rintro i σ H' hi ⟨v2,rfl,s1,rO⟩;refine⟨_,rfl,_,rfl,_,rfl,_,rfl,_,rfl,a,_,rfl,.inl (bf.of (s1 _ _ hA)),_,_,rfl,rfl,_,rfl,r,_,rfl,bf.of (s1 _ _ hR),λp hp=>?_⟩;rw[bB];have sR:d_ (aI y) (some ((0:Int)+(i:Nat))) (some ((0:Int)+(i:Nat)+(t.length:Nat)))=aI ((y.drop i).take t.length):=by rw[Int.zero_add,lT,gQ,fT]
   rw[sR];have s2:=s1.new hp (u:= .lst (aI ((y.drop i).take t.length)));refine⟨_,rfl,p,a,gj ((y.drop i).take t.length),t,rfl,rfl,by rw[ah,i9],s2 _ _ hA,_,rfl,?_⟩;refine aK (λhc=>?_) (λhc=>?_)
   .have hc:=aH hc;have e:holds (textOf t) y=true:=(v9 Yf).mpr ⟨i,by omega,hc⟩;have q:=k _ s2;rw[e] at q;exact q
   .refine⟨_,rfl,s2,λj hj=>?_⟩;by_cases PK:j=i
    .rw[PK];exact cI hc
    .exact rO j (by omega)
  .rintro σ H' ⟨v2,rfl,s1,rO⟩;have e:holds (textOf t) y=false:=by
    cases h:holds (textOf t) y with
    |false=>rfl
    |true=>obtain⟨i,h1,h2⟩:=(v9 Yf).mp h;exact absurd h2 (rO i (by omega))
   have q:=k _ s1;rw[e] at q;exact q
theorem gu:aG ["outline","told","labels","node"] ["outline","told"] (ay mB):=eP
theorem Gj(F:bG K mg "search_for" mB ["outline","told"])(T:Txt K mg C CO CC)(cv:aZ Z 2 "labels_of" ["nodes"] (lX C))(mI:aZ Z 3 "shown" ["text","labels"] uM)(qv:aZ Z 1 "stands_in" ["run","row"] BH)(bu:aZ Z 1 "counted" ["row"] e_):aZ Z 4 "search_for" ["outline","told"] (EU C CO .search):=by
 refine F.ok gu (λvs H Q E h=>?_) (λ_ _ _ _ _ H _ Q E hr h=>?_)
 .obtain⟨_,_,_,_,_,_,_,rfl,_⟩:=h;rfl
 .obtain⟨ob,dx,l,r,as,st,t,rfl,O,W,hR,hz,k⟩:=h;refine⟨_,(ae (bD 2 gu (pc cv hr (aa (aB (pv 0) rfl) ag))) (aj (aw (pc bu hr (aa (kI rfl gu.nd (bM (aB (pv 0) rfl)) (own:=[("node",3)]) (B7 gu) (λ_ _ _ _ _=>(jB 3 gu)) (λ_ _ _ _ _=>(kH (gk (pc qv hr (aa (pv 1) (aa (pc mI hr (aa (eg (K:=K) rfl (pv 3) rfl) (aa (pv 2) ag))) ag)))))) (λ_ _ _ _ _=>(eg (K:=K) rfl (pv 3) rfl))) ag))))),?_⟩;refine⟨_,rfl,aV T O ⟨l,as,_,rfl,O.N,W.n,λH2 d a8 s2 LD SI=>?_⟩⟩;have O2:=O.same s2;have wb:∀q∈labels st.nodes,q.2.length<=24:=λq hq=>(fZ W.n q hq).1;have hlb:∀q∈labels st.nodes,∀c∈q.2,35<=c/\c<=57:=λq hq=>(fZ W.n q hq).2;refine⟨_,rfl,aV T O2 ⟨l,rfl,⟨_,bf.of O2.N.lst⟩,λD hD=>?_⟩⟩;refine f9 (K:=K) (a:=l) (λq=>if holds (textOf t) (shownWith (labels st.nodes) q.2.text)=true then some (V.int (q.2.number:Nat)) else none) O2.N.zip hD O2.N.Lp (λm q H4 hq s4 R R0 k1 k2=>?_) (λH4 s4 h4=>?_)
  .have hn:=(O2.N.at2 hq).same s4;have gS:q.2∈st.nodes:=cJ (qi hq).2;have pH:=W.txt gS;have TZ:=o8 wb q.2.text pH.1;refine⟨rfl,_,rfl,_,rfl,iT T hn λtt Dc=>⟨_,rfl,tt,d,_,a8,_,rfl,Dc,pH.1,LD.same s4,wb,λH5 p5 s5 h5=>⟨r,p5,t,_,rfl,s5 _ _ (s4 _ _ (s2 _ _ hR)),h5,hz,by omega,A8 hlb _ pH.2,λH6 s6=>⟨_,rfl,?_⟩⟩⟩⟩;cases hb:holds (textOf t) (shownWith (labels st.nodes) q.2.text) with
   |true=>exact eG ⟨_,rfl,bX T ((hn.same s5).same s6) (k1 _ _ (s5.trans s6) (ao hb))⟩
   |false=>exact fJ (k2 _ (s5.trans s6) (ak (by rw[hb];decide)))
  .rw[wJ O2.N.len (λy=>holds (textOf t) (shownWith (labels st.nodes) y.text))] at h4;have L8:=lE (λy:Nd=>holds (textOf t) (shownWith (labels st.nodes) y.text)) st.nodes;have hw:=W.n.len;have Nw:(aI (nums (st.nodes.filter λy=>holds (textOf t) (shownWith (labels st.nodes) y.text)))).length=(st.nodes.filter λy=>holds (textOf t) (shownWith (labels st.nodes) y.text)).length:=by rw[aF];exact aT _
   refine⟨D,_,rfl,h4,by rw[Nw];exact bq L8 (by omega),λH5 p s5 L1=>?_⟩;refine k.told O rfl ((s2.trans s4).trans s5) L1 ?_;show _=aU (encode (tellNodes (st.nodes.filter λy=>holds (textOf t) (shownWith (labels st.nodes) y.text))));rw[mJ,Nw]
theorem Gk(W:Wf s)(e:s.nodes=a++x::r)(hz:(x.number:Int)=z):Vanbkn.step s (.references z)=(s,⟨((refs x.text).length:Nat),(refs x.text).flatMap λk:Nat=>[(k:Int),b2 (Vanbkn.has s.nodes k)]⟩):=by show withNode s _ _=_;rw[aO W.n e hz];rfl
theorem dG:aG ["outline","number","nodes","position","referred","answer","target"] ["outline","number"] (ay jl):=eP
theorem Gm(F:bG K mg "references_of" jl ["outline","number"])(T:Txt K mg C CO CC)(ax:aZ Z 1 "position_of" ["nodes","number"] (fA C))(bN:aZ Z 4 "numbers_referred" ["text"] zr):
 aZ Z 5 "references_of" ["outline","number"] (eW C CO .references):=by
 refine F.ok dG (λvs H Q E h=>?_) (λ_ _ _ _ _ H _ Q E hr h=>?_)
 .obtain⟨_,_,_,_,_,_,rfl,_⟩:=h;rfl
 .obtain⟨ob,dx,l,as,st,z,rfl,O,W,k⟩:=h;refine⟨_,(ae (bD 2 dG (aB (pv 0) rfl)) (ae (bD 3 dG (pc ax hr (aa (pv 2) (aa (pv 1) ag)))) (ae (aM (bE bC (pv 3) a6) (aj (aw (aL (aa (eu T) ag)))) aA) (ae (bD 4 dG (pc bN hr (aa (aB (c7 aJ (pv 2) (pv 3)) rfl) ag))) (ae (bD 5 dG (aL (aa (o_ T (aa (pv 4) ag)) ag))) (ae (eE PassesOwn.never rfl (bM (pv 4)) (jB 6 dG) (ae (bF (eY eN iZ i0 cy (pv 5) (aa (pv 6) ag))) (aj (bF (eY eN iZ i0 cy (pv 5) (aa (g0 (bE bC (pc ax hr (aa (pv 2) (aa (pv 6) ag))) a6) au au) ag)))))) (aj (aw (pv 5))))))))),?_⟩;refine⟨_,rfl,aV T O ?_⟩;refine⟨_,rfl,_,rfl,l,as,_,z,rfl,O.N,λH2 s2=>?_⟩;have O2:=O.same s2;refine⟨_,rfl,rfl,_,rfl,?_⟩;rcases aY (o:=st.nodes) z with hp|⟨a,x,r,e,hp,kU⟩
  .rw[hp];refine aK (λ_=>?_) (λh=>absurd (aR rfl) h);exact⟨aW,λq hq=>k.refuse O (dO W hp) s2 hq⟩
  rw[hp];refine aK (λh=>nomatch (aH h)) (λ_=>?_);rw[Gk W e kU] at k;have pH:=W.txt (mem_of e);refine⟨_,rfl,_,rfl,c6 O2.N rfl (bt e) λc _ hc=>iT T hc λt ht=>?_⟩;rw[fI e] at ht;refine⟨t,_,rfl,ht,pH.1,λH3 p s3 hP=>?_⟩;refine⟨_,rfl,p,_,rfl,.inl (bf.of hP),aW,λb hb=>?_⟩;rw[aF];have jC:=s2.trans s3;have Sz:H b=none:=jC.free hb;have Us:p≠b:=bc hP hb;have Nh:=wK x.text;have hf:∀i,(((refs x.text).take i).flatMap λk:Nat=>[(k:Int),b2 (Vanbkn.has st.nodes k)]).length<=2*(refs x.text).length:=λi=>ph _ 2 i λx _=>by simp
  refine⟨_,rfl,p,rfl,⟨_,bf.of (a9 hP hb)⟩,dI (K:=K) (a:=p) (xs:=aI (refs x.text)) (λi σ H'=>∃v6:Option V,σ=[some (.ref ob),some (.int z),some (.ref l),some (.int (a.length:Nat)),some (.ref p),some (.ref b),v6]/\aD H H'/\H' p=some (.lst (aI (refs x.text)))/\
   H' b=some (.lst (aU (((refs x.text).length:Int)::((refs x.text).take i).flatMap λk:Nat=>[(k:Int),b2 (Vanbkn.has st.nodes k)]))))
   ⟨none,rfl,jC.new hb,a9 hP hb,ah⟩ (λi σ H' _ ⟨_,_,_,Wn,_⟩=>bf.of Wn) ?_ ?_⟩
  .rintro i y σ H' hi ⟨v6,rfl,s4,SD,hB⟩;obtain⟨n,hn,rfl⟩:=get_map hi;have QN:=hf i;refine⟨_,rfl,.inl ⟨rfl,_,bf.of hB⟩,_,rfl,b,_,_,rfl,rfl,hB,eO (by rw[bB,cn];omega),?_⟩;have s5:=s4.put Sz (u:= .lst (aU (((refs x.text).length:Int)::((refs x.text).take i).flatMap λk:Nat=>[(k:Int),b2 (Vanbkn.has st.nodes k)])++[V.int (n:Nat)]));refine⟨_,rfl,.inl ⟨rfl,_,bf.of ah⟩,_,rfl,_,rfl,l,as,_,(n:Int),rfl,O.N.same s5,λH6 s6=>⟨rfl,_,rfl,?_⟩⟩;have fin:∀m:Int,m=b2 (Vanbkn.has st.nodes n)->∀D:Ends,D.nx=(λσ H'=>∃v6:Option V,σ=[some (.ref ob),some (.int z),some (.ref l),some (.int (a.length:Nat)),some (.ref p),some (.ref b),v6]/\aD H H'/\H' p=some (.lst (aI (refs x.text)))/\
    H' b=some (.lst (aU (((refs x.text).length:Int)::((refs x.text).take (i+1)).flatMap λk:Nat=>[(k:Int),b2 (Vanbkn.has st.nodes k)]))))->∃(l':Addr)(xs:List V)(y:V),V.ref b= .ref l'/\[V.int m]=[y]/\H6 l'=some (.lst xs)/\xs.length<sizeLine/\D.nx [some (.ref ob),some (.int z),some (.ref l),some (.int (a.length:Nat)),some (.ref p),some (.ref b),some (V.int (n:Nat))] (upd H6 l' (.lst (xs++[y]))):=λm hm D hD=>by
    refine⟨b,_,_,rfl,rfl,s6 _ _ ah,eO (by rw[bb,bB,cn];show _+1<100000;omega),?_⟩;rw[hD];refine⟨_,rfl,(s5.trans s6).put Sz,?_,?_⟩
    .rw[az Us];refine s6 _ _ ?_;rw[az Us];exact SD
    .rw[ah,pf _ hn,<-iW,<-fh,dQ,hm];rfl
   cases Yg:dE st.nodes (n:Int) with
   |none=>refine aK (λ_=>?_) (λh=>absurd (aR rfl) h);exact fin 0 (by rw[uG,Yg];rfl) _ rfl
   |some j=>refine aK (λh=>nomatch (aH h)) (λ_=>?_);exact fin 1 (by rw[uG,Yg];rfl) _ rfl
  .rintro σ H' ⟨v6,rfl,s4,SD,hB⟩;rw[aF,fm] at hB;exact⟨_,rfl,k.told O rfl s4 hB rfl⟩
def mK(d:Int)(x:Nd):Bool:= !x.cell&&decide ((x.depth:Int)<=d)
def pI(ls:List (Nat×List Nat))(x:Nd):List Int:=(x.number:Int)::((((labelIn ls x.number).getD []).length:Nat):Int)::gj ((labelIn ls x.number).getD [])++(((shownWith ls x.text).length:Nat):Int)::gj (shownWith ls x.text)
theorem zA(s:Vanbkn.State)(d:Int):Vanbkn.step s (.contents d)=if 1<=d/\d<=7 then(s,⟨((s.nodes.filter (mK d)).length:Nat),(s.nodes.filter (mK d)).flatMap (pI (labels s.nodes))⟩) else refused s (-12):=by
 show(if depthIn d=true then(s,Vanbkn.tellContents s d) else refused s (-12))=_;by_cases h:1<=d/\d<=7
 .have h1:depthIn d=true:=by unfold depthIn;exact aR h
  rw[ao h,ao h1];rfl
 .have h1:¬depthIn d=true:=by unfold depthIn;exactλq=>h (i4 q)
  rw[ak h,ak h1]
theorem wL(W:l8 o)(hx:x∈o):∃qo,labelIn (labels o) x.number=some qo/\qo.length<=24:=by
 obtain⟨a,r,e⟩:=Ki hx;obtain⟨qo,lV⟩:=Jt W e;refine⟨qo,lV,?_⟩;unfold labelIn at lV;cases f:(labels o).find? (λy=>y.1==x.number) with
 |none=>rw[f] at lV;cases lV
 |some q=>rw[f] at lV;cases lV;exact(fZ W q (xy f)).1
theorem BI(W:l8 o)(hx:x∈o):(pI (labels o) x).length<=747:=by obtain⟨qo,h1,h2⟩:=wL W hx;have wb:∀q∈labels o,q.2.length<=24:=λq hq=>(fZ W q hq).1;have h3:=A7 wb x.text;have h4:=(W.good x hx).txt.1;unfold pI gj;rw[h1];rw[bb,cn,cn,cn,aT,aT];show qo.length+1+1+((shownWith (labels o) x.text).length+1)<=747;omega
theorem dM:aG ["outline","depth","labels","sections","answer","section","node"] ["outline","depth"] (ay ll):=eP
theorem BJ(F:bG K mg "contents_to" ll ["outline","depth"])(T:Txt K mg C CO CC)(cv:aZ Z 2 "labels_of" ["nodes"] (lX C))(mI:aZ Z 3 "shown" ["text","labels"] uM)(bu:aZ Z 1 "counted" ["row"] e_):
 aZ Z 4 "contents_to" ["outline","depth"] (eW C CO .contents):=by
 refine F.ok dM (λvs H Q E h=>?_) (λ_ _ _ _ _ H _ Q E hr h=>?_)
 .obtain⟨_,_,_,_,_,_,rfl,_⟩:=h;rfl
 .obtain⟨ob,dx,l,as,st,d,rfl,O,W,k⟩:=h;refine⟨_,(ae (aM (PW.pt (gh (bE g7 (pv 1) au) (gz (bE gL (pv 1) (eu T))))) (aj (aw (aL (aa (eu T) ag)))) aA) (ae (bD 2 dM (pc cv hr (aa (aB (pv 0) rfl) ag))) (ae (Ap (i:=3) rfl dM.nd rfl rfl (Ed rfl rfl rfl rfl) (bM (aB (pv 0) rfl)) (own:=[("node",6)]) (B7 dM) (λ_ _ _ _ _=>(jB 6 dM)) (λ_ _ _ _ _=>(kH (PW.pt (gZ (bE bw (eg (K:=K) rfl (pv 6) rfl) au) (fX (bE vg (eg (K:=K) rfl (pv 6) rfl) (pv 1))))))) (λ_ _ _ _ _=>(pv 6))) (ae (bD 4 dM (aL (aa (o_ T (aa (pv 3) ag)) ag))) (ae (eE PassesOwn.never rfl (bM (pv 3)) (jB 5 dM) (ae (bF (eY eN iZ i0 cy (pv 4) (aa (aB (pv 5) rfl) ag))) (ae (bF (eY eN qJ qK fY (pv 4) (aa (pc bu hr (aa (uA (qW hr) (pv 2) (aB (pv 5) rfl) (λ_ _=>rfl)) ag)) ag))) (aj (bF (eY eN qJ qK fY (pv 4) (aa (pc bu hr (aa (pc mI hr (aa (aB (pv 5) rfl) (aa (pv 2) ag))) ag)) ag))))))) (aj (aw (pv 4)))))))),?_⟩;rw[zA] at k;refine⟨_,rfl,_,_,rfl,rfl,_,rfl,?_⟩;refine aK (λh1=>eG ?_) (λh1=>?_)
  .rw[ak (λh=>by have:=aH h1;omega)] at k;exact⟨aW,λq hq=>k.refuse O rfl (aD.refl _) hq⟩
  have h1:=cI h1;refine⟨_,rfl,_,_,rfl,rfl,_,rfl,?_⟩;refine aK (λh2=>?_) (λh2=>?_)
  .rw[ak (λh=>by have:=aH h2;omega)] at k;exact⟨aW,λq hq=>k.refuse O rfl (aD.refl _) hq⟩
  have h2:=cI h2;rw[ao (by omega)] at k;have hw:=W.n.len;have wb:∀q∈labels st.nodes,q.2.length<=24:=λq hq=>(fZ W.n q hq).1;refine⟨_,rfl,aV T O ⟨l,as,_,rfl,O.N,W.n,λH2 dd a8 s2 LD SI=>?_⟩⟩;have O2:=O.same s2;refine⟨_,rfl,aV T O2 ⟨l,rfl,⟨_,bf.of O2.N.lst⟩,λD hD=>?_⟩⟩;refine f9 (K:=K) (a:=l) (λq=>if mK d q.2=true then some (V.ref q.1) else none) O2.N.zip hD O2.N.Lp (λm q H4 hq s4 R R0 k1 k2=>?_) (λH4 s4 h4=>?_)
  .have hn:=(O2.N.at2 hq).same s4;refine⟨rfl,_,rfl,fH T hn ⟨rfl,_,rfl,?_⟩⟩;cases bS:q.2.cell with
   |true=>refine aK (λh=>absurd (aH h) (by intro e;cases e)) (λ_=>fJ (k2 _ (aD.refl _) (ak ?_)));unfold mK;rw[bS];simp
   |false=>
    refine aK (λ_=>?_) (λh=>absurd (aR rfl) h);refine⟨_,rfl,bp T hn ⟨_,rfl,_,_,rfl,rfl,_,rfl,?_⟩⟩;refine aK (λh=>?_) (λh=>?_)
    .refine⟨_,rfl,k1 _ _ (aD.refl _) (ao ?_)⟩;unfold mK;rw[bS,aR (aH h)];rfl
    .refine k2 _ (aD.refl _) (ak ?_);unfold mK;rw[bS,cR (cI h)]
     decide
  .obtain⟨bs,M⟩:=O2.N.filter s4 (mK d) h4;have L8:(st.nodes.filter (mK d)).length<=60:=bq (lE _ _) hw;have zE:∀x∈st.nodes.filter (mK d),(pI (labels st.nodes) x).length<=747:=λx hx=>BI W.n (gY.mp hx).1;have hf:∀i,(((st.nodes.filter (mK d)).take i).flatMap (pI (labels st.nodes))).length<=747*(st.nodes.filter (mK d)).length:=λi=>ph _ 747 i zE;have hf:∀i,(((st.nodes.filter (mK d)).take i).flatMap (pI (labels st.nodes))).length<=44820:=λi=>bq (hf i) (bq (DS _ L8) (by decide));have Ja:=s2.trans s4;have Nv:=LD.same s4;refine⟨_,rfl,D,_,rfl,.inl (bf.of M.lst),aW,λb hb=>?_⟩;rw[M.gW];have Sz:H b=none:=Ja.free hb;have M1:=M.same (aE hb (u:= .lst [V.int (st.nodes.filter (mK d)).length]));have hDb:D≠b:=bc M.lst hb;have kp:∀{H5:Hp}{xs ys:List V},aD H4 H5->H5 b=some (.lst xs)->aD H4 (upd H5 b (.lst ys)):=λ{H5 xs ys} s5 _=>s5.put hb;refine⟨_,rfl,D,rfl,⟨_,bf.of M1.lst⟩,dI (K:=K) (a:=D) (xs:=bs.map V.ref) (λi σ H'=>∃v5 v6:Option V,σ=[some (.ref ob),some (.int d),some (.ref dd),some (.ref D),some (.ref b),v5,v6]/\aD H4 H'/\H' b=some (.lst (aU (((st.nodes.filter (mK d)).length:Int)::((st.nodes.filter (mK d)).take i).flatMap (pI (labels st.nodes))))))
    ⟨none,none,rfl,aE hb,ah⟩ (λi σ H' _ ⟨_,_,_,s5,_⟩=>bf.of (s5 _ _ M.lst)) ?_ ?_⟩
   .rintro i y σ H' hi ⟨v5,v6,rfl,s5,hB⟩;obtain⟨c,x,rfl,hc,hx,hn⟩:=M.item hi;have Ka:=(gY.mp (cJ hx)).1;obtain⟨qo,lV,Pn⟩:=wL W.n Ka;have pH:=W.txt Ka;have TZ:=o8 wb x.text pH.1;have QN:=hf i;refine⟨_,rfl,.inl ⟨rfl,_,bf.of hB⟩,_,rfl,bX T (hn.same s5) ⟨b,_,_,rfl,rfl,hB,eO (by rw[bB,cn];omega),?_⟩⟩;generalize hA:aU (((st.nodes.filter (mK d)).length:Int)::((st.nodes.filter (mK d)).take i).flatMap (pI (labels st.nodes)))=A0 at hB⊢;have hA0:A0.length<=44821:=by rw[<-hA,bB,cn];omega
    have s6:=kp s5 hB (ys:=A0++[V.int (x.number:Nat)]);have QQ:=Nv.same s6;rcases QQ.find x.number with⟨g1,_⟩|⟨SF,a',g1,g2,g3⟩
    .rw[lV] at g1;cases g1
    rw[lV] at g1;cases g1;refine⟨_,rfl,.inl ⟨rfl,_,bf.of ah⟩,_,rfl,_,rfl,bX T (hn.same s6) ⟨dd,.ref a',rfl,?_,a',_,rfl,g3,by rw[aF];omega,λH7 p7 s7 h7=>?_⟩⟩
    .have:=pQ.k (k:=Sum.inl ((x.number:Nat):Int)) QQ.at_;rw[g2] at this;exact this
    rw[aF] at h7;refine⟨b,p7,_,_,rfl,rfl,s7 _ _ ah,h7,dC (by simp only[bb,cn,GX,aF];omega),?_⟩;have s8:=kp (s6.trans s7) (s7 _ _ ah) (ys:=A0++[V.int (x.number:Nat)]++(V.int (qo.length:Nat)::aI qo));have LD8:=Nv.same s8;refine⟨_,rfl,.inl ⟨rfl,_,bf.of ah⟩,_,rfl,iT T (hn.same s8) λt ht=>⟨_,rfl,t,dd,_,a8,_,rfl,ht,pH.1,LD8,wb,λH9 p9 s9 h9=>⟨p9,_,rfl,h9,by rw[aF];omega,λT4 p10 MQ Jx=>?_⟩⟩⟩;rw[aF] at Jx;refine⟨b,p10,_,_,rfl,rfl,MQ _ _ (s9 _ _ ah),Jx,dC (by simp only[bb,cn,GX,aF];omega),?_⟩;refine⟨_,_,rfl,kp ((s8.trans s9).trans MQ) (MQ _ _ (s9 _ _ ah)),?_⟩;rw[ah,pf _ hx,<-iW,<-fh,hA];unfold pI;rw[lV];show some (HO.lst (A0++[V.int (x.number:Nat)]++(V.int (qo.length:Nat)::aI qo)++(V.int ((shownWith (labels st.nodes) x.text).length:Nat)::aI (shownWith (labels st.nodes) x.text))))=some (HO.lst (A0++aU ((x.number:Int)::(qo.length:Int)::gj qo++((shownWith (labels st.nodes) x.text).length:Int)::gj (shownWith (labels st.nodes) x.text))));rw[<-fh,qt,qt,qt,<-i9,<-i9];simp
   .rintro σ H' ⟨v5,v6,rfl,s5,hB⟩;rw[aT,M.len,fm] at hB;exact⟨_,rfl,k.told O rfl (Ja.trans s5) hB rfl⟩
structure Rows(H:Hp)(p:Addr)(as:List Addr)(ls:List (List Int)):Prop where
 lst:H p=some (.lst (as.map V.ref))
 len:as.length=ls.length
 at_:∀(i:Nat)(a:Addr)(l:List Int),as[i]?=some a->ls[i]?=some l->H a=some (.lst (aU l))
theorem Rows.same(h:Rows H p as ls)(s:aD H H'):Rows H' p as ls:=⟨s _ _ h.lst,h.len,λi a l ha hl=>s _ _ (h.at_ i a l ha hl)⟩
theorem Rows.some_of(h:Rows H p as ls){a:Addr}(ha:a∈as):∃xs,H a=some (.lst xs):=by
 obtain⟨i,hi⟩:=xj ha;have hl:i<ls.length:=by rw[<-h.len];exact(dm.mp hi).1
 exact⟨_,h.at_ i a _ hi (c_ hl)⟩
theorem Rows.put{c:Addr}(h:Rows H p as ls)(hp:p≠c)(hc:c∉as):Rows (upd H c u) p as ls:=⟨by rw[az hp];exact h.lst,h.len,λi a l ha hl=>by rw[az (λe=>hc (by rw[<-e];exact cJ ha))];exact h.at_ i a l ha hl⟩
theorem Rows.push{c:Addr}{l:List Int}(h:Rows H p as ls)(Kb:p∉as)(F8:p≠c)(hc:H c=some (.lst (aU l))):Rows (upd H p (.lst (as.map V.ref++[V.ref c]))) p (as++[c]) (ls++[l]) where
 lst:=by rw[ah,cX];rfl
 len:=by rw[bb,bb,h.len];rfl
 at_:=λi b m hb hm=>by
  by_cases hi:i<as.length
  .rw[nv hi] at hb;rw[nv (by rw[<-h.len];exact hi)] at hm;rw[az (λe=>Kb (by rw[<-e];exact cJ hb))];exact h.at_ i b m hb hm
  .rw[k3 (by omega)] at hb;rw[k3 (by rw[<-h.len];omega),<-h.len] at hm;cases e:i - as.length with
   |zero=>rw[e] at hb hm;cases hb;cases hm;rw[az (λq=>F8 q.symm)];exact hc
   |succ n=>rw[e] at hb;simp at hb
theorem yu(a:List Int):bg (a++[10])=(bg a).dropLast++[(bg a).getLastD [],[]]:=by rw[nX];show(bg a).dropLast++((bg a).getLastD []++[])::[[]]=_;rw[pw]
theorem t8(a:List Int){c:Int}(h:c≠10):bg (a++[c])=(bg a).dropLast++[(bg a).getLastD []++[c]]:=by
 have e:bg [c]=[[c]]:=by show(if c=10 then _ else _)=_;rw[ak h];rfl
 rw[nX,e]
theorem t9(a:List Int):bg a=(bg a).dropLast++[(bg a).getLastD []]:=by
 obtain⟨l,m,e⟩:=f7 a;rw[e];have fk:l::m≠[]:=by simp
 rw[Q9,Q7 fk];exact(NI fk).symm
theorem Dg(a:List Int):(bg a).getLastD []∈bg a:=by
 obtain⟨l,m,e⟩:=f7 a;rw[e];have fk:l::m≠[]:=by simp
 rw[Q9,Q7 fk];exact List.getLast_mem fk
theorem kY:∀(a:List Int),(bg a).length<=a.length+1
 |[]=>aS _
 |c::r=>by
  have ih:=kY r;obtain⟨l,m,e⟩:=f7 r;show(if c=10 then[]::bg r else match bg r with
   |l::m=>(c::l)::m
   |[]=>[[c]]).length<=_
  rw[e] at ih⊢;split
  .simp at ih⊢;omega
  .simp at ih⊢;omega
theorem oN:∀(a:List Int),∀l∈bg a,l.length<=a.length
 |[],l,h=>by
  have:l=[]:=by simpa[bg] using h
  subst this;exact aS _
 |c::r,l,h=>by
  have ih:=oN r;obtain⟨l',m,e⟩:=f7 r;have h:l∈(if c=10 then[]::bg r else match bg r with
   |l::m=>(c::l)::m
   |[]=>[[c]]):=h
  rw[e] at h ih;split at h
  .rcases bZ.mp h with rfl|h
   .simp
   .have:=ih l h;simp;omega
  .rcases bZ.mp h with rfl|h
   .have:=ih l' (by simp);simp;omega
   .have:=ih l (bz _ h);simp;omega
def EV:Sp:=λvs H Q _=>∃(r:Addr)(t:List Int),vs=[.ref r]/\H r=some (.lst (aU t))/\t.length<=10000/\∀H' p as,aD H H'->Rows H' p as (bg t)->H p=none->p∉as->(∀a∈as,H a=none)->Q (.ref p) H'
theorem ja:aG ["row","lines","line","number"] ["row"] (ay qf):=eP
theorem Jy(F:bG K mg "lines_of" qf ["row"])(T:Txt K mg C CO CC):aZ Z 1 "lines_of" ["row"] EV:=by
 refine F.ok ja (λvs H Q E h=>?_) (λ_ _ _ _ _ H _ Q E hr h=>?_)
 .obtain⟨_,_,rfl,_⟩:=h;rfl
 .obtain⟨r,t,rfl,hR,hz,k⟩:=h;refine⟨_,(ae (bD 1 ja (aL ag)) (ae (bD 2 ja (aL ag)) (ae (eE PassesOwn.never rfl (bM (pv 0)) (jB 3 ja) (aj (aM (bE bw (pv 3) (eu T)) (ae (bF (eY eN iZ i0 cy (pv 1) (aa (pv 2) ag))) (aj (bD 2 ja (aL ag)))) (aj (bF (eY eN iZ i0 cy (pv 2) (aa (pv 3) ag))))))) (ae (bF (eY eN iZ i0 cy (pv 1) (aa (pv 2) ag))) (aj (aw (pv 1))))))),?_⟩;refine⟨a_ _,λp hp=>?_⟩;have s1:aD H (upd H p (.lst [])):=aE hp;refine⟨a_ _,λc0 IF=>?_⟩;have s2:=s1.new IF (u:= .lst []);have Wt:p≠c0:=λe=>by rw[e,ah] at IF;cases IF
  refine⟨_,rfl,r,rfl,⟨_,bf.of (s2 _ _ hR)⟩,dI (K:=K) (a:=r) (xs:=aU t) (λi σ H'=>∃(v3:Option V)(c:Addr)(as:List Addr),σ=[some (.ref r),some (.ref p),some (.ref c),v3]/\aD H H'/\H c=none/\p≠c/\p∉as/\c∉as/\(∀a∈as,H a=none)/\H' c=some (.lst (aU ((bg (t.take i)).getLastD [])))/\Rows H' p as (bg (t.take i)).dropLast)
   ⟨none,c0,[],rfl,s2,s1.free IF,Wt,by simp,by simp,by simp,ah,⟨a9 ah IF,rfl,λi a l h=>by simp at h⟩⟩ (λi σ H' _ ⟨_,_,_,_,s3,_⟩=>bf.of (s3 _ _ hR)) ?_ ?_⟩
  .rintro i y σ H' hi ⟨v3,c,as,rfl,s3,hc,F8,Kb,Wu,Fx,hC,RW⟩;obtain⟨z,KN,rfl⟩:=get_map hi;have EO:t.take (i+1)=t.take i++[z]:=take_snoc KN;have SJ:(bg (t.take i)).dropLast.length<=10001:=by have:=kY (t.take i);rw[bj] at this;rw[GW];omega
   have Jz:((bg (t.take i)).getLastD []).length<=10000:=by have:=oN (t.take i) _ (Dg (t.take i));rw[bj] at this;omega
   refine⟨_,rfl,rfl,_,rfl,?_⟩;by_cases Jx:z=10
   .subst Jx;refine aK (λ_=>?_) (λh=>absurd (aR rfl) h);refine⟨_,rfl,.inl ⟨rfl,_,bf.of RW.lst⟩,_,rfl,p,_,_,rfl,rfl,RW.lst,eO (by rw[aT,RW.len];omega),?_⟩;have L9:=RW.push Kb F8 hC;have s4:=s3.put hp (u:= .lst (as.map V.ref++[V.ref c]));refine⟨a_ _,λc2 zk=>?_⟩;have Wv:p≠c2:=λe=>by rw[e,ah] at zk;cases zk
    refine⟨_,c2,as++[c],rfl,s4.new zk,s4.free zk,Wv,?_,?_,(λa ha=>by rcases dZ.mp ha with ha|ha;exact Fx a ha;simp at ha;rw[ha];exact hc),?_,?_⟩
    .simp;exact⟨Kb,F8⟩
    .intro hm;obtain⟨xs,e⟩:=L9.some_of hm;rw[zk] at e;cases e
    .rw[EO,yu,ah];simp;rfl
    .rw[EO,yu];have e2:((bg (t.take i)).dropLast++[(bg (t.take i)).getLastD [],[]]).dropLast=(bg (t.take i)).dropLast++[(bg (t.take i)).getLastD []]:=by rw[show[(bg (t.take i)).getLastD [],[]]=[(bg (t.take i)).getLastD []]++[[]] from rfl,<-dQ,NH]
     rw[e2];exact L9.same (aE zk)
   .refine aK (λh=>?_) (λ_=>?_)
    .exfalso;have:=aH h;injection this;exact Jx (by assumption)
    refine⟨_,rfl,.inl ⟨rfl,_,bf.of hC⟩,_,rfl,c,_,_,rfl,rfl,hC,eO (by rw[bB];omega),?_⟩;refine⟨_,c,as,rfl,s3.put hc,hc,F8,Kb,Wu,Fx,?_,?_⟩
    .rw[EO,t8 _ Jx,ah];rw[show((bg (t.take i)).dropLast++[(bg (t.take i)).getLastD []++[z]]).getLastD []=(bg (t.take i)).getLastD []++[z] by simp,<-fh];rfl
    .rw[EO,t8 _ Jx,NH];exact RW.put F8 Wu
  .rintro σ H' ⟨v3,c,as,rfl,s3,hc,F8,Kb,Wu,Fx,hC,RW⟩;rw[bB,fm] at hC RW;have SJ:(bg t).dropLast.length<=10001:=by have:=kY t;rw[GW];omega
   refine⟨_,rfl,.inl ⟨rfl,_,bf.of RW.lst⟩,_,rfl,p,_,_,rfl,rfl,RW.lst,eO (by rw[aT,RW.len];omega),?_⟩;have L9:=RW.push Kb F8 hC;rw[<-t9] at L9;refine⟨_,rfl,k _ p (as++[c]) (s3.put hp) L9 hp ?_ (λa ha=>by rcases dZ.mp ha with ha|ha;exact Fx a ha;simp at ha;rw[ha];exact hc)⟩;simp;exact⟨Kb,F8⟩
def ku(l:List Nat)(i:Nat)(x:List Nat):Bool:=decide ((l.drop i).take x.length=x)
def yw:Sp:=λvs H Q _=>∃(r:Addr)(l:List Int)(i:Nat)(x:Str),vs=[.ref r,.int (i:Nat),.str x]/\H r=some (.lst (aU l))/\(tl x).length<=100/\(∀c∈tl x,c<=255)/\∀H',aD H H'->Q (.bl (ku (textOf l) i (tl x))) H'
theorem wM(l:List Int)(i n:Nat):((textOf l).drop i).take n=textOf ((l.drop i).take n):=by rw[dJ,dJ,mV,jR]
theorem pj(l:List Int)(i n:Nat):((aU l).drop i).take n=aU ((l.drop i).take n):=by unfold aU;rw[mV,jR]
theorem Gn:aG ["line","start","signs"] ["line","start","signs"] (ay wd):=eP
theorem P6(F:bG K mg "has_at" wd ["line","start","signs"])(T:Txt K mg C CO CC)(cF:aZ Z 1 "bytes_of" ["signs"] pb):aZ Z 2 "has_at" ["line","start","signs"] yw:=by
 refine F.ok Gn (λvs H Q E h=>?_) (λ_ _ _ _ _ H _ Q E hr h=>?_)
 .obtain⟨_,_,_,_,rfl,_⟩:=h;rfl
 .obtain⟨r,l,i,x,rfl,hR,hz,hb,k⟩:=h;refine⟨_,(aj (aw (jF (wy hr.units) (bo bA (pv 0) (aX (pv 1)) (aX (bh bP (pv 1) (fM l_ (by rfl) T.len zX (aa (pv 2) ag))))) (pc cF hr (aa (pv 2) ag)) (k5 _)))),?_⟩;refine⟨_,rfl,_,rfl,_,rfl,_,rfl,_,rfl,x,rfl,dC (by rw[dq];omega),_,_,rfl,rfl,_,rfl,r,_,rfl,bf.of hR,λp hp=>?_⟩;have sR:d_ (aU l) (some (i:Int)) (some ((i:Int)+(x.length:Nat)))=aU ((l.drop i).take (tl x).length):=by rw[lT,pj,dq]
  rw[sR];have s1:=aE hp (u:= .lst (aU ((l.drop i).take (tl x).length)));refine⟨_,rfl,x,rfl,by omega,λH2 q s2 hq J7=>?_⟩;refine⟨p,q,_,gj (tl x),rfl,rfl,s2 _ _ ah,by rw[hq,i9],?_⟩;have e:decide ((l.drop i).take (tl x).length=gj (tl x))=ku (textOf l) i (tl x):=by
   unfold ku;rw[qM,wM];have:=iz (t:=(l.drop i).take (tl x).length) hb;constructor
   .intro h;exact(this.mpr h.symm).symm
   .intro h;exact(this.mp h.symm).symm
  rw[e];exact k _ (s1.trans s2)
theorem EW(c:Int):digit (Ik c)=true↔48<=c/\c<=57:=by unfold digit Ik;rw[d8];split<;>omega
theorem yx{l:List Int}{c:Int}(h:l[i]?=some c):(textOf l)[i]?=some (Ik c):=by rw[dJ,gX,h];rfl
theorem ka(l:List Int):(textOf l).length=l.length:=aT _
def eL(l:List Int)(i:Nat):List Nat:=((textOf l).drop i).takeWhile digit
theorem Gq{l:List Int}(hj:j<=(eL l i).length):(∃c,l[i+j]?=some c/\48<=c/\c<=57)↔j<(eL l i).length:=by
 unfold eL at*;rw[<-rm (p:=digit) (l:=(textOf l).drop i) hj];constructor
 .rintro⟨c,hc,hd⟩;exact⟨Ik c,by rw[xi,yx hc],(EW c).mpr hd⟩
 .rintro⟨y,hy,hd⟩;rw[xi,dJ,gX] at hy;cases e:l[i+j]? with
  |none=>rw[e] at hy;cases hy
  |some c=>rw[e] at hy;cases hy;exact⟨c,rfl,(EW c).mp hd⟩
theorem L_(l:List Int)(i:Nat):(eL l i).length<=l.length - i:=by have:=(pz digit (l:=(textOf l).drop i)).length_le;rw[dD,ka] at this;exact this
theorem JA(l:List Int)(i:Nat):gj (eL l i)=(l.drop i).take (eL l i).length:=by have h1:eL l i=((textOf l).drop i).take (eL l i).length:=zN.mp (G3 _);rw[wM] at h1;refine(iz (λc hc=>?_)).mp h1;have:=i4 (takeWhile_all _ c hc);omega
def zB:Sp:=λvs H Q _=>∃(r:Addr)(l:List Int)(i:Nat),vs=[.ref r,.int (i:Nat)]/\H r=some (.lst (aU l))/\l.length<=10000/\(uo ((textOf l).drop i)=none->∀H',aD H H'->Q .fb H')/\
 ∀n len:Nat,uo ((textOf l).drop i)=some (n,len)->∀H' t,aD H H'->H' t=some (.tup [.int (n:Nat),.int ((i+len:Nat):Int)])->Q (.ref t) H'
theorem jN:aG ["line","start","end","count"] ["line","start"] (ay oo):=eP
theorem JB(F:bG K mg "number_at" oo ["line","start"])(T:Txt K mg C CO CC)(iL:aZ Z 1 "number_of" ["digits"] oH):aZ Z 2 "number_at" ["line","start"] zB:=by
 refine F.ok jN (λvs H Q E h=>?_) (λ_ _ _ _ _ H _ Q E hr h=>?_)
 .obtain⟨_,_,_,rfl,_⟩:=h;rfl
 .obtain⟨r,l,i,rfl,hR,hz,k1,k2⟩:=h;refine⟨_,(ae (bD 2 jN (pv 1)) (ae (fo PassesOwn.never (PW.pt (gZ (bE g7 (pv 2) (o_ T (aa (pv 0) ag))) (fX (Ac vg vg (eu T) (c7 aJ (pv 0) (pv 2)) (eu T))))) (aj (k4 (i:=2) jN.nd rfl (Or.inl rfl) au nE))) (ae (bD 3 jN (bh gm (pv 2) (pv 1))) (ae (aM (PW.pt (gh (bE g7 (pv 3) au) (gh (bE gL (pv 3) (eu T)) (gz (PW.pt (gZ (bE gL (pv 3) au) (fX (bE bw (c7 aJ (pv 0) (pv 1)) (eu T))))))))) (aj (aw a6)) aA) (aj (aw (l9 (aa (pc iL hr (aa (bo bA (pv 0) (aX (pv 1)) (aX (pv 2))) ag)) (aa (pv 2) ag))))))))),?_⟩;refine⟨_,rfl,?_⟩;refine fz (λ(j:Nat) σ H'=>j<=(eL l i).length/\σ=[some (.ref r),some (.int (i:Nat)),some (.int ((i+j:Nat):Int)),none]/\aD H H') (λj=>(eL l i).length - j) 0 ⟨a_ _,rfl,aD.refl _⟩ ?_;rintro j σ H' ⟨hj,rfl,s1⟩;have J':=s1 _ _ hR;have m5:=Gq hj;have J9:=L_ l i;refine⟨_,rfl,_,rfl,r,_,rfl,.inl (bf.of J'),_,_,rfl,rfl,_,rfl,?_⟩;rw[bB];have fin:¬j<(eL l i).length->∀D:Ends,D.rt=Q->qO (yK (tL (xK λi j=>V.int (i - j)) (cK 2) (cK 1)) (fK 3)) (qO (Ab (MI (lG (tL (xK λi j=>V.bl (decide (i<j))) (cK 3) (tC (.int 1)))) (MI (lG (tL (xK λi j=>V.bl (decide (j<i))) (cK 3) (tC (.int 4)))) (Of (lG (tL (xK λi j=>V.bl (decide (j<i))) (cK 3) (tC (.int 1)))) (lG (tL Vj (tL (Ft K) (cK 0) (cK 1)) (tC (.int 48))))))) (yJ (tC .fb)) kD)
   (yJ (Oq (dk (pD oH [] E0 (dk (Vm (Ow K) (cK 0) (Aj (cK 1)) (Aj (cK 2))) k6)) (dk (cK 2) k6))))) D [some (.ref r),some (.int (i:Nat)),some (.int ((i+j:Nat):Int)),none] H':=λQt D hD=>by
   have hj:j=(eL l i).length:=by omega
   have e0:uo ((textOf l).drop i)=if(eL l i).length<1\/4<(eL l i).length\/(1<(eL l i).length/\((textOf l).drop i).head?=some 48) then none else some (natOf (eL l i),(eL l i).length):=rfl;refine⟨_,rfl,_,rfl,_,_,rfl,rfl,?_⟩;have ec:((i+j:Nat):Int) - (i:Nat)=(j:Int):=by omega
   refine⟨_,rfl,_,_,rfl,rfl,_,rfl,?_⟩;show if decide (((i+j:Nat):Int) - (i:Nat)<1)=true then _ else _;rw[ec];refine aK (λh=>eG ?_) (λh1=>?_)
   .show D.rt _ _;rw[hD];exact k1 (by rw[e0,ao (.inl (by have:=aH h;omega))]) _ s1
   have h1:=cI h1;refine⟨_,rfl,_,_,rfl,rfl,_,rfl,?_⟩;show if decide ((4:Int)<((i+j:Nat):Int) - (i:Nat))=true then _ else _;rw[ec];refine aK (λh=>eG ?_) (λh2=>?_)
   .show D.rt _ _;rw[hD];exact k1 (by rw[e0,ao (.inr (.inl (by have:=aH h;omega)))]) _ s1
   have h2:=cI h2;have m6:i<l.length:=by omega
   have hg:l[i]?=some l[i]:=c_ m6;have Ng:((textOf l).drop i).head?=some (Ik l[i]):=by rw[Fd];exact yx hg
   have last:¬(1<(eL l i).length/\((textOf l).drop i).head?=some 48)->yJ (Oq (dk (pD oH [] E0 (dk (Vm (Ow K) (cK 0) (Aj (cK 1)) (Aj (cK 2))) k6)) (dk (cK 2) k6))) D [some (.ref r),some (.int (i:Nat)),some (.int ((i+j:Nat):Int)),some (.int (((i+j:Nat):Int) - (i:Nat)))] H':=λh3=>by
    rw[ak (by rintro(h|h|h);omega;omega;exact h3 h)] at e0;refine⟨_,rfl,_,rfl,_,rfl,_,rfl,_,rfl,r,_,rfl,bf.of J',λp hp=>?_⟩;have sR:d_ (aU l) (some (i:Int)) (some ((i+j:Nat):Int))=aI (eL l i):=by rw[ro _ (by rw[bB];omega) (by rw[bB];omega),xC,pj,hj,<-JA,i9]
    rw[sR];refine⟨p,_,rfl,ah,by omega,(λc hc=>i4 (takeWhile_all _ c hc)),λH3 s3=>⟨_,rfl,(by show 2<=sizeLine;decide),λt ht=>?_⟩⟩;show D.rt _ _;rw[hD];refine k2 _ _ e0 _ t (((s1.new hp).trans s3).new ht) ?_;rw[ah,hj]
   refine⟨_,rfl,_,_,rfl,rfl,_,rfl,?_⟩;show if decide ((1:Int)<((i+j:Nat):Int) - (i:Nat))=true then _ else _;rw[ec];refine aK (λh3=>?_) (λh3=>fJ (last λh=>h3 (aR (by omega))));have h3:=aH h3;refine⟨_,rfl,_,rfl,bH (i:=i) J' rfl (by show(aU l)[i]?=some (V.int l[i]);unfold aU;rw[gX,hg];rfl) ⟨rfl,_,rfl,?_⟩⟩;by_cases Lv:l[i]=48
   .refine aK (λ_=>?_) (λh=>absurd (aR (by rw[Lv])) h);show D.rt _ _;rw[hD];refine k1 (by rw[e0,ao (.inr (.inr ⟨by omega,by rw[Ng,(vV (n:=48) (by decide)).mpr Lv]⟩))]) _ s1
   .refine aK (λh=>?_) (λ_=>last λh=>Lv ((vV (n:=48) (by decide)).mp (di (Ng.symm.trans h.2))));exfalso;have:=aH h;injection this;exact Lv (by assumption)
  refine aK (λNb=>?_) (λNb=>fJ (fin (λh=>?_) _ rfl))
  .have hl:i+j<l.length:=by have:=aH Nb;omega
   have hg:l[i+j]?=some l[i+j]:=c_ hl;refine⟨_,rfl,_,rfl,bH (i:=i+j) J' rfl (by show(aU l)[i+j]?=some (V.int l[i+j]);unfold aU;rw[gX,hg];rfl) ⟨_,_,rfl,rfl,_,rfl,?_⟩⟩;refine aK (λzk=>?_) (λzk=>⟨_,rfl,fJ (fin (λh=>?_) _ rfl)⟩)
   .refine⟨_,_,rfl,rfl,_,rfl,?_⟩;refine aK (λNc=>?_) (λNc=>fin (λh=>?_) _ rfl)
    .have h5:=m5.mp ⟨_,hg,aH zk,aH Nc⟩;refine m_ j ?_;exact⟨_,rfl,_,_,rfl,rfl,j+1,(by show(eL l i).length - (j+1)<(eL l i).length - j;omega),by omega,rfl,s1⟩
    .obtain⟨c,hc,hd⟩:=m5.mpr h;rw[hg] at hc;cases hc;exact Nc (aR hd.2)
   .obtain⟨c,hc,hd⟩:=m5.mpr h;rw[hg] at hc;cases hc;exact zk (aR hd.1)
  .obtain⟨c,hc,_⟩:=m5.mpr h;have:=(dm.mp hc).1;exact Nb (aR (by omega))
theorem P7{L:List Nat}{x:Nat×Nat}(h:uo L=some x):x.2<=L.length:=by
 simp only[uo] at h;split at h
 .cases h
 .cases h;exact(pz digit (l:=L)).length_le
theorem JC(L:List Nat):firstLine L=if ku L 0 (Vanbkn.b "outline ")=true then(match uo (L.drop 8) with
 |none=>none
 |some x=>if 8+x.2=L.length then some x.1 else none) else none:=by
 unfold firstLine;have hp:(Vanbkn.b "outline ").isPrefixOf L=true↔ku L 0 (Vanbkn.b "outline ")=true:=by
  unfold ku;rw[Q_,zN,d8];constructor
  .intro h;exact h.symm
  .intro h;exact h.symm
 by_cases h:ku L 0 (Vanbkn.b "outline ")=true
 .rw[ao h,ao (hp.mpr h),A3];have h8:8<=L.length:=by have:=i4 h;have:=da List.length this;rw[bj,zI] at this;have e8:(Vanbkn.b "outline ").length=8:=rfl;omega
  cases en:uo (L.drop 8) with
  |none=>rfl
  |some x=>
   show(if((L.drop 8).drop x.2).isEmpty=true then some x.1 else none)=if 8+x.2=L.length then some x.1 else none;have e:((L.drop 8).drop x.2).isEmpty=true↔L.length<=8+x.2:=by rw[NV,<-DG,dD,dD];omega
   have hx:x.2<=L.length - 8:=by rw[<-dD];exact P7 en
   by_cases hq:8+x.2=L.length
   .rw[ao hq,ao (e.mpr (by omega))]
   .rw[ak hq,ak (λq=>hq (by have:=e.mp q;omega))]
 .rw[ak h,ak (λq=>h (hp.mp q))]
def JD:Sp:=λvs H Q _=>∃(r:Addr)(l:List Int),vs=[.ref r]/\H r=some (.lst (aU l))/\l.length<=10000/\∀H',aD H H'->Q (ur (firstLine (textOf l))) H'
theorem wN:tl ("outline ":Str)=Vanbkn.b "outline ":=by decide+kernel
theorem oO:("outline ":Str).length=8:=by decide+kernel
theorem kZ:aG ["line","found"] ["line"] (ay iC):=eP
theorem L'(F:bG K mg "next_number_in" iC ["line"])(T:Txt K mg C CO CC)(iN:aZ Z 2 "number_at" ["line","start"] zB)(gc:aZ Z 2 "has_at" ["line","start","signs"] yw):aZ Z 3 "next_number_in" ["line"] JD:=by
 refine F.ok kZ (λvs H Q E h=>?_) (λ_ _ _ _ _ H _ Q E hr h=>?_)
 .obtain⟨_,_,rfl,_⟩:=h;rfl
 .obtain⟨r,l,rfl,hR,hz,k⟩:=h;refine⟨_,(ae (bD 1 kZ (pc iN hr (aa (pv 0) (aa (fM l_ (by rfl) T.len zX (aa (kQ rfl (T.gs rfl)) ag)) ag)))) (ae (aM (PW.pt (gh (vc (gk (pc gc hr (aa (pv 0) (aa au (aa (kQ rfl (T.gs rfl)) ag)))))) (gh (bE bC (pv 1) a6) (gz (bE lF (c7 dR (pv 1) au) (o_ T (aa (pv 0) ag))))))) (aj (aw a6)) aA) (aj (aw (c7 dR (pv 1) au))))),?_⟩;have e0:=JC (textOf l);refine⟨_,rfl,("outline ":Str),rfl,dC (by rw[oO];decide),r,l,8,by rw[oO];rfl,hR,hz,λhn H1 s1=>?_,λn len hn H1 t s1 ht=>?_⟩
  .refine⟨_,rfl,r,l,0,_,rfl,s1 _ _ hR,(by decide+kernel),(by decide+kernel),λH2 s2=>⟨_,rfl,?_⟩⟩;rw[hn] at e0;have q:=k H2 (s1.trans s2);have e1:firstLine (textOf l)=none:=by rw[e0];split<;>rfl
   rw[e1] at q;cases ku (textOf l) 0 (tl ("outline ":Str)) with
   |false=>exact eG q
   |true=>refine fJ ?_;refine⟨_,rfl,rfl,_,rfl,?_⟩;exact aK (λ_=>q) (λh=>absurd (aR rfl) h)
  .refine⟨_,rfl,r,l,0,_,rfl,s1 _ _ hR,(by decide+kernel),(by decide+kernel),λH2 s2=>⟨_,rfl,?_⟩⟩;rw[hn] at e0;have q:=k H2 (s1.trans s2);rw[e0] at q;rw[wN];cases hh:ku (textOf l) 0 (Vanbkn.b "outline ") with
   |false=>rw[hh,ak (by decide)] at q;exact eG q
   |true=>
    rw[hh,ao rfl] at q;refine fJ ?_;refine⟨_,rfl,rfl,_,rfl,?_⟩;refine aK (λh=>nomatch (aH h)) (λ_=>?_);refine⟨_,rfl,t,_,_,_,rfl,rfl,iu.of (s2 _ _ ht),bU (j:=1) rfl,?_⟩;refine⟨_,rfl,r,_,rfl,.inl (bf.of ((s1.trans s2) _ _ hR)),rfl,_,rfl,?_⟩;rw[bB];have q:Q (ur (if 8+len=(textOf l).length then some n else none)) H2:=q;rw[ka] at q;by_cases hl:8+len=l.length
    .rw[ao hl] at q;rw[hl];refine aK (λh=>?_) (λ_=>?_)
     .exfalso;simp at h
     .exact⟨_,rfl,t,_,_,_,rfl,rfl,iu.of (s2 _ _ ht),bU (j:=0) rfl,q⟩
    .rw[ak hl] at q;refine aK (λ_=>q) (λh=>?_);exfalso;apply h;show(!decide (V.int ((8+len:Nat):Int)=V.int ((l.length:Nat):Int)))=true;rw[cR]
     .rfl
     .intro e;injection e with e;omega
theorem JE{l:List Nat}{c:Nat}(hj:j<=sE l c):ku l j [c]=true↔j<sE l c:=by
 unfold sE at*;rw[<-rm (p:=λx=>x==c) (l:=l) hj];unfold ku;rw[d8];show(l.drop j).take 1=[c]↔_;cases e:l.drop j with
 |nil=>
  have:l[j]?=none:=by rw[<-Fd,e];rfl
  rw[this];simp
 |cons y r=>
  have:l[j]?=some y:=by rw[<-Fd,e];rfl
  rw[this];simp
def EX:Sp:=λvs H Q _=>∃(r:Addr)(l:List Int)(x:Str)(c:Nat),vs=[.ref r,.str x]/\tl x=[c]/\c<=255/\H r=some (.lst (aU l))/\l.length<=10000/\∀H',aD H H'->Q (.int ((sE (textOf l) c:Nat):Int)) H'
theorem oP:aG ["line","sign","depth"] ["line","sign"] (ay qg):=eP
theorem JF(F:bG K mg "depth_in" qg ["line","sign"])(T:Txt K mg C CO CC)(gc:aZ Z 2 "has_at" ["line","start","signs"] yw):aZ Z 3 "depth_in" ["line","sign"] EX:=by
 refine F.ok oP (λvs H Q E h=>?_) (λ_ _ _ _ _ H _ Q E hr h=>?_)
 .obtain⟨_,_,_,_,rfl,_⟩:=h;rfl
 .obtain⟨r,l,x,c,rfl,hx,hc,hR,hz,k⟩:=h;refine⟨_,(ae (bD 2 oP au) (ae (fo PassesOwn.never (gk (pc gc hr (aa (pv 0) (aa (pv 2) (aa (pv 1) ag))))) (aj (k4 (i:=2) oP.nd rfl (Or.inl rfl) au nE))) (aj (aw (pv 2))))),?_⟩;refine fz (λ(j:Nat) σ H'=>j<=sE (textOf l) c/\σ=[some (.ref r),some (.str x),some (.int (j:Nat))]/\aD H H') (λj=>sE (textOf l) c - j) 0 ⟨a_ _,rfl,aD.refl _⟩ ?_;rintro j σ H' ⟨hj,rfl,s1⟩;have m5:=JE hj;refine⟨_,rfl,_,rfl,_,rfl,r,l,j,x,rfl,s1 _ _ hR,(by rw[hx];show 1<=100;decide),(λd hd=>by rw[hx] at hd;simp at hd;omega),λH2 s2=>⟨_,rfl,?_⟩⟩;rw[hx];refine aK (λh=>?_) (λh=>?_)
  .have h5:=m5.mp h;refine m_ j ?_;exact⟨_,rfl,_,_,rfl,rfl,j+1,(by show sE (textOf l) c - (j+1)<sE (textOf l) c - j;omega),by omega,rfl,s1.trans s2⟩
  .have Qt:j=sE (textOf l) c:=by have:¬j<sE (textOf l) c:=λq=>h (m5.mpr q);omega
   rw[<-Qt] at k;exact⟨_,rfl,k _ (s1.trans s2)⟩
theorem Ma(o:O)(h:0<o.length):jc 1 o=if(nd o (o.length - 1)).cell=true then(nd o (o.length - 1)).depth else(nd o (o.length - 1)).depth+1:=by
 rw[sF];have:o.getLast?=some (nd o (o.length - 1)):=by rw[List.getLast?_eq_getElem?];exact C1 (by omega)
 rw[this];rfl
def EY(C:Addr):Sp:=λvs H Q _=>∃(l:Addr)(as:List Addr)(o:O),vs=[.ref l]/\NL C H l as o/\∀H',aD H H'->Q (.int ((jc 1 o:Nat):Int)) H'
theorem zC{K:PySem.W.Frag}{C:Addr}{R:V->Prop}(N:NL C H l as o)(hi:0<o.length)(q:∀a,bW C H a (nd o (o.length - 1))->R (.ref a)):
 ∃(p:Addr)(xs:List V)(i':Int)(v:V),V.ref l= .ref p/\V.int (-1)= .int i'/\bf K H p xs/\B4 xs i'=some v/\R v:=by
 obtain⟨a,h1,h2,h3⟩:=N.get (C1 (o:=o) (i:=o.length - 1) (by omega));refine⟨l,_,_,.ref a,rfl,rfl,bf.of N.lst,?_,q a h3⟩;obtain⟨ys,y,e⟩:∃ys y,as.map V.ref=ys++[y]:=by
  have fk:as.map V.ref≠[]:=λq=>by have:=N.gW;rw[q] at this;have:0=o.length:=this;omega
  exact⟨_,_,(NI fk).symm⟩
 have hl:o.length=ys.length+1:=by rw[<-N.gW,e,bb];rfl
 rw[e,hl,Nat.add_sub_cancel,List.getElem?_concat_length] at h2;cases h2;rw[e];exact Hq _ _
theorem rF:aG ["nodes"] ["nodes"] (ay iD):=eP
theorem JG(F:bG K mg "greatest_depth" iD ["nodes"])(T:Txt K mg C CO CC):aZ Z 1 "greatest_depth" ["nodes"] (EY C):=by
 refine F.ok rF (λvs H Q E h=>?_) (λ_ _ _ _ _ H _ Q E hr h=>?_)
 .obtain⟨_,_,_,rfl,_⟩:=h;rfl
 .obtain⟨l,as,o,rfl,N,k⟩:=h;refine⟨_,(ae (aM (bE bw (o_ T (aa (pv 0) ag)) au) (aj (aw au)) aA) (aj (aw (g0 (bE bw (aB (c7 aJ (pv 0) (vf pP au)) rfl) au) (aB (c7 aJ (pv 0) (vf pP au)) rfl) (bh bP (aB (c7 aJ (pv 0) (vf pP au)) rfl) au))))),?_⟩;refine⟨_,rfl,l,_,rfl,.inl (bf.of N.lst),rfl,_,rfl,?_⟩;rw[N.gW];have q:=k _ (aD.refl _);by_cases h0:o.length=0
  .have:o=[]:=zJ h0;subst this;exact aK (λ_=>q) (λh=>absurd (aR rfl) h)
  refine aK (λh=>?_) (λ_=>?_)
  .exfalso;have:=aH h;injection this with e;omega
  rw[Ma _ (by omega)] at q;refine⟨_,rfl,_,rfl,zC N (by omega) λa hn=>fH T hn ⟨rfl,_,rfl,?_⟩⟩;cases hc:(nd o (o.length - 1)).cell with
  |true=>rw[hc,ao rfl] at q;refine aK (λ_=>?_) (λh=>absurd rfl h);exact⟨_,rfl,_,rfl,zC N (by omega) λa hn=>bp T hn q⟩
  |false=>rw[hc,ak (by decide)] at q;refine aK (λh=>by cases h) (λh=>?_);exact⟨_,rfl,_,rfl,zC N (by omega) λa hn=>bp T hn ⟨_,_,rfl,rfl,q⟩⟩
def TR(t:TT)(σ:L2.St)(H:Hp)(b:Bool):Prop:=∀R:Bool->Hp->Prop,(∀H',aD H H'->R b H')->t σ H R
theorem TR.and{tb:TT}{a b:Bool}(ha:TR ta σ H a)(hb:a=true->∀H',aD H H'->TR tb σ H' b):TR (Of ta tb) σ H (a&&b):=λR hR=>by
 refine ha _ λH1 s1=>?_;cases a with
 |true=>exact eG (hb rfl H1 s1 R λH2 s2=>hR H2 (s1.trans s2))
 |false=>exact fJ (hR H1 s1)
theorem TR.or{tb:TT}{a b:Bool}(ha:TR ta σ H a)(hb:a=false->∀H',aD H H'->TR tb σ H' b):TR (MI ta tb) σ H (a||b):=λR hR=>by
 refine ha _ λH1 s1=>?_;cases a with
 |true=>exact eG (hR H1 s1)
 |false=>exact fJ (hb rfl H1 s1 R λH2 s2=>hR H2 (s1.trans s2))
theorem TR.not{a:Bool}(ha:TR ta σ H a):TR (Og ta) σ H (!a):=λR hR=>ha _ λH1 s1=>hR H1 s1
theorem TR.Kc{u:TS}{b:Bool}(h:TR t σ H b)(h1:b=true->∀H',aD H H'->tx {D with nx:=u D} σ H')(h2:b=false->∀H',aD H H'->ty {D with nx:=u D} σ H'):qO (Ab t tx ty) u D σ H:=by
 refine h _ λH1 s1=>?_;cases b with
 |true=>exact eG (h1 rfl H1 s1)
 |false=>exact fJ (h2 rfl H1 s1)
theorem Mb(o:O)(n:Nat):(o.any λy=>y.number==n)=(dE o (n:Int)).isSome:=by
 rw[<-uG];unfold Vanbkn.has Vanbkn.find;induction o with
 |nil=>rfl
 |cons y r ih=>rw[uR,rT,ih];cases hy:y.number==n<;>rfl
def EZ(C CO:Addr):Sp:=λvs H Q _=>∃(ob dx l a:Addr)(as:List Addr)(s:Vanbkn.State)(x:Nd),vs=[.ref ob,.ref a]/\ba C CO H ob dx l as s/\bW C H a x/\s.next<=1000/\∀H',aD H H'->Q (.int ((nodeFault s.next s.nodes x:Nat):Int)) H'
theorem lx:aG ["outline","node","nodes","number"] ["outline","node"] (ay my):=eP
theorem JH(F:bG K mg "node_fault" my ["outline","node"])(T:Txt K mg C CO CC)(ax:aZ Z 1 "position_of" ["nodes","number"] (fA C))(jr:aZ Z 1 "greatest_depth" ["nodes"] (EY C)):aZ Z 2 "node_fault" ["outline","node"] (EZ C CO):=by
 refine F.ok lx (λvs H Q E h=>?_) (λ_ _ _ _ _ H _ Q E hr h=>?_)
 .obtain⟨_,_,_,_,_,_,_,rfl,_⟩:=h;rfl
 .obtain⟨ob,dx,l,a,as,st,x,rfl,O,N,xc,k⟩:=h;refine⟨_,(ae (bD 2 lx (aB (pv 0) rfl)) (ae (bD 3 lx (aB (pv 1) rfl)) (ae (aM (PW.pt (gh (bE g7 (pv 3) au) (gh (bE nF (pv 3) (aB (pv 0) rfl)) (gz (bE uz (pc ax hr (aa (pv 2) (aa (pv 3) ag))) a6))))) (aj (aw (eu T))) aA) (ae (aM (PW.pt (gZ (bE bw (aB (pv 1) rfl) au) (fX (bE gL (aB (pv 1) rfl) (eu T))))) (aj (aw (eu T))) aA) (ae (aM (bE gL (aB (pv 1) rfl) (pc jr hr (aa (pv 2) ag))) (aj (aw (eu T))) aA) (ae (aM (bE nF (o_ T (aa (pv 2) ag)) (eu T)) (aj (aw (eu T))) aA) (aj (aw au)))))))),?_⟩;have e0:=mm st.next st.nodes x;rw[Mb] at e0;generalize nodeFault st.next st.nodes x=nf0 at e0 k;refine⟨_,rfl,aV T O ?_⟩;refine⟨_,rfl,bX T N ?_⟩;dsimp only[fK,kD];refine TR.Kc (b:=(decide ((x.number:Int)<1)||(decide ((st.next:Int)<=(x.number:Int))|| !decide (ur (dE st.nodes (x.number:Int))= .fb)))) ?_ (λh H1 s1=>?_) (λh H1 s1=>?_)
  .exact TR.or (λR hR=>⟨_,rfl,_,_,rfl,rfl,_,rfl,hR _ (aD.refl _)⟩) λ_ H1 s1=>TR.or (λR hR=>⟨_,rfl,_,rfl,mD T (O.same s1) ⟨_,_,rfl,rfl,_,rfl,hR _ (aD.refl _)⟩⟩) λ_ H2 s2 R hR=>⟨_,rfl,_,rfl,l,as,_,_,rfl,(O.same (s1.trans s2)).N,λH3 s3=>⟨rfl,_,rfl,hR _ s3⟩⟩
  .rw[ao] at e0
   .subst e0;exact k H1 s1
   .rw[rP,rP,d8,d8] at h;rcases h with h|h|h
    .exact .inl (by omega)
    .exact .inr (.inr (.inl (by omega)))
    .refine .inr (.inr (.inr (.inl ?_)));cases hp:dE st.nodes (x.number:Int) with
     |none=>rw[hp] at h;cases h
     |some i=>rfl
  .rw[Mv,Mv,m3,m3] at h;obtain⟨h1,h2,h3⟩:=h;have hp:dE st.nodes (x.number:Int)=none:=by
    cases hp:dE st.nodes (x.number:Int) with
    |none=>rfl
    |some i=>rw[hp] at h3;cases h3
   rw[hp] at e0;have O1:=O.same s1;have N1:=N.same s1;dsimp only[fK,kD];refine TR.Kc (b:=((decide (V.int (b2 x.cell)=V.int 0))&&decide ((6:Int)<(x.depth:Int)))) ?_ (λh H2 s2=>?_) (λh H2 s2=>?_)
   .exact TR.and (λR hR=>⟨_,rfl,fH T N1 ⟨rfl,_,rfl,hR _ (aD.refl _)⟩⟩) λ_ H2 s2 R hR=>⟨_,rfl,bp T (N1.same s2) ⟨_,_,rfl,rfl,_,rfl,hR _ (aD.refl _)⟩⟩
   .rw[uQ,d8,d8] at h;rw[ao] at e0
    .subst e0;exact k _ (s1.trans s2)
    .refine .inr (.inr (.inr (.inr ⟨?_,by omega⟩)));cases hc:x.cell with
     |false=>rfl
     |true=>rw[hc] at h;exact nomatch h.1
   .have hn:¬(x.cell=false/\6<x.depth):=λq=>by
     rw[q.1,Bool.and_eq_false_iff,m3,m3] at h;rcases h with h|h
     .exact h rfl
     .exact h (by omega)
    rw[ak (by rintro(q|q|q|q|q);omega;omega;omega;cases q;exact hn q)] at e0;have O2:=O1.same s2;refine⟨_,rfl,bp T (N1.same s2) ⟨_,rfl,l,as,_,rfl,O2.N,λH3 s3=>⟨_,_,rfl,rfl,_,rfl,?_⟩⟩⟩;have jC:=(s1.trans s2).trans s3;have O3:=O2.same s3;refine aK (λh=>?_) (λh=>?_)
    .rw[ao (by have:=aH h;omega)] at e0;subst e0;exact k _ jC
    .have h:=cI h;rw[ak (by omega)] at e0;refine⟨_,rfl,l,_,rfl,.inl (bf.of O3.N.lst),_,_,rfl,rfl,_,rfl,?_⟩;rw[O3.N.gW];refine aK (λh=>?_) (λh=>?_)
     .rw[ao (by have:=aH h;omega)] at e0;subst e0;exact k _ jC
     .have h:=cI h;rw[ak (by omega)] at e0;subst e0;exact k _ jC
def mL(l:List Nat):Nat:=match firstLine l with
 |none=>2
 |some n=>if n<1\/1000<n then 3 else 0
def sX(l:List Nat)(n:Nat):Nat:=if mL l=0 then(firstLine l).getD 0 else n
def E1(C CO:Addr):Sp:=λvs H Q _=>∃(ob dx l r:Addr)(as:List Addr)(s:Vanbkn.State)(t:List Int),vs=[.ref ob,.ref r]/\ba C CO H ob dx l as s/\H r=some (.lst (aU t))/\t.length<=10000/\
 ∀H',ql [ob] H H'->ba C CO H' ob dx l as ⟨s.nodes,sX (textOf t) s.next⟩->Q (.int ((mL (textOf t):Nat):Int)) H'
theorem kb:aG ["outline","line","number"] ["outline","line"] (ay ib):=eP
theorem JI(F:bG K mg "take_first_line" ib ["outline","line"])(T:Txt K mg C CO CC)(js:aZ Z 3 "next_number_in" ["line"] JD):aZ Z 4 "take_first_line" ["outline","line"] (E1 C CO):=by
 refine F.ok kb (λvs H Q E h=>?_) (λ_ _ _ _ _ H _ Q E hr h=>?_)
 .obtain⟨_,_,_,_,_,_,_,rfl,_⟩:=h;rfl
 .obtain⟨ob,dx,l,r,as,st,t,rfl,O,hR,hz,k⟩:=h;refine⟨_,(ae (bD 2 kb (pc js hr (aa (pv 1) ag))) (ae (aM (bE bC (pv 2) a6) (aj (aw (eu T))) aA) (ae (aM (PW.pt (gh (bE g7 (pv 2) au) (gz (bE gL (pv 2) (bh bP (eu T) au))))) (aj (aw (eu T))) aA) (ae (df (pv 0) (pv 2) rfl) (aj (aw au)))))),?_⟩;refine⟨_,rfl,r,t,rfl,hR,hz,λH2 s2=>?_⟩;have O2:=O.same s2;unfold sX mL at k;refine⟨_,rfl,rfl,_,rfl,?_⟩;cases hn:firstLine (textOf t) with
  |none=>rw[hn] at k;exact aK (λ_=>k _ (ql.of_same s2) O2) (λh=>absurd rfl h)
  |some n=>
   rw[hn] at k;refine aK (λh=>nomatch (aH h)) (λ_=>?_);dsimp only[fK,kD];refine TR.Kc (b:=(decide ((n:Int)<1)||decide ((1000:Int)<(n:Int)))) ?_ (λh H3 s3=>?_) (λh H3 s3=>?_)
   .exact TR.or (λR hR=>⟨_,rfl,_,_,rfl,rfl,_,rfl,hR _ (aD.refl _)⟩) λ_ H1 s1 R hR=>⟨_,rfl,_,_,rfl,rfl,_,_,rfl,rfl,_,rfl,hR _ (aD.refl _)⟩
   .have hh:n<1\/1000<n:=by rw[rP,d8,d8] at h;omega
    simp only[ao hh] at k;exact k _ (ql.of_same (s2.trans s3)) (O2.same s3)
   .have hh:¬(n<1\/1000<n):=by rw[Mv,m3,m3] at h;omega
    simp only[ak hh] at k;have O3:=O2.same s3;refine⟨_,rfl,_,rfl,ob,CO,dx,_,rfl,O3.at_,T.zF,T.wj,(by show 2<1000;decide),?_⟩;have O4:=O3.put T.ne1 (s':=⟨st.nodes,n⟩) O3.N;exact k _ (ql.qr (s2.trans s3) mH) O4
theorem TR.ifB{b:Bool}(h:TR t σ H b)(h1:b=true->∀H',aD H H'->tx D σ H')(h2:b=false->∀H',aD H H'->ty D σ H'):Ab t tx ty D σ H:=by
 refine h _ λH1 s1=>?_;cases b with
 |true=>exact eG (h1 rfl H1 s1)
 |false=>exact fJ (h2 rfl H1 s1)
theorem Gr(xs:List V)(a:Nat):d_ xs (some (a:Int)) none=xs.drop a:=by
 unfold d_;rw[show HT.qG xs.length 0 (some (a:Int))=min a xs.length from HT.kE _ _ _,show HT.qG xs.length xs.length none=xs.length from rfl];by_cases h:a<=xs.length
 .rw[iY h,<-dD,fm]
 .rw[zT (by omega),tI,List.take_zero,uS (by omega)]
theorem pJ(t:List Int):isText t=goodText (textOf t):=by unfold isText goodText;rw[ka];congr 1;rw[dJ,Kh];refine List.all_congr rfl λc=>?_;show _=textByte (Ik c);unfold textByte Ik;rw[qM];split<;>omega
def t_(cell:Bool)(k n:Nat)(r:List Nat):List Str->Nat->Option Nd
 |[],_=>none
 |m::ms,i=>if ku r 0 (tl m)=true/\goodText (r.drop (tl m).length)=true then some ⟨n,k,cell,i==1,r.drop (tl m).length⟩ else t_ cell k n r ms (i+1)
def fi(cell:Bool):List Str:=if cell=true then[" "] else[" + "," - "]
theorem pK:tl (" ":Str)=[32]:=by decide+kernel
theorem rG:tl (" + ":Str)=[32,43,32]:=by decide+kernel
theorem oQ:tl (" - ":Str)=[32,45,32]:=by decide+kernel
theorem Dh(cell:Bool)(k n:Nat)(r:List Nat):nY cell k n r=t_ cell k n r (fi cell) 0:=by
 cases cell with
 |true=>simp only[nY,fi,t_,pK,ku,m4,d8];rfl
 |false=>simp only[nY,fi,t_,rG,oQ,ku,d8,GN,jT];rfl
def rH(L:List Nat)(cell:Bool)(k:Nat):Option Nd:=if k<1\/7<k\/(L.drop k).take 1≠[32] then none
 else match uo (L.drop (k+1)) with
  |none=>none
  |some x=>nY cell k x.1 (L.drop (k+1+x.2))
def mM(C:Addr)(H H':Hp)(a:Addr)(x:Nd):Prop:=H a=none/\∃dx t,H' a=some (.ins C dx (nf x t))/\H' t=some (.lst (aI x.text))/\H t=none
theorem mM.back{C:Addr}{H0:Hp}{a:Addr}(n:mM C H H' a x)(s:aD H0 H):mM C H0 H' a x:=by obtain⟨h1,dx,t,h2,h3,h4⟩:=n;exact⟨s.free h1,dx,t,h2,h3,s.free h4⟩
theorem mM.at_{C:Addr}{a:Addr}(n:mM C H H' a x):bW C H' a x:=let ⟨_,dx,t,h2,h3,_⟩:=n;⟨dx,t,h2,h3⟩
def JK(C:Addr):Sp:=λvs H Q _=>∃(r m:Addr)(l:List Int)(cell:Bool)(d:Nat),vs=[.ref r,.int (b2 cell),.int (d:Nat),.ref m]/\H r=some (.lst (aU l))/\l.length<=10000/\H m=some (.tup ((fi cell).map V.str))/\
 (rH (textOf l) cell d=none->∀H',aD H H'->Q .fb H')/\∀x,rH (textOf l) cell d=some x->∀H' a,aD H H'->mM C H H' a x->Q (.ref a) H'
theorem Gs{cell:Bool}{m:Str}(h:m∈fi cell):(tl m).length<=3/\(∀c∈tl m,c<=255)/\m.length=(tl m).length:=by
 refine⟨?_,?_,(dq m).symm⟩
 .cases cell<;>simp[fi] at h
  .rcases h with rfl|rfl
   .rw[rG];decide
   .rw[oQ];decide
  .subst h;rw[pK];decide
 .cases cell<;>simp[fi] at h
  .rcases h with rfl|rfl
   .rw[rG];decide
   .rw[oQ];decide
  .subst h;rw[pK];decide
theorem Gu(cell:Bool):(fi cell).length<=2:=by cases cell<;>decide
theorem gd:aG ["line","cell","depth","marks","found","folded","mark","text","node"] ["line","cell","depth","marks"] (ay oq):=eP
theorem Mc(F:bG K mg "node_with" oq ["line","cell","depth","marks"])(T:Txt K mg C CO CC)(iN:aZ Z 2 "number_at" ["line","start"] zB)(gc:aZ Z 2 "has_at" ["line","start","signs"] yw)(ie:aZ Z 1 "is_text" ["row"] rq)(rB:EF P w K mg base 1 "Node" C ["self","number","cell","depth","text"] (rA C)):aZ Z 3 "node_with" ["line","cell","depth","marks"] (JK C):=by
 refine F.ok gd (λvs H Q E h=>?_) (λ_ _ _ _ _ H _ Q E hr h=>?_)
 .obtain⟨_,_,_,_,_,rfl,_⟩:=h;rfl
 .obtain⟨r,m,l,cell,d,rfl,hR,hz,hM,k1,k2⟩:=h;refine⟨_,(ae (bD 4 gd (pc iN hr (aa (pv 0) (aa (bh bP (pv 2) au) ag)))) (ae (aM (PW.pt (gh (bE g7 (pv 2) au) (gh (bE gL (pv 2) (eu T)) (gh (vc (gk (pc gc hr (aa (pv 0) (aa (pv 2) (aa bO ag)))))) (gz (bE bC (pv 4) a6)))))) (aj (aw a6)) aA) (ae (eE PassesOwn.never rfl (Iv rfl T.enumerate (aa (pv 3) ag)) (nD rfl (b_ (jB 5 gd) (b_ (jB 6 gd) jE))) (ae (bD 7 gd (bo bA (pv 0) (aX (bh bP (c7 dR (pv 4) au) (fM l_ (by rfl) T.len zX (aa (pv 6) ag)))) eS)) (aj (aM (PW.pt (gZ (gk (pc gc hr (aa (pv 0) (aa (c7 dR (pv 4) au) (aa (pv 6) ag))))) (fX (gk (pc ie hr (aa (pv 7) ag)))))) (ae (bD 8 gd (rB.make (hr.mono (by decide)) rfl (aa (c7 dR (pv 4) au) (aa (pv 1) (aa (pv 2) (aa (pv 7) ag)))))) (ae (df (pv 8) (pv 5) rfl) (aj (aw (pv 8))))) aA)))) (aj (aw a6))))),?_⟩;have hed:((d:Nat):Int)+1=((d+1:Nat):Int):=by omega
  have Pe:ku (textOf l) d (tl (" ":Str))=decide (((textOf l).drop d).take 1=[32]):=by rw[pK];rfl
  have test:∀(v:V)(σ:L2.St)(H1:Hp),aD H H1->σ[0]?=some (some (.ref r))->σ[2]?=some (some (.int (d:Nat)))->σ[4]?=some (some v)->TR (MI (lG (tL (xK λi j=>V.bl (decide (i<j))) (cK 2) (tC (.int 1)))) (MI (lG (tL (xK λi j=>V.bl (decide (j<i))) (cK 2) (tC (.int 7))))
   (MI (Og (tB (pD yw [] E0 (dk (cK 0) (dk (cK 2) (dk (tC (.str " ")) k6)))))) (lG (tL (λx y H Q=>y=V.fb/\Q (V.bl (decide (x=V.fb))) H) (cK 4) (tC V.fb)))))) σ H1
   (decide ((d:Int)<1)||(decide ((7:Int)<(d:Int))||(!(decide (((textOf l).drop d).take 1=[32]))||decide (v=V.fb)))):=by
   intro v σ H1 s1 h0 h2 h4;refine TR.or (λR hR=>⟨_,h2,_,_,rfl,rfl,_,rfl,hR _ (aD.refl _)⟩) λ_ H2 s2=>TR.or (λR hR=>⟨_,h2,_,_,rfl,rfl,_,rfl,hR _ (aD.refl _)⟩) λ_ H3 s3=>TR.or (TR.not λR SK=>?_) λ_ H4 s4 R hR=>⟨_,h4,rfl,_,rfl,hR _ (aD.refl _)⟩;refine⟨_,h0,_,h2,r,l,d,_,rfl,((s1.trans s2).trans s3) _ _ hR,(by rw[pK];decide),(by rw[pK];decide),λH4 s4=>⟨_,rfl,?_⟩⟩;rw[Pe];exact SK _ s4
  have none_of:∀{b:Bool},(decide ((d:Int)<1)||(decide ((7:Int)<(d:Int))||(!(decide (((textOf l).drop d).take 1=[32]))||b)))=true->b=false->rH (textOf l) cell d=none:=by
   intro b h hb;subst hb;unfold rH;rw[ao];rw[rP,rP,rP,d8,d8,Bool.not_eq_true',m3] at h;rcases h with h|h|h|h
   .exact .inl (by omega)
   .exact .inr (.inl (by omega))
   .exact .inr (.inr h)
   .cases h
  refine⟨_,rfl,_,rfl,_,_,rfl,rfl,r,l,d+1,by show[V.ref r,V.int ((d:Int)+1)]=_;rw[hed],hR,hz,λhn H1 s1=>?_,λn len hn H1 t s1 ht=>?_⟩
  ·
   have hw:rH (textOf l) cell d=none:=by unfold rH;rw[hn];split<;>rfl
   dsimp only[fK,kD];refine TR.Kc (test .fb _ H1 s1 rfl rfl rfl) (λh H2 s2=>k1 hw _ (s1.trans s2)) (λh H2 s2=>?_);exfalso;rw[aR (p:=V.fb=V.fb) rfl] at h;simp at h
  .dsimp only[fK,kD];refine TR.Kc (test (.ref t) _ H1 s1 rfl rfl rfl) (λh H2 s2=>k1 (none_of h (cR (by intro q;cases q))) _ (s1.trans s2)) (λh H2 s2=>?_);rw[cR (p:=V.ref t=V.fb) (by intro q;cases q)] at h;rw[Mv,Mv,Mv,m3,m3,Bool.not_eq_false',d8] at h;obtain⟨g1,g2,g3,_⟩:=h;have hw:rH (textOf l) cell d=t_ cell d n ((textOf l).drop (d+1+len)) (fi cell) 0:=by unfold rH;rw[hn,ak (by rintro(q|q|q);omega;omega;exact q g3),<-Dh]
   rw[hw] at k1 k2;have xg:=s1.trans s2;have PJ:=s2 _ _ ht;refine⟨_,rfl,m,_,rfl,iu.of (xg _ _ hM),FW (K:=K) (a:=m) (xs:=(fi cell).map V.str) (λi σ H'=>∃(v5 v6 v7:Option V),σ=[some (.ref r),some (.int (b2 cell)),some (.int (d:Nat)),some (.ref m),some (.ref t),v5,v6,v7,none]/\aD H2 H'/\t_ cell d n ((textOf l).drop (d+1+len)) (fi cell) 0=t_ cell d n ((textOf l).drop (d+1+len)) ((fi cell).drop i) i)
    ⟨none,none,none,rfl,aD.refl _,rfl⟩ (λi σ H' _ ⟨_,_,_,_,s3,_⟩=>iu.of ((xg.trans s3) _ _ hM)) ?_ ?_⟩
   .rintro i y σ H' tt hi ⟨v5,v6,v7,rfl,s3,QS⟩ Dc;obtain⟨x,hx,rfl⟩:=get_map hi;have Ka:=cJ hx;obtain⟨hx3,SM,hxl⟩:=Gs Ka;have Ir:i<2:=dH (dm.mp hx).1 (Gu cell);have yV:(fi cell).drop i=x::(fi cell).drop (i+1):=by rw[rQ (dm.mp hx).1,(dm.mp hx).2]
    rw[yV] at QS;have s4:=s3.new Dc (u:= .tup [.int (i:Nat),.str x]);have So:=(xg.trans s4) _ _ hR;have Uw:=s4 _ _ PJ;refine⟨tt,_,rfl,iu.of ah,rfl,_,_,rfl,_,_,rfl,rfl,?_⟩;refine⟨_,rfl,_,rfl,t,_,_,_,rfl,rfl,iu.of Uw,bU (j:=1) rfl,_,rfl,x,rfl,dC (by omega),_,_,rfl,rfl,_,rfl,r,_,rfl,bf.of So,λp hp=>?_⟩;generalize SN:d+1+len=ps at*;have sR:d_ (aU l) (some ((ps:Nat)+(x.length:Nat):Int)) none=aU (l.drop (ps+(tl x).length)):=by rw[show((ps:Nat)+(x.length:Nat):Int)=((ps+(tl x).length:Nat):Int) by omega,Gr];unfold aU;rw[jR]
    rw[sR];have s5:=s4.new hp (u:= .lst (aU (l.drop (ps+(tl x).length))));dsimp only[fK,kD];refine TR.ifB (b:=(ku ((textOf l).drop ps) 0 (tl x))&&goodText (textOf (l.drop (ps+(tl x).length)))) ?_ (λh H5 s6=>?_) (λh H5 s6=>?_)
    .refine TR.and (λR SK=>⟨_,rfl,_,rfl,t,_,_,_,rfl,rfl,iu.of (s5 _ _ PJ),bU (j:=1) rfl,_,rfl,r,l,ps,x,rfl,(xg.trans s5) _ _ hR,by omega,SM,λH6 s6=>⟨_,rfl,SK _ s6⟩⟩) λ_ H6 s6 R SK=>⟨_,rfl,p,_,rfl,s6 _ _ ah,?_,λH7 s7=>⟨_,rfl,?_⟩⟩
     .rw[dD];omega
     .rw[pJ];exact SK _ s7
    .rw[uQ] at h;have Ie:isText (l.drop (ps+(tl x).length))=true:=by rw[pJ];exact h.2
     have Ux:((textOf l).drop ps).drop (tl x).length=textOf (l.drop (ps+(tl x).length)):=by rw[ni,dJ,dJ,jR]
     have Wx:t_ cell d n ((textOf l).drop ps) (fi cell) 0=some ⟨n,d,cell,i==1,textOf (l.drop (ps+(tl x).length))⟩:=by rw[QS];show(if _ then _ else _)=_;rw[ao ⟨h.1,by rw[Ux];exact h.2⟩,Ux]
     have s7:=s5.trans s6;refine⟨_,rfl,t,_,_,_,rfl,rfl,iu.of (s7 _ _ PJ),bU (j:=0) rfl,_,rfl,_,rfl,_,rfl,λxa xd hx F9 fk=>⟨xa,xd,_,_,_,p,rfl,ah,λH7 h7 hk=>⟨rfl,?_⟩⟩⟩;have s8:aD H5 H7:=pd hx F9 hk;refine⟨_,rfl,_,rfl,xa,C,xd,_,rfl,h7,T.cl,T.mC,(by show 5<1000;decide),?_⟩;have s9:=(xg.trans s7).trans s8;have Ny:H xa=none:=(xg.trans s7).free hx;refine⟨_,rfl,k2 _ Wx _ xa (s9.put Ny) ⟨Ny,xd,p,?_,?_,(xg.trans s4).free hp⟩⟩
     .rw[ah];have hb:((i:Nat):Int)=b2 (i==1):=by rcases(by omega:i=0\/i=1) with rfl|rfl<;>rfl
      rw[hb];rfl
     .have Wz:p≠xa:=λq=>by have:=s6 _ _ (ah (H:=_) (a:=p));rw[q,hx] at this;cases this
      rw[az Wz,s8 _ _ (s6 _ _ ah),gO,kM Ie]
    .refine⟨_,_,_,rfl,s5.trans s6,?_⟩;rw[QS];show(if _ then _ else _)=_;rw[ak];rintro⟨q1,q2⟩;have Ux:((textOf l).drop ps).drop (tl x).length=textOf (l.drop (ps+(tl x).length)):=by rw[ni,dJ,dJ,jR]
     rw[Ux] at q2;rw[q1,q2] at h;cases h
   .rintro σ H' ⟨v5,v6,v7,rfl,s3,QS⟩;rw[aT,Kk] at QS;exact k1 QS _ (xg.trans s3)
theorem zD(L:List Nat):nZ L=rH L (ku L 0 [61]) (sE L (if ku L 0 [61]=true then 61 else 35)):=by
 have e:ku L 0 [61]=decide (signOf L=61):=by
  unfold ku signOf;rw[qM];cases L with
  |nil=>simp
  |cons c r=>by_cases h:c=61<;>simp[h]
 have e2:(if ku L 0 [61]=true then 61 else 35)=signOf L:=by rw[e];unfold signOf;split<;>simp_all
 rw[e2,e];rfl
def BK(C:Addr):Sp:=λvs H Q _=>∃(r:Addr)(l:List Int),vs=[.ref r]/\H r=some (.lst (aU l))/\l.length<=10000/\
 (nZ (textOf l)=none->∀H',aD H H'->Q .fb H')/\∀x,nZ (textOf l)=some x->∀H' a,aD H H'->mM C H H' a x->Q (.ref a) H'
theorem yy:tl ("=":Str)=[61]:=by decide+kernel
theorem uO:tl ("#":Str)=[35]:=by decide+kernel
theorem Di:aG ["line"] ["line"] (ay sN):=eP
theorem Gv(F:bG K mg "node_in" sN ["line"])(T:Txt K mg C CO CC)(mO:aZ Z 3 "node_with" ["line","cell","depth","marks"] (JK C))(gc:aZ Z 2 "has_at" ["line","start","signs"] yw)(pk:aZ Z 3 "depth_in" ["line","sign"] EX):aZ Z 4 "node_in" ["line"] (BK C):=by
 refine F.ok Di (λvs H Q E h=>?_) (λ_ _ _ _ _ H _ Q E hr h=>?_)
 .obtain⟨_,_,rfl,_⟩:=h;rfl
 .obtain⟨r,l,rfl,hR,hz,k1,k2⟩:=h;refine⟨_,(ae (aM (gk (pc gc hr (aa (pv 0) (aa au (aa (kQ rfl (T.gs rfl)) ag))))) (aj (aw (pc mO hr (aa (pv 0) (aa au (aa (pc pk hr (aa (pv 0) (aa (kQ rfl (T.gs rfl)) ag))) (aa (l9 (aa (kQ rfl (T.gs rfl)) ag)) ag))))))) aA) (aj (aw (pc mO hr (aa (pv 0) (aa au (aa (pc pk hr (aa (pv 0) (aa (kQ rfl (T.gs rfl)) ag))) (aa (l9 (aa (kQ rfl (T.gs rfl)) (aa (kQ rfl (T.gs rfl)) ag))) ag)))))))),?_⟩;have e0:=zD (textOf l);refine⟨_,rfl,r,l,0,_,rfl,hR,(by rw[yy];decide),(by rw[yy];decide),λH1 s1=>⟨_,rfl,?_⟩⟩;rw[yy];cases hh:ku (textOf l) 0 [61] with
  |true=>rw[hh,ao rfl] at e0;rw[e0] at k1 k2;refine eG ?_;refine⟨_,rfl,_,rfl,r,l,_,61,rfl,yy,by decide,s1 _ _ hR,hz,λH2 s2=>⟨aW,λp hp=>?_⟩⟩;have s3:=(s1.trans s2).new hp (u:= .tup [V.str " "]);exact⟨r,p,l,true,_,rfl,s3 _ _ hR,hz,ah,λh H' s4=>k1 h _ (s3.trans s4),λx h H' a s4 hn=>k2 x h _ a (s3.trans s4) (hn.back s3)⟩
  |false=>rw[hh,ak (by decide)] at e0;rw[e0] at k1 k2;refine fJ ?_;refine⟨_,rfl,_,rfl,r,l,_,35,rfl,uO,by decide,s1 _ _ hR,hz,λH2 s2=>⟨(by show 2<=sizeLine;decide),λp hp=>?_⟩⟩;have s3:=(s1.trans s2).new hp (u:= .tup [V.str " + ",V.str " - "]);exact⟨r,p,l,false,_,rfl,s3 _ _ hR,hz,ah,λh H' s4=>k1 h _ (s3.trans s4),λx h H' a s4 hn=>k2 x h _ a (s3.trans s4) (hn.back s3)⟩
def ua(s:Vanbkn.State)(L:List Nat):Nat:=match nZ L with
 |none=>2
 |some x=>nodeFault s.next s.nodes x
def yz(s:Vanbkn.State)(L:List Nat):Vanbkn.State:=match nZ L with
 |none=>s
 |some x=>if nodeFault s.next s.nodes x=0 then⟨s.nodes++[x],s.next⟩ else s
theorem Gw(h:nodeFault n o x=0):o.length<60:=by
 rw[mm] at h;split at h
 .cases h
 .split at h
  .cases h
  .split at h
   .cases h
   .omega
theorem NL.push{a t:Addr}(N:NL C H l as o)(hz:o.length<1000)(h1:H a=some (.ins C dx (nf x t)))(h2:H t=some (.lst (aI x.text)))(ht:t≠l):NL C (upd H l (.lst (as.map V.ref++[V.ref a]))) l (as++[a]) (o++[x]):=by
 refine⟨by rw[ah,cX];rfl,by rw[bb,bb,N.len];rfl,by rw[bb];exact hz,λi b y hb hy=>?_⟩;have Gx:=N.lst;have keep:∀{c:Addr}{y:Nd},bW C H c y->as≠[]->bW C (upd H l (.lst (as.map V.ref++[V.ref a]))) c y:=λ{c y} ⟨vj,t',g1,g2⟩ fk=>by
  refine⟨vj,t',?_,?_⟩
  .rw[az (λq=>by rw[q,Gx] at g1;cases g1)];exact g1
  .rw[az (λq=>?_)]
   .exact g2
   .rw[q,Gx] at g2;injection g2 with g2;injection g2 with g2;cases as with
    |nil=>exact fk rfl
    |cons c cs=>
     cases hy:y.text with
     |nil=>rw[hy] at g2;cases g2
     |cons z zs=>rw[hy] at g2;cases g2
 by_cases hi:i<as.length
 .rw[nv hi] at hb;rw[nv (by rw[<-N.len];exact hi)] at hy;exact keep (N.at_ i b y hb hy) (λq=>by rw[q] at hi;cases hi)
 .rw[k3 (by omega)] at hb;rw[k3 (by rw[<-N.len];omega),<-N.len] at hy;cases e:i - as.length with
  |zero=>rw[e] at hb hy;cases hb;cases hy;exact⟨dx,t,by rw[az (λq=>by rw[q,Gx] at h1;cases h1)];exact h1,by rw[az ht];exact h2⟩
  |succ n=>rw[e] at hb;simp at hb
def E2(C CO:Addr):Sp:=λvs H Q _=>∃(ob dx l r:Addr)(as:List Addr)(s:Vanbkn.State)(t:List Int),vs=[.ref ob,.ref r]/\ba C CO H ob dx l as s/\H r=some (.lst (aU t))/\t.length<=10000/\s.next<=1000/\
 ∀H' kq,ql [l] H H'->ba C CO H' ob dx l kq (yz s (textOf t))->Q (.int ((ua s (textOf t):Nat):Int)) H'
theorem ik:aG ["outline","line","node","fault"] ["outline","line"] (ay iE):=eP
theorem JL(F:bG K mg "take_node_line" iE ["outline","line"])(T:Txt K mg C CO CC)(wO:aZ Z 4 "node_in" ["line"] (BK C))(oR:aZ Z 2 "node_fault" ["outline","node"] (EZ C CO)):aZ Z 5 "take_node_line" ["outline","line"] (E2 C CO):=by
 refine F.ok ik (λvs H Q E h=>?_) (λ_ _ _ _ _ H _ Q E hr h=>?_)
 .obtain⟨_,_,_,_,_,_,_,rfl,_⟩:=h;rfl
 .obtain⟨ob,dx,l,r,as,st,t,rfl,O,hR,hz,xc,k⟩:=h;refine⟨_,(ae (bD 2 ik (pc wO hr (aa (pv 1) ag))) (ae (aM (bE bC (pv 2) a6) (aj (aw (eu T))) aA) (ae (bD 3 ik (pc oR hr (aa (pv 0) (aa (pv 2) ag)))) (ae (aM (bE bw (pv 3) au) (aj (bF (eY eN iZ i0 cy (aB (pv 0) rfl) (aa (pv 2) ag)))) aA) (aj (aw (pv 3))))))),?_⟩;unfold yz ua at k;refine⟨_,rfl,r,t,rfl,hR,hz,λhn H1 s1=>?_,λx hx H1 a s1 hW=>?_⟩
  .rw[hn] at k;refine⟨_,rfl,rfl,_,rfl,?_⟩;exact aK (λ_=>k _ as (ql.of_same s1) (O.same s1)) (λh=>absurd rfl h)
  .rw[hx] at k;dsimp only at k;refine⟨_,rfl,rfl,_,rfl,?_⟩;refine aK (λh=>nomatch (aH h)) (λ_=>?_);have hN:=hW.at_;refine⟨_,rfl,_,rfl,ob,dx,l,a,as,st,x,rfl,O.same s1,hN,xc,λH2 s2=>?_⟩;have xg:=s1.trans s2;have O2:=O.same xg;have hN2:=hN.same s2;dsimp only[fK,kD];refine TR.Kc (b:=decide (nodeFault st.next st.nodes x=0)) (λR hR=>⟨_,rfl,rfl,_,rfl,?_⟩) (λh H3 s3=>?_) (λh H3 s3=>?_)
   .have e:decide (V.int ((nodeFault st.next st.nodes x:Nat):Int)=V.int 0)=decide (nodeFault st.next st.nodes x=0):=by
     rw[qM];constructor
     .intro h;injection h with h;omega
     .intro h;rw[h];rfl
    rw[e];exact hR _ (aD.refl _)
   .have h:=aH h;have O3:=O2.same s3;have hN3:=hN2.same s3;refine⟨_,rfl,ob,CO,dx,_,_,rfl,O3.at_,T.zF,T.j7,rfl,.inl ⟨rfl,_,bf.of O3.N.lst⟩,_,rfl,l,_,_,rfl,rfl,O3.N.lst,O3.N.sz,?_⟩;rw[ao h] at k;obtain⟨Ui,xd,tx,g1,g2,g3⟩:=hW;have Nu:tx≠l:=λq=>by rw[q,O.N.lst] at g3;cases g3
    have Yh:=s2.trans s3;have N4:=O3.N.push (by have:=Gw h;omega) (Yh _ _ g1) (Yh _ _ g2) Nu;have Sw:ob≠l:=λq=>by have:=O3.N.lst;rw[<-q,O3.at_] at this;cases this
    refine⟨_,rfl,k _ (as++[a]) (ql.qr (xg.trans s3) mH) ⟨by rw[az Sw];exact O3.at_,N4⟩⟩
   .have h:=cI (by rw[h];decide);rw[ak h] at k;exact⟨_,rfl,k _ as (ql.of_same (xg.trans s3)) (O2.same s3)⟩
def BL(i:Nat)(s:Vanbkn.State)(ls:List (List Nat)):Except (Nat×Nat) Vanbkn.State:=match readNodes s.next i s.nodes ls with
 | .ok o=> .ok ⟨o,s.next⟩
 | .error f=> .error f
theorem Dj{T:List Nat}{l:List Nat}{r:List (List Nat)}(h:Vanbkn.linesOf T=l::m::r):(mL l≠0->Vanbkn.load T= .error (mL l,0))/\(mL l=0->∀n,1<=sX l n/\sX l n<=1000/\Vanbkn.load T=BL 1 ⟨[],sX l n⟩ (m::r)):=by
 unfold Vanbkn.load sX;rw[h];dsimp only;unfold mL;cases e:firstLine l with
 |none=>exact⟨λ_=>rfl,λq=>by cases q⟩
 |some n=>
  by_cases hn:n<1\/1000<n
  .have Rh:n=0\/1000<n:=by omega
   refine⟨λ_=>?_,λq=>?_⟩
   .dsimp only;rw[ao Rh,ao hn]
   .dsimp only at q;rw[ao hn] at q;cases q
  .have Rh:¬(n=0\/1000<n):=by omega
   refine⟨λq=>?_,λq m=>?_⟩
   .dsimp only at q;rw[ak hn] at q;exact absurd rfl q
   .simp only[ak hn,ao,ak Rh,u4];refine⟨by omega,by omega,rfl⟩
theorem JM{l:List Nat}{r:List (List Nat)}:(ua s l≠0->BL i s (l::m::r)= .error (ua s l,i))/\(ua s l=0->BL i s (l::m::r)=BL (i+1) (yz s l) (m::r)):=by
 unfold BL ua yz;have e:readNodes s.next i s.nodes (l::m::r)=match readNode l with
  |none=> .error (2,i)
  |some x=>if nodeFault s.next s.nodes x≠0 then .error (nodeFault s.next s.nodes x,i) else readNodes s.next (i+1) (s.nodes++[x]) (m::r):=by
  conv=>lhs;unfold readNodes
  rfl
 rw[e,yc];cases nZ l with
 |none=>exact⟨λ_=>rfl,λq=>by cases q⟩
 |some x=>
  dsimp only;by_cases hf:nodeFault s.next s.nodes x=0
  .refine⟨λq=>absurd hf q,λ_=>?_⟩;rw[ak (λq=>q hf),ao hf]
  .refine⟨λ_=>?_,λq=>absurd q hf⟩;rw[ao hf]
theorem BM{l:List Nat}:BL i s [l]=if l.length=0 then .ok s else .error (1,i):=by
 unfold BL;rw[readNodes];cases l with
 |nil=>rfl
 |cons a b=>rfl
theorem wQ(s:Vanbkn.State)(L:List Nat):(yz s L).next=s.next:=by
 unfold yz;split
 .rfl
 .split<;>rfl
def JN(C CO:Addr):Sp:=λvs H Q _=>∃(ob dx l r:Addr)(as:List Addr)(s:Vanbkn.State)(t:List Int),vs=[.ref ob,.ref r]/\ba C CO H ob dx l as s/\Wf s/\H r=some (.lst (aU t))/\t.length<=10000/\ek C CO H ob (Vanbkn.step s (.load t)) Q
theorem yA(s:Vanbkn.State)(t:List Int):Vanbkn.step s (.load t)=match Vanbkn.load (textOf t) with
 | .ok u=>(u,(⟨0,[]⟩:Answer))
 | .error f=>(s,⟨ofNat f.1,[ofNat f.2]⟩):=rfl
theorem ql.JO(h:ql S H1 H2)(s:aD H H1)(hS:∀b∈S,H b=none):aD H H2:=λb u e=>h b u (s b u e) λq=>by rw[hS b q] at e;cases e
theorem Rows.but(h:Rows H p as ls)(b:ql S H H')(hp:p∉S)(ha:∀a∈as,a∉S):Rows H' p as ls:=⟨b _ _ h.lst hp,h.len,λi a l hi hl=>b _ _ (h.at_ i a l hi hl) (ha a (cJ hi))⟩
theorem dg:aG ["outline","row","loaded","lines","rest","place","line","fault"] ["outline","row"] (ay j5):=eP
theorem Md(F:bG K mg "load_outline" j5 ["outline","row"])(T:Txt K mg C CO CC)(lZ:EF P w K mg base 1 "Outline" CO ["self"] (zt CO))(sY:aZ Z 1 "lines_of" ["row"] EV)(iO:aZ Z 4 "take_first_line" ["outline","line"] (E1 C CO))(jt:aZ Z 5 "take_node_line" ["outline","line"] (E2 C CO)):aZ Z 6 "load_outline" ["outline","row"] (JN C CO):=by
 refine F.ok dg (λvs H Q E h=>?_) (λ_ _ _ _ _ H _ Q E hr h=>?_)
 .obtain⟨_,_,_,_,_,_,_,rfl,_⟩:=h;rfl
 .obtain⟨ob,dx,l,r,as,st,t,rfl,O,W,hR,hz,k⟩:=h;rw[yA] at k;refine⟨_,(ae (bD 2 dg (lZ.M4 (hr.mono (by decide)) rfl)) (ae (bD 3 dg (pc sY hr (aa (pv 1) ag))) (ae (bD 4 dg (Oy eN PySem.F.slot_list_pop PySem.F.type_list_pop OB (pv 3))) (ae (eE PassesOwn.never rfl (yS rfl T.enumerate (aa (pv 3) ag)) (nD rfl (b_ (jB 5 dg) (b_ (jB 6 dg) jE))) (ae (bD 7 dg (g0 (bE bw (pv 5) au) (pc iO hr (aa (pv 2) (aa (pv 6) ag))) (pc jt hr (aa (pv 2) (aa (pv 6) ag))))) (aj (aM (bE lF (pv 7) au) (aj (aw (aL (aa (pv 7) (aa (pv 5) ag))))) aA)))) (ae (aM (PW.pt (gh (bE gL (o_ T (aa (pv 4) ag)) au) (gz (bE bw (o_ T (aa (pv 3) ag)) au)))) (aj (aw (aL (aa (eu T) (aa (o_ T (aa (pv 3) ag)) ag))))) aA) (ae (df (pv 0) (aB (pv 2) rfl) rfl) (ae (df (pv 0) (aB (pv 2) rfl) rfl) (aj (aw (aL (aa au ag))))))))))),?_⟩;refineλxo xd hx F9 fk=>⟨xo,xd,rfl,ah,λH2 l2 B6 P8 h1 h2 hk=>⟨rfl,?_⟩⟩;have P9:l2≠xd:=λq=>by rw[q,az fk,ah] at B6;cases B6
  have Me:H l2=none:=by rw[az P8,az P9] at B6;exact B6
  have s2:aD H H2:=λb o e=>by have b1:=bc e hx;have b2:=bc e F9;have b3:=bc e Me;rw[hk b b1 b3,az b1,az b2];exact e
  have OL:ba C CO H2 xo xd l2 [] ⟨[],1⟩:=⟨h2,⟨h1,rfl,by simp,by simp⟩⟩;refine⟨_,rfl,r,t,rfl,s2 _ _ hR,by omega,λH3 p ps s3 RW hp Kb Fx=>?_⟩;obtain⟨BN,pl,rfl⟩:∃BN pl,ps=BN++[pl]:=by
   have fk:ps≠[]:=λq=>by have:=RW.len;obtain⟨a,b,e⟩:=f7 t;rw[q,e] at this;cases this
   exact⟨_,_,(NI fk).symm⟩
  have QT:=t9 t;generalize Uk:(bg t).dropLast=ls at QT;generalize hla:(bg t).getLastD []=la at QT;have Jz:∀x∈ls++[la],x.length<=10000:=λx hx=>by have:=oN t x (by rw[QT];exact hx);omega
  have SJ:ls.length<=10000:=by have:=kY t;rw[QT,bb] at this;have:ls.length+1<=t.length+1:=this;omega
  have Yi:Vanbkn.linesOf (textOf t)=ls.map textOf++[textOf la]:=by rw[<-vX,QT,cX];rfl
  rw[QT] at RW;have hlen:BN.length=ls.length:=by have:=RW.len;rw[bb,bb] at this;exact Nat.succ.inj this
  have JP:H3 p=some (.lst (BN.map V.ref++[V.ref pl])):=by rw[RW.lst,cX];rfl
  refine⟨_,rfl,.inl ⟨rfl,_,bf.of JP⟩,p,_,.ref pl,rfl,rfl,JP,(by simp),?_⟩;rw[NH];have SO:∀a∈BN++[pl],a≠p:=λa ha q=>Kb (q▸ha);have WA:p≠l2:=λq=>by rw[q,h1] at hp;cases hp
  have WB:p≠xo:=λq=>by rw[q,h2] at hp;cases hp
  have SQ:∀a∈BN++[pl],a≠l2:=λa ha q=>by have:=Fx a ha;rw[q,h1] at this;cases this
  have SR:∀a∈BN++[pl],a≠xo:=λa ha q=>by have:=Fx a ha;rw[q,h2] at this;cases this
  have s4:aD H2 (upd H3 p (.lst (BN.map V.ref))):=s3.put hp;have L9:Rows (upd H3 p (.lst (BN.map V.ref))) p BN ls:=⟨ah,hlen,λi a x ha hx=>by
   rw[az (SO a (dA _ (cJ ha)))];refine RW.at_ i a x ?_ ?_
   .rw[nv (dm.mp ha).1];exact ha
   .rw[nv (dm.mp hx).1];exact hx⟩
  have SS:(upd H3 p (.lst (BN.map V.ref))) pl=some (.lst (aU la)):=by
   rw[az (SO pl (by simp))];refine RW.at_ BN.length pl la ?_ ?_
   .rw[k3 (aS _),tI];rfl
   .rw[hlen,k3 (aS _),tI];rfl
  generalize upd H3 p (.lst (BN.map V.ref))=H4 at s4 L9 SS;clear JP RW;refine⟨_,rfl,p,_,rfl,bf.of L9.lst,wg (K:=K) (a:=p) (xs:=BN.map V.ref) (λi σ H'=>∃(v5 v6 v7:Option V)(kq:List Addr)(s':Vanbkn.State),σ=[some (.ref ob),some (.ref r),some (.ref xo),some (.ref p),some (.ref pl),v5,v6,v7]/\aD H H'/\ba C CO H' xo xd l2 kq s'/\Rows H' p BN ls/\H' pl=some (.lst (aU la))/\
   ((i=0/\s'=⟨[],1⟩)\/(1<=i/\1<=s'.next/\s'.next<=1000/\Vanbkn.load (textOf t)=BL i s' ((ls.map textOf++[textOf la]).drop i))))
   ⟨none,none,none,[],⟨[],1⟩,rfl,s2.trans s4,OL.same s4,L9,SS,.inl ⟨rfl,rfl⟩⟩ (λi σ H' _ ⟨_,_,_,_,_,_,_,_,Fu,_⟩=>bf.of Fu.lst) ?_ ?_⟩
  .rintro i y σ H' tt hi ⟨v5,v6,v7,kq,s',rfl,s5,O5,Uy,P_,m5⟩ Dc;obtain⟨a,ha,rfl⟩:=get_map hi;have m6:i<ls.length:=by rw[<-hlen];exact(dm.mp ha).1
   have Sb:ls[i]?=some ls[i]:=c_ m6;have ham:a∈BN:=cJ ha;obtain⟨m,rr,yV⟩:∃m rr,(ls.map textOf++[textOf la]).drop (i+1)=m::rr:=by
    cases e:(ls.map textOf++[textOf la]).drop (i+1) with
    |nil=>have:=da List.length e;simp at this;omega
    |cons m rr=>exact⟨m,rr,rfl⟩
   have SU:(ls.map textOf++[textOf la]).drop i=textOf ls[i]::m::rr:=by rw[<-yV,rQ (by simp;omega)];congr 1;rw[List.getElem_append_left (by simpa using m6),GV]
   have s6:=aE Dc (u:= .tup [.int (i:Nat),.ref a]);have O6:=O5.same s6;have WC:=Uy.same s6;have SV:=s6 _ _ P_;have Yj:=s5.trans s6;have Yk:=WC.at_ i a _ ha Sb;have Uz:ls[i].length<=10000:=Jz _ (dA _ (NU m6));refine⟨tt,_,rfl,iu.of ah,rfl,_,_,rfl,_,_,rfl,rfl,?_⟩;generalize upd H' tt (.tup [.int (i:Nat),.ref a])=H6 at*;refine⟨_,rfl,rfl,_,rfl,?_⟩;have yB:∀(fl:Nat)(H7:Hp),aD H H7->Vanbkn.load (textOf t)= .error (fl,i)->2<=sizeLine/\∀q,H7 q=none->Q (.ref q) (upd H7 q (.lst [.int (fl:Nat),.int (i:Nat)])):=λfl H7 s7 e=>⟨by decide,λq hq=>by rw[e] at k;exact k.told O rfl (s7.new hq) ah rfl⟩
   rcases m5 with⟨rfl,rfl⟩|⟨Yl,GJ,Ad,ub⟩
   .refine aK (λ_=>?_) (λh=>absurd rfl h);obtain⟨f1,f2⟩:=Dj (T:=textOf t) (l:=textOf ls[0]) (m:=m) (r:=rr) (by rw[Yi];exact SU);refine⟨_,rfl,_,rfl,xo,xd,l2,a,kq,_,ls[0],rfl,O6,Yk,Uz,λH7 b7 O7=>?_⟩;have s7:aD H H7:=b7.JO Yj (λb hb=>by simp at hb;rw[hb];exact hx);refine⟨_,rfl,rfl,_,rfl,?_⟩;by_cases hf:mL (textOf ls[0])=0
    .rw[hf];refine aK (λh=>by cases h) (λ_=>?_);obtain⟨g1,g2,g3⟩:=f2 hf 1;exact⟨_,_,_,kq,_,rfl,s7,O7,WC.but b7 (by simpa using WB) (λc hc=>by simpa using SR c (dA _ hc)),b7 _ _ SV (by simpa using SR pl (by simp)),.inr ⟨aS _,g1,g2,by rw[g3,yV]⟩⟩
    .refine aK (λ_=>?_) (λh=>?_)
     .exact⟨_,rfl,_,rfl,yB _ H7 s7 (f1 hf)⟩
     .exfalso;apply h;show(!decide (V.int ((mL (textOf ls[0]):Nat):Int)=V.int 0))=true;rw[cR]
      .rfl
      .intro q;injection q with q;omega
   .refine aK (λh=>?_) (λ_=>?_)
    .exfalso;have:=aH h;injection this with this;omega
    rw[SU] at ub;obtain⟨f1,f2⟩:=JM (i:=i) (s:=s') (l:=textOf ls[i]) (m:=m) (r:=rr);refine⟨_,rfl,_,rfl,xo,xd,l2,a,kq,s',ls[i],rfl,O6,Yk,Uz,Ad,λH7 as7 b7 O7=>?_⟩;have s7:aD H H7:=b7.JO Yj (λb hb=>by simp at hb;rw[hb];exact Me);refine⟨_,rfl,rfl,_,rfl,?_⟩;by_cases hf:ua s' (textOf ls[i])=0
    .rw[hf];refine aK (λh=>by cases h) (λ_=>?_);exact⟨_,_,_,as7,_,rfl,s7,O7,WC.but b7 (by simpa using WA) (λc hc=>by simpa using SQ c (dA _ hc)),b7 _ _ SV (by simpa using SQ pl (by simp)),.inr ⟨by omega,by rw[wQ];exact GJ,by rw[wQ];exact Ad,by rw[ub,f2 hf,yV]⟩⟩
    .refine aK (λ_=>?_) (λh=>?_)
     .exact⟨_,rfl,_,rfl,yB _ H7 s7 (by rw[ub];exact f1 hf)⟩
     .exfalso;apply h;show(!decide (V.int ((ua s' (textOf ls[i]):Nat):Int)=V.int 0))=true;rw[cR]
      .rfl
      .intro q;injection q with q;omega
  .rintro σ H' ⟨v5,v6,v7,kq,s',rfl,s5,O5,Uy,P_,m5⟩;rw[aT,hlen] at m5;have pE:(BN.map V.ref).length=ls.length:=by rw[aT,hlen]
   dsimp only[fK,kD];refine TR.Kc (b:=(decide ((0:Int)<((la.length:Nat):Int))||decide (V.int ((ls.length:Nat):Int)=V.int 0))) ?_ (λh H6 s6=>?_) (λh H6 s6=>?_)
   .refine TR.or (λR hR=>⟨_,rfl,pl,_,rfl,.inl (bf.of P_),_,_,rfl,rfl,_,rfl,?_⟩) λ_ H6 s6 R hR=>⟨_,rfl,p,_,rfl,.inl (bf.of (s6 _ _ Uy.lst)),rfl,_,rfl,?_⟩
    .rw[bB];exact hR _ (aD.refl _)
    .rw[pE];exact hR _ (aD.refl _)
   ·
    have e:Vanbkn.load (textOf t)= .error (1,ls.length):=by
     rcases m5 with⟨h0,_⟩|⟨Yl,GJ,Ad,ub⟩
     .unfold Vanbkn.load;rw[Yi,zJ h0];rfl
     .rw[ub,Q1 (by simp),uS (by simp),uW,BM,ka,ak];rw[rP,d8,d8] at h;rcases h with h|h
      .omega
      .injection h with h;omega
    rw[e] at k;refine⟨_,rfl,p,_,rfl,.inl (bf.of (s6 _ _ Uy.lst)),(by show 2<=sizeLine;decide),λq hq=>?_⟩;rw[pE];exact k.told O rfl ((s5.trans s6).new hq) ah rfl
   .rw[Mv,m3,m3] at h;obtain⟨g1,g2⟩:=h;have g2:ls.length≠0:=λq=>g2 (by rw[q];rfl);rcases m5 with⟨h0,_⟩|⟨Yl,GJ,Ad,ub⟩
    .exact absurd h0 g2
    rw[Q1 (by simp),uS (by simp),uW,BM,ka,ao (by omega)] at ub;rw[ub] at k;have O6:=(O.same s5).same s6;have L6:=O5.same s6;refine⟨_,rfl,xo,CO,xd,_,_,rfl,L6.at_,T.zF,T.j7,rfl,_,rfl,ob,CO,dx,_,rfl,O6.at_,T.zF,T.j7,(by show 2<1000;decide),?_⟩;have QD:xo≠ob:=(bc O.at_ hx).symm;refine⟨_,rfl,xo,CO,xd,_,_,rfl,(by rw[az QD];exact L6.at_),T.zF,T.wj,rfl,_,rfl,ob,CO,dx,_,rfl,ah,T.zF,T.wj,(by show 2<1000;decide),?_⟩;refine⟨aW,λq hq=>?_⟩;have e2:∀(u v:HO),upd (upd H6 ob u) ob v=upd H6 ob v:=λu v=>by
     funext b;by_cases hb:b=ob
     .rw[hb,ah,ah]
     .rw[az hb,az hb,az hb]
    rw[e2] at hq⊢;have O7:=O6.put T.ne1 (s':=s') L6.N;have hF:Fr C CO H6 (upd H6 ob (.ins CO dx (yi s'.next l2))):=(mH (a:=ob)).fr (Bw O6);exact k _ q dx l2 kq (((s5.trans s6).fr.trans hF).trans (aE hq).fr) (O7.same (aE hq)) ah
theorem TR.meet{u:TS}{b:Bool}(σ':L2.St)(h:TR t σ H b)(hx:b=true->∀H',u D σ' H'->tx {D with nx:=u D} σ H')(hy:b=false->∀H',u D σ' H'->ty {D with nx:=u D} σ H')(k:∀H',aD H H'->u D σ' H'):qO (Ab t tx ty) u D σ H:=
 TR.Kc h (λe H' s=>hx e H' (k H' s)) (λe H' s=>hy e H' (k H' s))
theorem TR.val{ta tb:TE}{b:Bool}(v:V)(h:TR t σ H b)(hx:b=true->∀H',Q v H'->ta σ H' Q)(hy:b=false->∀H',Q v H'->tb σ H' Q)(k:∀H',aD H H'->Q v H'):Vb t ta tb σ H Q:=by
 refine h _ λH1 s1=>?_;cases b with
 |true=>exact eG (hx rfl H1 (k H1 s1))
 |false=>exact fJ (hy rfl H1 (k H1 s1))
theorem JQ{v:V}{u:TS}(h:u D (σ.set i (some v)) H):qO (yK (tC v) (fK i)) u D σ H:=h
theorem TR.SW{ta tb:TE}{u:TS}{b:Bool}(v:V)(h:TR t σ H b)(hx:b=true->∀H' (R:VK),R v H'->ta σ H' R)(hy:b=false->∀H' (R:VK),R v H'->tb σ H' R)(k:∀H',aD H H'->u D (σ.set i (some v)) H'):qO (yK (Vb t ta tb) (fK i)) u D σ H:=
 TR.val v h (λe H' q=>hx e H' _ q) (λe H' q=>hy e H' _ q) k
theorem JR(c:Bool):decide (V.int (b2 c)=V.int 1)=c:=by cases c<;>rfl
def uc(x:Nd):Str:=if x.cell=true then"=" else"#"
def Dk(x:Nd):Str:=if x.cell=true then" " else if x.folded=true then" - " else" + "
def yC(x:Nd):List Nat:=List.replicate x.depth (if x.cell=true then 61 else 35)++32::decimal x.number++32::(if x.cell=true then x.text else(if x.folded=true then 45 else 43)::32::x.text)
theorem sZ(x:Nd):nodeLine x=yC x++[10]:=rfl
theorem E3(x:Nd):tl (Bb (uc x) x.depth++(" ":Str)++Str.ofString (toString ((x.number:Nat):Int))++Dk x)++x.text=yC x:=by
 rw[fE,fE,fE,uI,lp,pK];unfold yC uc Dk;have e:∀c:Nat,(List.replicate x.depth [c]).flatten=List.replicate x.depth c:=λc=>by
  induction x.depth with
  |zero=>rfl
  |succ n ih=>rw[G2,B',ih];rfl
 cases hc:x.cell with
 |true=>simp only[m4,yy,pK,e];simp
 |false=>
  cases hf:x.folded with
  |true=>simp only[m4,GN,jT,uO,oQ,e];simp
  |false=>simp only[GN,jT,uO,rG,e];simp
theorem BO(x:Nd):(Dk x).length<=3:=by
 rw[dq];unfold Dk;split
 .rw[pK];decide
 .split
  .rw[oQ];decide
  .rw[rG];decide
theorem yD(x:Nd):(uc x).length=1:=by
 rw[dq];unfold uc;split
 .rw[yy];rfl
 .rw[uO];rfl
theorem len_app(x y:Str):(x++y).length=x.length+y.length:=by rw[dq,dq,dq,fE,bb]
theorem len_str(n:Nat)(h:n<1000):(Str.ofString (toString ((n:Nat):Int))).length<=3:=by rw[dq,lp];exact iS h
theorem len_rep(x:Nd):(Bb (uc x) x.depth).length=x.depth:=by have:=yD x;rw[dq] at this;rw[dq,uI,List.length_flatten,List.map_replicate,List.sum_replicate_nat,this,Nat.mul_one]
theorem s_:(" ":Str).length=1:=by rw[dq,pK];rfl
theorem BP(hd:x.depth<=7)(hn:x.number<=999)(ht:x.text.length<=60):(yC x).length<=80:=by rw[<-E3,bb,<-dq,len_app,len_app,len_app,len_rep,s_];have:=len_str x.number (by omega);have:=BO x;omega
def BQ(C:Addr):Sp:=λvs H Q _=>∃(a:Addr)(x:Nd),vs=[.ref a]/\bW C H a x/\1<=x.depth/\x.depth<=7/\x.number<=999/\x.text.length<=60/\∀H' p,aD H H'->H' p=some (.lst (aI (yC x)))->H p=none->Q (.ref p) H'
theorem ke:aG ["node","sign","before_text"] ["node"] (ay sM):=eP
theorem Mf(F:bG K mg "line_of" sM ["node"])(T:Txt K mg C CO CC)(cF:aZ Z 1 "bytes_of" ["signs"] pb):aZ Z 2 "line_of" ["node"] (BQ C):=by
 refine F.ok ke (λvs H Q E h=>?_) (λ_ _ _ _ _ H _ Q E hr h=>?_)
 .obtain⟨_,_,rfl,_⟩:=h;rfl
 .obtain⟨a,x,rfl,N,P5,hd7,hn,ht,k⟩:=h;refine⟨_,(ae (bD 1 ke (kQ rfl (T.gs rfl))) (ae (bD 2 ke (g0 (bE bw (aB (pv 0) rfl) au) (kQ rfl (T.gs rfl)) (kQ rfl (T.gs rfl)))) (ae (aM (bE bw (aB (pv 0) rfl) au) (ae (bD 1 ke (kQ rfl (T.gs rfl))) (aj (bD 2 ke (kQ rfl (T.gs rfl))))) aA) (aj (aw (bh g9 (pc cF hr (aa (bh jV (bh jV (bh jV (bh Lg (pv 1) (aB (pv 0) rfl)) bO) (lH g8 (by rfl) T.str we (aa (aB (pv 0) rfl) ag))) (pv 2)) ag)) (aB (pv 0) rfl))))))),?_⟩;have hs1:=yD x;have hb3:=BO x;have SG:=len_str x.number (by omega);have hr:=len_rep x;refine JQ ?_;refine TR.SW (b:=x.folded) (V.str (if x.folded=true then" - " else" + ")) (λR hR=>⟨_,rfl,iJ T N ⟨rfl,_,rfl,by rw[JR];exact hR _ (aD.refl _)⟩⟩) (λe H' R q=>by rw[e] at q;exact q) (λe H' R q=>by rw[e] at q;exact q) λH1 s1=>?_;have N1:=N.same s1;dsimp only[fK,kD];refine TR.meet (b:=x.cell) [some (.ref a),some (.str (uc x)),some (.str (Dk x))] (λR hR=>⟨_,rfl,fH T N1 ⟨rfl,_,rfl,by rw[JR];exact hR _ (aD.refl _)⟩⟩) (λe H' q=>?_) (λe H' q=>?_) λH2 s2=>?_
  .unfold uc Dk at q;simp only[e,m4] at q;exact q
  .unfold uc Dk at q;simp only[e,GN,jT] at q;exact q
  have N2:=N1.same s2;have xg:=s1.trans s2;refine⟨_,rfl,_,rfl,bp T N2 ⟨_,x.depth,rfl,rfl,P5,by omega,by omega,_,_,rfl,rfl,?_,_,rfl,bX T N2 ⟨_,rfl,wt (by omega),_,_,rfl,rfl,?_,_,rfl,_,_,rfl,rfl,?_,_,rfl,?_,λH3 p s3 hp Bj=>?_⟩⟩⟩
  .exact dC (by rw[hr,s_];omega)
  .exact dC (by rw[len_app,hr,s_];omega)
  .exact dC (by rw[len_app,len_app,hr,s_];omega)
  .rw[<-dq,len_app,len_app,len_app,hr,s_];omega
  .refine⟨_,rfl,iT T (N2.same s3) λtx pH=>⟨p,tx,_,_,rfl,rfl,hp,pH,?_,λq hq=>?_⟩⟩
   .rw[aF,aF,<-dq,len_app,len_app,len_app,hr,s_];exact dC (by omega)
   .refine k _ q ((xg.trans s3).new hq) ?_ ((xg.trans s3).free hq);rw[ah,<-E3];unfold aI;rw[cX]
theorem JS:∀{o:O}{m:Nat},m<=7->cH m o->(∀x∈o,Good x)->∀x∈o,x.depth<=7
 |[],_,_,_,_,x,h=>by cases h
 |y::r,m,hm,hD,hg,x,h=>by
  obtain⟨d1,d2,d3⟩:=hD;have hl:lim y<=7:=by
   unfold lim;cases hc:y.cell with
   |true=>rw[ao rfl];omega
   |false=>rw[ak (by decide)];have:=(hg y (by simp)).sec hc;omega
  rcases bZ.mp h with rfl|h
  .omega
  .exact JS hl d3 (λz hz=>hg z (bz _ hz)) x h
theorem l8.P'(W:l8 o)(x:Nd)(h:x∈o):1<=x.depth/\x.depth<=7:=⟨lN W.dep x h,JS (by decide) W.dep W.good x h⟩
theorem Dl{α β:Type}(f:α->List β){l:List α}{x:α}(h:l[i]?=some x):(l.take (i+1)).flatMap f=(l.take i).flatMap f++f x:=by rw[take_snoc h,B_];simp
theorem iP{α β:Type}(f:α->List β)(m:Nat):∀(l:List α),(∀x∈l,(f x).length<=m)->(l.flatMap f).length<=m*l.length
 |[],_=>by simp
 |x::r,h=>by have:=iP f m r λy hy=>h y (bz _ hy);have:=h x (by simp);rw[nu,bb,cn,zV];omega
theorem SX(h:n<=1000):(decimal n).length<=4:=by
 by_cases e:n=1000
 .subst e
  decide+kernel
 .have:=iS (n:=n) (by omega);omega
theorem Mg(s:Vanbkn.State):Vanbkn.step s .save=(s,tell (Vanbkn.save s)):=rfl
theorem ju:aG ["outline","saved","node"] ["outline"] (ay j4):=eP
theorem Mh(F:bG K mg "save_outline" j4 ["outline"])(T:Txt K mg C CO CC)(cF:aZ Z 1 "bytes_of" ["signs"] pb)(wR:aZ Z 2 "line_of" ["node"] (BQ C))(bu:aZ Z 1 "counted" ["row"] e_):aZ Z 3 "save_outline" ["outline"] (lr C CO .save):=by
 refine F.ok ju (λvs H Q E h=>?_) (λ_ _ _ _ _ H _ Q E hr h=>?_)
 .obtain⟨_,_,_,_,_,rfl,_⟩:=h;rfl
 .obtain⟨ob,dx,l,as,st,rfl,O,W,k⟩:=h;refine⟨_,(ae (bD 1 ju (bh g9 (pc cF hr (aa (bh jV (kQ rfl (T.gs rfl)) (lH g8 (by rfl) T.str we (aa (aB (pv 0) rfl) ag))) ag)) (aL (aa (eu T) ag)))) (ae (eE PassesOwn.never rfl (bM (aB (pv 0) rfl)) (jB 2 ju) (ae (bF (eY eN qJ qK fY (pv 1) (aa (pc wR hr (aa (pv 2) ag)) ag))) (aj (bF (eY eN iZ i0 cy (pv 1) (aa (eu T) ag)))))) (aj (aw (pc bu hr (aa (pv 1) ag)))))),?_⟩;rw[Mg] at k;have xc:st.next<=1000:=W.nx.2;have hw:=W.n.len;have hd4:=SX xc;have e1:tl (("outline ":Str)++Str.ofString (toString ((st.next:Nat):Int)))=Vanbkn.b "outline "++decimal st.next:=by rw[fE,lp,wN]
  have hb8:(Vanbkn.b "outline ").length=8:=rfl;have Uk:(Str.ofString (toString ((st.next:Nat):Int))).length<=4:=by rw[dq,lp];exact hd4
  refine⟨_,rfl,mD T O ⟨_,rfl,wt (by omega),_,_,rfl,rfl,dC (by rw[oO];omega),_,rfl,?_,λH1 p s1 hp Bj=>⟨aW,λq hq=>?_⟩⟩⟩
  .rw[e1,bb];omega
  rw[e1] at hp;refine⟨p,q,_,_,rfl,rfl,a9 hp hq,ah,dC ?_,λv hv=>?_⟩
  .rw[aF,bb];show _+1<=_;omega
  have s2:=(s1.new hq (u:= .lst [V.int 10])).new hv (u:= .lst (aI (Vanbkn.b "outline "++decimal st.next)++[V.int 10]));have Ym:H v=none:=(s1.new hq).free hv;have Pn:∀x∈st.nodes,(yC x).length<=80:=λx hx=>by have:=W.n.good x hx;have:=W.n.P' x hx;exact BP (by omega) (W.n.good x hx).num.2 (W.n.good x hx).txt.1
  have hf:∀i,((st.nodes.take i).flatMap nodeLine).length<=81*st.nodes.length:=λi=>bq (iP nodeLine 81 _ λx hx=>by
   have hx:=kx hx;rw[sZ,bb];have:=Pn x hx;show _+1<=81
   omega) (DS _ (by rw[bj];exact zU _ _))
  have hf:∀i,((st.nodes.take i).flatMap nodeLine).length<=4860:=λi=>bq (hf i) (bq (DS _ hw) (by decide));have O2:=O.same s2;refine⟨_,rfl,aV T O2 ⟨l,rfl,⟨_,bf.of O2.N.lst⟩,dI (K:=K) (a:=l) (xs:=as.map V.ref) (λi σ H'=>∃v2:Option V,σ=[some (.ref ob),some (.ref v),v2]/\aD H H'/\H' v=some (.lst (aI (Vanbkn.b "outline "++decimal st.next++10::(st.nodes.take i).flatMap nodeLine))))
   ⟨none,rfl,s2,?_⟩ (λi σ H' _ ⟨_,_,s5,_⟩=>bf.of (s5 _ _ O.N.lst)) ?_ ?_⟩⟩
  .rw[ah];unfold aI;simp
  .rintro i y σ H' hi ⟨v2,rfl,s5,hB⟩;obtain⟨c,x,rfl,hc,hx,hn⟩:=O.N.item hi;have Ka:=cJ hx;have hg:=W.n.good x Ka;have hd:=W.n.P' x Ka;have QN:=hf i;have hl8:=Pn x Ka;generalize hA:Vanbkn.b "outline "++decimal st.next++10::(st.nodes.take i).flatMap nodeLine=A0 at hB;have hA0:A0.length<=5000:=by rw[<-hA,bb,bb,cn];omega
   refine⟨_,rfl,.inl ⟨rfl,_,bf.of hB⟩,_,rfl,c,x,rfl,hn.same s5,hd.1,hd.2,hg.num.2,hg.txt.1,λH6 p6 s6 h6 _=>?_⟩;refine⟨v,p6,_,_,rfl,rfl,s6 _ _ hB,h6,dC (by rw[aF,aF];omega),?_⟩;refine⟨_,rfl,.inl ⟨rfl,_,bf.of ah⟩,v,_,_,rfl,rfl,ah,eO (by rw[bb,aF,aF];omega),?_⟩;refine⟨_,rfl,((s5.trans s6).put Ym).put Ym,?_⟩;rw[ah,Dl _ hx,sZ,<-iW,<-dQ,hA];unfold aI;simp
  .rintro σ H' ⟨v2,rfl,s5,hB⟩;rw[aT,O.N.len,fm] at hB;have QN:=hf st.nodes.length;rw[fm] at QN;refine⟨_,rfl,v,_,rfl,hB,?_,λH6 p6 s6 h6=>?_⟩
   .rw[aF,bb,bb,cn];omega
   .refine k.told O rfl (s5.trans s6) h6 ?_;rw[BD,aF];rfl
theorem Mi{t:O}{nx:Nat}(h:x.number∉nums t)(n:Nat):mN (t++[x]) nx n=if n=x.number then some (nx+t.length) else mN t nx n:=by
 unfold mN;rw[c5,List.findIdx?_append];by_cases e:n=x.number
 .rw[ao e,e];have h1:(nums t).findIdx? (λm=>m==x.number)=none:=by rw[GU];intro m hm;simp;intro q;exact h (q▸hm)
  rw[h1];have h2:(nums [x]).findIdx? (λm=>m==x.number)=some 0:=by simp[nums]
  rw[h2];simp[nums]
 .rw[ak e];have h2:(nums [x]).findIdx? (λm=>m==n)=none:=by rw[GU];intro m hm;simp[nums] at hm;subst hm;simpa usingλq=>e q.symm
  rw[h2];simp
def B8(t:O)(nx fr to:Nat)(x:Nd):Nd:={Ia t nx x with depth:=x.depth - fr+to}
theorem Dm(t:O)(nx fr to:Nat):shifted (sx t nx) fr to=t.map (B8 t nx fr to):=by unfold shifted sx;rw[iq];rfl
def BR(C:Addr):Sp:=λvs H Q _=>∃(r:Addr)(as:List Addr)(t:O)(nx fr to:Nat),vs=[.ref r,.int (nx:Nat),.int ((to:Int) - (fr:Int))]/\NL C H r as t/\(nums t).Nodup/\t.length<=60/\nx+t.length<=1000/\(∀x∈t,fr<=x.depth/\x.text.length<=60)/\
 ∀H' p bs,aD H H'->NL C H' p bs (t.map (B8 t nx fr to))->Q (.ref p) H'
theorem fj:aG ["tree","first_number","shift","numbers","place","node","copies","twin"] ["tree","first_number","shift"] (ay oa):=eP
theorem Gy(F:bG K mg "copies_of" oa ["tree","first_number","shift"])(T:Txt K mg C CO CC)(rB:EF P w K mg base 1 "Node" C ["self","number","cell","depth","text"] (rA C))(oS:aZ Z 4 "renumbered" ["text","numbers"] Nj):aZ Z 5 "copies_of" ["tree","first_number","shift"] (BR C):=by
 refine F.ok fj (λvs H Q E h=>?_) (λ_ _ _ _ _ H _ Q E hr h=>?_)
 .obtain⟨_,_,_,_,_,_,rfl,_⟩:=h;rfl
 .obtain⟨r,as,t,nx,fr,to,rfl,N,vA,hz,xc,ht,k⟩:=h;refine⟨_,(ae (bD 3 fj Au) (ae (eE PassesOwn.never rfl (yS rfl T.enumerate (aa (pv 0) ag)) (nD rfl (b_ (jB 4 fj) (b_ (jB 5 fj) jE))) (aj (yR (qW hr) (pv 3) (aB (pv 5) rfl) (bh bP (pv 1) (pv 4)) rfl))) (ae (bD 6 fj (aL ag)) (ae (eE PassesOwn.never rfl (bM (pv 0)) (jB 5 fj) (ae (bD 7 fj (rB.make (hr.mono (by decide)) rfl (aa (uA (qW hr) (pv 3) (aB (pv 5) rfl) (λ_ _=>rfl)) (aa (aB (pv 5) rfl) (aa (bh bP (aB (pv 5) rfl) (pv 2)) (aa (pc oS hr (aa (aB (pv 5) rfl) (aa (pv 3) ag))) ag)))))) (ae (df (pv 7) (aB (pv 5) rfl) rfl) (aj (bF (eY eN iZ i0 cy (pv 6) (aa (pv 7) ag))))))) (aj (aw (pv 6))))))),?_⟩;refineλd hd=>?_;have s1:aD H (upd H d (.dK [])):=aE hd;refine⟨_,rfl,r,_,rfl,bf.of (s1 _ _ N.lst),wg (K:=K) (a:=r) (xs:=as.map V.ref) (λi σ H'=>∃(v4 v5:Option V)(a8:List (Key×V)),σ=[some (.ref r),some (.int (nx:Nat)),some (.int ((to:Int) - (fr:Int))),some (.ref d),v4,v5,none,none]/\aD H H'/\H' d=some (.dK a8)/\a8.length<=i/\∀n:Nat,gU a8 (Sum.inl (n:Int))=(mN (t.take i) nx n).map λv=>V.int (v:Nat))
   ⟨none,none,[],rfl,s1,ah,aS _,λn=>rfl⟩ (λi σ H' _ ⟨_,_,_,_,s2,_⟩=>bf.of (s2 _ _ N.lst)) ?_ ?_⟩
  .rintro i y σ H' tt hi ⟨v4,v5,a8,rfl,s2,hD,Wr,wA⟩ Dc;obtain⟨a,x,rfl,ha,hx,hn⟩:=N.item hi;have s3:=s2.new Dc (u:= .tup [.int (i:Nat),.ref a]);have m6:i<t.length:=(dm.mp hx).1;refine⟨tt,_,rfl,iu.of ah,rfl,_,_,rfl,_,_,rfl,rfl,?_⟩;have hD3:=a9 (u:= .tup [.int (i:Nat),.ref a]) hD Dc;refine⟨_,rfl,_,rfl,_,_,rfl,rfl,_,rfl,_,rfl,bX T (hn.same s3) ⟨d,_,rfl,Cp.k (k:=Sum.inl ((x.number:Nat):Int)) hD3 (eO (by omega)),?_⟩⟩;refine⟨_,_,_,rfl,s3.put hd,ah,?_,λn=>?_⟩
   .unfold putK;split
    .rw[aT];omega
    .rw[bb];show _+1<=_;omega
   .rw[Hz,take_snoc hx,Mi (λhm=>?_)]
    .rw[wA,bj,iY (eX m6)];by_cases e:n=x.number
     .rw[ao e,ao (by rw[e])];rfl
     .rw[ak e,ak (by intro q;injection q with q;omega)]
    .have e:t=t.take i++x::t.drop (i+1):=by rw[<-(dm.mp hx).2];simp
     rw[e,c5] at vA;exact(xA.mp vA).2.2 _ hm _ (by simp[nums]) rfl
  .rintro σ H1 ⟨v4,v5,a8,rfl,s2,hD,Wr,wA⟩;rw[aT,N.len,fm] at wA;refine⟨a_ _,λc hc=>?_⟩;have IF:H c=none:=s2.free hc;have s3:=aE hc (u:= .lst []);have hm:∀n v,mN t nx n=some v->v<1000:=λn v h=>by have:=MX h;omega
   refine⟨_,rfl,r,rfl,⟨_,bf.of ((s2.trans s3) _ _ N.lst)⟩,dI (K:=K) (a:=r) (xs:=as.map V.ref) (λi σ H'=>∃(v5 v7:Option V)(bs:List Addr),σ=[some (.ref r),some (.int (nx:Nat)),some (.int ((to:Int) - (fr:Int))),some (.ref d),v4,v5,some (.ref c),v7]/\aD H1 H'/\NL C H' c bs ((t.take i).map (B8 t nx fr to)))
    ⟨v5,none,[],rfl,s3,⟨ah,rfl,by simp,by simp⟩⟩ (λi σ H' _ ⟨_,_,_,_,s4,_⟩=>bf.of ((s2.trans s4) _ _ N.lst)) ?_ ?_⟩
   .rintro i y σ H' hi ⟨v5,v7,bs,rfl,s4,M⟩;obtain⟨a,x,rfl,ha,hx,hn⟩:=N.item hi;have Ka:=cJ hx;obtain⟨Fx,pH⟩:=ht x Ka;have m6:i<t.length:=(dm.mp hx).1;have Uo:=s2.trans s4;have LP:=hn.same Uo;have Yn:=s4 _ _ hD;have Yo:mN t nx x.number=some (nx+i):=Ib vA hx;refine⟨_,rfl,_,rfl,bX T LP ⟨d,V.int ((nx+i:Nat):Int),rfl,?_,_,rfl,fH T LP ⟨_,rfl,bp T LP ⟨_,rfl,_,_,rfl,rfl,_,rfl,iT T LP λtx WD=>⟨_,rfl,tx,d,_,a8,mN t nx,rfl,WD,pH,Yn,wA,hm,λH5 p s5 hp Bj=>?_⟩⟩⟩⟩⟩
    .have:=pQ.k (k:=Sum.inl ((x.number:Nat):Int)) Yn;rw[wA,Yo] at this;exact this
    rw[K6] at hp;refineλxa xd Ny F9 fk=>⟨xa,xd,_,_,_,p,rfl,ah,λH6 h6 hk=>⟨rfl,?_⟩⟩;have s6:aD H5 H6:=pd Ny F9 hk;have Yp:=s5.trans s6;have hn6:=LP.same Yp;refine⟨_,rfl,iJ T hn6 ⟨_,rfl,xa,C,xd,_,rfl,h6,T.cl,T.mC,(by show 5<1000;decide),?_⟩⟩;have WE:H' xa=none:=s5.free Ny;have s7:=Yp.put WE (u:= .ins C xd (eR "folded" (.int (b2 x.folded)) [("number",.int ((nx+i:Nat):Int)),("cell",.int (b2 x.cell)),("depth",.int ((x.depth:Int)+((to:Int) - (fr:Int)))),("text",.ref p),("folded",.int 0)]));have M7:=M.same s7;have F8:p≠c:=λq=>by rw[q,M.lst] at Bj;cases Bj
    have Wz:p≠xa:=λq=>by rw[q,Ny] at hp;cases hp
    have zE:((t.take i).map (B8 t nx fr to)).length<1000:=by rw[aT,bj];omega
    have h7:(upd H6 xa (.ins C xd (eR "folded" (.int (b2 x.folded)) [("number",.int ((nx+i:Nat):Int)),("cell",.int (b2 x.cell)),("depth",.int ((x.depth:Int)+((to:Int) - (fr:Int)))),("text",.ref p),("folded",.int 0)]))) xa=some (.ins C xd (nf (B8 t nx fr to x) p)):=by
     rw[ah];have e1:(B8 t nx fr to x).number=nx+i:=by show(mN t nx x.number).getD x.number=_;rw[Yo];rfl
     have e2:((B8 t nx fr to x).depth:Int)=(x.depth:Int)+((to:Int) - (fr:Int)):=by show((x.depth - fr+to:Nat):Int)=_;omega
     unfold nf;rw[e1,e2];rfl
    have hp7:(upd H6 xa (.ins C xd (eR "folded" (.int (b2 x.folded)) [("number",.int ((nx+i:Nat):Int)),("cell",.int (b2 x.cell)),("depth",.int ((x.depth:Int)+((to:Int) - (fr:Int)))),("text",.ref p),("folded",.int 0)]))) p=some (.lst (aI (B8 t nx fr to x).text)):=by rw[az Wz];exact s6 _ _ hp
    refine⟨_,rfl,.inl ⟨rfl,_,bf.of M7.lst⟩,_,rfl,c,_,_,rfl,rfl,M7.lst,M7.sz,?_⟩;refine⟨_,_,bs++[xa],rfl,(s4.trans s7).put hc,?_⟩;rw[take_snoc hx,cX];exact M7.push zE h7 hp7 F8
   .rintro σ H' ⟨v5,v7,bs,rfl,s4,M⟩;rw[aT,N.len,fm] at M;exact⟨_,rfl,k _ c bs (s2.trans s4) M⟩
def JT(C CO:Addr):Sp:=λvs H Q _=>∃(ob dx l:Addr)(as:List Addr)(s:Vanbkn.State)(z p a:Int),vs=[.ref ob,.int z,.int p,.int a]/\ba C CO H ob dx l as s/\Wf s/\ek C CO H ob (Vanbkn.step s (.copy z p a)) Q
theorem Qa(t:O)(nx fr to:Nat):((t.map (B8 t nx fr to)).any λy=>decide (60<y.text.length))=((sx t nx).any λy=>decide (60<y.text.length)):=by unfold sx;rw[B9,B9];rfl
theorem NL.SY{fs:List (Str×V)}{us:List Addr}(N:NL C H b us o)(fk:C≠CO)(ho:H ob=some (.ins CO dx fs)):NL C (upd H ob v) b us o:=by
 refine⟨?_,N.len,N.sm,λi a x ha hx=>?_⟩
 .rw[az (λq=>by have:=N.lst;rw[q,ho] at this;cases this)];exact N.lst
 .obtain⟨d,t,h1,h2⟩:=N.at_ i a x ha hx;refine⟨d,t,?_,?_⟩
  .rw[az (λq=>by rw[q,ho] at h1;injection h1 with h1;injection h1 with h1 _ _;exact fk h1.symm)];exact h1
  .rw[az (λq=>by rw[q,ho] at h2;cases h2)];exact h2
theorem cW:aG ["outline","number","parent","after","nodes","start","place","tree","shift","copies","twin"] ["outline","number","parent","after"] (ay oe):=eP
theorem Mj(F:bG K mg "copy_tree" oe ["outline","number","parent","after"])(T:Txt K mg C CO CC)(ax:aZ Z 1 "position_of" ["nodes","number"] (fA C))(aQ:aZ Z 1 "tree_end" ["nodes","start"] (fS C))(gb:aZ Z 3 "place_at" ["nodes","parent","after"] (uL C))(dX:aZ Z 1 "too_deep" ["nodes","shift"] (jP C))(qw:aZ Z 5 "copies_of" ["tree","first_number","shift"] (BR C))(f_:aZ Z 1 "inserted" ["nodes","position","run"] EM):
 aZ Z 6 "copy_tree" ["outline","number","parent","after"] (JT C CO):=by
 refine F.ok cW (λvs H Q E h=>?_) (λ_ _ _ _ _ H _ Q E hr h=>?_)
 .obtain⟨_,_,_,_,_,_,_,_,rfl,_⟩:=h;rfl
 .obtain⟨ob,dx,l,as,st,z,p,af,rfl,O,W,k⟩:=h;refine⟨_,(ae (bD 4 cW (aB (pv 0) rfl)) (ae (bD 5 cW (pc ax hr (aa (pv 4) (aa (pv 1) ag)))) (ae (aM (bE bC (pv 5) a6) (aj (aw (aL (aa (eu T) ag)))) aA) (ae (bD 6 cW (pc gb hr (aa (pv 4) (aa (pv 2) (aa (pv 3) ag))))) (ae (aM (bE bC (pv 6) a6) (aj (aw (aL (aa (eu T) ag)))) aA) (ae (bD 7 cW (bo bA (pv 4) (aX (pv 5)) (aX (pc aQ hr (aa (pv 4) (aa (pv 5) ag)))))) (ae (bD 8 cW (bh gm (c7 dR (pv 6) au) (aB (c7 aJ (pv 4) (pv 5)) rfl))) (ae (aM (bE gL (bh bP (o_ T (aa (pv 4) ag)) (o_ T (aa (pv 7) ag))) (eu T)) (aj (aw (aL (aa (eu T) ag)))) aA) (ae (aM (gk (pc dX hr (aa (pv 7) (aa (pv 8) ag)))) (aj (aw (aL (aa (eu T) ag)))) aA) (ae (aM (bE gL (bh gm (bh bP (aB (pv 0) rfl) (o_ T (aa (pv 7) ag))) au) (eu T)) (aj (aw (aL (aa (eu T) ag)))) aA) (ae (bD 9 cW (pc qw hr (aa (pv 7) (aa (aB (pv 0) rfl) (aa (pv 8) ag))))) (ae (aM (gk (fM (Cn rfl) (by rfl) T.any CW (aa (kI rfl cW.nd (bM (pv 9)) (own:=[("twin",10)]) (B7 cW) (λ_ _ _ _ _=>(jB 10 cW)) (λ_ _ _ _ _=>kG) (λ_ _ _ _ _=>(jF gL (fM (xw (K:=K) rfl) (by rfl) T.len zX (aa (eg (K:=K) rfl (pv 10) rfl) ag)) (eu T) (k5 _)))) ag))) (aj (aw (aL (aa (eu T) ag)))) aA) (ae (df (pv 0) (pc f_ hr (aa (pv 4) (aa (c7 dR (pv 6) au) (aa (pv 9) ag)))) rfl) (ae (rX (pv 0) (o_ T (aa (pv 9) ag)) Cf) (aj (aw (aL (aa (aB (c7 aJ (pv 9) au) rfl) ag)))))))))))))))))),?_⟩;refine⟨_,rfl,aV T O ?_⟩;refine⟨_,rfl,_,rfl,l,as,_,z,rfl,O.N,λH2 s2=>?_⟩;have O2:=O.same s2;refine⟨_,rfl,rfl,_,rfl,?_⟩;rcases aY (o:=st.nodes) z with hp|⟨a,x,r,e,hp,kU⟩
  .rw[hp];refine aK (λ_=>?_) (λh=>absurd (aR rfl) h);exact⟨aW,λq hq=>k.refuse O (dO W hp) s2 hq⟩
  rw[hp];refine aK (λh=>nomatch (aH h)) (λ_=>?_);rw[copy_eq W e kU] at k;have ym:=jG (bt e);have hw:=W.n.len;have xc:=W.nx;refine⟨_,rfl,_,rfl,_,rfl,l,as,_,p,af,rfl,O2.N,λhn H3 s3=>?_,λi d hs H3 tt s3 Dc=>?_⟩
  .unfold AW at k;rw[hn] at k;refine⟨_,rfl,rfl,_,rfl,?_⟩;refine aK (λ_=>?_) (λh=>absurd (aR rfl) h);exact⟨aW,λq hq=>k.refuse O rfl (s2.trans s3) hq⟩
  have m6:=Bz W.n hs;unfold AW at k;rw[hs] at k;dsimp only at k;generalize hT:x::inside x.depth r=tr at k;have jC:=s2.trans s3;have O3:=O2.same s3;refine⟨_,rfl,rfl,_,rfl,?_⟩;refine aK (λh=>nomatch (aH h)) (λ_=>?_);refine⟨_,rfl,_,rfl,_,rfl,_,rfl,_,rfl,l,as,_,a.length,rfl,O3.N,bt e,λH4 s4=>⟨_,rfl,l,_,rfl,bf.of (O3.same s4).N.lst,λt ht=>?_⟩⟩;have Ja:=jC.trans s4;have NM:=(O3.same s4).N.cut (a:=a.length) (b:=aP st.nodes a.length) (eX (bt e)) ym (aD.refl _) ht;rw[lW e,hT] at NM;have s5:aD H (upd H4 t (.lst (d_ (as.map V.ref) (some ((a.length:Nat):Int)) (some ((aP st.nodes a.length:Nat):Int))))):=Ja.new ht;have Qb:=a9 (u:= .lst (d_ (as.map V.ref) (some ((a.length:Nat):Int)) (some ((aP st.nodes a.length:Nat):Int)))) (s4 _ _ Dc) ht;generalize upd H4 t (.lst (d_ (as.map V.ref) (some ((a.length:Nat):Int)) (some ((aP st.nodes a.length:Nat):Int))))=H5 at NM s5 Qb⊢;have O5:=O.same s5;refine⟨_,rfl,tt,_,_,_,rfl,rfl,iu.of Qb,bU (j:=1) rfl,_,rfl,_,rfl,c6 O5.N rfl (bt e) λc _ hc=>bp T hc ⟨_,_,rfl,rfl,?_⟩⟩;rw[fI e];have Nu:tr.length<=60:=by rw[<-hT,cn];have:(inside x.depth r).length<=r.length:=(pz _).length_le;rw[e,bb,cn] at hw;omega
  refine⟨_,rfl,l,_,rfl,.inl (bf.of O5.N.lst),_,rfl,t,_,rfl,.inl (bf.of NM.lst),_,_,rfl,rfl,_,_,rfl,rfl,_,rfl,?_⟩;rw[O5.N.gW,NM.gW];by_cases h4:60<st.nodes.length+tr.length
  .rw[ao h4] at k;refine aK (λ_=>⟨aW,λq hq=>k.refuse O rfl s5 hq⟩) (λh=>absurd (aR (by omega)) h)
  rw[ak h4] at k;refine aK (λh=>absurd (aH h) (by omega)) (λ_=>?_);refine⟨_,rfl,_,rfl,t,_,tr,_,rfl,NM,λH6 s6=>⟨_,rfl,?_⟩⟩;have hdq:tZ tr ((d:Int) - (x.depth:Int))=cu tr x.depth d:=by rw[<-hT];exact oK
  rw[hdq];have Nn:=s5.trans s6;have O6:=O5.same s6;have Sy:=NM.same s6;cases Np:cu tr x.depth d with
  |true=>rw[Np,ao rfl] at k;exact eG ⟨aW,λq hq=>k.refuse O rfl Nn hq⟩
  |false=>
   rw[Np,ak (by decide)] at k;refine fJ ?_;refine⟨_,rfl,mD T O6 ⟨_,rfl,t,_,rfl,.inl (bf.of Sy.lst),_,_,rfl,rfl,_,_,rfl,rfl,_,_,rfl,rfl,_,rfl,?_⟩⟩;rw[Sy.gW];by_cases h6:1000<st.next+tr.length
   .rw[ao h6] at k;refine aK (λ_=>⟨aW,λq hq=>k.refuse O rfl Nn hq⟩) (λh=>absurd (aR (by omega)) h)
   rw[ak h6] at k;refine aK (λh=>absurd (aH h) (by omega)) (λ_=>?_);have K8:∀y∈tr,y∈st.nodes:=λy hy=>by rw[<-hT] at hy;rw[e];exact(gB a r x).mem_iff.mpr (dA _ hy)
   have R6:(nums tr).Nodup:=by rw[<-hT];have W':=W.n.nd;rw[e] at W';exact lQ ((List.Sublist.cons_cons x (pz _)).trans (Mx _ _)) W'
   have kL:∀y∈tr,x.depth<=y.depth:=λy hy=>by rw[<-hT] at hy;exact h_ (x:=x) (r:=r) y hy
   refine⟨_,rfl,_,rfl,mD T O6 ⟨_,rfl,t,_,tr,st.next,x.depth,d,rfl,Sy,R6,Nu,by omega,λy hy=>⟨kL y hy,(W.txt (K8 y hy)).1⟩,λH7 c bs s7 M=>?_⟩⟩;have Uq:=Nn.trans s7;have O7:=O6.same s7;have UA:(tr.map (B8 tr st.next x.depth d)).length=tr.length:=aT _;refine⟨_,rfl,c,rfl,⟨_,bf.of M.lst⟩,λD hD=>?_⟩;refine f9 (K:=K) (a:=c) (λq=>some (V.bl (decide (60<q.2.text.length)))) M.zip hD M.Lp (λm q H8 hq s8 R R0 k1 k2=>?_) (λH8 s8 h8=>?_)
   .have hn:=(M.at2 hq).same s8;refine⟨rfl,Bd ⟨_,rfl,iT T hn λtx pH=>⟨tx,_,rfl,.inl (bf.of pH),_,_,rfl,rfl,?_⟩⟩⟩;rw[aF];refine k1 _ _ (aD.refl _) ?_;have:decide ((60:Int)<((q.2.text.length:Nat):Int))=decide (60<q.2.text.length):=by rw[qM];omega
    rw[<-this]
   .rw[C2 M.len (λy=>decide (60<y.text.length))] at h8;refine⟨D,_,rfl,bf.of h8,?_⟩;rw[qj,Qa];have GL:=Uq.trans s8;refine⟨_,rfl,?_⟩;cases QU:(sx tr st.next).any λy=>decide (60<y.text.length) with
    |true=>rw[QU,ao rfl] at k;exact eG ⟨aW,λq hq=>k.refuse O rfl GL hq⟩
    |false=>
     rw[QU,ak (by decide),Dm] at k;refine fJ ?_;have O8:=O7.same s8;have M8:=M.same s8;have WG:=((s6.trans s7).trans s8) _ _ Qb;refine⟨_,rfl,_,rfl,tt,_,_,_,rfl,rfl,iu.of WG,bU (j:=0) rfl,_,rfl,l,c,_,_,i,rfl,O8.N.lst,M8.lst,by rw[O8.N.gW];exact m6,by rw[O8.N.gW,M8.gW,UA];omega,λH9 q s9 hq=>?_⟩;have O9:=O8.same s9;have M9:=M8.same s9;refine⟨_,rfl,ob,CO,dx,_,rfl,O9.at_,T.zF,T.j7,(by show 2<1000;decide),?_⟩;have Yq:=M9.SY (v:= .ins CO dx (eR "nodes" (.ref q) (yi st.next l))) T.ne1 O9.at_;refine⟨_,rfl,ob,CO,dx,_,_,rfl,ah,T.zF,T.wj,rfl,_,rfl,c,_,rfl,.inl (bf.of Yq.lst),_,_,rfl,rfl,dx,_,ah,(by show 2<1000;decide),?_⟩;rw[kz,Yq.gW,UA];have M11:=M9.SY (v:= .ins CO dx (eR "next_number" (.int ((st.next:Int)+(tr.length:Nat))) (eR "nodes" (.ref q) (yi st.next l)))) T.ne1 O9.at_;have SN:0<(tr.map (B8 tr st.next x.depth d)).length:=by rw[UA,<-hT,cn];omega
     refine⟨_,rfl,c6 M11 (i:=0) rfl SN λb _ hb=>bX T hb ⟨aW,λv hv=>?_⟩⟩;have PR:(nd (tr.map (B8 tr st.next x.depth d)) 0).number=st.next:=by
      have h0:(tr.map (B8 tr st.next x.depth d))[0]?=some (B8 tr st.next x.depth d x):=by rw[<-hT];rfl
      rw[vQ h0];show(mN tr st.next x.number).getD x.number=_;rw[Ib (i:=0) R6 (by rw[<-hT];rfl)];rfl
     rw[PR];have hN9:NL C H9 q (as.take i++bs++as.drop i) (st.nodes.take i++tr.map (B8 tr st.next x.depth d)++st.nodes.drop i):=by
      refine(((O9.N.sT.take i).append M9.sT).append (O9.N.sT.drop i)).nl ?_ ?_
      .rw[hq,cX,cX,mV,jR]
      .rw[bb,bb,bj,dD,UA];omega
     have Wj:=O9.put T.ne1 (s':=⟨st.nodes.take i++tr.map (B8 tr st.next x.depth d)++st.nodes.drop i,st.next+tr.length⟩) hN9;have WH:eR "next_number" (.int ((st.next:Int)+(tr.length:Nat))) (eR "nodes" (.ref q) (yi st.next l))=yi (st.next+tr.length) q:=by rw[wC,yq _ _ _ (st.next+tr.length) (by omega)]
     rw[WH] at hv⊢;have hF:Fr C CO H9 (upd H9 ob (.ins CO dx (yi (st.next+tr.length) q))):=(mH (a:=ob)).fr (Bw O9);exact k _ v dx q _ (((GL.trans s9).fr.trans hF).trans (aE hv).fr) (Wj.same (aE hv)) ah
theorem E4(W:Wf s)(e:s.nodes=a++x::r)(hz:(x.number:Int)=z):Vanbkn.step s (.path z)=(s,tellNodes ((x::upFrom x.depth a.reverse).reverse)):=by show withNode s _ _=_;rw[aO W.n e hz];show(s,tellNodes (Vanbkn.ancestors s.nodes x.number++[x]))=_;rw[uX];congr 3;rw[e];exact lP (by rw[<-e];exact W.n.nd)
theorem kf:aG ["outline","number","nodes","position","upwards"] ["outline","number"] (ay sL):=eP
theorem Ml(F:bG K mg "path_to" sL ["outline","number"])(T:Txt K mg C CO CC)(ax:aZ Z 1 "position_of" ["nodes","number"] (fA C))(br:aZ Z 1 "parent_position" ["nodes","position"] (Bi C))(bu:aZ Z 1 "counted" ["row"] e_):
 aZ Z 2 "path_to" ["outline","number"] (eW C CO .path):=by
 refine F.ok kf (λvs H Q E h=>?_) (λ_ _ _ _ _ H _ Q E hr h=>?_)
 .obtain⟨_,_,_,_,_,_,rfl,_⟩:=h;rfl
 .obtain⟨ob,dx,l,as,st,z,rfl,O,W,k⟩:=h;refine⟨_,(ae (bD 2 kf (aB (pv 0) rfl)) (ae (bD 3 kf (pc ax hr (aa (pv 2) (aa (pv 1) ag)))) (ae (aM (bE bC (pv 3) a6) (aj (aw (aL (aa (eu T) ag)))) aA) (ae (bD 4 kf (aL ag)) (ae (fo PassesOwn.never (bE uz (pv 3) a6) (ae (bF (eY eN iZ i0 cy (pv 4) (aa (aB (c7 aJ (pv 2) (pv 3)) rfl) ag))) (aj (bD 3 kf (pc br hr (aa (pv 2) (aa (pv 3) ag))))))) (aj (aw (pc bu hr (aa (Lk rfl rfl T.list rfl T.reversed (aa (pv 4) ag)) ag))))))))),?_⟩;refine⟨_,rfl,aV T O ?_⟩;refine⟨_,rfl,_,rfl,l,as,_,z,rfl,O.N,λH2 s2=>?_⟩;have O2:=O.same s2;refine⟨_,rfl,rfl,_,rfl,?_⟩;rcases aY (o:=st.nodes) z with hp|⟨a,x,r,e,hp,kU⟩
  .rw[hp];refine aK (λ_=>?_) (λh=>absurd (aR rfl) h);exact⟨aW,λq hq=>k.refuse O (dO W hp) s2 hq⟩
  rw[hp];refine aK (λh=>nomatch (aH h)) (λ_=>?_);rw[E4 W e kU] at k;refine⟨a_ _,λc hc=>?_⟩;have IF:H c=none:=s2.free hc;have hUl:(x::upFrom x.depth a.reverse).length<=60:=by have:=(wG a.reverse x.depth).length_le;have hw:=W.n.len;rw[e,bb,cn] at hw;rw[tw] at this;rw[cn];omega
  refine fz (λ(U:List Nd×List Nd) σ H'=>x::upFrom x.depth a.reverse=U.1++U.2/\∃(ab:Option Nat),P2 st.nodes U.2 ab/\σ=[some (.ref ob),some (.int z),some (.ref l),some (ur ab),some (.ref c)]/\aD H H'/\H' c=some (.lst (aI (nums U.1)))) (λU=>U.2.length) ([],x::upFrom x.depth a.reverse)
   ⟨rfl,some a.length,.inr ⟨a,x,r,e,rfl,rfl⟩,rfl,s2.new hc,ah⟩ ?_
  rintro⟨U1,U2⟩ σ H' ⟨hU,ab,Wk,rfl,s3,hC⟩;have O3:=O.same s3;have hU:x::upFrom x.depth a.reverse=U1++U2:=hU;have hC:H' c=some (.lst (aI (nums U1))):=hC;have hU1:U1.length<=60:=by have:=da List.length hU;rw[bb] at this;omega
  have GJ:(nums U1).length=U1.length:=aT _;refine⟨_,rfl,rfl,_,rfl,?_⟩;rcases Wk with⟨zh,rfl⟩|⟨b,q,d,eo,zh,rfl⟩
  .refine aK (λh=>?_) (λ_=>?_)
   .cases h
   have zh:U2=[]:=zh;subst zh;rw[pw] at hU;refine⟨_,rfl,c,_,rfl,bf.of hC,λv hv=>?_⟩;refine⟨v,_,rfl,ah,by rw[tw,aF];show(nums U1).length<=90000;omega,λH5 p s5 L1=>?_⟩;refine k.told O rfl ((s3.new hv).trans s5) L1 ?_;rw[hU,mJ,tw,aF,GJ,tw];congr 1;unfold aI nums;rw[<-DI,<-DI]
  .refine aK (λ_=>?_) (λh=>absurd rfl h);have zh:U2=q::upFrom q.depth b.reverse:=zh;rw[zh] at hU;refine m_ (U1,U2) ?_;refine⟨_,rfl,.inl ⟨rfl,_,bf.of hC⟩,_,rfl,_,rfl,c6 O3.N rfl (bt eo) λcc _ MH=>bX T MH ⟨c,_,_,rfl,rfl,hC,eO (by rw[aF];omega),?_⟩⟩;rw[fI eo];have s4:=s3.put IF (u:= .lst (aI (nums U1)++[V.int (q.number:Nat)]));refine⟨_,rfl,_,rfl,l,as,_,b.length,rfl,(O.same s4).N,bt eo,λH5 s5=>?_⟩;refine⟨(U1++[q],upFrom q.depth b.reverse),(by show(upFrom q.depth b.reverse).length<U2.length;rw[zh,cn];exact mY _),?_,nt st.nodes b.length,Jl eo,rfl,s4.trans s5,?_⟩
   .show _=(U1++[q])++upFrom q.depth b.reverse;rw[hU];simp
   .show H5 c=some (.lst (aI (nums (U1++[q]))));rw[s5 _ _ ah,c5];unfold aI;rw[cX];rfl
def jv(x:Str)(ws row:List Int):Vanbkn.Call->Prop
 | .section_ a b t=>x="section"/\ws=[a,b]/\row=t/\t.length<=200
 | .cell a b t=>x="cell"/\ws=[a,b]/\row=t/\t.length<=200
 | .write a t=>x="write"/\ws=[a]/\row=t/\t.length<=200
 | .move a b d=>x="move"/\ws=[a,b,d]
 | .drop a=>x="drop"/\ws=[a]
 | .dissolve a=>x="dissolve"/\ws=[a]
 | .promote a=>x="promote"/\ws=[a]
 | .demote a=>x="demote"/\ws=[a]
 | .wrap a b t=>x="wrap"/\ws=[a,b]/\row=t/\t.length<=200
 | .raise a=>x="raise"/\ws=[a]
 | .sort a=>x="sort"/\ws=[a]
 | .copy a b d=>x="copy"/\ws=[a,b,d]
 | .fold a b=>x="fold"/\ws=[a,b]
 | .foldFrom a=>x="foldFrom"/\ws=[a]
 | .reveal a=>x="reveal"/\ws=[a]
 | .order=>x="order"/\ws=[]
 | .view=>x="view"/\ws=[]
 | .label a=>x="label"/\ws=[a]
 | .find t=>x="find"/\ws=[]/\row=t/\t.length<=200
 | .text a=>x="text"/\ws=[a]
 | .shown a=>x="shown"/\ws=[a]
 | .contents a=>x="contents"/\ws=[a]
 | .info a=>x="info"/\ws=[a]
 | .path a=>x="path"/\ws=[a]
 | .references a=>x="references"/\ws=[a]
 | .referring a=>x="referring"/\ws=[a]
 | .broken=>x="broken"/\ws=[]
 | .search t=>x="search"/\ws=[]/\row=t/\t.length<=200
 | .step a b=>x="step"/\ws=[a,b]
 | .save=>x="save"/\ws=[]
 | .load t=>x="load"/\ws=[]/\row=t/\t.length<=10000
 | .state=>x="state"/\ws=[]
def bY:Vanbkn.Call->Nat
 | .section_ _ _ _=>1
 | .cell _ _ _=>1
 | .write _ _=>1
 | .move _ _ _=>2
 | .drop _=>1
 | .dissolve _=>1
 | .promote _=>2
 | .demote _=>2
 | .wrap _ _ _=>1
 | .raise _=>2
 | .sort _=>2
 | .copy _ _ _=>1
 | .fold _ _=>3
 | .foldFrom _=>3
 | .reveal _=>3
 | .order=>4
 | .view=>4
 | .label _=>5
 | .find _=>5
 | .text _=>5
 | .shown _=>5
 | .contents _=>5
 | .info _=>4
 | .path _=>4
 | .references _=>5
 | .referring _=>5
 | .broken=>5
 | .search _=>5
 | .step _ _=>4
 | .save=>6
 | .load _=>7
 | .state=>4
theorem Dq{x:Str}(h:jv x ws row c)(hg:bY c≠1):x≠"section"/\x≠"cell"/\x≠"write"/\x≠"drop"/\x≠"dissolve"/\x≠"wrap"/\x≠"copy":=by
 cases c<;>first
  |exact absurd rfl hg
  |(have h:=h.1;rw[h];decide+kernel)
theorem Dr{x:Str}(h:jv x ws row c)(hg:bY c≠2):x≠"move"/\x≠"promote"/\x≠"demote"/\x≠"raise"/\x≠"sort":=by
 cases c<;>first
  |exact absurd rfl hg
  |(have h:=h.1;rw[h];decide+kernel)
theorem BS{x:Str}(h:jv x ws row c)(hg:bY c≠3):x≠"fold"/\x≠"foldFrom"/\x≠"reveal":=by
 cases c<;>first
  |exact absurd rfl hg
  |(have h:=h.1;rw[h];decide+kernel)
theorem BU{x:Str}(h:jv x ws row c)(hg:bY c≠4):x≠"order"/\x≠"view"/\x≠"info"/\x≠"path"/\x≠"step"/\x≠"state":=by
 cases c<;>first
  |exact absurd rfl hg
  |(have h:=h.1;rw[h];decide+kernel)
theorem BV{x:Str}(h:jv x ws row c)(hg:bY c≠5):x≠"label"/\x≠"find"/\x≠"text"/\x≠"shown"/\x≠"contents"/\x≠"references"/\x≠"referring"/\x≠"broken"/\x≠"search":=by
 cases c<;>first
  |exact absurd rfl hg
  |(have h:=h.1;rw[h];decide+kernel)
theorem JU{x:Str}(h:jv x ws row c)(hg:bY c≠6):x≠"save":=by
 cases c<;>first
  |exact absurd rfl hg
  |(have h:=h.1;rw[h];decide+kernel)
theorem JV{x:Str}(h:jv x ws row c)(hg:bY c≠7):x≠"load":=by
 cases c<;>first
  |exact absurd rfl hg
  |(have h:=h.1;rw[h];decide+kernel)
theorem cj{x:Str}(h:x≠y)(b:B):if decide (V.str x=V.str y)=true then A else B:=by
 rw[ak]
 .exact b
 .intro q;have:=aH q;injection this with this;exact h this
theorem bI{x:Str}(a:A):if decide (V.str x=V.str x)=true then A else B:=by rw[ao (aR rfl)];exact a
def Mm(C CO:Addr)(g:Nat):Sp:=λvs H Q _=>∃(ob dx l wl rl:Addr)(as:List Addr)(s:Vanbkn.State)(x:Str)(ws row:List Int)(c:Vanbkn.Call),vs=[.ref ob,.str x,.ref wl,.ref rl]/\ba C CO H ob dx l as s/\Wf s/\H wl=some (.lst (aU ws))/\H rl=some (.lst (aU row))/\jv x ws row c/\
 (bY c=g->ek C CO H ob (Vanbkn.step s c) Q)/\(bY c≠g->∀H',aD H H'->Q .fb H')
def Mn(C CO:Addr)(g:Nat):Sp:=λvs H Q _=>∃(ob dx l wl:Addr)(as:List Addr)(s:Vanbkn.State)(x:Str)(ws row:List Int)(c:Vanbkn.Call),vs=[.ref ob,.str x,.ref wl]/\ba C CO H ob dx l as s/\Wf s/\H wl=some (.lst (aU ws))/\jv x ws row c/\
 (bY c=g->ek C CO H ob (Vanbkn.step s c) Q)/\(bY c≠g->∀H',aD H H'->Q .fb H')
def Nz(C CO TP:Addr)(g:Nat):Sp:=λvs H Q _=>∃(ob dx l wl:Addr)(as:List Addr)(s:Vanbkn.State)(x:Str)(ws row:List Int)(c:Vanbkn.Call),vs=[.ref ob,.str x,.ref wl]/\ba C CO H ob dx l as s/\Wf s/\sP H TP/\H wl=some (.lst (aU ws))/\jv x ws row c/\
 (bY c=g->ek C CO H ob (Vanbkn.step s c) Q)/\(bY c≠g->∀H',aD H H'->Q .fb H')
theorem aN{x:Str}(b:B)(h:x≠y:=by decide+kernel):if decide (V.str x=V.str y)=true then A else B:=cj h b
def JW(C CO TP:Addr):Sp:=λvs H Q _=>∃(ob dx l:Addr)(as:List Addr)(s:Vanbkn.State)(z:Int),vs=[.ref ob,.int z]/\ba C CO H ob dx l as s/\Wf s/\sP H TP/\ek C CO H ob (Vanbkn.step s (.sort z)) Q
theorem tj:aG ["outline","name","wholes","row"] ["outline","name","wholes","row"] (ay jm):=eP
theorem Gz(F:bG K mg "answer_making" jm ["outline","name","wholes","row"])(T:Txt K mg C CO CC)(pq:aZ Z 4 "add_node" ["outline","cell","parent","after","text"] (Nl C CO))(oT:aZ Z 2 "write_text" ["outline","number","text"] (ER C CO))(qx:aZ Z 2 "drop_tree" ["outline","number"] (I0 C CO))(il:aZ Z 3 "dissolve_section" ["outline","number"] (wD C CO))(kg:aZ Z 4 "wrap_siblings" ["outline","first","last","title"] (Jc C CO))(qy:aZ Z 6 "copy_tree" ["outline","number","parent","after"] (JT C CO)):aZ Z 7 "answer_making" ["outline","name","wholes","row"] (Mm C CO 1):=by
 refine F.ok tj (λvs H Q E h=>?_) (λ_ _ _ _ _ H _ Q E hr h=>?_)
 .obtain⟨_,_,_,_,_,_,_,_,_,_,_,rfl,_⟩:=h;rfl
 .obtain⟨ob,dx,l,wl,rl,as,st,x,ws,row,c,rfl,O,W,hW,hR,hc,k1,k2⟩:=h;refine⟨_,(ae (aM (bE bw (pv 1) bO) (aj (aw (pc pq hr (aa (pv 0) (aa au (aa (c7 aJ (pv 2) au) (aa (c7 aJ (pv 2) au) (aa (pv 3) ag)))))))) aA) (ae (aM (bE bw (pv 1) bO) (aj (aw (pc pq hr (aa (pv 0) (aa au (aa (c7 aJ (pv 2) au) (aa (c7 aJ (pv 2) au) (aa (pv 3) ag)))))))) aA) (ae (aM (bE bw (pv 1) bO) (aj (aw (pc oT hr (aa (pv 0) (aa (c7 aJ (pv 2) au) (aa (pv 3) ag)))))) aA) (ae (aM (bE bw (pv 1) bO) (aj (aw (pc qx hr (aa (pv 0) (aa (c7 aJ (pv 2) au) ag))))) aA) (ae (aM (bE bw (pv 1) bO) (aj (aw (pc il hr (aa (pv 0) (aa (c7 aJ (pv 2) au) ag))))) aA) (ae (aM (bE bw (pv 1) bO) (aj (aw (pc kg hr (aa (pv 0) (aa (c7 aJ (pv 2) au) (aa (c7 aJ (pv 2) au) (aa (pv 3) ag))))))) aA) (ae (aM (bE bw (pv 1) bO) (aj (aw (pc qy hr (aa (pv 0) (aa (c7 aJ (pv 2) au) (aa (c7 aJ (pv 2) au) (aa (c7 aJ (pv 2) au) ag))))))) aA) (aj (aw a6))))))))),?_⟩;by_cases hg:bY c=1
  .have k:=k1 hg;cases c with
   |section_ a b t=>obtain⟨rfl,rfl,rfl,hz⟩:=hc;refine⟨_,rfl,rfl,_,rfl,?_⟩;refine bI ?_;exact⟨_,rfl,_,rfl,bH (i:=0) hW rfl rfl ⟨_,rfl,bH (i:=1) hW rfl rfl ⟨_,rfl,ob,dx,l,rl,as,st,false,a,b,row,rfl,O,W,hR,hz,k⟩⟩⟩
   |cell a b t=>obtain⟨rfl,rfl,rfl,hz⟩:=hc;refine⟨_,rfl,rfl,_,rfl,?_⟩;refine aN ?_;refine⟨_,rfl,rfl,_,rfl,?_⟩;refine bI ?_;exact⟨_,rfl,_,rfl,bH (i:=0) hW rfl rfl ⟨_,rfl,bH (i:=1) hW rfl rfl ⟨_,rfl,ob,dx,l,rl,as,st,true,a,b,row,rfl,O,W,hR,hz,k⟩⟩⟩
   |write a t=>obtain⟨rfl,rfl,rfl,hz⟩:=hc;refine⟨_,rfl,rfl,_,rfl,?_⟩;refine aN ?_;refine⟨_,rfl,rfl,_,rfl,?_⟩;refine aN ?_;refine⟨_,rfl,rfl,_,rfl,?_⟩;refine bI ?_;exact⟨_,rfl,_,rfl,bH (i:=0) hW rfl rfl ⟨_,rfl,ob,dx,l,rl,as,st,a,row,rfl,O,W,hR,hz,k⟩⟩
   |drop a=>obtain⟨rfl,rfl⟩:=hc;refine⟨_,rfl,rfl,_,rfl,?_⟩;refine aN ?_;refine⟨_,rfl,rfl,_,rfl,?_⟩;refine aN ?_;refine⟨_,rfl,rfl,_,rfl,?_⟩;refine aN ?_;refine⟨_,rfl,rfl,_,rfl,?_⟩;refine bI ?_;exact⟨_,rfl,_,rfl,bH (i:=0) hW rfl rfl ⟨ob,dx,l,as,st,a,rfl,O,W,k⟩⟩
   |dissolve a=>obtain⟨rfl,rfl⟩:=hc;refine⟨_,rfl,rfl,_,rfl,?_⟩;refine aN ?_;refine⟨_,rfl,rfl,_,rfl,?_⟩;refine aN ?_;refine⟨_,rfl,rfl,_,rfl,?_⟩;refine aN ?_;refine⟨_,rfl,rfl,_,rfl,?_⟩;refine aN ?_;refine⟨_,rfl,rfl,_,rfl,?_⟩;refine bI ?_;exact⟨_,rfl,_,rfl,bH (i:=0) hW rfl rfl ⟨ob,dx,l,as,st,a,rfl,O,W,k⟩⟩
   |wrap a b t=>obtain⟨rfl,rfl,rfl,hz⟩:=hc;refine⟨_,rfl,rfl,_,rfl,?_⟩;refine aN ?_;refine⟨_,rfl,rfl,_,rfl,?_⟩;refine aN ?_;refine⟨_,rfl,rfl,_,rfl,?_⟩;refine aN ?_;refine⟨_,rfl,rfl,_,rfl,?_⟩;refine aN ?_;refine⟨_,rfl,rfl,_,rfl,?_⟩;refine aN ?_;refine⟨_,rfl,rfl,_,rfl,?_⟩;refine bI ?_;exact⟨_,rfl,_,rfl,bH (i:=0) hW rfl rfl ⟨_,rfl,bH (i:=1) hW rfl rfl ⟨_,rfl,ob,dx,l,rl,as,st,a,b,row,rfl,O,W,hR,hz,k⟩⟩⟩
   |copy a b d=>obtain⟨rfl,rfl⟩:=hc;refine⟨_,rfl,rfl,_,rfl,?_⟩;refine aN ?_;refine⟨_,rfl,rfl,_,rfl,?_⟩;refine aN ?_;refine⟨_,rfl,rfl,_,rfl,?_⟩;refine aN ?_;refine⟨_,rfl,rfl,_,rfl,?_⟩;refine aN ?_;refine⟨_,rfl,rfl,_,rfl,?_⟩;refine aN ?_;refine⟨_,rfl,rfl,_,rfl,?_⟩;refine aN ?_;refine⟨_,rfl,rfl,_,rfl,?_⟩;refine bI ?_;exact⟨_,rfl,_,rfl,bH (i:=0) hW rfl rfl ⟨_,rfl,bH (i:=1) hW rfl rfl ⟨_,rfl,bH (i:=2) hW rfl rfl ⟨ob,dx,l,as,st,a,b,d,rfl,O,W,k⟩⟩⟩⟩
   |_=>cases hg
  .obtain⟨n0,n1,n2,n3,n4,n5,n6⟩:=Dq hc hg;refine⟨_,rfl,rfl,_,rfl,?_⟩;refine cj n0 ?_;refine⟨_,rfl,rfl,_,rfl,?_⟩;refine cj n1 ?_;refine⟨_,rfl,rfl,_,rfl,?_⟩;refine cj n2 ?_;refine⟨_,rfl,rfl,_,rfl,?_⟩;refine cj n3 ?_;refine⟨_,rfl,rfl,_,rfl,?_⟩;refine cj n4 ?_;refine⟨_,rfl,rfl,_,rfl,?_⟩;refine cj n5 ?_;refine⟨_,rfl,rfl,_,rfl,?_⟩;refine cj n6 ?_;exact k2 hg _ (aD.refl _)
theorem tm:aG ["outline","name","wholes"] ["outline","name","wholes"] (ay jn):=eP
theorem GA{TP:Addr}(F:bG K mg "answer_moving" jn ["outline","name","wholes"])(T:Txt K mg C CO CC)(qz:aZ Z 4 "move_tree" ["outline","number","parent","after"] (Jg C CO))(ly:aZ Z 3 "promote_tree" ["outline","number"] (Jh C CO))(mP:aZ Z 2 "demote_tree" ["outline","number"] (Nt C CO))(oU:aZ Z 3 "raise_tree" ["outline","number"] (ES C CO))(kh:aZ Z 4 "sort_children" ["outline","parent"] (JW C CO TP)):aZ Z 5 "answer_moving" ["outline","name","wholes"] (Nz C CO TP 2):=by
 refine F.ok tm (λvs H Q E h=>?_) (λ_ _ _ _ _ H _ Q E hr h=>?_)
 .obtain⟨_,_,_,_,_,_,_,_,_,_,rfl,_⟩:=h;rfl
 .obtain⟨ob,dx,l,wl,as,st,x,ws,row,c,rfl,O,W,hT,hW,hc,k1,k2⟩:=h;refine⟨_,(ae (aM (bE bw (pv 1) bO) (aj (aw (pc qz hr (aa (pv 0) (aa (c7 aJ (pv 2) au) (aa (c7 aJ (pv 2) au) (aa (c7 aJ (pv 2) au) ag))))))) aA) (ae (aM (bE bw (pv 1) bO) (aj (aw (pc ly hr (aa (pv 0) (aa (c7 aJ (pv 2) au) ag))))) aA) (ae (aM (bE bw (pv 1) bO) (aj (aw (pc mP hr (aa (pv 0) (aa (c7 aJ (pv 2) au) ag))))) aA) (ae (aM (bE bw (pv 1) bO) (aj (aw (pc oU hr (aa (pv 0) (aa (c7 aJ (pv 2) au) ag))))) aA) (ae (aM (bE bw (pv 1) bO) (aj (aw (pc kh hr (aa (pv 0) (aa (c7 aJ (pv 2) au) ag))))) aA) (aj (aw a6))))))),?_⟩;by_cases hg:bY c=2
  .have k:=k1 hg;cases c with
   |move a b d=>obtain⟨rfl,rfl⟩:=hc;refine⟨_,rfl,rfl,_,rfl,?_⟩;refine bI ?_;exact⟨_,rfl,_,rfl,bH (i:=0) hW rfl rfl ⟨_,rfl,bH (i:=1) hW rfl rfl ⟨_,rfl,bH (i:=2) hW rfl rfl ⟨ob,dx,l,as,st,a,b,d,rfl,O,W,k⟩⟩⟩⟩
   |promote a=>obtain⟨rfl,rfl⟩:=hc;refine⟨_,rfl,rfl,_,rfl,?_⟩;refine aN ?_;refine⟨_,rfl,rfl,_,rfl,?_⟩;refine bI ?_;exact⟨_,rfl,_,rfl,bH (i:=0) hW rfl rfl ⟨ob,dx,l,as,st,a,rfl,O,W,k⟩⟩
   |demote a=>obtain⟨rfl,rfl⟩:=hc;refine⟨_,rfl,rfl,_,rfl,?_⟩;refine aN ?_;refine⟨_,rfl,rfl,_,rfl,?_⟩;refine aN ?_;refine⟨_,rfl,rfl,_,rfl,?_⟩;refine bI ?_;exact⟨_,rfl,_,rfl,bH (i:=0) hW rfl rfl ⟨ob,dx,l,as,st,a,rfl,O,W,k⟩⟩
   |raise a=>obtain⟨rfl,rfl⟩:=hc;refine⟨_,rfl,rfl,_,rfl,?_⟩;refine aN ?_;refine⟨_,rfl,rfl,_,rfl,?_⟩;refine aN ?_;refine⟨_,rfl,rfl,_,rfl,?_⟩;refine aN ?_;refine⟨_,rfl,rfl,_,rfl,?_⟩;refine bI ?_;exact⟨_,rfl,_,rfl,bH (i:=0) hW rfl rfl ⟨ob,dx,l,as,st,a,rfl,O,W,k⟩⟩
   |sort a=>obtain⟨rfl,rfl⟩:=hc;refine⟨_,rfl,rfl,_,rfl,?_⟩;refine aN ?_;refine⟨_,rfl,rfl,_,rfl,?_⟩;refine aN ?_;refine⟨_,rfl,rfl,_,rfl,?_⟩;refine aN ?_;refine⟨_,rfl,rfl,_,rfl,?_⟩;refine aN ?_;refine⟨_,rfl,rfl,_,rfl,?_⟩;refine bI ?_;exact⟨_,rfl,_,rfl,bH (i:=0) hW rfl rfl ⟨ob,dx,l,as,st,a,rfl,O,W,hT,k⟩⟩
   |_=>cases hg
  .obtain⟨n0,n1,n2,n3,n4⟩:=Dr hc hg;refine⟨_,rfl,rfl,_,rfl,?_⟩;refine cj n0 ?_;refine⟨_,rfl,rfl,_,rfl,?_⟩;refine cj n1 ?_;refine⟨_,rfl,rfl,_,rfl,?_⟩;refine cj n2 ?_;refine⟨_,rfl,rfl,_,rfl,?_⟩;refine cj n3 ?_;refine⟨_,rfl,rfl,_,rfl,?_⟩;refine cj n4 ?_;exact k2 hg _ (aD.refl _)
theorem rJ:aG ["outline","name","wholes"] ["outline","name","wholes"] (ay iG):=eP
theorem Ds(F:bG K mg "answer_folding" iG ["outline","name","wholes"])(T:Txt K mg C CO CC)(lz:aZ Z 2 "fold_section" ["outline","number","mark"] (Jj C CO))(qA:aZ Z 1 "fold_from" ["outline","depth"] (wF C CO))(mQ:aZ Z 2 "reveal_node" ["outline","number"] (BC C CO)):aZ Z 3 "answer_folding" ["outline","name","wholes"] (Mn C CO 3):=by
 refine F.ok rJ (λvs H Q E h=>?_) (λ_ _ _ _ _ H _ Q E hr h=>?_)
 .obtain⟨_,_,_,_,_,_,_,_,_,_,rfl,_⟩:=h;rfl
 .obtain⟨ob,dx,l,wl,as,st,x,ws,row,c,rfl,O,W,hW,hc,k1,k2⟩:=h;refine⟨_,(ae (aM (bE bw (pv 1) bO) (aj (aw (pc lz hr (aa (pv 0) (aa (c7 aJ (pv 2) au) (aa (c7 aJ (pv 2) au) ag)))))) aA) (ae (aM (bE bw (pv 1) bO) (aj (aw (pc qA hr (aa (pv 0) (aa (c7 aJ (pv 2) au) ag))))) aA) (ae (aM (bE bw (pv 1) bO) (aj (aw (pc mQ hr (aa (pv 0) (aa (c7 aJ (pv 2) au) ag))))) aA) (aj (aw a6))))),?_⟩;by_cases hg:bY c=3
  .have k:=k1 hg;cases c with
   |fold a b=>obtain⟨rfl,rfl⟩:=hc;refine⟨_,rfl,rfl,_,rfl,?_⟩;refine bI ?_;exact⟨_,rfl,_,rfl,bH (i:=0) hW rfl rfl ⟨_,rfl,bH (i:=1) hW rfl rfl ⟨ob,dx,l,as,st,a,b,rfl,O,W,k⟩⟩⟩
   |foldFrom a=>obtain⟨rfl,rfl⟩:=hc;refine⟨_,rfl,rfl,_,rfl,?_⟩;refine aN ?_;refine⟨_,rfl,rfl,_,rfl,?_⟩;refine bI ?_;exact⟨_,rfl,_,rfl,bH (i:=0) hW rfl rfl ⟨ob,dx,l,as,st,a,rfl,O,W,k⟩⟩
   |reveal a=>obtain⟨rfl,rfl⟩:=hc;refine⟨_,rfl,rfl,_,rfl,?_⟩;refine aN ?_;refine⟨_,rfl,rfl,_,rfl,?_⟩;refine aN ?_;refine⟨_,rfl,rfl,_,rfl,?_⟩;refine bI ?_;exact⟨_,rfl,_,rfl,bH (i:=0) hW rfl rfl ⟨ob,dx,l,as,st,a,rfl,O,W,k⟩⟩
   |_=>cases hg
  .obtain⟨n0,n1,n2⟩:=BS hc hg;refine⟨_,rfl,rfl,_,rfl,?_⟩;refine cj n0 ?_;refine⟨_,rfl,rfl,_,rfl,?_⟩;refine cj n1 ?_;refine⟨_,rfl,rfl,_,rfl,?_⟩;refine cj n2 ?_;exact k2 hg _ (aD.refl _)
theorem rK:aG ["outline","name","wholes"] ["outline","name","wholes"] (ay iH):=eP
theorem Dt(F:bG K mg "answer_reading" iH ["outline","name","wholes"])(T:Txt K mg C CO CC)(tp:aZ Z 1 "order_of" ["outline"] (lr C CO .order))(wU:aZ Z 3 "view_of" ["outline"] (lr C CO .view))(wV:aZ Z 3 "info_of" ["outline","number"] (eW C CO .info))(wW:aZ Z 2 "path_to" ["outline","number"] (eW C CO .path))(qB:aZ Z 3 "step_from" ["outline","number","direction"] (Jp C CO))(tq:aZ Z 1 "state_of" ["outline"] (lr C CO .state)):aZ Z 4 "answer_reading" ["outline","name","wholes"] (Mn C CO 4):=by
 refine F.ok rK (λvs H Q E h=>?_) (λ_ _ _ _ _ H _ Q E hr h=>?_)
 .obtain⟨_,_,_,_,_,_,_,_,_,_,rfl,_⟩:=h;rfl
 .obtain⟨ob,dx,l,wl,as,st,x,ws,row,c,rfl,O,W,hW,hc,k1,k2⟩:=h;refine⟨_,(ae (aM (bE bw (pv 1) bO) (aj (aw (pc tp hr (aa (pv 0) ag)))) aA) (ae (aM (bE bw (pv 1) bO) (aj (aw (pc wU hr (aa (pv 0) ag)))) aA) (ae (aM (bE bw (pv 1) bO) (aj (aw (pc wV hr (aa (pv 0) (aa (c7 aJ (pv 2) au) ag))))) aA) (ae (aM (bE bw (pv 1) bO) (aj (aw (pc wW hr (aa (pv 0) (aa (c7 aJ (pv 2) au) ag))))) aA) (ae (aM (bE bw (pv 1) bO) (aj (aw (pc qB hr (aa (pv 0) (aa (c7 aJ (pv 2) au) (aa (c7 aJ (pv 2) au) ag)))))) aA) (ae (aM (bE bw (pv 1) bO) (aj (aw (pc tq hr (aa (pv 0) ag)))) aA) (aj (aw a6)))))))),?_⟩;by_cases hg:bY c=4
  .have k:=k1 hg;cases c with
   |order=>obtain⟨rfl,rfl⟩:=hc;refine⟨_,rfl,rfl,_,rfl,?_⟩;refine bI ?_;exact⟨_,rfl,ob,dx,l,as,st,rfl,O,W,k⟩
   |view=>obtain⟨rfl,rfl⟩:=hc;refine⟨_,rfl,rfl,_,rfl,?_⟩;refine aN ?_;refine⟨_,rfl,rfl,_,rfl,?_⟩;refine bI ?_;exact⟨_,rfl,ob,dx,l,as,st,rfl,O,W,k⟩
   |info a=>obtain⟨rfl,rfl⟩:=hc;refine⟨_,rfl,rfl,_,rfl,?_⟩;refine aN ?_;refine⟨_,rfl,rfl,_,rfl,?_⟩;refine aN ?_;refine⟨_,rfl,rfl,_,rfl,?_⟩;refine bI ?_;exact⟨_,rfl,_,rfl,bH (i:=0) hW rfl rfl ⟨ob,dx,l,as,st,a,rfl,O,W,k⟩⟩
   |path a=>obtain⟨rfl,rfl⟩:=hc;refine⟨_,rfl,rfl,_,rfl,?_⟩;refine aN ?_;refine⟨_,rfl,rfl,_,rfl,?_⟩;refine aN ?_;refine⟨_,rfl,rfl,_,rfl,?_⟩;refine aN ?_;refine⟨_,rfl,rfl,_,rfl,?_⟩;refine bI ?_;exact⟨_,rfl,_,rfl,bH (i:=0) hW rfl rfl ⟨ob,dx,l,as,st,a,rfl,O,W,k⟩⟩
   |step a b=>obtain⟨rfl,rfl⟩:=hc;refine⟨_,rfl,rfl,_,rfl,?_⟩;refine aN ?_;refine⟨_,rfl,rfl,_,rfl,?_⟩;refine aN ?_;refine⟨_,rfl,rfl,_,rfl,?_⟩;refine aN ?_;refine⟨_,rfl,rfl,_,rfl,?_⟩;refine aN ?_;refine⟨_,rfl,rfl,_,rfl,?_⟩;refine bI ?_;exact⟨_,rfl,_,rfl,bH (i:=0) hW rfl rfl ⟨_,rfl,bH (i:=1) hW rfl rfl ⟨ob,dx,l,as,st,a,b,rfl,O,W,k⟩⟩⟩
   |state=>obtain⟨rfl,rfl⟩:=hc;refine⟨_,rfl,rfl,_,rfl,?_⟩;refine aN ?_;refine⟨_,rfl,rfl,_,rfl,?_⟩;refine aN ?_;refine⟨_,rfl,rfl,_,rfl,?_⟩;refine aN ?_;refine⟨_,rfl,rfl,_,rfl,?_⟩;refine aN ?_;refine⟨_,rfl,rfl,_,rfl,?_⟩;refine aN ?_;refine⟨_,rfl,rfl,_,rfl,?_⟩;refine bI ?_;exact⟨_,rfl,ob,dx,l,as,st,rfl,O,W,k⟩
   |_=>cases hg
  .obtain⟨n0,n1,n2,n3,n4,n5⟩:=BU hc hg;refine⟨_,rfl,rfl,_,rfl,?_⟩;refine cj n0 ?_;refine⟨_,rfl,rfl,_,rfl,?_⟩;refine cj n1 ?_;refine⟨_,rfl,rfl,_,rfl,?_⟩;refine cj n2 ?_;refine⟨_,rfl,rfl,_,rfl,?_⟩;refine cj n3 ?_;refine⟨_,rfl,rfl,_,rfl,?_⟩;refine cj n4 ?_;refine⟨_,rfl,rfl,_,rfl,?_⟩;refine cj n5 ?_;exact k2 hg _ (aD.refl _)
theorem rL:aG ["outline","name","wholes","row"] ["outline","name","wholes","row"] (ay iI):=eP
theorem Du(F:bG K mg "answer_telling" iI ["outline","name","wholes","row"])(T:Txt K mg C CO CC)(tu:aZ Z 3 "label_of" ["outline","number"] (eW C CO .label))(oV:aZ Z 3 "find_label" ["outline","told"] (EU C CO .find))(wX:aZ Z 2 "text_of" ["outline","number"] (eW C CO .text))(ki:aZ Z 4 "shown_text_of" ["outline","number"] (eW C CO .shown))(mR:aZ Z 4 "contents_to" ["outline","depth"] (eW C CO .contents))(kj:aZ Z 5 "references_of" ["outline","number"] (eW C CO .references))(lA:aZ Z 5 "referring_to" ["outline","number"] (eW C CO .referring))(qC:aZ Z 6 "broken_in" ["outline"] (lr C CO .broken))(oW:aZ Z 4 "search_for" ["outline","told"] (EU C CO .search)):aZ Z 7 "answer_telling" ["outline","name","wholes","row"] (Mm C CO 5):=by
 refine F.ok rL (λvs H Q E h=>?_) (λ_ _ _ _ _ H _ Q E hr h=>?_)
 .obtain⟨_,_,_,_,_,_,_,_,_,_,_,rfl,_⟩:=h;rfl
 .obtain⟨ob,dx,l,wl,rl,as,st,x,ws,row,c,rfl,O,W,hW,hR,hc,k1,k2⟩:=h;refine⟨_,(ae (aM (bE bw (pv 1) bO) (aj (aw (pc tu hr (aa (pv 0) (aa (c7 aJ (pv 2) au) ag))))) aA) (ae (aM (bE bw (pv 1) bO) (aj (aw (pc oV hr (aa (pv 0) (aa (pv 3) ag))))) aA) (ae (aM (bE bw (pv 1) bO) (aj (aw (pc wX hr (aa (pv 0) (aa (c7 aJ (pv 2) au) ag))))) aA) (ae (aM (bE bw (pv 1) bO) (aj (aw (pc ki hr (aa (pv 0) (aa (c7 aJ (pv 2) au) ag))))) aA) (ae (aM (bE bw (pv 1) bO) (aj (aw (pc mR hr (aa (pv 0) (aa (c7 aJ (pv 2) au) ag))))) aA) (ae (aM (bE bw (pv 1) bO) (aj (aw (pc kj hr (aa (pv 0) (aa (c7 aJ (pv 2) au) ag))))) aA) (ae (aM (bE bw (pv 1) bO) (aj (aw (pc lA hr (aa (pv 0) (aa (c7 aJ (pv 2) au) ag))))) aA) (ae (aM (bE bw (pv 1) bO) (aj (aw (pc qC hr (aa (pv 0) ag)))) aA) (ae (aM (bE bw (pv 1) bO) (aj (aw (pc oW hr (aa (pv 0) (aa (pv 3) ag))))) aA) (aj (aw a6))))))))))),?_⟩;by_cases hg:bY c=5
  .have k:=k1 hg;cases c with
   |label a=>obtain⟨rfl,rfl⟩:=hc;refine⟨_,rfl,rfl,_,rfl,?_⟩;refine bI ?_;exact⟨_,rfl,_,rfl,bH (i:=0) hW rfl rfl ⟨ob,dx,l,as,st,a,rfl,O,W,k⟩⟩
   |find t=>obtain⟨rfl,rfl,rfl,hz⟩:=hc;refine⟨_,rfl,rfl,_,rfl,?_⟩;refine aN ?_;refine⟨_,rfl,rfl,_,rfl,?_⟩;refine bI ?_;exact⟨_,rfl,_,rfl,ob,dx,l,rl,as,st,row,rfl,O,W,hR,by omega,k⟩
   |text a=>obtain⟨rfl,rfl⟩:=hc;refine⟨_,rfl,rfl,_,rfl,?_⟩;refine aN ?_;refine⟨_,rfl,rfl,_,rfl,?_⟩;refine aN ?_;refine⟨_,rfl,rfl,_,rfl,?_⟩;refine bI ?_;exact⟨_,rfl,_,rfl,bH (i:=0) hW rfl rfl ⟨ob,dx,l,as,st,a,rfl,O,W,k⟩⟩
   |shown a=>obtain⟨rfl,rfl⟩:=hc;refine⟨_,rfl,rfl,_,rfl,?_⟩;refine aN ?_;refine⟨_,rfl,rfl,_,rfl,?_⟩;refine aN ?_;refine⟨_,rfl,rfl,_,rfl,?_⟩;refine aN ?_;refine⟨_,rfl,rfl,_,rfl,?_⟩;refine bI ?_;exact⟨_,rfl,_,rfl,bH (i:=0) hW rfl rfl ⟨ob,dx,l,as,st,a,rfl,O,W,k⟩⟩
   |contents a=>obtain⟨rfl,rfl⟩:=hc;refine⟨_,rfl,rfl,_,rfl,?_⟩;refine aN ?_;refine⟨_,rfl,rfl,_,rfl,?_⟩;refine aN ?_;refine⟨_,rfl,rfl,_,rfl,?_⟩;refine aN ?_;refine⟨_,rfl,rfl,_,rfl,?_⟩;refine aN ?_;refine⟨_,rfl,rfl,_,rfl,?_⟩;refine bI ?_;exact⟨_,rfl,_,rfl,bH (i:=0) hW rfl rfl ⟨ob,dx,l,as,st,a,rfl,O,W,k⟩⟩
   |references a=>obtain⟨rfl,rfl⟩:=hc;refine⟨_,rfl,rfl,_,rfl,?_⟩;refine aN ?_;refine⟨_,rfl,rfl,_,rfl,?_⟩;refine aN ?_;refine⟨_,rfl,rfl,_,rfl,?_⟩;refine aN ?_;refine⟨_,rfl,rfl,_,rfl,?_⟩;refine aN ?_;refine⟨_,rfl,rfl,_,rfl,?_⟩;refine aN ?_;refine⟨_,rfl,rfl,_,rfl,?_⟩;refine bI ?_;exact⟨_,rfl,_,rfl,bH (i:=0) hW rfl rfl ⟨ob,dx,l,as,st,a,rfl,O,W,k⟩⟩
   |referring a=>obtain⟨rfl,rfl⟩:=hc;refine⟨_,rfl,rfl,_,rfl,?_⟩;refine aN ?_;refine⟨_,rfl,rfl,_,rfl,?_⟩;refine aN ?_;refine⟨_,rfl,rfl,_,rfl,?_⟩;refine aN ?_;refine⟨_,rfl,rfl,_,rfl,?_⟩;refine aN ?_;refine⟨_,rfl,rfl,_,rfl,?_⟩;refine aN ?_;refine⟨_,rfl,rfl,_,rfl,?_⟩;refine aN ?_;refine⟨_,rfl,rfl,_,rfl,?_⟩;refine bI ?_;exact⟨_,rfl,_,rfl,bH (i:=0) hW rfl rfl ⟨ob,dx,l,as,st,a,rfl,O,W,k⟩⟩
   |broken=>obtain⟨rfl,rfl⟩:=hc;refine⟨_,rfl,rfl,_,rfl,?_⟩;refine aN ?_;refine⟨_,rfl,rfl,_,rfl,?_⟩;refine aN ?_;refine⟨_,rfl,rfl,_,rfl,?_⟩;refine aN ?_;refine⟨_,rfl,rfl,_,rfl,?_⟩;refine aN ?_;refine⟨_,rfl,rfl,_,rfl,?_⟩;refine aN ?_;refine⟨_,rfl,rfl,_,rfl,?_⟩;refine aN ?_;refine⟨_,rfl,rfl,_,rfl,?_⟩;refine aN ?_;refine⟨_,rfl,rfl,_,rfl,?_⟩;refine bI ?_;exact⟨_,rfl,ob,dx,l,as,st,rfl,O,W,k⟩
   |search t=>obtain⟨rfl,rfl,rfl,hz⟩:=hc;refine⟨_,rfl,rfl,_,rfl,?_⟩;refine aN ?_;refine⟨_,rfl,rfl,_,rfl,?_⟩;refine aN ?_;refine⟨_,rfl,rfl,_,rfl,?_⟩;refine aN ?_;refine⟨_,rfl,rfl,_,rfl,?_⟩;refine aN ?_;refine⟨_,rfl,rfl,_,rfl,?_⟩;refine aN ?_;refine⟨_,rfl,rfl,_,rfl,?_⟩;refine aN ?_;refine⟨_,rfl,rfl,_,rfl,?_⟩;refine aN ?_;refine⟨_,rfl,rfl,_,rfl,?_⟩;refine aN ?_;refine⟨_,rfl,rfl,_,rfl,?_⟩;refine bI ?_;exact⟨_,rfl,_,rfl,ob,dx,l,rl,as,st,row,rfl,O,W,hR,by omega,k⟩
   |_=>cases hg
  .obtain⟨n0,n1,n2,n3,n4,n5,n6,n7,n8⟩:=BV hc hg;refine⟨_,rfl,rfl,_,rfl,?_⟩;refine cj n0 ?_;refine⟨_,rfl,rfl,_,rfl,?_⟩;refine cj n1 ?_;refine⟨_,rfl,rfl,_,rfl,?_⟩;refine cj n2 ?_;refine⟨_,rfl,rfl,_,rfl,?_⟩;refine cj n3 ?_;refine⟨_,rfl,rfl,_,rfl,?_⟩;refine cj n4 ?_;refine⟨_,rfl,rfl,_,rfl,?_⟩;refine cj n5 ?_;refine⟨_,rfl,rfl,_,rfl,?_⟩;refine cj n6 ?_;refine⟨_,rfl,rfl,_,rfl,?_⟩;refine cj n7 ?_;refine⟨_,rfl,rfl,_,rfl,?_⟩;refine cj n8 ?_;exact k2 hg _ (aD.refl _)
def cf(x:Str)(wl rl:Addr):List (Str×V):=[("name",.str x),("wholes",.ref wl),("row",.ref rl)]
structure lB(CC:Addr)(H:Hp)(a:Addr)(c:Vanbkn.Call)(x:Str)(ws row:List Int)(cd wl rl:Addr):Prop where
 at_:H a=some (.ins CC cd (cf x wl rl))
 w:H wl=some (.lst (aU ws))
 r:H rl=some (.lst (aU row))
 is:jv x ws row c
theorem lB.same{CC:Addr}{a:Addr}{x:Str}(h:lB CC H a c x ws row cd wl rl)(s:aD H H'):lB CC H' a c x ws row cd wl rl:=⟨s _ _ h.at_,s _ _ h.w,s _ _ h.r,h.is⟩
section
variable{H:Hp}{R:V->Prop}{a:Addr}{c:Vanbkn.Call}{x:Str}{ws row:List Int}{cd wl rl:Addr}
theorem mS(T:Txt K mg C CO CC)(h:lB CC H a c x ws row cd wl rl)(q:R (.str x)):∃(a' C' dx:Addr)(fs:List (Str×V))(v':V),V.ref a= .ref a'/\H a'=some (.ins C' dx fs)/\tO K C'/\cb K C' "name"/\fs.lookup ("name":Str)=some v'/\R v':=⟨a,CC,cd,_,_,rfl,h.at_,T.QG,T.nName,rfl,q⟩
theorem l6(T:Txt K mg C CO CC)(h:lB CC H a c x ws row cd wl rl)(q:R (.ref wl)):∃(a' C' dx:Addr)(fs:List (Str×V))(v':V),V.ref a= .ref a'/\H a'=some (.ins C' dx fs)/\tO K C'/\cb K C' "wholes"/\fs.lookup ("wholes":Str)=some v'/\R v':=⟨a,CC,cd,_,_,rfl,h.at_,T.QG,T.EI,rfl,q⟩
theorem Dv(T:Txt K mg C CO CC)(h:lB CC H a c x ws row cd wl rl)(q:R (.ref rl)):∃(a' C' dx:Addr)(fs:List (Str×V))(v':V),V.ref a= .ref a'/\H a'=some (.ins C' dx fs)/\tO K C'/\cb K C' "row"/\fs.lookup ("row":Str)=some v'/\R v':=⟨a,CC,cd,_,_,rfl,h.at_,T.QG,T.Si,rfl,q⟩
end
theorem GB(c:Vanbkn.Call):bY c=1\/bY c=2\/bY c=3\/bY c=4\/bY c=5\/bY c=6\/bY c=7:=by
 cases c<;>first
  |exact .inl rfl
  |exact .inr (.inl rfl)
  |exact .inr (.inr (.inl rfl))
  |exact .inr (.inr (.inr (.inl rfl)))
  |exact .inr (.inr (.inr (.inr (.inl rfl))))
  |exact .inr (.inr (.inr (.inr (.inr (.inl rfl)))))
  |exact .inr (.inr (.inr (.inr (.inr (.inr rfl)))))
def S0(C CO CC TP:Addr):Sp:=λvs H Q _=>∃(ob dx l cl cd wl rl:Addr)(as:List Addr)(s:Vanbkn.State)(x:Str)(ws row:List Int)(c:Vanbkn.Call),vs=[.ref ob,.ref cl]/\ba C CO H ob dx l as s/\Wf s/\sP H TP/\lB CC H cl c x ws row cd wl rl/\ek C CO H ob (Vanbkn.step s c) Q
theorem gf:aG ["outline","call","answer"] ["outline","call"] (ay oA):=eP
theorem S1{TP:Addr}(F:bG K mg "answer_to" oA ["outline","call"])(T:Txt K mg C CO CC)(lC:aZ Z 3 "save_outline" ["outline"] (lr C CO .save))(lD:aZ Z 6 "load_outline" ["outline","row"] (JN C CO))(kl:aZ Z 7 "answer_making" ["outline","name","wholes","row"] (Mm C CO 1))(km:aZ Z 5 "answer_moving" ["outline","name","wholes"] (Nz C CO TP 2))(jw:aZ Z 3 "answer_folding" ["outline","name","wholes"] (Mn C CO 3))(jx:aZ Z 4 "answer_reading" ["outline","name","wholes"] (Mn C CO 4))(jy:aZ Z 7 "answer_telling" ["outline","name","wholes","row"] (Mm C CO 5)):aZ Z 8 "answer_to" ["outline","call"] (S0 C CO CC TP):=by
 refine F.ok gf (λvs H Q E h=>?_) (λ_ _ _ _ _ H _ Q E hr h=>?_)
 .obtain⟨_,_,_,_,_,_,_,_,_,_,_,_,_,rfl,_⟩:=h;rfl
 .obtain⟨ob,dx,l,cl,cd,wl,rl,as,st,x,ws,row,c,rfl,O,W,hT,CA,k⟩:=h;refine⟨_,(ae (aM (bE bw (aB (pv 1) rfl) bO) (aj (aw (pc lC hr (aa (pv 0) ag)))) aA) (ae (aM (bE bw (aB (pv 1) rfl) bO) (aj (aw (pc lD hr (aa (pv 0) (aa (aB (pv 1) rfl) ag))))) aA) (ae (bD 2 gf (pc kl hr (aa (pv 0) (aa (aB (pv 1) rfl) (aa (aB (pv 1) rfl) (aa (aB (pv 1) rfl) ag)))))) (ae (aM (bE bC (pv 2) a6) (aj (bD 2 gf (pc km hr (aa (pv 0) (aa (aB (pv 1) rfl) (aa (aB (pv 1) rfl) ag)))))) aA) (ae (aM (bE bC (pv 2) a6) (aj (bD 2 gf (pc jw hr (aa (pv 0) (aa (aB (pv 1) rfl) (aa (aB (pv 1) rfl) ag)))))) aA) (ae (aM (bE bC (pv 2) a6) (aj (bD 2 gf (pc jx hr (aa (pv 0) (aa (aB (pv 1) rfl) (aa (aB (pv 1) rfl) ag)))))) aA) (ae (aM (bE bC (pv 2) a6) (aj (bD 2 gf (pc jy hr (aa (pv 0) (aa (aB (pv 1) rfl) (aa (aB (pv 1) rfl) (aa (aB (pv 1) rfl) ag))))))) aA) (aj (aw (pv 2)))))))))),?_⟩;refine⟨_,rfl,mS T CA ⟨rfl,_,rfl,?_⟩⟩;by_cases h6:bY c=6
  .cases c with
   |save=>obtain⟨rfl,_⟩:=CA.is;refine bI ?_;exact⟨_,rfl,ob,dx,l,as,st,rfl,O,W,k⟩
   |_=>cases h6
  refine cj (JU CA.is h6) ?_;refine⟨_,rfl,mS T CA ⟨rfl,_,rfl,?_⟩⟩;by_cases h7:bY c=7
  .cases c with
   |load t=>obtain⟨rfl,_,rfl,hz⟩:=CA.is;refine bI ?_;exact⟨_,rfl,_,rfl,Dv T CA ⟨ob,dx,l,rl,as,st,row,rfl,O,W,CA.r,hz,k⟩⟩
   |_=>cases h7
  refine cj (JV CA.is h7) ?_;refine⟨_,rfl,_,rfl,mS T CA ⟨_,rfl,l6 T CA ⟨_,rfl,Dv T CA ⟨ob,dx,l,wl,rl,as,st,x,ws,row,c,rfl,O,W,CA.w,CA.r,CA.is,λh1 H' p vj l' kq f' o' h'=>?_,λh1 H1 s1=>?_⟩⟩⟩⟩
  .iterate 4 (refine⟨_,rfl,rfl,_,rfl,?_⟩;refine aK (λh=>nomatch (aH h)) (λ_=>?_))
   exact⟨_,rfl,k _ p vj l' kq f' o' h'⟩
  (refine⟨_,rfl,rfl,_,rfl,?_⟩;refine aK (λ_=>?_) (λh=>absurd rfl h))
  have S2:=CA.same s1;have O1:=O.same s1;refine⟨_,rfl,_,rfl,mS T S2 ⟨_,rfl,l6 T S2 ⟨ob,dx,l,wl,as,st,x,ws,row,c,rfl,O1,W,hT.same s1,S2.w,S2.is,λh2 H' p vj l' kq f' o' h'=>?_,λh2 H2 s2=>?_⟩⟩⟩
  .iterate 3 (refine⟨_,rfl,rfl,_,rfl,?_⟩;refine aK (λh=>nomatch (aH h)) (λ_=>?_))
   exact⟨_,rfl,k _ p vj l' kq (s1.fr.trans f') o' h'⟩
  (refine⟨_,rfl,rfl,_,rfl,?_⟩;refine aK (λ_=>?_) (λh=>absurd rfl h))
  have S3:=S2.same s2;have O2:=O1.same s2;have xg:=s1.trans s2;refine⟨_,rfl,_,rfl,mS T S3 ⟨_,rfl,l6 T S3 ⟨ob,dx,l,wl,as,st,x,ws,row,c,rfl,O2,W,S3.w,S3.is,λh3 H' p vj l' kq f' o' h'=>?_,λh3 H3 s3=>?_⟩⟩⟩
  .iterate 2 (refine⟨_,rfl,rfl,_,rfl,?_⟩;refine aK (λh=>nomatch (aH h)) (λ_=>?_))
   exact⟨_,rfl,k _ p vj l' kq (xg.fr.trans f') o' h'⟩
  (refine⟨_,rfl,rfl,_,rfl,?_⟩;refine aK (λ_=>?_) (λh=>absurd rfl h))
  have S4:=S3.same s3;have O3:=O2.same s3;have jC:=xg.trans s3;refine⟨_,rfl,_,rfl,mS T S4 ⟨_,rfl,l6 T S4 ⟨ob,dx,l,wl,as,st,x,ws,row,c,rfl,O3,W,S4.w,S4.is,λh4 H' p vj l' kq f' o' h'=>?_,λh4 H4 s4=>?_⟩⟩⟩
  ·(refine⟨_,rfl,rfl,_,rfl,?_⟩;refine aK (λh=>nomatch (aH h)) (λ_=>?_))
   exact⟨_,rfl,k _ p vj l' kq (jC.fr.trans f') o' h'⟩
  (refine⟨_,rfl,rfl,_,rfl,?_⟩;refine aK (λ_=>?_) (λh=>absurd rfl h))
  have QV:=S4.same s4;have O4:=O3.same s4;have Ja:=jC.trans s4;refine⟨_,rfl,_,rfl,mS T QV ⟨_,rfl,l6 T QV ⟨_,rfl,Dv T QV ⟨ob,dx,l,wl,rl,as,st,x,ws,row,c,rfl,O4,W,QV.w,QV.r,QV.is,λh5 H' p vj l' kq f' o' h'=>?_,λh5 H5 s5=>?_⟩⟩⟩⟩
  .exact⟨_,rfl,k _ p vj l' kq (Ja.fr.trans f') o' h'⟩
  .exfalso;rcases GB c with h|h|h|h|h|h|h
   .exact h1 h
   .exact h2 h
   .exact h3 h
   .exact h4 h
   .exact h5 h
   .exact h6 h
   .exact h7 h
def rM:List (Str×Nat×Nat):=[("section",2,1),("cell",2,1),("write",1,1),("move",3,0),("drop",1,0),("dissolve",1,0),("promote",1,0),("demote",1,0),("wrap",2,1),("raise",1,0),("sort",1,0),("copy",3,0),("fold",2,0),("foldFrom",1,0),("reveal",1,0),("order",0,0),("view",0,0),("label",1,0),("find",0,1),("text",1,0),("shown",1,0),("contents",1,0),("info",1,0),("path",1,0),("references",1,0),("referring",1,0),("broken",0,0),("search",0,1),("step",2,0),("save",0,0),("load",0,1),("state",0,0)]
theorem BW{p:Int}{k:Nat}(h:shape p=some (n,k)):∃(j:Nat)(x:Str),p=(j:Int)/\rM[j]?=some (x,n,k):=by
 unfold shape at h;by_cases h0:p=0
 .rw[ao h0] at h;cases h;exact⟨0,_,h0,rfl⟩
 rw[ak h0] at h;by_cases h1:p=1
 .rw[ao h1] at h;cases h;exact⟨1,_,h1,rfl⟩
 rw[ak h1] at h;by_cases h2:p=2
 .rw[ao h2] at h;cases h;exact⟨2,_,h2,rfl⟩
 rw[ak h2] at h;by_cases h3:p=3
 .rw[ao h3] at h;cases h;exact⟨3,_,h3,rfl⟩
 rw[ak h3] at h;by_cases h4:p=4
 .rw[ao h4] at h;cases h;exact⟨4,_,h4,rfl⟩
 rw[ak h4] at h;by_cases h5:p=5
 .rw[ao h5] at h;cases h;exact⟨5,_,h5,rfl⟩
 rw[ak h5] at h;by_cases h6:p=6
 .rw[ao h6] at h;cases h;exact⟨6,_,h6,rfl⟩
 rw[ak h6] at h;by_cases h7:p=7
 .rw[ao h7] at h;cases h;exact⟨7,_,h7,rfl⟩
 rw[ak h7] at h;by_cases h8:p=8
 .rw[ao h8] at h;cases h;exact⟨8,_,h8,rfl⟩
 rw[ak h8] at h;by_cases h9:p=9
 .rw[ao h9] at h;cases h;exact⟨9,_,h9,rfl⟩
 rw[ak h9] at h;by_cases Jx:p=10
 .rw[ao Jx] at h;cases h;exact⟨10,_,Jx,rfl⟩
 rw[ak Jx] at h;by_cases WJ:p=11
 .rw[ao WJ] at h;cases h;exact⟨11,_,WJ,rfl⟩
 rw[ak WJ] at h;by_cases WK:p=12
 .rw[ao WK] at h;cases h;exact⟨12,_,WK,rfl⟩
 rw[ak WK] at h;by_cases WL:p=13
 .rw[ao WL] at h;cases h;exact⟨13,_,WL,rfl⟩
 rw[ak WL] at h;by_cases QU:p=14
 .rw[ao QU] at h;cases h;exact⟨14,_,QU,rfl⟩
 rw[ak QU] at h;by_cases WM:p=15
 .rw[ao WM] at h;cases h;exact⟨15,_,WM,rfl⟩
 rw[ak WM] at h;by_cases WN:p=16
 .rw[ao WN] at h;cases h;exact⟨16,_,WN,rfl⟩
 rw[ak WN] at h;by_cases WQ:p=17
 .rw[ao WQ] at h;cases h;exact⟨17,_,WQ,rfl⟩
 rw[ak WQ] at h;by_cases WR:p=18
 .rw[ao WR] at h;cases h;exact⟨18,_,WR,rfl⟩
 rw[ak WR] at h;by_cases WS:p=19
 .rw[ao WS] at h;cases h;exact⟨19,_,WS,rfl⟩
 rw[ak WS] at h;by_cases WT:p=20
 .rw[ao WT] at h;cases h;exact⟨20,_,WT,rfl⟩
 rw[ak WT] at h;by_cases WU:p=21
 .rw[ao WU] at h;cases h;exact⟨21,_,WU,rfl⟩
 rw[ak WU] at h;by_cases WV:p=22
 .rw[ao WV] at h;cases h;exact⟨22,_,WV,rfl⟩
 rw[ak WV] at h;by_cases WW:p=23
 .rw[ao WW] at h;cases h;exact⟨23,_,WW,rfl⟩
 rw[ak WW] at h;by_cases WX:p=24
 .rw[ao WX] at h;cases h;exact⟨24,_,WX,rfl⟩
 rw[ak WX] at h;by_cases WY:p=25
 .rw[ao WY] at h;cases h;exact⟨25,_,WY,rfl⟩
 rw[ak WY] at h;by_cases WZ:p=26
 .rw[ao WZ] at h;cases h;exact⟨26,_,WZ,rfl⟩
 rw[ak WZ] at h;by_cases W0:p=27
 .rw[ao W0] at h;cases h;exact⟨27,_,W0,rfl⟩
 rw[ak W0] at h;by_cases W3:p=28
 .rw[ao W3] at h;cases h;exact⟨28,_,W3,rfl⟩
 rw[ak W3] at h;by_cases W4:p=29
 .rw[ao W4] at h;cases h;exact⟨29,_,W4,rfl⟩
 rw[ak W4] at h;by_cases W5:p=30
 .rw[ao W5] at h;cases h;exact⟨30,_,W5,rfl⟩
 rw[ak W5] at h;by_cases W6:p=31
 .rw[ao W6] at h;cases h;exact⟨31,_,W6,rfl⟩
 rw[ak W6] at h;cases h
theorem len0(h:ws.length=0):ws=[]:=zJ h
theorem oX(h:ws.length=1):∃a,ws=[a]:=List.length_eq_one_iff.mp h
theorem JX(h:ws.length=2):∃a b,ws=[a,b]:=match ws,h with
 |[a,b],_=>⟨a,b,rfl⟩
theorem S5(h:ws.length=3):∃a b d,ws=[a,b,d]:=match ws,h with
 |[a,b,d],_=>⟨a,b,d,rfl⟩
def rowsOf(k:Nat)(row:List Int):List (List Int):=if k=1 then[row] else[]
theorem Mo{k:Nat}{x:Str}(hj:rM[j]?=some (x,n,k))(hw:ws.length=n)(ha:asked1 (PyVanbkn.whole (((j:Int)::ws)::rowsOf k row))=true):∃c,callOf (PyVanbkn.whole (((j:Int)::ws)::rowsOf k row))=some c/\jv x ws row c:=by
 match j,hj with
 |0,hj=>cases hj;obtain⟨a,b,rfl⟩:=JX hw;have ha:(whole60 a&&(whole60 b&&((row.all (λ(z:Int)=>whole60 z))&&decide (row.length<=200))))=true:=ha;simp only[uQ,qN] at ha;exact⟨.section_ a b row,rfl,rfl,rfl,rfl,ha.2.2.2⟩
 |1,hj=>cases hj;obtain⟨a,b,rfl⟩:=JX hw;have ha:(whole60 a&&(whole60 b&&((row.all (λ(z:Int)=>whole60 z))&&decide (row.length<=200))))=true:=ha;simp only[uQ,qN] at ha;exact⟨.cell a b row,rfl,rfl,rfl,rfl,ha.2.2.2⟩
 |2,hj=>cases hj;obtain⟨a,rfl⟩:=oX hw;have ha:(whole60 a&&((row.all (λ(z:Int)=>whole60 z))&&decide (row.length<=200)))=true:=ha;simp only[uQ,qN] at ha;exact⟨.write a row,rfl,rfl,rfl,rfl,ha.2.2⟩
 |3,hj=>cases hj;obtain⟨a,b,d,rfl⟩:=S5 hw;exact⟨.move a b d,rfl,rfl,rfl⟩
 |4,hj=>cases hj;obtain⟨a,rfl⟩:=oX hw;exact⟨.drop a,rfl,rfl,rfl⟩
 |5,hj=>cases hj;obtain⟨a,rfl⟩:=oX hw;exact⟨.dissolve a,rfl,rfl,rfl⟩
 |6,hj=>cases hj;obtain⟨a,rfl⟩:=oX hw;exact⟨.promote a,rfl,rfl,rfl⟩
 |7,hj=>cases hj;obtain⟨a,rfl⟩:=oX hw;exact⟨.demote a,rfl,rfl,rfl⟩
 |8,hj=>cases hj;obtain⟨a,b,rfl⟩:=JX hw;have ha:(whole60 a&&(whole60 b&&((row.all (λ(z:Int)=>whole60 z))&&decide (row.length<=200))))=true:=ha;simp only[uQ,qN] at ha;exact⟨.wrap a b row,rfl,rfl,rfl,rfl,ha.2.2.2⟩
 |9,hj=>cases hj;obtain⟨a,rfl⟩:=oX hw;exact⟨.raise a,rfl,rfl,rfl⟩
 |10,hj=>cases hj;obtain⟨a,rfl⟩:=oX hw;exact⟨.sort a,rfl,rfl,rfl⟩
 |11,hj=>cases hj;obtain⟨a,b,d,rfl⟩:=S5 hw;exact⟨.copy a b d,rfl,rfl,rfl⟩
 |12,hj=>cases hj;obtain⟨a,b,rfl⟩:=JX hw;exact⟨.fold a b,rfl,rfl,rfl⟩
 |13,hj=>cases hj;obtain⟨a,rfl⟩:=oX hw;exact⟨.foldFrom a,rfl,rfl,rfl⟩
 |14,hj=>cases hj;obtain⟨a,rfl⟩:=oX hw;exact⟨.reveal a,rfl,rfl,rfl⟩
 |15,hj=>cases hj;obtain rfl:=len0 hw;exact⟨.order,rfl,rfl,rfl⟩
 |16,hj=>cases hj;obtain rfl:=len0 hw;exact⟨.view,rfl,rfl,rfl⟩
 |17,hj=>cases hj;obtain⟨a,rfl⟩:=oX hw;exact⟨.label a,rfl,rfl,rfl⟩
 |18,hj=>cases hj;obtain rfl:=len0 hw;have ha:((row.all (λ(z:Int)=>whole60 z))&&decide (row.length<=200))=true:=ha;simp only[uQ,qN] at ha;exact⟨.find row,rfl,rfl,rfl,rfl,ha.2⟩
 |19,hj=>cases hj;obtain⟨a,rfl⟩:=oX hw;exact⟨.text a,rfl,rfl,rfl⟩
 |20,hj=>cases hj;obtain⟨a,rfl⟩:=oX hw;exact⟨.shown a,rfl,rfl,rfl⟩
 |21,hj=>cases hj;obtain⟨a,rfl⟩:=oX hw;exact⟨.contents a,rfl,rfl,rfl⟩
 |22,hj=>cases hj;obtain⟨a,rfl⟩:=oX hw;exact⟨.info a,rfl,rfl,rfl⟩
 |23,hj=>cases hj;obtain⟨a,rfl⟩:=oX hw;exact⟨.path a,rfl,rfl,rfl⟩
 |24,hj=>cases hj;obtain⟨a,rfl⟩:=oX hw;exact⟨.references a,rfl,rfl,rfl⟩
 |25,hj=>cases hj;obtain⟨a,rfl⟩:=oX hw;exact⟨.referring a,rfl,rfl,rfl⟩
 |26,hj=>cases hj;obtain rfl:=len0 hw;exact⟨.broken,rfl,rfl,rfl⟩
 |27,hj=>cases hj;obtain rfl:=len0 hw;have ha:((row.all (λ(z:Int)=>whole60 z))&&decide (row.length<=200))=true:=ha;simp only[uQ,qN] at ha;exact⟨.search row,rfl,rfl,rfl,rfl,ha.2⟩
 |28,hj=>cases hj;obtain⟨a,b,rfl⟩:=JX hw;exact⟨.step a b,rfl,rfl,rfl⟩
 |29,hj=>cases hj;obtain rfl:=len0 hw;exact⟨.save,rfl,rfl,rfl⟩
 |30,hj=>cases hj;obtain rfl:=len0 hw;have ha:((row.all (λ(z:Int)=>whole60 z))&&decide (row.length<=10000))=true:=ha;simp only[uQ,qN] at ha;exact⟨.load row,rfl,rfl,rfl,rfl,ha.2⟩
 |31,hj=>cases hj;obtain rfl:=len0 hw;exact⟨.state,rfl,rfl,rfl⟩
 |n+32,hj=>cases hj
theorem TR.join{u:TS}{b:Bool}(Pj:L2.St->Hp->Prop)(h:TR t σ H b)(hx:b=true->∀H',aD H H'->∀R:L2.St->Hp->Prop,(∀σ' H2,Pj σ' H2->R σ' H2)->tx {D with nx:=R} σ H')(hy:b=false->∀H',aD H H'->∀R:L2.St->Hp->Prop,(∀σ' H2,Pj σ' H2->R σ' H2)->ty {D with nx:=R} σ H')(k:∀σ' H',Pj σ' H'->u D σ' H'):qO (Ab t tx ty) u D σ H:=
 TR.Kc h (λe H' s=>hx e H' s _ k) (λe H' s=>hy e H' s _ k)
structure Yr(K:PySem.W.Frag)(mg:Str->Option Value)(SA:Addr):Prop where
 at_:mg "SHAPES"=some (.ref SA)
 sq:∃bs:List Addr,bs.length=32/\(∀H,iu K H SA (bs.map V.ref))/\∀(i:Nat)(b:Addr)(q:Str×Nat×Nat),bs[i]?=some b->rM[i]?=some q->∀H,iu K H b [.str q.1,.int (q.2.1:Nat),.int (q.2.2:Nat)]
structure fV(CC:Addr)(H:Hp)(p:Addr)(as:List Addr)(cs:List (List (List Int))):Prop where
 lst:H p=some (.lst (as.map V.ref))
 len:as.length=cs.length
 at_:∀(i:Nat)(a:Addr)(c:List (List Int)),as[i]?=some a->cs[i]?=some c->∃k x ws row cd wl rl,callOf (PyVanbkn.whole c)=some k/\lB CC H a k x ws row cd wl rl
theorem fV.same{H H':Hp}{p:Addr}{as:List Addr}{cs:List (List (List Int))}(h:fV CC H p as cs)(s:aD H H'):fV CC H' p as cs:=⟨s _ _ h.lst,h.len,λi a c ha hc=>by obtain⟨k,x,ws,row,cd,wl,rl,h1,h2⟩:=h.at_ i a c ha hc;exact⟨k,x,ws,row,cd,wl,rl,h1,h2.same s⟩⟩
theorem fV.push{a:Addr}{c:List (List Int)}{k:Vanbkn.Call}{x:Str}(h:fV CC H p as cs)(h1:callOf (PyVanbkn.whole c)=some k)(h2:lB CC H a k x ws row cd wl rl)(hw:wl≠p)(hr:rl≠p):
 fV CC (upd H p (.lst (as.map V.ref++[V.ref a]))) p (as++[a]) (cs++[c]):=by
 refine⟨by rw[ah,cX];rfl,by rw[bb,bb,h.len];rfl,λi b d hb hd=>?_⟩;have Gx:=h.lst;have keep:∀{t:Addr}{ns:List Int},H t=some (.lst (aU ns))->as≠[]->upd H p (.lst (as.map V.ref++[V.ref a])) t=some (.lst (aU ns)):=λ{t ns} g fk=>by
  rw[az (λq=>?_)]
  .exact g
  .rw[q,Gx] at g;injection g with g;injection g with g;cases as with
   |nil=>exact fk rfl
   |cons c0 cs0=>
    cases ns with
    |nil=>cases g
    |cons z zs=>cases g
 have NA:∀{t cd:Addr}{fs:List (Str×V)},H t=some (.ins CC cd fs)->upd H p (.lst (as.map V.ref++[V.ref a])) t=some (.ins CC cd fs):=λ{t cd fs} g=>by rw[az (λq=>by rw[q,Gx] at g;cases g)];exact g
 by_cases hi:i<as.length
 .rw[nv hi] at hb;rw[nv (by rw[<-h.len];exact hi)] at hd;have fk:as≠[]:=λq=>by rw[q] at hi;cases hi
  obtain⟨k',x',ws',W7,cd',wl',NB,g1,g2⟩:=h.at_ i b d hb hd;exact⟨k',x',ws',W7,cd',wl',NB,g1,⟨NA g2.at_,keep g2.w fk,keep g2.r fk,g2.is⟩⟩
 .rw[k3 (by omega)] at hb;rw[k3 (by rw[<-h.len];omega),<-h.len] at hd;cases e:i - as.length with
  |zero=>rw[e] at hb hd;cases hb;cases hd;exact⟨k,x,ws,row,cd,wl,rl,h1,⟨NA h2.at_,by rw[az hw];exact h2.w,by rw[az hr];exact h2.r,h2.is⟩⟩
  |succ n=>rw[e] at hb;simp at hb
theorem GC{f:Nat}(h:PyFlat.calls shape f []=some cs):cs=[]:=by cases f<;>(cases h;rfl)
theorem Dx{f:Nat}{p:Int}{r:List Int}(h:PyFlat.calls shape f (p::r)=some cs):∃(f' n k:Nat)(row t:List Int)(rest:List (List (List Int))),shape p=some (n,k)/\n<=r.length/\cs=((p::r.take n)::rowsOf k row)::rest/\PyFlat.calls shape f' t=some rest/\
 ((k=0/\t=r.drop n/\row=[])\/(k=1/\∃m r2,r.drop n=m::r2/\0<=m/\m.toNat<=r2.length/\row=r2.take m.toNat/\t=r2.drop m.toNat)):=by
 cases f with
 |zero=>cases h
 |succ f=>
  have h:(match PyFlat.call shape (p::r) with
   |none=>none
   |some (c,t)=>match PyFlat.calls shape f t with
    |none=>none
    |some cs=>some (c::cs))=some cs:=h
  cases hc:PyFlat.call shape (p::r) with
  |none=>rw[hc] at h;cases h
  |some ct=>
   obtain⟨c,t⟩:=ct;rw[hc] at h;dsimp only at h;cases hr:PyFlat.calls shape f t with
   |none=>rw[hr] at h;cases h
   |some rest=>
    rw[hr] at h;cases h;have hc:(match shape p with
     |none=>none
     |some (n,k)=>if r.length<n then none else match rows k (r.drop n) with
      |none=>none
      |some (xs,t)=>some ((p::r.take n)::xs,t))=some (c,t):=hc
    cases hs:shape p with
    |none=>rw[hs] at hc;cases hc
    |some nk=>
     obtain⟨n,k⟩:=nk;rw[hs] at hc;dsimp only at hc;by_cases hn:r.length<n
     .rw[ao hn] at hc;cases hc
     rw[ak hn] at hc;obtain⟨j,x,hj,hx⟩:=BW hs;have hk:k=0\/k=1:=by
      have:∀q∈rM,q.2.2=0\/q.2.2=1:=by decide+kernel
      exact this _ (cJ hx)
     rcases hk with rfl|rfl
     .cases hc;exact⟨f,n,0,[],_,rest,rfl,by omega,rfl,hr,.inl ⟨rfl,rfl,rfl⟩⟩
     .have e:rows 1 (r.drop n)=match PyFlat.row (r.drop n) with
       |none=>none
       |some (x,s)=>some ([x],s):=rfl
      rw[e] at hc;cases hd:r.drop n with
      |nil=>rw[hd] at hc;cases hc
      |cons m r2=>
       rw[hd] at hc;have e2:PyFlat.row (m::r2)=if 0<=m/\m.toNat<=r2.length then some (r2.take m.toNat,r2.drop m.toNat) else none:=rfl;rw[e2] at hc;by_cases hm:0<=m/\m.toNat<=r2.length
       .rw[ao hm] at hc;cases hc;exact⟨f,n,1,_,_,rest,rfl,by omega,rfl,hr,.inr ⟨rfl,m,r2,hd,hm.1,hm.2,rfl,rfl⟩⟩
       .rw[ak hm] at hc;cases hc
def JY(K:PySem.W.Frag)(CC:Addr):Sp:=λvs H Q _=>∃(r:Addr)(l:List Int)(cs:List (List (List Int))),vs=[.ref r]/\bf K H r (aU l)/\PyFlat.calls shape l.length l=some cs/\cs.length<=200/\(∀c∈cs,asked1 (PyVanbkn.whole c)=true)/\∀H' p as,aD H H'->fV CC H' p as cs->Q (.ref p) H'
theorem cD:aG ["numbers","found","position","shape","row_start","wholes","row"] ["numbers"] (ay mq):=eP
theorem Mp{SA:Addr}(F:bG K mg "read_calls" mq ["numbers"])(T:Txt K mg C CO CC)(S:Yr K mg SA)(JZ:EF P w K mg base 1 "Call" CC ["self","name","wholes","row"] (zu CC)):aZ Z 3 "read_calls" ["numbers"] (JY K CC):=by
 refine F.ok cD (λvs H Q E h=>?_) (λ_ _ _ _ _ H _ Q E hr h=>?_)
 .obtain⟨_,_,_,rfl,_⟩:=h;rfl
 .obtain⟨r,l,cs,rfl,hR,W8,hz,Dy,k⟩:=h;refine⟨_,(ae (bD 1 cD (aL ag)) (ae (bD 2 cD au) (ae (fo PassesOwn.never (bE g7 (pv 2) (o_ T (aa (pv 0) ag))) (ae (bD 3 cD (c7 dR (yI (v:= .ref SA) rfl S.at_ rfl) (c7 aJ (pv 0) (pv 2)))) (ae (bD 4 cD (bh bP (bh bP (pv 2) au) (c7 dR (pv 3) au))) (ae (bD 5 cD (bo bA (pv 0) (aX (bh bP (pv 2) au)) (aX (pv 4)))) (ae (bD 6 cD (aL ag)) (ae (bD 2 cD (pv 4)) (ae (aM (bE bw (c7 dR (pv 3) au) au) (ae (bD 2 cD (bh bP (bh bP (pv 4) au) (c7 aJ (pv 0) (pv 4)))) (aj (bD 6 cD (bo bA (pv 0) (aX (bh bP (pv 4) au)) (aX (pv 2)))))) aA) (aj (bF (eY eN iZ i0 cy (pv 1) (aa (JZ.make (hr.mono (by decide)) rfl (aa (c7 dR (pv 3) au) (aa (pv 5) (aa (pv 6) ag)))) ag))))))))))) (aj (aw (pv 1)))))),?_⟩;obtain⟨bs,Wl,hSA,hbs⟩:=S.sq;refine⟨a_ _,λc hc=>?_⟩;have s1:aD H (upd H c (.lst [])):=aE hc;refine fz (λ(U:Nat×List (List (List Int))×List (List (List Int))) σ H'=>∃(f:Nat)(as:List Addr)(v3 v4 v5 v6:Option V),σ=[some (.ref r),some (.ref c),some (.int (U.1:Nat)),v3,v4,v5,v6]/\PyFlat.calls shape f (l.drop U.1)=some U.2.2/\cs=U.2.1++U.2.2/\aD H H'/\fV CC H' c as U.2.1) (λU=>U.2.2.length) (0,[],cs)
   ⟨l.length,[],none,none,none,none,rfl,W8,rfl,s1,⟨ah,rfl,λi a d h=>by simp at h⟩⟩ ?_
  rintro⟨i,dn,rest⟩ σ H' ⟨f,as,v3,v4,v5,v6,rfl,zE,Dz,s2,CL⟩;have zE:PyFlat.calls shape f (l.drop i)=some rest:=zE;have Dz:cs=dn++rest:=Dz;have CL:fV CC H' c as dn:=CL;have QL:=s2.seq hR;refine⟨_,rfl,_,rfl,r,_,rfl,.inl QL,_,_,rfl,rfl,_,rfl,?_⟩;rw[bB];by_cases m6:i<l.length
  .refine aK (λ_=>?_) (λh=>absurd (aR (by show((i:Nat):Int)<_;omega)) h);have yV:l.drop i=l[i]::l.drop (i+1):=rQ m6;rw[yV] at zE;obtain⟨f',n,kk,row,t,yE,Uz,hn,S6,W9,S7⟩:=Dx zE;subst S6;obtain⟨j,x,hj,hx⟩:=BW Uz;have aaT:j<32:=(dm.mp hx).1;have W_:bs[j]?=some (bs[j]'(by omega)):=c_ _;have hB:=hbs j _ _ W_ hx;generalize bs[j]'(by omega)=b at W_ hB;have hgi:(aU l)[i]?=some (V.int l[i]):=by unfold aU;rw[gX,c_ m6];rfl
   refine m_ (i,dn,(((l[i]::(l.drop (i+1)).take n)::rowsOf kk row)::yE)) ?_;refine⟨_,rfl,_,rfl,r,_,_,_,rfl,rfl,QL,bU hgi,SA,_,_,V.ref b,rfl,rfl,hSA _,?_,?_⟩
   .rw[hj];exact bU (by rw[gX,W_];rfl)
   refine⟨_,rfl,_,_,rfl,rfl,_,rfl,b,_,_,_,rfl,rfl,hB _,bU (j:=1) rfl,_,_,rfl,rfl,?_⟩;have e1:((i:Nat):Int)+1+((n:Nat):Int)=((i+1+n:Nat):Int):=by omega
   refine⟨_,rfl,_,rfl,_,_,rfl,rfl,_,rfl,_,rfl,_,rfl,r,_,rfl,QL,λwl Mq=>?_⟩;have e0:((i:Nat):Int)+1=((i+1:Nat):Int):=by omega
   have sR:d_ (aU l) (some (((i:Nat):Int)+1)) (some (((i:Nat):Int)+1+((n:Nat):Int)))=aU ((l.drop (i+1)).take n):=by rw[e0,lT,pj]
   have s3:=aE Mq (u:= .lst (d_ (aU l) (some (((i:Nat):Int)+1)) (some (((i:Nat):Int)+1+((n:Nat):Int)))));have Ys:upd H' wl (.lst (d_ (aU l) (some (((i:Nat):Int)+1)) (some (((i:Nat):Int)+1+((n:Nat):Int))))) wl=some (.lst (aU ((l.drop (i+1)).take n))):=by rw[ah,sR]
   generalize upd H' wl (.lst (d_ (aU l) (some (((i:Nat):Int)+1)) (some (((i:Nat):Int)+1+((n:Nat):Int)))))=H3 at s3 Ys⊢;refine⟨a_ _,λrl Nh=>?_⟩;have s4:=s3.new Nh (u:= .lst []);have Yt:=a9 (u:= .lst []) Ys Nh;have S8:=s4 _ _ CL.lst;have S9:upd H3 rl (.lst []) rl=some (.lst []):=ah;have hwc:wl≠c:=λq=>by rw[q,CL.lst] at Mq;cases Mq
   have hrc:rl≠c:=λq=>by rw[q,s3 _ _ CL.lst] at Nh;cases Nh
   generalize upd H3 rl (.lst [])=H4 at s4 Yt S8 S9⊢;have So:=s4.seq QL;refine⟨_,rfl,?_⟩;dsimp only[fK,kD];refine TR.join (b:=decide (V.int ((kk:Nat):Int)=V.int 1)) (λσ' H2=>∃(NB:Addr)(i':Nat)(z:Int),σ'=[some (.ref r),some (.ref c),some (.int z),some (.ref b),some (.int (((i:Nat):Int)+1+((n:Nat):Int))),some (.ref wl),some (.ref NB)]/\z=(i':Int)/\aD H4 H2/\H2 NB=some (.lst (aU row))/\NB≠c/\l.drop i'=t) ?_ ?_ ?_ ?_
   .exactλR hR=>⟨_,rfl,b,_,_,_,rfl,rfl,hB _,bU (j:=2) rfl,rfl,_,rfl,hR _ (aD.refl _)⟩
   .intro hk H5 s5 R Xa;have MZ:kk=1:=by have:=aH hk;injection this with this;omega
    rcases S7 with⟨h0,_⟩|⟨_,m,r2,hd,hm0,Ua,Xb,ht⟩
    .omega
    have Yu:=s5.seq So;rw[ni] at hd;have hgm:l[i+1+n]?=some m:=by rw[<-Fd,hd];rfl
    have Yv:l.drop (i+1+n+1)=r2:=by rw[<-ni,hd];rfl
    have hgv:(aU l)[i+1+n]?=some (V.int m):=by unfold aU;rw[gX,hgm];rfl
    have F7:B4 (aU l) (((i:Nat):Int)+1+((n:Nat):Int))=some (V.int m):=by rw[e1];exact bU hgv
    refine⟨_,rfl,_,_,rfl,rfl,_,rfl,_,rfl,r,_,_,V.int m,rfl,rfl,Yu,F7,_,_,rfl,rfl,?_⟩;refine⟨_,rfl,_,rfl,_,_,rfl,rfl,_,rfl,_,rfl,_,rfl,r,_,rfl,Yu,λYw Qc=>?_⟩;have S_:d_ (aU l) (some (((i:Nat):Int)+1+((n:Nat):Int)+1)) (some (((i:Nat):Int)+1+((n:Nat):Int)+1+m))=aU row:=by rw[show((i:Nat):Int)+1+((n:Nat):Int)+1=((i+1+n+1:Nat):Int) by omega,show m=((m.toNat:Nat):Int) by omega,lT,pj,Yv,Xb]
    have S':Yw≠c:=λq=>by rw[q,s5 _ _ S8] at Qc;cases Qc
    refine Xa _ _ ⟨Yw,i+1+n+1+m.toNat,_,rfl,by omega,s5.new Qc,by rw[ah,S_],S',?_⟩;rw[<-ni,Yv,ht]
   .intro hk H5 s5 R Xa;rcases S7 with⟨h0,ht,Xb⟩|⟨h1,_⟩
    .refine Xa _ _ ⟨rl,i+1+n,_,rfl,e1,s5,by rw[s5 _ _ S9,Xb];rfl,hrc,?_⟩;rw[ht,ni]
    .exfalso;rw[h1] at hk;cases hk
   .rintro σ' H5 ⟨NB,i',z,rfl,KN,s5,Xc,Xd,Xe⟩;have Ta:((l.drop (i+1)).take n).length=n:=by rw[bj];exact iY hn
    have gS:((l[i]::(l.drop (i+1)).take n)::rowsOf kk row)∈cs:=by rw[Dz];simp
    obtain⟨kc,Tb,Tc⟩:=Mo hx Ta (by rw[<-hj];exact Dy _ gS);rw[<-hj] at Tb;have J9:dn.length<200:=by have:=da List.length Dz;rw[bb,cn] at this;omega
    have Yx:=s4.trans s5;have Td:=CL.same Yx;refine⟨_,rfl,.inl ⟨rfl,_,bf.of Td.lst⟩,_,rfl,b,_,_,_,rfl,rfl,hB _,bU (j:=0) rfl,_,rfl,_,rfl,λxa xd Ny F9 fk=>⟨xa,xd,x,wl,NB,rfl,ah,λH6 h6 hk=>⟨rfl,?_⟩⟩⟩;have s6:aD H5 H6:=pd Ny F9 hk;have Xf:=Td.same s6;refine⟨c,_,_,rfl,rfl,Xf.lst,eO (by rw[aT,Xf.len];show dn.length<_;omega),?_⟩;have CA:lB CC H6 xa kc x ((l.drop (i+1)).take n) row xd wl NB:=⟨h6,s6 _ _ (s5 _ _ Yt),s6 _ _ Xc,Tc⟩;have CL7:=Xf.push Tb CA hwc Xd;subst KN;refine⟨(i',dn++[((l[i]::(l.drop (i+1)).take n)::rowsOf kk row)],yE),(by show yE.length<(_::yE).length;rw[cn];exact mY _),f',as++[xa],_,_,_,_,rfl,?_,?_,?_,CL7⟩
    .show PyFlat.calls shape f' (l.drop i')=some yE;rw[Xe];exact W9
    .show cs=(dn++[_])++yE;rw[Dz];simp
    .exact((s2.trans Yx).trans s6).put hc
  .refine aK (λh=>absurd (aH h) (by show¬((i:Nat):Int)<_;omega)) (λ_=>?_);rw[uS (by omega)] at zE;have:=GC zE;subst this;rw[pw] at Dz;rw[Dz] at k;exact⟨_,rfl,k _ c as s2 CL⟩
theorem Mr(s:Vanbkn.State)(l:List (Bool×Int))(o:O)(n:Nat)(a:Int):(checked s l o n a).2.more.length=0:=by unfold checked;split<;>rfl
theorem dz{n:Int}{f:Nd->Vanbkn.State×Answer}{m:Nat}(h:∀x∈s.nodes,(f x).2.more.length<=m):(withNode s n f).2.more.length<=m:=by
 unfold withNode;split
 .next x hx=>exact h x (xy hx)
 .exact a_ _
theorem l7(l:List Nat):(tell l).more.length=l.length:=aT _
theorem mT(l:List Nd):(tellNodes l).more.length=l.length:=by show(tell _).more.length=_;rw[l7,aT]
theorem BX(W:Wf s)(c:Vanbkn.Call):(Vanbkn.step s c).2.more.length<=44820:=by
 have hw:=W.n.len;have ck:∀(l:List (Bool×Int))(o:O)(n:Nat)(a:Int),(checked s l o n a).2.more.length<=44820:=λl o n a=>by rw[Mr];omega
 cases c with
 |section_ a b t=>exact ck _ _ _ _
 |cell a b t=>exact ck _ _ _ _
 |write a t=>exact dz λx _=>ck _ _ _ _
 |move a b d=>exact dz λx _=>ck _ _ _ _
 |drop a=>exact dz λx _=>a_ _
 |dissolve a=>exact dz λx _=>ck _ _ _ _
 |promote a=>exact dz λx _=>ck _ _ _ _
 |demote a=>
  refine dz λx _=>?_;split
  .exact a_ _
  .exact ck _ _ _ _
 |wrap a b t=>exact dz λx _=>dz λy _=>ck _ _ _ _
 |raise a=>refine dz λx _=>?_;split<;>exact a_ _
 |sort a=>exact ck _ _ _ _
 |copy a b d=>exact dz λx _=>ck _ _ _ _
 |fold a b=>exact dz λx _=>ck _ _ _ _
 |foldFrom a=>exact ck _ _ _ _
 |reveal a=>exact dz λx _=>a_ _
 |order=>show(s.nodes.flatMap λx=>[ofNat x.number,ofNat x.depth]).length<=_;refine bq (iP _ 2 _ λx _=>aS _) ?_;omega
 |view=>show((visible s.nodes).flatMap _).length<=_;refine bq (iP _ 3 _ λx _=>aS _) ?_;have:(visible s.nodes).length<=s.nodes.length:=lE _ _;omega
 |label a=>refine dz λx hx=>?_;show(tell _).more.length<=_;obtain⟨qo,h1,h2⟩:=wL W.n hx;rw[l7,h1];show qo.length<=_;omega
 |find l=>
  show(match (labels s.nodes).find? λ(x:Nat×List Nat)=>x.2==textOf l with
   |some x=>(s,(⟨ofNat x.1,[]⟩:Answer))
   |none=>refused s (-13)).2.more.length<=_
  split<;>exact a_ _
 |text a=>refine dz λx hx=>?_;show(tell _).more.length<=_;rw[l7];have:=(W.n.good x hx).txt.1;omega
 |shown a=>refine dz λx hx=>?_;show(tell (shownWith (labels s.nodes) x.text)).more.length<=_;rw[l7];have:=o8 (λq hq=>(fZ W.n q hq).1) x.text (W.n.good x hx).txt.1;omega
 |contents d=>
  rw[zA];split
  .show((s.nodes.filter (mK d)).flatMap (pI (labels s.nodes))).length<=_;refine bq (iP _ 747 _ λx hx=>BI W.n (gY.mp hx).1) ?_;have:=lE (mK d) s.nodes;omega
  .exact a_ _
 |info a=>exact dz λx _=>(by show 5<=44820;decide)
 |path a=>
  rcases aY (o:=s.nodes) a with hp|⟨u,x,r,e,hp,kU⟩
  .show(withNode s a _).2.more.length<=_;rw[bx W.n hp];exact a_ _
  .rw[E4 W e kU];show(tellNodes _).more.length<=_;rw[mT,tw,cn];have:=(wG u.reverse x.depth).length_le;rw[tw] at this;rw[e,bb] at hw;omega
 |references a=>refine dz λx hx=>?_;show((refs x.text).flatMap _).length<=_;refine bq (iP _ 2 _ λx _=>aS _) ?_;have:=wK x.text;have:=(W.n.good x hx).txt.1;omega
 |referring a=>refine dz λx hx=>?_;show(tellNodes _).more.length<=_;rw[mT];exact bq (lE _ _) (by omega)
 |broken=>show(tellNodes _).more.length<=_;rw[mT];exact bq (lE _ _) (by omega)
 |search t=>show(tellNodes _).more.length<=_;rw[mT];exact bq (lE _ _) (by omega)
 |step a b=>
  refine dz λx hx=>?_;show(tellStep s x b).more.length<=_;unfold tellStep;dsimp only;split
  .exact a_ _
  .split<;>exact a_ _
 |save=>
  show(tell (Vanbkn.save s)).more.length<=_;rw[l7];unfold Vanbkn.save;rw[bb,bb,cn];have h1:=SX W.nx.2;have h2:(Vanbkn.b "outline ").length=8:=rfl;have h3:(s.nodes.flatMap nodeLine).length<=81*s.nodes.length:=iP _ 81 _ λx hx=>by rw[sZ,bb];have:=W.n.P' x hx;have:=BP (by omega) (W.n.good x hx).num.2 (W.n.good x hx).txt.1;show _+1<=81;omega
  omega
 |load t=>
  rw[yA];split
  .exact a_ _
  .show 1<=44820
   decide
 |state=>show 3<=44820;decide
theorem oY{n:Int}{f:Nd->Vanbkn.State×Answer}(h:∀x,(f x).1=s):(withNode s n f).1=s:=by
 unfold withNode;split
 .exact h _
 .rfl
theorem E5(W:Wf s)(c:Vanbkn.Call):Wf (Vanbkn.step s c).1:=by
 have keep:(Vanbkn.step s c).1=s->Wf (Vanbkn.step s c).1:=λe=>by rw[e];exact W
 cases c with
 |section_ a b t=>show Wf (doNew s a b false t).1;rw[Cy W];exact HQ W a b false t
 |cell a b t=>show Wf (doNew s a b true t).1;rw[Cy W];exact HQ W a b true t
 |write a t=>exact HS W a t
 |move a b d=>exact yZ W a b d
 |drop a=>exact K0 W a
 |dissolve a=>exact AL W a
 |promote a=>exact CD W a
 |demote a=>exact FJ W a
 |wrap a b t=>exact K2 W a b t
 |raise a=>exact HV W a
 |sort a=>exact K3 W a
 |copy a b d=>exact K7 W a b d
 |fold a b=>exact KZ W a b
 |foldFrom a=>exact AJ W a
 |reveal a=>exact FH W a
 |order=>exact W
 |view=>exact W
 |label a=>exact keep (oY λ_=>rfl)
 |find l=>
  refine keep ?_;show(match (labels s.nodes).find? λ(x:Nat×List Nat)=>x.2==textOf l with
   |some x=>(s,(⟨ofNat x.1,[]⟩:Answer))
   |none=>refused s (-13)).1=s
  split<;>rfl
 |text a=>exact keep (oY λ_=>rfl)
 |shown a=>exact keep (oY λ_=>rfl)
 |contents d=>refine keep ?_;rw[zA];split<;>rfl
 |info a=>exact keep (oY λ_=>rfl)
 |path a=>exact keep (oY λ_=>rfl)
 |references a=>exact keep (oY λ_=>rfl)
 |referring a=>exact keep (oY λ_=>rfl)
 |broken=>exact W
 |search t=>exact W
 |step a b=>exact keep (oY λ_=>rfl)
 |save=>exact W
 |load t=>exact K9 W t
 |state=>exact W
theorem BY:Wf Vanbkn.start:=⟨⟨by simp[Vanbkn.start],by simp[Vanbkn.start,nums],trivial,by simp[Vanbkn.start]⟩,by simp[Vanbkn.start],by decide⟩
def uu(s:Vanbkn.State):List (List (List Int))->Vanbkn.State
 |[]=>s
 |c::r=>uu (VanbknNeutral.step s c).1 r
theorem ud:∀(s:Vanbkn.State)(a b:List (List (List Int))),uu s (a++b)=uu (uu s a) b
 |_,[],_=>rfl
 |s,c::r,b=>ud (VanbknNeutral.step s c).1 r b
theorem pL:∀(s:Vanbkn.State)(a b:List (List (List Int))),played VanbknNeutral.step s (a++b)=played VanbknNeutral.step s a++played VanbknNeutral.step (uu s a) b
 |_,[],_=>rfl
 |s,c::r,b=>by show _::played VanbknNeutral.step (VanbknNeutral.step s c).1 (r++b)=_;rw[pL];rfl
theorem ue(a b:List (List Int)):PyFlat.told (a++b)=PyFlat.told a++PyFlat.told b:=by unfold PyFlat.told;rw[B_]
theorem Te{c:List (List Int)}{k:Vanbkn.Call}(h:callOf c=some k):VanbknNeutral.step s c=((Vanbkn.step s k).1,encode (Vanbkn.step s k).2):=by unfold VanbknNeutral.step;rw[h]
theorem E6:∀(s:Vanbkn.State)(cs:List (List (List Int))),Wf s->Wf (uu s cs)
 |_,[],W=>W
 |s,c::r,W=>by
  refine E6 _ r ?_;unfold VanbknNeutral.step;split
  .exact E5 W _
  .exact W
theorem wY:∀(s:Vanbkn.State)(cs:List (List (List Int))),Wf s->(PyFlat.told (played VanbknNeutral.step s cs)).length<=44822*cs.length
 |_,[],_=>by simp[played,PyFlat.told]
 |s,c::r,W=>by
  show(PyFlat.told ([(VanbknNeutral.step s c).2]++played VanbknNeutral.step (VanbknNeutral.step s c).1 r)).length<=_;rw[ue,bb,cn];have hW:Wf (VanbknNeutral.step s c).1:=by
   unfold VanbknNeutral.step;split
   .exact E5 W _
   .exact W
  have h1:=wY _ r hW;have h2:(PyFlat.told [(VanbknNeutral.step s c).2]).length<=44822:=by
   have e:PyFlat.told [(VanbknNeutral.step s c).2]=(((VanbknNeutral.step s c).2.length:Int)::(VanbknNeutral.step s c).2):=by simp[PyFlat.told]
   rw[e,cn];unfold VanbknNeutral.step;split
   .next k hk=>
    show(encode (Vanbkn.step s k).2).length+1<=_;have:=BX W k;show(Vanbkn.step s k).2.more.length+1+1<=_;omega
   .show 1+1<=44822
    decide
  rw[zV];omega
theorem ba.off(O:ba C CO H ob dx l as s)(hb:H b=some (.jO od u)):ba C CO (upd H b v) ob dx l as s:=by
 have ne:∀{a:Addr}{o:HO},H a=some o->(∀o' u',o≠ .jO o' u')->a≠b:=λ{a o} h hn q=>by rw[q,hb] at h;exact hn _ _ (di h).symm
 refine⟨by rw[az (ne O.at_ (by intros;intro q;cases q))];exact O.at_,⟨by rw[az (ne O.N.lst (by intros;intro q;cases q))];exact O.N.lst,O.N.len,O.N.sm,λi a x ha hx=>?_⟩⟩;obtain⟨d,t,h1,h2⟩:=O.N.at_ i a x ha hx;exact⟨d,t,by rw[az (ne h1 (by intros;intro q;cases q))];exact h1,by rw[az (ne h2 (by intros;intro q;cases q))];exact h2⟩
theorem fV.off(h:fV CC H p as cs)(hb:H b=some (.jO od u)):fV CC (upd H b v) p as cs:=by
 have ne:∀{a:Addr}{o:HO},H a=some o->(∀o' u',o≠ .jO o' u')->a≠b:=λ{a o} h hn q=>by rw[q,hb] at h;exact hn _ _ (di h).symm
 refine⟨by rw[az (ne h.lst (by intros;intro q;cases q))];exact h.lst,h.len,λi a c ha hc=>?_⟩;obtain⟨k,x,ws,row,cd,wl,rl,h1,h2⟩:=h.at_ i a c ha hc;exact⟨k,x,ws,row,cd,wl,rl,h1,⟨by rw[az (ne h2.at_ (by intros;intro q;cases q))];exact h2.at_,by rw[az (ne h2.w (by intros;intro q;cases q))];exact h2.w,by rw[az (ne h2.r (by intros;intro q;cases q))];exact h2.r,h2.is⟩⟩
theorem sP.off{P:Addr}(h:sP H P)(hb:H b=some (.jO od u)):sP (upd H b v) P:=by
 have ne:∀{a:Addr}{o:HO},H a=some o->(∀o' u',o≠ .jO o' u')->a≠b:=λ{a o} h hn q=>by rw[q,hb] at h;exact hn _ _ (di h).symm
 obtain⟨ps,h1,h2,h3⟩:=h;refine⟨ps,by rw[az (ne h1 (by intros;intro q;cases q))];exact h1,h2,?_⟩;rcases h3 with h3|⟨c,h3,h4⟩
 .exact .inl h3
 .exact .inr ⟨c,h3,by rw[az (ne h4 (by intros;intro q;cases q))];exact h4⟩
theorem fV.fr(h:fV CC H p as cs)(n1:CC≠C)(n2:CC≠CO)(f:Fr C CO H H'):fV CC H' p as cs:=⟨f.lst h.lst,h.len,λi a c ha hc=>by obtain⟨k,x,ws,row,cd,wl,rl,h1,h2⟩:=h.at_ i a c ha hc;exact⟨k,x,ws,row,cd,wl,rl,h1,⟨f.keep _ _ h2.at_ (λ_ _ q=>by injection q with q _ _;exact n1 q) (λ_ _ q=>by injection q with q _ _;exact n2 q) (λ_ q=>nomatch q),f.lst h2.w,f.lst h2.r,h2.is⟩⟩⟩
def E7(TP:Addr)(K:PySem.W.Frag):Sp:=λvs H Q _=>∃(r:Addr)(l:List Int)(cs:List (List (List Int))),vs=[.ref r]/\sP H TP/\bf K H r (aU l)/\PyFlat.calls shape l.length l=some cs/\cs.length<=200/\(∀c∈cs,asked1 (PyVanbkn.whole c)=true)/\
 ∀H' p,H' p=some (.lst (aU (PyFlat.told (played VanbknNeutral.step VanbknNeutral.start (cs.map PyVanbkn.whole)))))->Q (.ref p) H'
theorem Qe(h:H b=some u):upd H b u=H:=by
 funext x;by_cases e:x=b
 .rw[e,ah,h]
 .rw[az e]
theorem wZ(s:aD (upd H b u) H')(v:HO):aD (upd H b v) (upd H' b v):=λx o e=>by
 by_cases hx:x=b
 .rw[hx,ah] at e⊢;exact e
 .rw[az hx] at e⊢;exact s x o (by rw[az hx];exact e)
theorem Qg{TP:Addr}{K:PySem.W.Frag}{r:Addr}{l:List Int}(hT:sP H TP)(hs:bf K H r (l.map V.int))(ha:answers_asked l=true)(k:∀H' p,H' p=some (.lst ((PyVanbkn.answers l).map V.int))->Q (.ref p) H'):E7 TP K [.ref r] H Q λ_ _ _=>False:=by
 unfold answers_asked PyVanbkn.calls at ha;unfold PyVanbkn.answers PyVanbkn.calls at k;cases e:PyFlat.calls shape l.length l with
 |none=>rw[e] at ha;cases ha
 |some cs=>rw[e] at ha k;dsimp only at ha k;rw[uQ] at ha;obtain⟨h1,h2⟩:=ha;have h1:=i4 h1;rw[aT] at h1;unfold VanbknNeutral.asked at h2;rw[uQ,yH] at h2;exact⟨r,l,cs,rfl,hT,hs,e,h1,λc hc=>h2.1 _ (zK hc),k⟩
theorem mU:aG ["calls","outline","told","call"] ["calls"] (ay gN):=eP
theorem DA{TP:Addr}(F:HH K "answers" "answers" gN f fd)(T:Txt K mg C CO CC)(lZ:EF P w K mg base 1 "Outline" CO ["self"] (zt CO))(oZ:aZ Z 3 "read_calls" ["numbers"] (JY K CC))(qD:aZ Z 8 "answer_to" ["outline","call"] (S0 C CO CC TP))(bu:aZ Z 1 "counted" ["row"] e_):nq P w K mg base Aw 9 f fd ["calls"] (E7 TP K):=by
 refine F.ok mU (λvs H Q E h=>?_) (λnr A outer s H vs Q E hr h=>?_)
 .obtain⟨_,_,_,rfl,_⟩:=h;rfl
 .obtain⟨r,l,cs,rfl,UB,hR,W8,hz,Dy,k⟩:=h;refine⟨_,(ae (bD 1 mU (lZ.M4 (hr.mono (by decide)) rfl)) (ae (bD 2 mU (aL ag)) (ae (eE PassesOwn.never rfl (bM (Eg (pc oZ hr (aa (pv 0) ag)))) (jB 3 mU) (aj (bF (eY eN qJ qK fY (pv 2) (aa (pc bu hr (aa (Eg (pc qD hr (aa (pv 1) (aa (pv 3) ag)))) ag)) ag))))) (aj (aw (pv 2)))))),?_⟩;refineλxo xd hx F9 fk=>⟨xo,xd,rfl,ah,λH2 l2 B6 P8 h1 h2 hk=>⟨rfl,?_⟩⟩;have P9:l2≠xd:=λq=>by rw[q,az fk,ah] at B6;cases B6
  have Me:H l2=none:=by rw[az P8,az P9] at B6;exact B6
  have s2:aD H H2:=λb o e=>by have b1:=bc e hx;have b2:=bc e F9;have b3:=bc e Me;rw[hk b b1 b3,az b1,az b2];exact e
  have OL:ba C CO H2 xo xd l2 [] Vanbkn.start:=⟨h2,⟨h1,rfl,by simp[Vanbkn.start],by simp⟩⟩;refine⟨a_ _,λb hb=>?_⟩;have OL3:∀v:HO,ba C CO (upd H2 b v) xo xd l2 [] Vanbkn.start:=λv=>OL.same (aE hb);have Lx:∀v:HO,bf K (upd H2 b v) r (aU l):=λv=>(s2.new hb).seq hR;refine⟨b,.lst [],ah,trivial,λod=>?_⟩;rw[kz];refine⟨_,rfl,r,l,cs,rfl,Lx _,W8,hz,Dy,λH4 p as s4 CL=>⟨s4 _ _ ah,?_⟩⟩;have Xg:=s4 _ _ (ah (H:=H2) (a:=b) (o:=HO.jO od (.lst [])));have Td:∀v:HO,fV CC (upd H4 b v) p as cs:=λv=>CL.off Xg;have Xh:∀v:HO,sP (upd H4 b v) TP:=λv=>((UB.same (s2.new hb)).same s4).off Xg;have OL5:∀v:HO,ba C CO (upd H4 b v) xo xd l2 [] Vanbkn.start:=λv=>((OL3 _).same s4).off Xg;refine⟨p,rfl,⟨_,bf.of (Td _).lst⟩,dI (K:=K) (a:=p) (xs:=as.map V.ref) (λi σ H'=>∃(v3:Option V)(dx l0:Addr)(kq:List Addr),σ=[some (.ref r),some (.ref xo),some (.ref b),v3]/\(∀v:HO,ba C CO (upd H' b v) xo dx l0 kq (uu VanbknNeutral.start ((cs.map PyVanbkn.whole).take i)))/\(∀v:HO,fV CC (upd H' b v) p as cs)/\(∀v:HO,sP (upd H' b v) TP)/\
   H' b=some (.lst (aU (PyFlat.told (played VanbknNeutral.step VanbknNeutral.start ((cs.map PyVanbkn.whole).take i))))))
   ⟨none,xd,l2,[],rfl,λv=>by rw[kz];exact OL5 v,λv=>by rw[kz];exact Td v,λv=>by rw[kz];exact Xh v,ah⟩ (λi σ H' _ ⟨_,_,_,_,_,_,QW,_,hB⟩=>by have:=(QW (.lst (aU (PyFlat.told (played VanbknNeutral.step VanbknNeutral.start ((cs.map PyVanbkn.whole).take i)))))).lst;rw[Qe hB] at this;exact bf.of this) ?_ ?_⟩
  .rintro i y σ H' hi ⟨v3,dx,l0,kq,rfl,OO,QW,Xi,hB⟩;obtain⟨a,ha,rfl⟩:=get_map hi;have m6:i<cs.length:=by rw[<-CL.len];exact(dm.mp ha).1
   have Tc:cs[i]?=some cs[i]:=c_ m6;have Tf:(cs.map PyVanbkn.whole)[i]?=some (PyVanbkn.whole cs[i]):=by rw[gX,Tc];rfl
   have Ws:Wf (uu VanbknNeutral.start ((cs.map PyVanbkn.whole).take i)):=E6 _ _ BY;have Nu:∀j,(PyFlat.told (played VanbknNeutral.step VanbknNeutral.start ((cs.map PyVanbkn.whole).take j))).length<=8964400:=λj=>by refine bq (wY _ _ BY) ?_;rw[bj,aT];have:min j cs.length<=200:=bq (zU _ _) hz;omega
   have Tg:uu VanbknNeutral.start ((cs.map PyVanbkn.whole).take (i+1))=(VanbknNeutral.step (uu VanbknNeutral.start ((cs.map PyVanbkn.whole).take i)) (PyVanbkn.whole cs[i])).1:=by rw[take_snoc Tf,ud];rfl
   have rN:PyFlat.told (played VanbknNeutral.step VanbknNeutral.start ((cs.map PyVanbkn.whole).take (i+1)))=PyFlat.told (played VanbknNeutral.step VanbknNeutral.start ((cs.map PyVanbkn.whole).take i))++PyFlat.told [(VanbknNeutral.step (uu VanbknNeutral.start ((cs.map PyVanbkn.whole).take i)) (PyVanbkn.whole cs[i])).2]:=by rw[take_snoc Tf,pL,ue];rfl
   have Th:=Nu (i+1);obtain⟨kc,x,ws,row,cd,wl,rl,Tb,_⟩:=(QW (.lst [])).at_ i a cs[i] ha Tc;rw[Te Tb] at Tg rN;rw[rN] at Th;rw[Tg,rN];generalize PyFlat.told (played VanbknNeutral.step VanbknNeutral.start ((cs.map PyVanbkn.whole).take i))=T0 at hB Th⊢;generalize uu VanbknNeutral.start ((cs.map PyVanbkn.whole).take i)=si at Ws OO Th⊢;have pE:=BX Ws kc;refine⟨_,rfl,.inl ⟨rfl,_,bf.of hB⟩,b,_,hB,trivial,λod=>?_⟩;obtain⟨kc2,x,ws,row,cd,wl,rl,Ti,CA⟩:=(QW (.jO od (.lst (aU T0)))).at_ i a cs[i] ha Tc;rw[Tb] at Ti;cases Ti;refine⟨_,rfl,_,rfl,xo,dx,l0,a,cd,wl,rl,kq,si,x,ws,row,kc,rfl,OO _,Ws,Xi _,CA,λH5 p5 dx5 l5 as5 f5 O5 h5=>?_⟩;have LB:H5 b=some (.jO od (.lst (aU T0))):=f5.keep _ _ ah (λ_ _ q=>nomatch q) (λ_ _ q=>nomatch q) (λ_ q=>nomatch q);have Sq:p5≠b:=λq=>by rw[q,LB] at h5;cases h5
   refine⟨LB,p5,_,rfl,(by rw[az Sq];exact h5),?_,λH6 p6 s6 h6=>?_⟩
   .rw[bB];show(Vanbkn.step si kc).2.more.length+1<=90000;omega
   have hb6:=s6 _ _ (ah (H:=H5) (a:=b));have e1:PyFlat.told [encode (Vanbkn.step si kc).2]=(((encode (Vanbkn.step si kc).2).length:Int)::encode (Vanbkn.step si kc).2):=by simp[PyFlat.told]
   rw[e1,bb,cn] at Th;refine⟨b,p6,_,_,rfl,rfl,hb6,h6,?_,?_⟩
   .rw[cn,bB,bB];exact bq Th (by decide)
   refine⟨_,dx5,l5,as5,rfl,λv=>?_,λv=>?_,λv=>?_,?_⟩
   .rw[kz];exact(O5.off LB).same (wZ s6 v)
   .rw[kz];exact(((QW _).fr T.ne2 T.ne3 f5).off LB).same (wZ s6 v)
   .rw[kz];exact((f5.tab _ (Xi _)).off LB).same (wZ s6 v)
   .rw[ah,e1,<-fh,bB];rfl
  .rintro σ H' ⟨v3,dx,l0,kq,rfl,OO,QW,Xi,hB⟩;have Tj:(as.map V.ref).length=(cs.map PyVanbkn.whole).length:=by rw[aT,aT,CL.len]
   rw[Tj,fm] at hB;exact⟨_,rfl,k _ b hB⟩
structure Tk.Ok(C:Addr)(H:Hp)(x:Tk):Prop where
 N:NL C H x.p x.as x.o
 hd:∃a dx bs n r,x.as=a::bs/\x.o=n::r/\H a=some (.ins C dx (nf n x.t))/\H x.t=some (.lst (aI n.text))/\x.key=n.text.map λc:Nat=>(c:Int)
theorem Tk.Ok.same{H H':Hp}{x:Tk}(h:x.Ok C H)(s:aD H H'):x.Ok C H':=by refine⟨h.N.same s,?_⟩;obtain⟨a,dx,bs,n,r,h1,h2,h3,h4,h5⟩:=h.hd;exact⟨a,dx,bs,n,r,h1,h2,s _ _ h3,s _ _ h4,h5⟩
theorem uf:∀(n m:Nat)(l:O),l.length<=n->l.length<=m->gC n l=gC m l
 |0,0,_,_,_=>rfl
 |0,m+1,[],_,_=>rfl
 |n+1,0,[],_,_=>rfl
 |n+1,m+1,[],_,_=>rfl
 |0,m+1,x::r,h,_=>absurd h (by simp)
 |n+1,0,x::r,_,h=>absurd h (by simp)
 |n+1,m+1,x::r,h1,h2=>by have:=kO (d:=x.depth) (l:=r);simp at h1 h2;show(x::inside x.depth r)::gC n (outside x.depth r)=(x::inside x.depth r)::gC m (outside x.depth r);rw[uf n m _ (by omega) (by omega)]
theorem DB(x:Nd)(r:O):trees (x::r)=(x::inside x.depth r)::trees (outside x.depth r):=by have:=kO (d:=x.depth) (l:=r);show(x::inside x.depth r)::gC r.length (outside x.depth r)=_;unfold trees;rw[uf r.length (outside x.depth r).length _ this (aS _)]
theorem w6{d:Nat}{post:O}(h:hd post<=d):∀r:O,inside d (r++post)=inside d r
 |[]=>by
  cases post with
  |nil=>rfl
  |cons y q=>have h:y.depth<=d:=h;show List.takeWhile _ (y::q)=[];rw[DL (by simp;omega)]
 |x::r=>by show List.takeWhile _ (x::(r++post))=List.takeWhile _ (x::r);rw[mW,mW];have ih:List.takeWhile _ (r++post)=List.takeWhile _ r:=w6 h r;rw[ih]
def E8(C:Addr):Sp:=λvs H Q _=>∃(l:Addr)(as:List Addr)(o pre seg post:O)(d a b:Nat),vs=[.ref l,.int (a:Nat),.int (b:Nat)]/\NL C H l as o/\o=pre++seg++post/\a=pre.length/\b=(pre++seg).length/\(∀z∈seg,d<=z.depth)/\hd seg<=d/\hd post<=d/\
 ∀H' p (ts:List Tk),aD H H'->H' p=some (.lst (ts.map λx=>V.ref x.p))->(∀x∈ts,x.Ok C H')->ts.map (·.o)=trees seg->Q (.ref p) H'
theorem gg:aG ["nodes","start","end","trees","behind"] ["nodes","start","end"] (ay jj):=eP
theorem J0(F:bG K mg "trees_between" jj ["nodes","start","end"])(T:Txt K mg C CO CC)(aQ:aZ Z 1 "tree_end" ["nodes","start"] (fS C)):aZ Z 2 "trees_between" ["nodes","start","end"] (E8 C):=by
 refine F.ok gg (λvs H Q E h=>?_) (λ_ _ _ _ _ H _ Q E hr h=>?_)
 .obtain⟨_,_,_,_,_,_,_,_,_,rfl,_⟩:=h;rfl
 .obtain⟨l,as,o,pre,seg,post,d,a,b,rfl,N,eo,ea,eb,kL,hh,Yy,k⟩:=h;refine⟨_,(ae (bD 3 gg (aL ag)) (ae (fo PassesOwn.never (bE g7 (pv 1) (pv 2)) (ae (bD 4 gg (pc aQ hr (aa (pv 0) (aa (pv 1) ag)))) (ae (bF (eY eN iZ i0 cy (pv 3) (aa (bo bA (pv 0) (aX (pv 1)) (aX (pv 4))) ag))) (aj (bD 1 gg (pv 4)))))) (aj (aw (pv 3))))),?_⟩;refine⟨a_ _,λp hp=>?_⟩;have LN:=N.sm;refine fz (λ(m:Nat) σ H'=>∃(v4:Option V)(pr rest:O)(dn:List Tk),σ=[some (.ref l),some (.int (pr.length:Nat)),some (.int (b:Nat)),some (.ref p),v4]/\aD H H'/\H' p=some (.lst (dn.map λx=>V.ref x.p))/\(∀x∈dn,x.p≠p/\H' x.p=some (.lst (x.as.map V.ref))/\∀H2,aD H H2->H2 x.p=some (.lst (x.as.map V.ref))->x.Ok C H2)/\dn.map (·.o)++trees rest=trees seg/\o=pr++rest++post/\b=(pr++rest).length/\(∀z∈rest,d<=z.depth)/\hd rest<=d/\rest.length<=m/\dn.length<=pr.length) (λm=>m) seg.length
   ⟨none,pre,seg,[],by rw[ea];rfl,aE hp,ah,by simp,rfl,eo,eb,kL,hh,aS _,a_ _⟩ ?_
  rintro m σ H' ⟨v4,pr,rest,dn,rfl,s1,hP,GH,HZ,Yz,Xj,Tn,hh1,hm,J9⟩;have N1:=N.same s1;refine⟨_,rfl,_,rfl,_,_,rfl,rfl,_,rfl,?_⟩;refine aK (λhc=>?_) (λhc=>?_)
  .have fD:pr.length<b:=by have:=aH hc;omega
   obtain⟨x,r1,rfl⟩:∃x r1,rest=x::r1:=by
    cases rest with
    |nil=>simp at Xj;omega
    |cons x r1=>exact⟨x,r1,rfl⟩
   obtain⟨m',rfl⟩:∃m',m=m'+1:=⟨m - 1,by simp at hm;omega⟩;have e2:o=pr++x::(r1++post):=by rw[Yz];simp
   have F9:x.depth=d:=by have g1:=Tn x (cw ..);have g2:x.depth<=d:=hh1;omega
   have ym:aP o pr.length=pr.length+1+(inside x.depth r1).length:=by rw[gw e2,w6 (by omega)]
   refine m_ (m'+1) ?_;refine⟨_,rfl,_,rfl,l,as,o,pr.length,rfl,N1,bt e2,λH2 s2=>?_⟩;have N2:=N1.same s2;have QO:=s2 _ _ hP;refine⟨_,rfl,.inl ⟨rfl,_,bf.of QO⟩,?_⟩;refine⟨_,rfl,_,rfl,_,rfl,_,rfl,_,rfl,l,_,rfl,bf.of N2.lst,λq hq=>?_⟩;have YA:q≠p:=λe=>by rw[e,QO] at hq;cases hq
   have sq:aD H2 (upd H2 q (.lst (d_ (as.map V.ref) (some ((pr.length:Nat):Int)) (some ((aP o pr.length:Nat):Int))))):=aE hq;have y8:(o.drop pr.length).take (aP o pr.length - pr.length)=x::inside x.depth r1:=by
    have e3:o=pr++((x::inside x.depth r1)++(outside x.depth r1++post)):=by
     conv=>lhs;rw[e2,<-bQ x.depth r1]
     simp
    rw[ym,e3,ug];apply DO;simp;omega
   have YB:d_ (as.map V.ref) (some ((pr.length:Nat):Int)) (some ((aP o pr.length:Nat):Int))=((as.drop pr.length).take (aP o pr.length - pr.length)).map V.ref:=by rw[ro _ (by rw[N.gW];exact eX (bt e2)) (by rw[N.gW];exact jG (bt e2)),mV,jR]
   rw[YB];rw[YB] at sq;obtain⟨a0,Ui,_,F7⟩:=(N.get (i:=pr.length) (x:=x) (by rw[e2];exact cZ));obtain⟨dx,t,h1,h2⟩:=F7;have Xk:(as.drop pr.length).take (aP o pr.length - pr.length)=a0::(as.drop (pr.length+1)).take (aP o pr.length - pr.length - 1):=by obtain⟨hi,ei⟩:=dm.mp Ui;rw[rQ hi,ei,show aP o pr.length - pr.length=(aP o pr.length - pr.length - 1)+1 by omega,List.take_succ_cons];rfl
   have cx:∀H3,aD H H3->H3 q=some (.lst (((as.drop pr.length).take (aP o pr.length - pr.length)).map V.ref))->(Tk.mk q t (x.text.map λc:Nat=>(c:Int)) ((as.drop pr.length).take (aP o pr.length - pr.length)) (x::inside x.depth r1)).Ok C H3:=λH3 s3 h3=>by have NM:=N.sub s3 pr.length (aP o pr.length - pr.length) h3;rw[y8] at NM;exact⟨NM,a0,dx,_,x,_,Xk,rfl,s3 _ _ h1,s3 _ _ h2,rfl⟩
   have hP3:=sq _ _ QO;refine⟨p,_,_,rfl,rfl,hP3,eO (by rw[aT];have:=da List.length e2;simp at this;omega),?_⟩;refine⟨_,rfl,m',mY _,some (.int (aP o pr.length:Nat)),pr++x::inside x.depth r1,outside x.depth r1,dn++[⟨q,t,x.text.map λc:Nat=>(c:Int),(as.drop pr.length).take (aP o pr.length - pr.length),x::inside x.depth r1⟩],?_,((s1.trans s2).trans sq).put hp,?_,?_,?_,?_,?_,?_,?_,?_,?_⟩
   .rw[ym,bb,cn];rw[show pr.length+((inside x.depth r1).length+1)=pr.length+1+(inside x.depth r1).length by omega];rfl
   .rw[ah,cX];rfl
   .intro z hz;rcases dZ.mp hz with hz|hz
    .obtain⟨z1,z2,z3⟩:=GH z hz;exact⟨z1,by rw[az z1];exact sq _ _ (s2 _ _ z2),z3⟩
    .rw[G1] at hz;subst hz;exact⟨YA,by rw[az YA];exact ah,cx⟩
   .rw[cX,dQ,<-HZ,DB];rfl
   .conv=>lhs;rw[Yz,<-bQ x.depth r1]
    simp
   .rw[Xj]
    conv=>lhs;rw[<-bQ x.depth r1]
    simp
    try omega
   .exactλz hz=>Tn z (bz _ ((GQ _).subset hz))
   .rw[<-F9];exact cg _ _
   .have:=kO (d:=x.depth) (l:=r1);simp at hm;omega
   .simp;omega
  .have Xl:rest=[]:=by have:¬(pr.length:Int)<b:=λh=>hc (aR h);apply zJ;simp at Xj;omega
   subst Xl;refine⟨_,rfl,k _ p dn s1 hP (λx hx=>(GH x hx).2.2 _ s1 (GH x hx).2.1) ?_⟩;rw[<-HZ];simp[trees,gC]
end
section
variable{P:Program}{w:World}{K:PySem.W.Frag}{mg:Str->Option Value}{base:Heap}{C CO CC:Addr}{Z:Tag P w K mg base}
open PySem.W (CodeHd)
theorem w8:∀a b:List Nat,fQ (a.map λc:Nat=>(c:Int)) (b.map λc:Nat=>(c:Int))=lessText a b
 |[],[]=>rfl
 |[],_::_=>rfl
 |_::_,[]=>rfl
 |x::xs,y::ys=>by
  show(if(x:Int)=(y:Int) then fQ (xs.map _) (ys.map _) else decide ((x:Int)<(y:Int)))=(decide (x<y)||(x==y&&lessText xs ys));rw[w8 xs ys];by_cases e:x=y
  .subst e;simp
  .rw[ak (by omega)];simp[e]
theorem yF(t:Tk):∀l:List Tk,(jI Tk.less t l).Perm (t::l)
 |[]=> .refl _
 |u::r=>by
  unfold jI;split
  .exact((yF t r).cons u).trans (.swap ..)
  .exact .refl _
theorem qE:∀l:List Tk,(l.foldr (jI Tk.less) []).Perm l
 |[]=> .refl _
 |t::l=>(yF t _).trans ((qE l).cons t)
def Tk.kd(x:Tk):Prop:=x.key=(ko x.o).text.map λc:Nat=>(c:Int)
theorem Ms{x y:Tk}(h:x.kd)(g:y.kd):Tk.less x y=lessText (ko x.o).text (ko y.o).text:=by unfold Tk.less;rw[h,g,w8]
theorem BZ{t:Tk}(ht:t.kd):∀l:List Tk,(∀x∈l,x.kd)->(jI Tk.less t l).map (·.o)=iQ t.o (l.map (·.o))
 |[],_=>rfl
 |u::r,h=>by
  have hu:=h u (cw ..);show List.map (·.o) (if Tk.less u t=true then u::jI Tk.less t r else t::u::r)=(if lessText (ko u.o).text (ko t.o).text=true then u.o::iQ t.o (r.map (·.o)) else t.o::u.o::r.map (·.o));rw[Ms hu ht];split
  .rw[cA,BZ ht r λx hx=>h x (bz _ hx)]
  .rfl
theorem yG:∀l:List Tk,(∀x∈l,x.kd)->(l.foldr (jI Tk.less) []).map (·.o)=cB (l.map (·.o))
 |[],_=>rfl
 |t::l,h=>by have hl:=λx hx=>h x (bz t hx);show(jI Tk.less t (l.foldr (jI Tk.less) [])).map (·.o)=iQ t.o (cB (l.map (·.o)));rw[BZ (h t (cw ..)) _ λx hx=>hl x ((qE l).mem_iff.mp hx),yG l hl]
theorem Tk.Ok.kd{H:Hp}{x:Tk}(h:x.Ok C H):x.kd:=by obtain⟨a,dx,bs,n,r,_,h2,_,_,h5⟩:=h.hd;unfold Tk.kd;rw[h2,h5];rfl
theorem Tk.Ok.at_{x:Tk}(T:Txt K mg C CO CC)(h:x.Ok C H):x.At K H:=by
 obtain⟨a,dx,bs,n,r,h1,h2,h3,h4,h5⟩:=h.hd;refine⟨a,bs.map V.ref,C,dx,_,?_,h3,T.cl,T.EH,rfl,?_⟩
 .rw[h.N.lst,h1];rfl
 .rw[h4,h5,gO]
theorem E9{x:Tk}{R:V->Prop}(T:Txt K mg C CO CC)(h:x.Ok C H)(q:R (.int (ko x.o).number)):
 ∃(p:Addr)(xs:List V)(i:Int)(v:V),V.ref x.p= .ref p/\V.int 0= .int i/\bf K H p xs/\B4 xs i=some v/\∃(a' C' dx:Addr)(fs:List (Str×V))(v':V),v= .ref a'/\H a'=some (.ins C' dx fs)/\tO K C'/\cb K C' "number"/\fs.lookup ("number":Str)=some v'/\R v':=by
 obtain⟨a,dx,bs,n,r,h1,h2,h3,h4,h5⟩:=h.hd;refine⟨x.p,_,0,.ref a,rfl,rfl,bf.of h.N.lst,by rw[h1];exact bU (j:=0) rfl,a,C,dx,_,_,rfl,h3,T.cl,T.zm,rfl,?_⟩;rw[h2] at q;exact q
theorem Itm.flat{H:Hp}:∀{us:List Tk},(∀x∈us,x.Ok C H)->Itm C H (us.flatMap (·.as)) (us.map (·.o)).flatten
 |[],_=>⟨rfl,λi a x ha _=>by simp at ha⟩
 |u::us,h=>by rw[nu,cA,B'];exact(h u (cw ..)).N.sT.append (Itm.flat λx hx=>h x (bz _ hx))
section
variable{TP:Addr}{H H':Hp}
theorem oC.of(g:oC TP H H')(T:sP H TP){o:HO}(e:H b=some o)(n:∀ps,o≠ .o1 ps):H' b=some o:=g.keep b o e λz=>by obtain⟨ps,hP,_⟩:=T;rw[z,hP] at e;exact n _ (di e).symm
theorem bW.grow{a:Addr}(h:bW C H a x)(T:sP H TP)(g:oC TP H H'):bW C H' a x:=by obtain⟨dx,t,h1,h2⟩:=h;exact⟨dx,t,g.of T h1 (λ_ q=>nomatch q),g.of T h2 (λ_ q=>nomatch q)⟩
theorem NL.grow{l:Addr}{as:List Addr}{o:O}(h:NL C H l as o)(T:sP H TP)(g:oC TP H H'):NL C H' l as o:=
 ⟨g.of T h.lst (λ_ q=>nomatch q),h.len,h.sm,λi a x ha hx=>(h.at_ i a x ha hx).grow T g⟩
theorem ba.grow{ob dx l:Addr}{as:List Addr}{s:Vanbkn.State}(h:ba C CO H ob dx l as s)(T:sP H TP)(g:oC TP H H'):ba C CO H' ob dx l as s:=⟨g.of T h.at_ (λ_ q=>nomatch q),h.N.grow T g⟩
theorem Tk.Ok.grow{x:Tk}(h:x.Ok C H)(T:sP H TP)(g:oC TP H H'):x.Ok C H':=by refine⟨h.N.grow T g,?_⟩;obtain⟨a,dx,bs,n,r,h1,h2,h3,h4,h5⟩:=h.hd;exact⟨a,dx,bs,n,r,h1,h2,g.of T h3 (λ_ q=>nomatch q),g.of T h4 (λ_ q=>nomatch q),h5⟩
theorem oC.fr(g:oC TP H H')(T:sP H TP):Fr C CO H H':=by
 refine⟨λb o e _ _ n=>g.of T e n,λQ t=>?_⟩;by_cases z:Q=TP
 .rw[z];exact g.tab
 .obtain⟨ps,h1,h2,h3⟩:=t;refine⟨ps,g.keep _ _ h1 z,h2,?_⟩;rcases h3 with h3|⟨c,h3,h4⟩
  .exact .inl h3
  .exact .inr ⟨c,h3,g.of T h4 (λ_ q=>nomatch q)⟩
end
theorem DC(W:Wf s)(z:Int):(z≠0/\dE s.nodes z=none/\Vanbkn.step s (.sort z)=refused s (-1))\/(¬(z≠0/\dE s.nodes z=none)/\runM s.nodes z=none/\Vanbkn.step s (.sort z)=refused s (-7))\/
 (¬(z≠0/\dE s.nodes z=none)/\∃(pre seg post:O)(d:Nat),s.nodes=pre++seg++post/\runM s.nodes z=some (pre.length,(pre++seg).length,d)/\(∀y∈seg,d<=y.depth)/\hd seg<=d/\hd post<=d/\
  Vanbkn.step s (.sort z)=(⟨pre++(cB (trees seg)).flatten++post,s.next⟩,⟨(chg (trees seg) (cB (trees seg)):Nat),[]⟩)):=by
 by_cases h0:z=0
 .subst h0;refine .inr (.inr ⟨λh=>h.1 rfl,[],s.nodes,[],1,by simp,?_,λy hy=>lN W.n.dep y hy,vx W.n.dep,a_ _,?_⟩)
  .unfold runM;rw[ao rfl];simp
  .rw[(AO W).1];simp
 .rcases aY (o:=s.nodes) z with h|⟨a,x,r,e,h,hz⟩
  .exact .inl ⟨h0,h,sr W h0 h⟩
  .have hs:=x9 W e hz;have hr:runM s.nodes z=if x.cell=true then none else some (a.length+1,aP s.nodes a.length,x.depth+1):=by unfold runM;rw[ak h0,h];simp only;rw[fI e]
   have YC:¬(z≠0/\dE s.nodes z=none):=λq=>by rw[h] at q;exact nomatch q.2
   by_cases hc:x.cell=true
   .rw[ao hc] at hs hr;exact .inr (.inl ⟨YC,hr,hs⟩)
   .rw[ak hc] at hs hr;have W':=W.n;rw[e] at W';have xI:x.cell=false:=by simpa using hc
    have el:lim x=x.depth+1:=by unfold lim;rw[xI];rfl
    have uE:hd (inside x.depth r)<=x.depth+1:=by have:=(gv W'.dep).2.2.2;rw[<-bQ x.depth r,a7,el] at this;exact vx this.1
    refine .inr (.inr ⟨YC,a++[x],inside x.depth r,outside x.depth r,x.depth+1,?_,?_,λy hy=>cp y hy,uE,uZ (cg _ _),?_⟩)
    .conv=>lhs;rw[e,<-bQ x.depth r]
     simp
    .rw[hr,gw e];simp
     try omega
    .rw[hs];simp
def To(K:PySem.W.Frag)(mg:Str->Option Value)(base:Heap)(x:Str)(st:Stmt)(ps:List Str)(TP:Addr):Prop:=∃(f:Addr)(oc:Value)(od:Option Addr)(kV doc pm:Value)(an:Option Addr)(c:Addr)(ct:Value)(Hn:Array (Option Value)),
 K.lookup f=some ⟨oc,od,.func (fnOf x x (eU st) (du st) (ay st) .none kV doc pm an (.ref c) ct),Hn⟩/\codeIn K (.ref c) x=true/\keepIn K (.ref f)=true/\mg x=some (.ref f)/\
 Binds K (fnOf x x (eU st) (du st) (ay st) .none kV doc pm an (.ref c) ct) ps []/\CodeHd base c TP
theorem bL:aG ["outline","parent","nodes","run","trees","ordered","others","joined","tree","place"] ["outline","parent"] (ay fw):=eP
theorem Mt{TP:Addr}(F:To K mg base "sort_children" fw ["outline","parent"] TP)(B:xx mg base)(T:Txt K mg C CO CC)(ax:aZ Z 1 "position_of" ["nodes","number"] (fA C))(fF:aZ Z 2 "children_run" ["nodes","parent"] (IM C))(kn:aZ Z 2 "trees_between" ["nodes","start","end"] (E8 C)):
 aZ Z 4 "sort_children" ["outline","parent"] (JW C CO TP):=by
 obtain⟨f,oc,od,kV,doc,pm,an,c,ct,Hn,lk,Ha,kp,hm,hb,CH⟩:=F;refine⟨f,_,MM (k:=3) lk Ha bL (λvs H Q E h=>?_) (λA outer s H vs Q E hr h=>?_),hm,kp,hb⟩
 .obtain⟨_,_,_,_,_,_,rfl,_⟩:=h;rfl
 .obtain⟨ob,dx,l,as,st,z,rfl,O,W,TB,k⟩:=h
  suffices hX:∃t,Cb (xn Aw P w K mg base ["outline","parent","nodes","run","trees","ordered","others","joined","tree","place"] "sort_children" (ay fw) f (.ref c) A outer s H E).Oh (du fw) t/\t {nx:=λ_ H'=>Q .fb H',rt:=Q} (start ["outline","parent","nodes","run","trees","ordered","others","joined","tree","place"] [.ref ob,.int z]) H by obtain⟨t,h,q⟩:=hX;exact⟨t,h.Oh,q⟩
  refine⟨_,(ae (bD 2 bL (aB (pv 0) rfl)) (ae (aM (PW.pt (gZ (bE lF (pv 1) au) (fX (bE bC (pc ax hr (aa (pv 2) (aa (pv 1) ag))) a6)))) (aj (aw (aL (aa (eu T) ag)))) aA) (ae (bD 3 bL (pc fF hr (aa (pv 2) (aa (pv 1) ag)))) (ae (aM (bE bC (pv 3) a6) (aj (aw (aL (aa (eu T) ag)))) aA) (ae (bD 4 bL (pc kn hr (aa (pv 2) (aa (c7 dR (pv 3) au) (aa (c7 dR (pv 3) au) ag))))) (ae (bD 5 bL (II (k:=0) rfl T.sorted hr rfl CH rfl B (pv 4))) (ae (Ap (i:=6) rfl bL.nd rfl rfl (Ed rfl rfl rfl rfl) (xJ rfl T.range (aa (o_ T (aa (pv 4) ag)) ag)) (own:=[("place",9)]) (B7 bL) (λ_ _ _ _ _=>(jB 9 bL)) (λ_ _ _ _ _=>(kH (bE lF (eg (K:=K) rfl (c7 (oB (K:=K) rfl) (c7 (oB (K:=K) rfl) (pv 4) (pv 9)) au) rfl) (eg (K:=K) rfl (c7 (oB (K:=K) rfl) (c7 (oB (K:=K) rfl) (pv 5) (pv 9)) au) rfl)))) (λ_ _ _ _ _=>(pv 9))) (ae (bD 7 bL (aL ag)) (ae (eE PassesOwn.never rfl (bM (pv 5)) (jB 8 bL) (aj (bF (eY eN qJ qK fY (pv 7) (aa (pv 8) ag))))) (ae (df (pv 0) (bh g9 (bh g9 (bo bA (pv 2) eS (aX (c7 dR (pv 3) au))) (pv 7)) (bo bA (pv 2) (aX (c7 dR (pv 3) au)) eS)) rfl) (aj (aw (aL (aa (o_ T (aa (pv 6) ag)) ag)))))))))))))),?_⟩;refine⟨_,rfl,aV T O ?_⟩;have hw:=W.n.len;have cs:=DC W z;dsimp only[fK];refine TR.Kc (b:=(!decide (V.int z=V.int 0))&&decide (ur (dE st.nodes z)= .fb)) ?_ (λh H1 s1=>?_) (λh H1 s1=>?_)
  .exact TR.and (λR hR=>⟨_,rfl,rfl,_,rfl,hR _ (aD.refl _)⟩) λ_ H1 s1 R hR=>⟨_,rfl,_,rfl,l,as,_,z,rfl,O.N.same s1,λH2 s2=>⟨rfl,_,rfl,hR _ s2⟩⟩
  .have h1:z≠0/\dE st.nodes z=none:=by
    rw[uQ] at h;refine⟨λe=>?_,?_⟩
    .rw[e] at h;exact absurd h.1 (by decide)
    .have:=aH h.2;cases e:dE st.nodes z with
     |none=>rfl
     |some i=>rw[e] at this;exact nomatch this
   exact⟨aW,λq hq=>k.refuse O (sr W h1.1 h1.2) s1 hq⟩
  .have h1:¬(z≠0/\dE st.nodes z=none):=λe=>by rw[e.2] at h;rw[cR (λq=>e.1 (V.int.inj q))] at h;exact absurd h (by decide)
   have O1:=O.same s1;refine⟨_,rfl,_,rfl,l,as,_,z,rfl,O1.N,λhn H2 s2=>?_,λra rb rd hn H2 t s2 ht=>?_⟩
   .refine⟨_,rfl,rfl,_,rfl,?_⟩;refine aK (λ_=>?_) (λh=>absurd (aR rfl) h);rcases cs with⟨c1,c2,_⟩|⟨_,_,e⟩|⟨_,pre,seg,post,d,_,e,_⟩
    .exact absurd ⟨c1,c2⟩ h1
    .exact⟨aW,λq hq=>k.refuse O e (s1.trans s2) hq⟩
    .rw[hn] at e;cases e
   .rcases cs with⟨c1,c2,_⟩|⟨_,e,_⟩|⟨_,pre,seg,post,d,eo,er,kL,hh,Yy,GK⟩
    .exact absurd ⟨c1,c2⟩ h1
    .rw[hn] at e;cases e
    rw[hn] at er;cases er;rw[GK] at k;have xg:=s1.trans s2;have O2:=O.same xg;have OU:sP H2 TP:=TB.same xg;refine⟨_,rfl,rfl,_,rfl,?_⟩;refine aK (λh=>nomatch (aH h)) (λ_=>?_);refine⟨_,rfl,_,rfl,t,_,_,_,rfl,rfl,iu.of ht,bU (j:=0) rfl,_,rfl,t,_,_,_,rfl,rfl,iu.of ht,bU (j:=1) rfl,l,as,_,pre,seg,post,rd,pre.length,(pre++seg).length,rfl,O2.N,eo,rfl,rfl,kL,hh,Yy,λH3 p ts s3 hp HZ QP=>?_⟩;have O3:=O2.same s3;have J_:=OU.same s3;have hlen:seg.length<=60:=by rw[eo] at hw;simp at hw;omega
    have th:=nW kL hh;have Nu:ts.length<=seg.length:=by
     have e1:ts.length=(trees seg).length:=by rw[<-QP,aT]
     have e2:((trees seg).map ko).length<=seg.length:=by rw[th.1];exact lE _ _
     rw[aT] at e2;omega
    refine⟨_,rfl,p,ts,rfl,hp,by omega,J_,λx hx=>(HZ x hx).at_ T,λH4 D g hD h4=>?_⟩;have pm:=qE ts;have OC:(ts.foldr (jI Tk.less) []).map (·.o)=cB (trees seg):=by rw[yG ts λx hx=>(HZ x hx).kd,QP]
    have hul:(ts.foldr (jI Tk.less) []).length=ts.length:=pm.length_eq;have cx:∀x∈ts.foldr (jI Tk.less) [],x.Ok C H4:=λx hx=>(HZ x (pm.mem_iff.mp hx)).grow J_ g;have Xm:∀x∈ts,x.Ok C H4:=λx hx=>(HZ x hx).grow J_ g;generalize ts.foldr (jI Tk.less) []=us at h4 pm OC hul cx;have O4:=O3.grow J_ g;have QR:=g.of J_ hp λ_ q=>nomatch q;have Uw:=g.of J_ (s3 _ _ ht) λ_ q=>nomatch q;have f4:Fr C CO H H4:=((xg.trans s3).fr).trans (g.fr J_);have L8:(us.map (·.o)).flatten.length<=seg.length:=by
     have e1:(us.map (·.o)).Perm (trees seg):=by rw[OC];exact pS _
     have e2:=e1.flatten.length_eq;rw[th.2.1] at e2;omega
    refine⟨_,rfl,p,_,rfl,.inl (bf.of QR),_,rfl,by simp<;>omega,by simp<;>omega,λD6 YD=>?_⟩;refine Hx (λi H'=>aD H4 H'/\∃acc:List V,H' D6=some (.lst acc)/\acc.length=((((trees seg).zip (cB (trees seg))).take i).filter λp=>(ko p.1).number !=(ko p.2).number).length) ⟨aE YD,[],ah,rfl⟩ (λi H5 hi ⟨sm,acc,ha,hl⟩=>?_) (λH5 ⟨sm,acc,ha,hl⟩=>?_)
    .have J8:i<ts.length:=by simpa using hi
     have hx:ts[i]?=some ts[i]:=c_ J8;have hu:us[i]?=some (us[i]'(by omega)):=c_ (by omega);generalize ts[i]=x at hx;generalize us[i]'(by omega)=u at hu;have ox:=(Xm x (cJ hx)).same sm;have ou:=(cx u (cJ hu)).same sm;have hz:((trees seg).zip (cB (trees seg)))[i]?=some (x.o,u.o):=by rw[<-OC,<-QP,NT,gX,gX,hx,hu];exact⟨rfl,rfl⟩
     have FV:acc.length<=60:=by rw[hl];refine bq (lE _ _) ?_;rw[bj];omega
     refine⟨rfl,_,rfl,_,rfl,p,_,_,_,rfl,rfl,bf.of (sm _ _ QR),at_of (j:=i) (Int.zero_add _) (show(ts.map λx=>V.ref x.p)[i]?=some (V.ref x.p) by rw[gX,hx];rfl),E9 T ox ?_⟩;refine⟨_,rfl,_,rfl,D,_,_,_,rfl,rfl,bf.of (sm _ _ h4),at_of (j:=i) (Int.zero_add _) (show(us.map λx=>V.ref x.p)[i]?=some (V.ref u.p) by rw[gX,hu];rfl),E9 T ou ⟨rfl,_,rfl,?_⟩⟩;refine aK (λh=>?_) (λh=>?_)
     .have hb:((ko x.o).number !=(ko u.o).number)=true:=by rw[bne_iff_ne];intro e;rw[e] at h;exact absurd h (by simp)
      refine⟨_,rfl,acc,ha,eO (by omega),sm.put YD,_,ah,?_⟩;rw[take_snoc hz,qI,xh (p:=λp:Ob.O×Ob.O=>(ko p.1).number !=(ko p.2).number) hb,bb,bb,hl];rfl
     .have hb:((ko x.o).number !=(ko u.o).number)=false:=by
       cases e:((ko x.o).number !=(ko u.o).number) with
       |false=>rfl
       |true=>rw[bne_iff_ne] at e;refine absurd ?_ h;rw[cR (λq=>e (by injection q with q;omega))];rfl
      refine⟨sm,acc,ha,?_⟩;rw[take_snoc hz,qI,List.filter_cons_of_neg (p:=λp:Ob.O×Ob.O=>(ko p.1).number !=(ko p.2).number) (by show¬((ko x.o).number !=(ko u.o).number)=true;rw[hb];decide),hl];simp
    .have CV:acc.length=chg (trees seg) (cB (trees seg)):=by rw[hl];unfold chg;rw[pA];rw[<-OC,<-QP,List.length_zip,aT,aT,aT];simp;omega
     have O5:=O4.same sm;have ht5:=sm _ _ Uw;have YE:=sm _ _ h4;refine⟨a_ _,λJ hJ=>?_⟩;refine⟨_,rfl,D,rfl,⟨_,bf.of (a9 YE hJ)⟩,dI (K:=K) (a:=D) (xs:=us.map λx=>V.ref x.p) (λi σ H'=>∃v8:Option V,σ=[some (.ref ob),some (.int z),some (.ref l),some (.ref t),some (.ref p),some (.ref D),some (.ref D6),some (.ref J),v8,none]/\aD H5 H'/\H' J=some (.lst (((us.take i).flatMap (·.as)).map V.ref))) ⟨none,rfl,aE hJ,ah⟩ (λi σ H' _ ⟨_,_,Qh,_⟩=>bf.of (Qh _ _ YE)) (λi x σ H' hx ⟨v8,e,Qh,hj⟩=>?_) (λσ H' ⟨v8,e,Qh,hj⟩=>?_)⟩
     .obtain⟨u,hu,rfl⟩:=get_map hx;subst e;have ou:=(cx u (cJ hu)).same (sm.trans Qh);have hsz:(((us.take i).flatMap (·.as)).map V.ref).length+(u.as.map V.ref).length<=sizeLine:=by
       have e1:(us.take (i+1)).flatMap (·.as)++(us.drop (i+1)).flatMap (·.as)=us.flatMap (·.as):=by rw[<-B_,DN]
       have e2:=da List.length e1;have e3:([u].flatMap (·.as)).length=u.as.length:=by simp
       rw[take_snoc hu,B_,bb,bb,(Itm.flat cx).len,e3] at e2;refine dC ?_;rw[aT,aT];omega
      refine⟨_,rfl,.inl ⟨rfl,_,bf.of hj⟩,_,rfl,J,u.p,_,_,rfl,rfl,hj,ou.N.lst,hsz,some (.ref u.p),rfl,Qh.put hJ,?_⟩;rw[ah,take_snoc hu,B_,cX];simp
     .subst e;rw[aT,fm] at hj;have Mu:=sm.trans Qh;have O6:=O4.same Mu;have YF:=Mu _ _ Uw;have Xn:∀x∈us,x.Ok C H':=λx hx=>(cx x hx).same Mu;have IJ:=Itm.flat Xn;have pE:=O6.N.gW;have ln:st.nodes.length=pre.length+seg.length+post.length:=by rw[eo,bb,bb]
      have lJ:(us.flatMap (·.as)).length<=seg.length:=by rw[IJ.len];exact L8
      refine⟨_,rfl,_,rfl,t,_,_,_,rfl,rfl,iu.of YF,bU (j:=0) rfl,_,rfl,l,_,rfl,bf.of O6.N.lst,λp1 h1=>?_⟩;rw[sQ _ (by rw[pE];omega)];have Sg:=aE h1 (u:= .lst ((as.map V.ref).take pre.length));refine⟨_,rfl,p1,J,_,_,rfl,rfl,ah,Sg _ _ hj,dC (by rw[bj,pE,aT];omega),λp2 h2=>?_⟩;have Xo:=Sg.new h2 (u:= .lst ((as.map V.ref).take pre.length++(us.flatMap (·.as)).map V.ref));refine⟨_,rfl,_,rfl,t,_,_,_,rfl,rfl,iu.of (Xo _ _ YF),bU (j:=1) rfl,_,rfl,l,_,rfl,bf.of (Xo _ _ O6.N.lst),λp3 h3=>?_⟩;rw[j9 _ (by rw[pE,bb];omega)];have s3':=Xo.new h3 (u:= .lst ((as.map V.ref).drop (pre++seg).length));refine⟨p2,p3,_,_,rfl,rfl,a9 ah h3,ah,dC (by rw[bb,bj,dD,pE,aT];omega),λp4 h5=>?_⟩;have UC:=s3'.new h5 (u:= .lst ((as.map V.ref).take pre.length++(us.flatMap (·.as)).map V.ref++(as.map V.ref).drop (pre++seg).length));have O7:=O6.same UC;have N7:NL C _ p4 (as.take pre.length++us.flatMap (·.as)++as.drop (pre++seg).length) (st.nodes.take pre.length++(us.map (·.o)).flatten++st.nodes.drop (pre++seg).length):=
       (((O7.N.sT.take pre.length).append (IJ.same UC)).append (O7.N.sT.drop (pre++seg).length)).nl (by rw[ah,cX,cX,mV,jR]) (by rw[bb,bb,bj,dD];omega)
      have e7:st.nodes.take pre.length++(us.map (·.o)).flatten++st.nodes.drop (pre++seg).length=pre++(cB (trees seg)).flatten++post:=by
       have e8:st.nodes.take pre.length=pre:=by rw[eo,dQ];exact tG ..
       have e9:st.nodes.drop (pre++seg).length=post:=by rw[eo];exact ug ..
       rw[OC,e8,e9]
      rw[e7] at N7;refine⟨_,rfl,ob,CO,dx,_,rfl,O7.at_,T.zF,T.j7,(by show 2<1000;decide),?_⟩;have O8:=O7.put T.ne1 (s':=⟨pre++(cB (trees seg)).flatten++post,st.next⟩) N7;have YG:=UC _ _ (Qh _ _ ha);have ho8:D6≠ob:=jz YG O7.at_ (by intro q;cases q);refine⟨_,rfl,D6,_,rfl,.inl (bf.of (by rw[az ho8];exact YG)),aW,λq hq=>?_⟩;refine k _ q dx p4 _ (((f4.trans (Mu.trans UC).fr).trans (zx O7)).trans (aE hq).fr) (O8.same (aE hq)) ?_;rw[ah,CV];rfl
end
end Ob
section
variable{J1:Addr}{CX:KA}{ps:List Str}
variable{x:Str}{r:OpenSpec}{q:Program}{loose:List Str}{XP:(Str->Option Value)->Heap->Prop}{YP:World->Heap->Prop}{d:DefRec}{K:Params->PySem.W.Frag}
namespace L2
open PySem PySem.Spec PyProof.Rows
open PySem.W (WData Codec OpenSpec Well WellAll ReadsW ReadsAllW)
theorem DD{TP:Addr}{P:Program}{w:World}{K:PySem.W.Frag}{mg mb:Str->Option Value}{k:Nat}{fa:Addr}{fd:FuncData}{sp:Sp}{s₁:Shared}{vals:List Value}{ds:List WData}{R:WRecords}{cl:Str->Option Addr}{d0:WData}(KX:K.In s₁.heap)(YH:s₁.heap.Ns mainGlobals mg)(hb:s₁.heap.Ns builtinsNs mb)(hbb:∀x:Str,x≠"__name__"->mb x=bootBuiltins x)(Xp:s₁.heap.NoLimit)(hg:s₁.gens=#[])(Mq:WellAll w.params s₁.heap vals ds)(rN:uk ds=true)(hwt:∀d∈ds,d.weight<=1048576)(hr:fL k callerA)(UD:PySem.W.CodeHd s₁.heap J1 TP)(NC:s₁.heap.get? TP=some (PySem.W.tabObj #[]))(QX:K.lookup TP=none)(Xq:Ob.xx mg s₁.heap)(F:∀base:Heap,K.In base->base.Ns mainGlobals mg->PySem.W.CodeHd base J1 TP->Ob.xx mg base->nq P w K mg base CX k fa fd ps sp)(Tp:∀(s:Shared)(us:List Value),us.length=ps.length->BindsTo s fd ⟨us,[]⟩ (ps.zip us))(hlen:ds.length=ps.length)(B3:∀(H:Hp)(xs:List V),H TP=none->m7 K H xs ds->sp xs (upd H TP (.o1 #[])) (λv H'=>Dw K H' v d0) λ_ _ _=>False)(Tq:∀H e s',CX [] H s₁ (λ_ _ _=>False) e s'->False):
 codeAny (model P w) callerA (.call (.ref fa) ⟨vals,[]⟩) (λr s'=>∃u as,r= .ok (.ret u)/\ReadsW R cl s'.heap u d0 as/\OldK s₁.heap s'.heap/\s'.os=s₁.os/\AllBare s'.gens) s₁:=by
 obtain⟨A,ho,ar⟩:=qX ds vals Mq rN hwt;have hO:MU (k8 K s₁.heap A):=FE ar;have cx:nj P w (k8 K s₁.heap A) s₁.heap:=KU ar;have hS:=yT KX ar ds vals Mq rN ho;have hV:=lM ho;have hK:∀b u,k8 K s₁.heap A b=some u->K.lookup b=none:=λb u q=>(qY ar q).1;have KG:∀{b:Addr}{o:Obj}{es:Array DictEntry}{ep:Nat},s₁.heap.get? b=some o->o.data= .dict es ep->k8 K s₁.heap A b=none:=λ{b o es ep} e d=>by
  cases q:k8 K s₁.heap A b with
  |none=>rfl
  |some u=>
   obtain⟨_,vs,_,_,⟨e2,_⟩|⟨e2,_⟩⟩:=qY ar q
   .rw[e2] at e;cases e;have d':Data.seq vs.toArray _=Data.dict es ep:=d;cases d'
   .rw[e2] at e;cases e;have d':Data.seq vs.toArray _=Data.dict es ep:=d;cases d'
 have Qi:∀{b:Addr}{o:Obj},s₁.heap.get? b=some o->o.cls≠ .type "list"->o.cls≠ .type "tuple"->k8 K s₁.heap A b=none:=λ{b o} e d1 d2=>by
  cases q:k8 K s₁.heap A b with
  |none=>rfl
  |some u=>
   obtain⟨_,vs,_,_,⟨e2,_⟩|⟨e2,_⟩⟩:=qY ar q
   .rw[e2] at e;cases e;exact absurd rfl d1
   .rw[e2] at e;cases e;exact absurd rfl d2
 generalize k8 K s₁.heap A=H0 at hO cx hS hK KG Qi;have UB:H0 TP=none:=Qi NC (λz=>by cases z) (λz=>by cases z);have Tr:=B3 H0 (vals.map toV) UB hS;have YI:aD H0 (upd H0 TP (.o1 #[])):=Ob.aE UB;have Xr:upd H0 TP (.o1 #[]) TP=some (.o1 #[]):=ah;have Ts:∀b,b≠TP->upd H0 TP (.o1 #[]) b=H0 b:=λb n=>az n;replace hK:∀b u,upd H0 TP (.o1 #[]) b=some u->K.lookup b=none:=λb u q=>by
  by_cases z:b=TP
  .rw[z];exact QX
  .rw[Ts b z] at q;exact hK b u q
 replace cx:nj P w (upd H0 TP (.o1 #[])) s₁.heap:=λb u q=>by
  by_cases z:b=TP
  .rw[z,Xr] at q;cases q;rw[z];exact NC
  .rw[Ts b z] at q;exact(cx b u q).ui (λ_ _ _ q=>q) (λa q=>YI _ _ q) λa xs q=>YI _ _ q
 replace hO:∀b,b≠TP->upd H0 TP (.o1 #[]) b=none\/∃o u,upd H0 TP (.o1 #[]) b=some (.jO o u):=λb z=>by rw[Ts b z];exact hO b
 replace KG:∀{b:Addr}{o:Obj}{es:Array DictEntry}{ep:Nat},s₁.heap.get? b=some o->o.data= .dict es ep->upd H0 TP (.o1 #[]) b=none:=λ{b o es ep} e d=>by rw[Ts b λz=>by rw[z,NC] at e;cases e;cases d];exact KG e d
 replace Qi:∀{b:Addr}{o:Obj},s₁.heap.get? b=some o->o.cls≠ .type "list"->o.cls≠ .type "tuple"->b≠TP->upd H0 TP (.o1 #[]) b=none:=λ{b o} e d1 d2 z=>by rw[Ts b z];exact Qi e d1 d2
 generalize upd H0 TP (.o1 #[])=H at Tr cx hO KG Qi hK Xr;have uP:∀{b:Addr}{o:Obj},s₁.heap.get? b=some o->H b=none->(u_ s₁.heap H).get? b=some o:=λe n=>G9 e n;have UE:∀{b:Addr}{m:Str->Option Value},s₁.heap.Ns b m->(u_ s₁.heap H).Ns b m:=λ{b m} ⟨o,es,ep,e,d,r⟩=>⟨o,es,ep,uP e (KG e d),d,r⟩;have nK:∀b o,K.lookup b=some o->H b=none:=λb o e=>by
  cases q:H b with
  |none=>rfl
  |some u=>rw[hK b u q] at e;cases e
 have YJ:K.In (u_ s₁.heap H):=λb o e=>uP (KX b o e) (nK b o e);have hM:Mod K mg (u_ s₁.heap H):=⟨YJ,UE YH,⟨mb,UE hb,hbb⟩,let ⟨mc,h1,h2⟩:=Xp;⟨mc,UE h1,h2⟩⟩;have e0:vm P w K mg (u_ s₁.heap H) callerA [] s₁ H:=⟨rfl,hM,λb o e=>Ks e,xD (Fg _ _),trivial,λb hb=>absurd (show b∈([]:List Addr) from hb) (by simp),cx,.of_eq hg⟩;have hCb:PySem.W.CodeHd (u_ s₁.heap H) J1 TP:=by obtain⟨o,vs,file,tf,flags,tg,inF,text,tt,e1,r1,r2,r3,r4,r5,r6,r7,r8,fk⟩:=UD;exact⟨o,vs,file,tf,flags,tg,inF,text,tt,uP e1 (Qi e1 (λz=>by rw[r1] at z;exact absurd (xF z) (by decide)) (λz=>by rw[r1] at z;exact absurd (xF z) (by decide)) fk),r1,r2,r3,r4,r5,r6,r7,r8,fk⟩
 have hBb:Ob.xx mg (u_ s₁.heap H):=by obtain⟨bm,ob,b1,b2,b3,b4,b5,b6⟩:=Xq;refine⟨bm,ob,b1,b2,uP b3 (Qi b3 (λz=>by rw[b4] at z;exact absurd (xF z) (by decide)) (λz=>by rw[b4] at z;exact absurd (xF z) (by decide)) λz=>?_),b4,b5,b6⟩;rw[z,NC] at b3;cases b3;cases b4
 have hl:vals.length=ps.length:=by rw[kJ Mq];exact hlen
 refine zZ ((F _ YJ (UE YH) hCb hBb).run callerA [] s₁ H ⟨vals,[]⟩ vals (vals.map toV) _ _ hr e0 (Tp s₁ vals hl) hV Tr) λr s' x=>?_;cases r with
 |error e=>exact(Tq H e s' x).elim
 |ok fl=>
  cases fl with
  |next=>exact False.elim x
  |brk=>exact False.elim x
  |cont=>exact False.elim x
  |ret u=>
   obtain⟨v,H',os,bare,un,Qj,r',q⟩:=x;have kept:∀b o,b≠TP->s₁.heap.get? b=some o->s'.heap.get? b=some o:=λb o QH e=>by
    cases q2:H b with
    |none=>exact un.keep b o e q2 (by intro z;exact absurd (show b∈([]:List Addr) from z) (by simp)) (by simp)
    |some u2=>
     rcases hO b QH with z|⟨ob,u3,z⟩
     .rw[q2] at z;cases z
     .have z2:=un.uj b ob _ z;obtain⟨e1,_⟩:=cx b _ z;obtain⟨e2,_⟩:=Qj b _ z2;rw[e] at e1;cases e1;exact e2
   have KX':K.In s'.heap:=λb o e=>kept b o (λz=>by rw[z,QX] at e;cases e) (KX b o e);obtain⟨as,YK⟩:=Dw.reads (R:=R) (cl:=cl) Qj KX' d0 v u q r';obtain⟨more,hm⟩:=un.u9 TP _ Xr;have Tt:s'.heap.get? TP=some (PySem.W.tabObj (#[]++more)):=Qj TP _ hm;refine⟨u,as,rfl,YK,⟨λb o e=>?_,λb o e=>?_⟩,os,bare⟩
   .by_cases z:b=TP
    .rw[z,NC] at e;cases e;rw[z];exact .inr (.inl ⟨(UD.tab NC).isCodeTable,rfl,#[],more,rfl,Tt⟩)
    .exact .inl (kept b o z e)
   .by_cases z:b=TP
    .exact⟨_,by rw[z];exact Tt⟩
    .exact⟨o,kept b o z e⟩
theorem DE{TP:Addr}{k:Nat}{CX:World->KA}{sp:World->Sp}(J2:r.wellSaid=true)(Sv:d.params.defaults=[])(hlen:r.args.length=ps.length)(hr:fL k callerA)(hY:∀(w:World)(h:Heap),YP w h->(K w.params).In h)(IG:((recsOf q).find? λe=>e.name==x).isSome=true)(Qk:∀w:World,tabIn (K w.params) x=some (J1,TP))(QX:∀w:World,(K w.params).lookup TP=none)(F:∀(w:World)(mg:Str->Option Value)(fa:Addr)(h:Heap),YP w h->(K w.params).In h->h.Ns mainGlobals mg->mg d.name=some (.ref fa)->
 ∃fd:FuncData,(∀(s:Shared)(us:List Value),us.length=ps.length->BindsTo s fd ⟨us,[]⟩ (ps.zip us))/\
  ∀base:Heap,(K w.params).In base->base.Ns mainGlobals mg->PySem.W.CodeHd base J1 TP->Ob.xx mg base->nq r.prog w (K w.params) mg base (CX w) k fa fd ps (sp w))(B3:∀(w:World)(H:Hp)(xs:List V)(a:Codec.denoteAll r.args),H TP=none->Codec.withinAll r.args a=true->Codec.app r.args r.asked a=true->m7 (K w.params) H xs (Codec.encAll r.args a)->
 sp w xs (upd H TP (.o1 #[])) (λv H'=>Dw (K w.params) H' v (r.ret.enc (Codec.app r.args r.f a))) λ_ _ _=>False)(Tq:∀(w:World)(H:Hp)(s:Shared)(e:Value)(s':Shared),CX w [] H s (λ_ _ _=>False) e s'->False):
 WalkOS q loose XP YP r d [] (λf vs=>PySem.call f vs):=by
 intro w xb s₁ mg mb G Y fa o pm cd doc dV kV ho hd Ha hD Xs hg args vals as Xt Xu YK Mq Sw;obtain⟨a,e1,e2⟩:=PySem.W.os_pre_some Xt;obtain⟨e3,Xv⟩:=Codec.encAll_of_decAll r.args args a e1;subst e3;have KX:=hY w _ Y;obtain⟨fd,hb,hF⟩:=F w mg fa _ Y KX G.T.g Xs;obtain⟨dr,yV⟩:=G6.mp IG;obtain⟨UD,NC⟩:=tab_of G.T KX yV (Qk w);have Xq:Ob.xx mg s₁.heap:=G.T.bmain;refine PySem.W.enter_call (zZ (DD (R:=[]) (cl:=classAt xb.heap) (d0:=r.ret.enc (Codec.app r.args r.f a)) KX G.T.g G.T.b G.T.builtins G.T.nolimit hg Mq (xX _ _) (vt Xu) hr UD NC (QX w) Xq hF hb (by rw[vw];exact hlen)
  (λH xs hO hS=>B3 w H xs a hO Xv e2 hS) λH e s'=>Tq w H s₁ e s') λr' s' hq=>?_)
 obtain⟨u,kq,rfl,h1,h2,h3,h4⟩:=hq;exact⟨.inl ⟨u,_,kq,rfl,λ_=>rfl,h1,(OpenSpec.post_iff J2 Xv _ _).mpr rfl,λz=>Bool.noConfusion (show false=true from z)⟩,h2,h3,h4⟩
theorem B0{TP:Addr}{k:Nat}{sp:PySem.W.Frag->Sp}(J2:r.wellSaid=true)(Sv:d.params.defaults=[])(hlen:r.args.length=ps.length)(hr:fL k callerA)(hY:∀(w:World)(h:Heap),YP w h->(K w.params).In h)(IG:((recsOf q).find? λe=>e.name==x).isSome=true)(Qk:∀w:World,tabIn (K w.params) x=some (J1,TP))(QX:∀w:World,(K w.params).lookup TP=none)(F:∀(w:World)(mg:Str->Option Value)(fa:Addr)(h:Heap),YP w h->(K w.params).In h->h.Ns mainGlobals mg->mg d.name=some (.ref fa)->
 ∃fd:FuncData,(∀(s:Shared)(us:List Value),us.length=ps.length->BindsTo s fd ⟨us,[]⟩ (ps.zip us))/\
  ∀base:Heap,(K w.params).In base->base.Ns mainGlobals mg->PySem.W.CodeHd base J1 TP->Ob.xx mg base->nq r.prog w (K w.params) mg base CX k fa fd ps (sp (K w.params)))(B3:∀(K:PySem.W.Frag)(H:Hp)(xs:List V)(a:Codec.denoteAll r.args),H TP=none->Codec.withinAll r.args a=true->Codec.app r.args r.asked a=true->m7 K H xs (Codec.encAll r.args a)->
 sp K xs (upd H TP (.o1 #[])) (λv H'=>Dw K H' v (r.ret.enc (Codec.app r.args r.f a))) λ_ _ _=>False)(Tq:∀(H:Hp)(s:Shared)(e:Value)(s':Shared),CX [] H s (λ_ _ _=>False) e s'->False):
 WalkOS q loose XP YP r d [] (λf vs=>PySem.call f vs):=
 DE (K:=K) (CX:=λ_=>CX) (sp:=λw=>sp (K w.params)) J2 Sv hlen hr hY IG Qk QX F (λw H xs a h1 h2 h3 h4=>B3 (K w.params) H xs a h1 h2 h3 h4) λ_ H s e s'=>Tq H s e s'
end L2
end
namespace Ob
open PySem PySem.Spec PyProof.Rows L2
theorem mem_lookup{β:Type}{x:Str}{y:β}:∀{l:List (Str×β)},l.lookup x=some y->(x,y)∈l
 |[],h=>by cases h
 |(a,b)::r,h=>by
  rw[tD] at h;by_cases e:(x==a)=true
  .rw[e] at h;have ex:x=a:=eq_of_beq e;cases h;rw[ex];exact cw ..
  .have e:(x==a)=false:=by simpa using e
   rw[e] at h;exact bz _ (mem_lookup h)
def eQ(K:PySem.W.Frag)(x:Str)(st:Stmt):Prop:=∃(f:Addr)(oc:Value)(od:Option Addr)(kV dc pm:Value)(an:Option Addr)(cd ct:Value)(sl:Array (Option Value)),nsIn K mainGlobals x=some (some (.ref f))/\
 K.lookup f=some ⟨oc,od,.func (fnOf x x (eU st) (du st) (ay st) .none kV dc pm an cd ct),sl⟩/\codeIn K cd x=true/\keepIn K (.ref f)=true
variable{K:PySem.W.Frag}{h:Heap}{mg:Str->Option Value}{x:Str}{st:Stmt}{ps:List Str}
theorem eQ.mk(X:K.In h)(G:h.Ns mainGlobals mg)(F:eQ K x st)(b:∀(kV doc pm:Value)(an:Option Addr)(nr ct:Value)(us:List Value),us.length=ps.length->bindArgs (fnOf x x (eU st) (du st) (ay st) .none kV doc pm an nr ct) ⟨us,[]⟩=pure (ps.zip us):=by first
 |exactλ_ _ _ _ _ _ us hl=>match us,hl with|[_],_=>rfl
 |exactλ_ _ _ _ _ _ us hl=>match us,hl with|[_,_],_=>rfl
 |exactλ_ _ _ _ _ _ us hl=>match us,hl with|[_,_,_],_=>rfl
 |exactλ_ _ _ _ _ _ us hl=>match us,hl with|[_,_,_,_],_=>rfl
 |exactλ_ _ _ _ _ _ us hl=>match us,hl with|[_,_,_,_,_],_=>rfl
 |exactλ_ _ _ _ _ _ us hl=>match us,hl with|[_,_,_,_,_,_],_=>rfl):bG K mg x st ps:=by
 obtain⟨f,oc,od,kV,dc,pm,an,cd,ct,sl,a,l,c,k⟩:=F;exact⟨f,_,sf l c k,mg_of X G a,(sf l c k).binds b⟩
def uv(K:PySem.W.Frag)(C:Addr)(x qual:Str)(st:Stmt):Prop:=nsIn K mainGlobals x=some (some (.ref C))/\plainGet K C Str.empty=true/\hasDictIn K C=true/\plainOver K C=true/\findIn K (.ref C) "__setattr__"=some (some (.builtin "object.__setattr__"))/\makesIn K C=true/\keepIn K (.ref C)=true/\
 ∃(f:Addr)(oc:Value)(od:Option Addr)(kV dc pm:Value)(an:Option Addr)(cd ct:Value)(sl:Array (Option Value)),findIn K (.ref C) "__init__"=some (some (.ref f))/\isFn K (.ref f)=true/\
  K.lookup f=some ⟨oc,od,.func (fnOf "__init__" qual (eU st) (du st) (ay st) .none kV dc pm an cd ct),sl⟩/\codeIn K cd qual=true/\keepIn K (.ref f)=true
variable{C:Addr}{qual:Str}
theorem uv.cls(h:uv K C x qual st):tO K C:=⟨h.2.1,h.2.2.1,h.2.2.2.1,h.2.2.2.2.1⟩
theorem uv.mk{K:PySem.W.Frag}{h:Heap}{mg:Str->Option Value}{C:Addr}{x qual:Str}{st:Stmt}{ps:List Str}{P:Program}{w:World}{base:Heap}{sp:Sp}(X:K.In h)(G:h.Ns mainGlobals mg)(F:uv K C x qual st)(b:∀(kV doc pm:Value)(an:Option Addr)(nr ct:Value)(us:List Value),us.length=ps.length->bindArgs (fnOf "__init__" qual (eU st) (du st) (ay st) .none kV doc pm an nr ct) ⟨us,[]⟩=pure (ps.zip us))(ok:∀{f:Addr}{fd:FuncData},HH K "__init__" qual st f fd->nq P w K mg base Aw 1 f fd ps sp):EF P w K mg base 1 x C ps sp:=by
 obtain⟨aC,_,_,_,_,mk,kc,f,oc,od,kV,dc,pm,an,cd,ct,sl,a,i,l,c,k⟩:=F;exact⟨f,_,⟨mk,a,i,kc⟩,ok (sf l c k),mg_of X G aC,(sf l c k).binds b⟩
def DF(K:PySem.W.Frag)(a:Addr)(its:List Value):Prop:=∃(od:Option Addr)(n:Nat)(sl:Array (Option Value)),K.lookup a=some ⟨.type "tuple",od,.seq its.toArray n,sl⟩
variable{a:Addr}{its:List Value}
theorem DF.sq{xs:List V}(h:DF K a its)(hl:its.length<=sizeLine)(r:Vals xs its)(H:Hp):iu K H a xs:=by obtain⟨od,n,sl,l⟩:=h;exact .inr ⟨_,_,n,l,rfl,rfl,by simpa using hl,by simpa using r⟩
def Xw(K:PySem.W.Frag)(b:Addr)(x:Str)(n k:Int):Prop:=∃(t u v:Tok),DF K b [.str x t,.int n u,.int k v]
theorem Xw.sq{K:PySem.W.Frag}{b:Addr}{x:Str}{n k:Int}(h:Xw K b x n k)(H:Hp):iu K H b [.str x,.int n,.int k]:=by obtain⟨t,u,v,h⟩:=h;exact h.sq (xs:=[.str x,.int n,.int k]) (by show 3<=sizeLine;decide) (.cons ⟨_,rfl⟩ (.cons ⟨_,rfl⟩ (.cons ⟨_,rfl⟩ .nil))) H
theorem w9:∀bs:List Addr,Vals (bs.map V.ref) (bs.map Value.ref)
 |[]=> .nil
 |b::r=> .cons rfl (w9 r)
variable{f:Addr}{oc dc pm cd ct:Value}{od an:Option Addr}{sl:Array (Option Value)}
theorem uv.by{kV:Value}(h1:nsIn K mainGlobals x=some (some (.ref C)))(h2:plainGet K C Str.empty=true)(h3:hasDictIn K C=true)(h4:plainOver K C=true)(h5:findIn K (.ref C) "__setattr__"=some (some (.builtin "object.__setattr__")))(h6:makesIn K C=true)(h7:keepIn K (.ref C)=true)(a:findIn K (.ref C) "__init__"=some (some (.ref f)))(i:isFn K (.ref f)=true)(l:K.lookup f=some ⟨oc,od,.func (fnOf "__init__" qual (eU st) (du st) (ay st) .none kV dc pm an cd ct),sl⟩)(c:codeIn K cd qual=true)(k:keepIn K (.ref f)=true):uv K C x qual st:=
 ⟨h1,h2,h3,h4,h5,h6,h7,f,oc,od,kV,dc,pm,an,cd,ct,sl,a,i,l,c,k⟩
variable{n:Nat}
theorem DF.by(l:K.lookup a=some ⟨.type "tuple",od,.seq its.toArray n,sl⟩):DF K a its:=⟨od,n,sl,l⟩
def QY(K:PySem.W.Frag)(x:Str)(st:Stmt)(c:Addr):Prop:=∃(f:Addr)(oc:Value)(od:Option Addr)(kV dc pm:Value)(an:Option Addr)(ct:Value)(sl:Array (Option Value)),nsIn K mainGlobals x=some (some (.ref f))/\
 K.lookup f=some ⟨oc,od,.func (fnOf x x (eU st) (du st) (ay st) .none kV dc pm an (.ref c) ct),sl⟩/\codeIn K (.ref c) x=true/\keepIn K (.ref f)=true
variable{c:Addr}
theorem QY.by{kV:Value}(a:nsIn K mainGlobals x=some (some (.ref f)))(l:K.lookup f=some ⟨oc,od,.func (fnOf x x (eU st) (du st) (ay st) .none kV dc pm an (.ref c) ct),sl⟩)(c1:codeIn K (.ref c) x=true)(k:keepIn K (.ref f)=true):QY K x st c:=⟨f,oc,od,kV,dc,pm,an,ct,sl,a,l,c1,k⟩
theorem QY.mk{base:Heap}{TP:Addr}(X:K.In h)(G:h.Ns mainGlobals mg)(F:QY K x st c)(CH:PySem.W.CodeHd base c TP)(b:∀(kV doc pm:Value)(an:Option Addr)(nr ct:Value)(us:List Value),us.length=ps.length->bindArgs (fnOf x x (eU st) (du st) (ay st) .none kV doc pm an nr ct) ⟨us,[]⟩=pure (ps.zip us)):To K mg base x st ps TP:=by obtain⟨f,oc,od,kV,dc,pm,an,ct,sl,a,l,c1,k⟩:=F;exact⟨f,oc,od,kV,dc,pm,an,c,ct,sl,l,c1,k,mg_of X G a,(sf l c1 k).binds b,CH⟩
theorem Ql{P:Addr}{co:Value}{cod:Option Addr}{fd:FuncData}{csl:Array (Option Value)}{vs:Array Value}(a:nsIn K mainGlobals x=some (some (.ref f)))(l:K.lookup f=some ⟨oc,od,.func fd,sl⟩)(hc:fd.code= .ref c)(lc:K.lookup c=some ⟨co,cod,.fields vs,csl⟩)(hv:(vs[11]?:Option Value)=some (.ref P)):tabIn K x=some (c,P):=by unfold tabIn;rw[a];simp only;rw[l];simp only;rw[hc];simp only;rw[lc];simp only;rw[hv]
def fnL:List (Str×Stmt):=[(("position_of":Str),lg),(("tree_end":Str),pZ),(("parent_position":Str),ia),(("sibling_before":Str),iA),(("children_run":Str),j0),(("children_count":Str),iB),(("place_at":Str),p0),(("too_deep":Str),p8),(("deepen":Str),wc),(("inserted":Str),p_),(("is_text":Str),sH),(("bytes_of":Str),qa),(("digits_of":Str),n9),(("number_of":Str),n_),(("reference_end":Str),jg),(("parts_of":Str),qb),(("references_in":Str),jh),(("numbers_referred":Str),gD),(("shown":Str),zl),(("renumbered":Str),mr),(("counted":Str),sG),(("new_node_refusal":Str),gE),(("put_new_node":Str),j2),(("add_node":Str),qc),(("write_text":Str),mv),(("drop_tree":Str),oh),(("dissolve_section":Str),gF),(("siblings_in_order":Str),gn),(("wrap_siblings":Str),ji),(("carry_tree":Str),mw),(("move_tree":Str),oj),(("promote_tree":Str),j3),(("demote_tree":Str),lj),(("raise_tree":Str),mx),(("fold_section":Str),j1),(("fold_from":Str),og),(("reveal_node":Str),lh),(("order_of":Str),qd),(("state_of":Str),qe),(("visible_positions":Str),gp),(("view_of":Str),sI)]
def fnM:List (Str×Stmt):=[(("info_of":Str),sJ),(("step_from":Str),om),(("section_places":Str),iF),(("labels_of":Str),ot),(("label_of":Str),qh),(("text_of":Str),sO),(("shown_text_of":Str),jk),(("find_label":Str),mz),(("referring_to":Str),j6),(("is_broken":Str),ow),(("broken_in":Str),oy),(("stands_in":Str),oz),(("search_for":Str),mB),(("references_of":Str),jl),(("contents_to":Str),ll),(("lines_of":Str),qf),(("has_at":Str),wd),(("number_at":Str),oo),(("next_number_in":Str),iC),(("depth_in":Str),qg),(("greatest_depth":Str),iD),(("node_fault":Str),my),(("take_first_line":Str),ib),(("node_with":Str),oq),(("node_in":Str),sN),(("take_node_line":Str),iE),(("load_outline":Str),j5),(("line_of":Str),sM),(("save_outline":Str),j4),(("copies_of":Str),oa),(("copy_tree":Str),oe),(("path_to":Str),sL),(("answer_making":Str),jm),(("answer_folding":Str),iG),(("answer_reading":Str),iH),(("answer_telling":Str),iI),(("read_calls":Str),mq),(("trees_between":Str),jj),(("answer_moving":Str),jn),(("answer_to":Str),oA),(("answers":Str),gN)]
def Xx:List Str:=["len","enumerate","any","all","range","sorted","str","ord","list","reversed"]
def AllP{α:Type}(p:α->Prop):List α->Prop
 |[]=>True
 |a::r=>p a/\AllP p r
theorem AllP.get{α:Type}{p:α->Prop}:∀{L:List α},AllP p L->∀(i:Nat){a:α},L[i]?=some a->p a
 |_::_,h,0,_,e=>by cases e;exact h.1
 |_::_,h,i+1,_,e=>AllP.get h.2 i e
theorem AllP.mem{α:Type}{p:α->Prop}:∀{L:List α},AllP p L->∀{a:α},a∈L->p a
 |_::_,h,_,.head _=>h.1
 |_::_,h,_,.tail _ m=>AllP.mem h.2 m
variable{t:Tok}
section
variable{K:PySem.W.Frag}{r:List (Str×Int)}{r1:List (Str×Str)}{r2:List (Str×Stmt)}{r3:List (Addr×Str)}{r4:List Str}{r5:List (Addr×Str×Nat×Nat)}
abbrev AI(K:PySem.W.Frag):=AllP λp:Str×Int=>∃t,nsIn K mainGlobals p.1=some (some (.int p.2 t))
abbrev AS(K:PySem.W.Frag):=AllP λp:Str×Str=>∃t,nsIn K mainGlobals p.1=some (some (.str p.2 t))
abbrev AF(K:PySem.W.Frag):=AllP λp:Str×Stmt=>eQ K p.1 p.2
theorem AF.fn{L:List (Str×Stmt)}(h:AF K L)(i:Nat)(e:L[i]?=some (x,st)):eQ K x st:=AllP.get h i e
abbrev AN(K:PySem.W.Frag):=AllP λp:Addr×Str=>findIn K (.ref p.1) p.2=some none
abbrev AB(K:PySem.W.Frag):=AllP λp:Str=>nsIn K mainGlobals p=some none
abbrev AQ(K:PySem.W.Frag):=AllP λp:Addr×Str×Nat×Nat=>Xw K p.1 p.2.1 (p.2.2.1:Nat) (p.2.2.2:Nat)
theorem ai{i:Int}(h:nsIn K mainGlobals x=some (some (.int i t)))(g:AI K r):AI K ((x,i)::r):=⟨⟨t,h⟩,g⟩
theorem as_{y:Str}(h:nsIn K mainGlobals x=some (some (.str y t)))(g:AS K r1):AS K ((x,y)::r1):=⟨⟨t,h⟩,g⟩
theorem an_(h:findIn K (.ref C) x=some none)(g:AN K r3):AN K ((C,x)::r3):=⟨h,g⟩
theorem ab_(h:nsIn K mainGlobals x=some none)(g:AB K r4):AB K (x::r4):=⟨h,g⟩
theorem aq_{b:Addr}{k:Nat}{u v:Tok}{m:Nat}(l:K.lookup b=some ⟨.type "tuple",od,.seq [Value.str x t,.int (n:Nat) u,.int (k:Nat) v].toArray m,sl⟩)(g:AQ K r5):AQ K ((b,x,n,k)::r5):=⟨⟨t,u,v,od,m,sl,l⟩,g⟩
theorem af{kV:Value}(a:nsIn K mainGlobals x=some (some (.ref f)))(l:K.lookup f=some ⟨oc,od,.func (fnOf x x (eU st) (du st) (ay st) .none kV dc pm an cd ct),sl⟩)(c:codeIn K cd x=true)(k:keepIn K (.ref f)=true)(g:AF K r2):AF K ((x,st)::r2):=⟨⟨f,oc,od,kV,dc,pm,an,cd,ct,sl,a,l,c,k⟩,g⟩
end
theorem all_mk{P:Program}{w:World}{fa CO CC SA TP J1 b0 b1 b2 b3 b4 b5 b6 b7 b8 b9 QM UG UH UI UJ UK UM UN UO UP UQ UR US UT UU UW UX UY UZ U0 U3 U4:Addr}(X:K.In h)(G:h.Ns mainGlobals mg)(hfa:mg "answers"=some (.ref fa))(cN:uv K C "Node" "Node.__init__" pY)(cO:uv K CO "Outline" "Outline.__init__" lb)(cC:uv K CC "Call" "Call.__init__" pX)(hN:AN K [(C,"number"),(C,"cell"),(C,"depth"),(C,"text"),(C,"folded"),(CO,"nodes"),(CO,"next_number"),(CC,"name"),(CC,"wholes"),(CC,"row")])(ne1:C≠CO)(ne2:CC≠C)(ne3:CC≠CO)(hB:AB K Xx)(hI:AI K IB)(hS:AS K M5)(sh:nsIn K mainGlobals "SHAPES"=some (some (.ref SA)))(shT:DF K SA [.ref b0,.ref b1,.ref b2,.ref b3,.ref b4,.ref b5,.ref b6,.ref b7,.ref b8,.ref b9,.ref QM,.ref UG,.ref UH,.ref UI,.ref UJ,.ref UK,.ref UM,.ref UN,.ref UO,.ref UP,.ref UQ,.ref UR,.ref US,.ref UT,.ref UU,.ref UW,.ref UX,.ref UY,.ref UZ,.ref U0,.ref U3,.ref U4])(hQ:AQ K ([b0,b1,b2,b3,b4,b5,b6,b7,b8,b9,QM,UG,UH,UI,UJ,UK,UM,UN,UO,UP,UQ,UR,US,UT,UU,UW,UX,UY,UZ,U0,U3,U4].zip rM))(hF:AF K fnL)(hG:AF K fnM)(hC:QY K "sort_children" fw J1):
 ∃fd:FuncData,(∀(s:Shared)(us:List Value),us.length=(["calls"]:List Str).length->BindsTo s fd ⟨us,[]⟩ ((["calls"]:List Str).zip us))/\∀base:Heap,K.In base->base.Ns mainGlobals mg->PySem.W.CodeHd base J1 TP->xx mg base->nq P w K mg base Aw 9 fa fd ["calls"] (E7 TP K):=by
 have T:Txt K mg C CO CC:=⟨cN.cls,cO.cls,cC.cls,hN.get 0 rfl,hN.get 1 rfl,hN.get 2 rfl,hN.get 3 rfl,hN.get 4 rfl,hN.get 5 rfl,hN.get 6 rfl,hN.get 7 rfl,hN.get 8 rfl,hN.get 9 rfl,ne1,ne2,ne3,pB X G (hB.get 0 rfl),pB X G (hB.get 1 rfl),pB X G (hB.get 2 rfl),pB X G (hB.get 3 rfl),pB X G (hB.get 4 rfl),pB X G (hB.get 5 rfl),pB X G (hB.get 6 rfl),pB X G (hB.get 7 rfl),pB X G (hB.get 8 rfl),pB X G (hB.get 9 rfl),λhx=>let ⟨t,e⟩:=hI.mem (mem_lookup hx);⟨t,mg_of X G e⟩,λhx=>let ⟨t,e⟩:=hS.mem (mem_lookup hx);⟨t,mg_of X G e⟩⟩;have S:Yr K mg SA:=⟨mg_of X G sh,[b0,b1,b2,b3,b4,b5,b6,b7,b8,b9,QM,UG,UH,UI,UJ,UK,UM,UN,UO,UP,UQ,UR,US,UT,UU,UW,UX,UY,UZ,U0,U3,U4],rfl,shT.sq (by show 32<=sizeLine;decide) (w9 [b0,b1,b2,b3,b4,b5,b6,b7,b8,b9,QM,UG,UH,UI,UJ,UK,UM,UN,UO,UP,UQ,UR,US,UT,UU,UW,UX,UY,UZ,U0,U3,U4]),λi b q hb hq H=>(hQ.get i (a:=(b,q)) (NT.mpr ⟨hb,hq⟩)).sq H⟩;obtain⟨f0,oc,od,kV,dc,pm,an,cd,ct,sl,a0,l0,c0,k0⟩:eQ K "answers" gN:=(hG.fn 40 rfl);have ee:=hfa.symm.trans (mg_of X G a0);cases ee;refine⟨fnOf "answers" "answers" (eU gN) (du gN) (ay gN) .none kV dc pm an cd ct,λs us hu=>match us,hu with|[_],_=> .of_eq rfl,λbase _ _ CH B=>?_⟩;have Z:Tag P w K mg base:=⟨⟩;have uw:=hC.mk (ps:=["outline","parent"]) X G CH (λ_ _ _ _ _ _ us hl=>match us,hl with|[_,_],_=>rfl);have rB:EF P w K mg base 1 "Node" C ["self","number","cell","depth","text"] (rA C):=cN.mk X G (λ_ _ _ _ _ _ us hl=>match us,hl with|[_,_,_,_,_],_=>rfl) λF=>IW F T;have lZ:EF P w K mg base 1 "Outline" CO ["self"] (zt CO):=cO.mk X G (λ_ _ _ _ _ _ us hl=>match us,hl with|[_],_=>rfl) λF=>LA F T;have JZ:EF P w K mg base 1 "Call" CC ["self","name","wholes","row"] (zu CC):=cC.mk X G (λ_ _ _ _ _ _ us hl=>match us,hl with|[_,_,_,_],_=>rfl) λF=>IX F T;have ax:=Pz (Z:=Z) (eQ.mk X G (hF.fn 0 rfl)) T;have aQ:=Ls (Z:=Z) (eQ.mk X G (hF.fn 1 rfl)) T;have br:=PD (Z:=Z) (eQ.mk X G (hF.fn 2 rfl)) T;have dY:=PF (Z:=Z) (eQ.mk X G (hF.fn 3 rfl)) T;have fF:=PH (Z:=Z) (eQ.mk X G (hF.fn 4 rfl)) T ax aQ;have dW:=Lu (Z:=Z) (eQ.mk X G (hF.fn 5 rfl)) T aQ;have gb:=IP (Z:=Z) (eQ.mk X G (hF.fn 6 rfl)) T ax aQ fF;have dX:=Bl (Z:=Z) (eQ.mk X G (hF.fn 7 rfl)) T;have gy:=F0 (Z:=Z) (eQ.mk X G (hF.fn 8 rfl)) T;have f_:=PL (Z:=Z) (eQ.mk X G (hF.fn 9 rfl));have ie:=F2 (Z:=Z) (eQ.mk X G (hF.fn 10 rfl)) T;have cF:=IQ (Z:=Z) (eQ.mk X G (hF.fn 11 rfl)) T;have qp:=F3 (Z:=Z) (eQ.mk X G (hF.fn 12 rfl)) T cF;have iL:=F4 (Z:=Z) (eQ.mk X G (hF.fn 13 rfl)) T;have j_:=F6 (Z:=Z) (eQ.mk X G (hF.fn 14 rfl)) T;have jQ:=IU (Z:=Z) (eQ.mk X G (hF.fn 15 rfl)) T j_ iL;have eZ:=Ly (Z:=Z) (eQ.mk X G (hF.fn 16 rfl)) T jQ;have bN:=Lz (Z:=Z) (eQ.mk X G (hF.fn 17 rfl)) T eZ;have mI:=IV (Z:=Z) (eQ.mk X G (hF.fn 18 rfl)) T jQ;have oS:=PQ (Z:=Z) (eQ.mk X G (hF.fn 19 rfl)) T eZ qp;have bu:=C8 (Z:=Z) (eQ.mk X G (hF.fn 20 rfl)) T;have de:=C9 (Z:=Z) (eQ.mk X G (hF.fn 21 rfl)) T ie;have fG:=PU (Z:=Z) (eQ.mk X G (hF.fn 22 rfl)) T rB f_;have pq:=PV (Z:=Z) (eQ.mk X G (hF.fn 23 rfl)) T gb de fG;have oT:=IZ (Z:=Z) (eQ.mk X G (hF.fn 24 rfl)) T ax ie;have qx:=LF (Z:=Z) (eQ.mk X G (hF.fn 25 rfl)) T ax aQ;have il:=By (Z:=Z) (eQ.mk X G (hF.fn 26 rfl)) T ax aQ dW gy;have gI:=LH (Z:=Z) (eQ.mk X G (hF.fn 27 rfl)) T;have kg:=LL (Z:=Z) (eQ.mk X G (hF.fn 28 rfl)) T ax aQ gI de dX gy fG;have eB:=Jf (Z:=Z) (eQ.mk X G (hF.fn 29 rfl)) T aQ gy f_;have qz:=LM (Z:=Z) (eQ.mk X G (hF.fn 30 rfl)) T ax aQ gb dX eB;have ly:=Dd (Z:=Z) (eQ.mk X G (hF.fn 31 rfl)) T ax aQ br eB;have mP:=F_ (Z:=Z) (eQ.mk X G (hF.fn 32 rfl)) T ax aQ dY dX gy;have oU:=Ji (Z:=Z) (eQ.mk X G (hF.fn 33 rfl)) T ax dY eB;have lz:=LO (Z:=Z) (eQ.mk X G (hF.fn 34 rfl)) T ax;have qA:=BB (Z:=Z) (eQ.mk X G (hF.fn 35 rfl)) T;have mQ:=Ga (Z:=Z) (eQ.mk X G (hF.fn 36 rfl)) T ax br;have tp:=Jm (Z:=Z) (eQ.mk X G (hF.fn 37 rfl)) T;have tq:=Jn (Z:=Z) (eQ.mk X G (hF.fn 38 rfl)) T;have cQ:=P4 (Z:=Z) (eQ.mk X G (hF.fn 39 rfl)) T aQ;have wU:=LU (Z:=Z) (eQ.mk X G (hF.fn 40 rfl)) T aQ cQ;have wV:=LW (Z:=Z) (eQ.mk X G (hG.fn 0 rfl)) T ax aQ br dW;have qB:=LX (Z:=Z) (eQ.mk X G (hG.fn 1 rfl)) T ax cQ;have jq:=LY (Z:=Z) (eQ.mk X G (hG.fn 2 rfl)) T;have cv:=Ge (Z:=Z) (eQ.mk X G (hG.fn 3 rfl)) T cF jq;have tu:=Jv (Z:=Z) (eQ.mk X G (hG.fn 4 rfl)) T ax cv bu;have wX:=L0 (Z:=Z) (eQ.mk X G (hG.fn 5 rfl)) T ax bu;have ki:=Gf (Z:=Z) (eQ.mk X G (hG.fn 6 rfl)) T ax cv mI bu;have oV:=L4 (Z:=Z) (eQ.mk X G (hG.fn 7 rfl)) T cv;have lA:=L7 (Z:=Z) (eQ.mk X G (hG.fn 8 rfl)) T ax bN bu;have qu:=BG (Z:=Z) (eQ.mk X G (hG.fn 9 rfl)) T ax bN;have qC:=Gh (Z:=Z) (eQ.mk X G (hG.fn 10 rfl)) T qu bu;have qv:=Gi (Z:=Z) (eQ.mk X G (hG.fn 11 rfl)) T;have oW:=Gj (Z:=Z) (eQ.mk X G (hG.fn 12 rfl)) T cv mI qv bu;have kj:=Gm (Z:=Z) (eQ.mk X G (hG.fn 13 rfl)) T ax bN;have mR:=BJ (Z:=Z) (eQ.mk X G (hG.fn 14 rfl)) T cv mI bu;have sY:=Jy (Z:=Z) (eQ.mk X G (hG.fn 15 rfl)) T;have gc:=P6 (Z:=Z) (eQ.mk X G (hG.fn 16 rfl)) T cF;have iN:=JB (Z:=Z) (eQ.mk X G (hG.fn 17 rfl)) T iL;have js:=L' (Z:=Z) (eQ.mk X G (hG.fn 18 rfl)) T iN gc;have pk:=JF (Z:=Z) (eQ.mk X G (hG.fn 19 rfl)) T gc;have jr:=JG (Z:=Z) (eQ.mk X G (hG.fn 20 rfl)) T;have oR:=JH (Z:=Z) (eQ.mk X G (hG.fn 21 rfl)) T ax jr;have iO:=JI (Z:=Z) (eQ.mk X G (hG.fn 22 rfl)) T js;have mO:=Mc (Z:=Z) (eQ.mk X G (hG.fn 23 rfl)) T iN gc ie rB;have wO:=Gv (Z:=Z) (eQ.mk X G (hG.fn 24 rfl)) T mO gc pk;have jt:=JL (Z:=Z) (eQ.mk X G (hG.fn 25 rfl)) T wO oR;have lD:=Md (Z:=Z) (eQ.mk X G (hG.fn 26 rfl)) T lZ sY iO jt;have wR:=Mf (Z:=Z) (eQ.mk X G (hG.fn 27 rfl)) T cF;have lC:=Mh (Z:=Z) (eQ.mk X G (hG.fn 28 rfl)) T cF wR bu;have qw:=Gy (Z:=Z) (eQ.mk X G (hG.fn 29 rfl)) T rB oS;have qy:=Mj (Z:=Z) (eQ.mk X G (hG.fn 30 rfl)) T ax aQ gb dX qw f_;have wW:=Ml (Z:=Z) (eQ.mk X G (hG.fn 31 rfl)) T ax br bu;have kl:=Gz (Z:=Z) (eQ.mk X G (hG.fn 32 rfl)) T pq oT qx il kg qy;have jw:=Ds (Z:=Z) (eQ.mk X G (hG.fn 33 rfl)) T lz qA mQ;have jx:=Dt (Z:=Z) (eQ.mk X G (hG.fn 34 rfl)) T tp wU wV wW qB tq;have jy:=Du (Z:=Z) (eQ.mk X G (hG.fn 35 rfl)) T tu oV wX ki mR kj lA qC oW;have oZ:=Mp (Z:=Z) (eQ.mk X G (hG.fn 36 rfl)) T S JZ;have kn:=J0 (Z:=Z) (eQ.mk X G (hG.fn 37 rfl)) T aQ;have kh:=Mt (Z:=Z) uw B T ax fF kn;have km:=GA (Z:=Z) (eQ.mk X G (hG.fn 38 rfl)) T qz ly mP oU kh;have qD:=S1 (Z:=Z) (eQ.mk X G (hG.fn 39 rfl)) T lC lD kl km jw jx jy;exact DA (sf (st:=gN) l0 c0 k0) T lZ oZ qD bu
theorem Qm(H:Hp)(P:Addr):sP (upd H P (.o1 #[])) P:=⟨#[],ah,trivial,.inl rfl⟩
end Ob
end
open PySem PySem.W PyProof.Rows
set_option maxRecDepth 100000 in
set_option maxHeartbeats 0 in
theorem PySem.Challenge.cw_outlinebook_s01_answers_holds : PySem.Challenge.rw_outlinebook_s01_answers.Holds := by
  w_on
  refine Ob_hd ?_
  k_fillS
  refine L2.B0 (TP := 383) (J1 := 385) (x := "sort_children") (r := PySem.Challenge.rw_outlinebook_s01_answers) (k := 9) (CX := L2.Aw) (ps := ["calls"]) (sp := Ob.E7 383) (by decide +kernel) rfl rfl ⟨rfl, by decide, by decide⟩ (fun w h Y => PySem.W.kIn_of Y) (by decide +kernel) ?hT1 ?hN1 ?hF1 ?hS1 (fun _ _ _ _ z => z)
  case hT1 =>
    intro w
    refine' Ob.Ql ?a ?l ?c ?m ?v
    (case a => k_is)
    (case l => k_is)
    (case c => rfl)
    (case m => k_is)
    (case v => rfl)
  case hN1 =>
    intro w
    kernel_rfl
  case hF1 =>
    intro w mg fa h Y KX G Xs
    refine' Ob.all_mk KX G Xs ?z1 ?z2 ?z3 ?z4 ?z5 ?z6 ?z7 ?z8 ?z9 ?y1 ?y2 ?y3 ?y4 ?y5 ?y7 ?y6
    (case z1 => (refine' Ob.uv.by ?a ?b ?c ?d ?e ?f ?g ?h ?i ?j ?k ?l; (case a => k_is); (case b => k_is); (case c => k_is); (case d => k_is); (case e => k_is); (case f => k_is); (case g => k_is); (case h => k_is); (case i => k_is); (case j => k_is); (case k => k_is); (case l => k_is)))
    (case z2 => (refine' Ob.uv.by ?a ?b ?c ?d ?e ?f ?g ?h ?i ?j ?k ?l; (case a => k_is); (case b => k_is); (case c => k_is); (case d => k_is); (case e => k_is); (case f => k_is); (case g => k_is); (case h => k_is); (case i => k_is); (case j => k_is); (case k => k_is); (case l => k_is)))
    (case z3 => (refine' Ob.uv.by ?a ?b ?c ?d ?e ?f ?g ?h ?i ?j ?k ?l; (case a => k_is); (case b => k_is); (case c => k_is); (case d => k_is); (case e => k_is); (case f => k_is); (case g => k_is); (case h => k_is); (case i => k_is); (case j => k_is); (case k => k_is); (case l => k_is)))
    case z4 =>
      iterate 10 (refine Ob.an_ (by k_is) ?_)
      exact trivial
    (case z5 => decide)
    (case z6 => decide)
    (case z7 => decide)
    case z8 =>
      iterate 10 (refine Ob.ab_ (by k_is) ?_)
      exact trivial
    case z9 =>
      iterate 35 (refine Ob.ai (by k_is) ?_)
      exact trivial
    case y1 =>
      iterate 6 (refine Ob.as_ (by k_is) ?_)
      exact trivial
    (case y2 => k_is)
    (case y3 => (refine' Ob.DF.by ?a; (case a => k_is)))
    case y4 =>
      iterate 32 (refine Ob.aq_ (by k_is) ?_)
      exact trivial
    case y5 =>
      iterate 41 (refine Ob.af (by k_is) (by k_is) (by k_is) (by k_is) ?_)
      exact trivial
    case y7 =>
      iterate 41 (refine Ob.af (by k_is) (by k_is) (by k_is) (by k_is) ?_)
      exact trivial
    (case y6 => (refine' Ob.QY.by ?a ?b ?c ?d; (case a => k_is); (case b => k_is); (case c => k_is); (case d => k_is)))
  case hS1 =>
    intro K H xs a hO Xv Dy hx
    cases hx with
    | cons h1 h2 =>
      cases h2
      cases h1 with
      | lst hs ha =>
        have e := L2.Ej a.1 _ ha
        subst e
        have Dy : PyVanbkn.answers_asked a.1 = true := Dy
        exact Ob.Qg (Ob.Qm _ _) ((Ob.aE hO).seq hs) Dy fun H' p hp => .lst (L2.bf.of hp) (L2.Ei _)
