import PyProof.Rows.All
import Wide.All
import OpenK.AllK
import Wide.FinOn
import PyProof.EqAt
import PyProof.EqKinds
import PyProof.TupleCall
import KE.BitLaws
import Open.SpecLaws
import KE.OsHead
import KE.OsGo
import KE.KSortTup
import KE.KNest
import PySem.Challenge.RW_outlinebook_s01_answers
set_option Elab.async false
set_option linter.all false
set_option maxRecDepth 100000
set_option maxHeartbeats 4000000
namespace PySem.W.Fast
def tw2272644670597532337:=0
def tw5963392233469559570:=0
def tw1396772371103594345:=0
def tw15512982503887432578:=0
def tw17548418515974357447:=0
def tw1622101255877255904:=0
def tw15131630900314028920:=0
def tw10595730380129229889:=0
def tw11545101221719779087:=0
def tw17974855163885083521:=0
def tw92060661822378841:=0
def tw15970091616910640943:=0
def tw11219853013200450979:=0
def tw1999266118613844004:=0
def tw1677553905928936604:=0
def tw12852690102993630260:=0
def tw15943038896456838458:=0
def tw732343915163128094:=0
def tw17728029657831417922:=0
def tw12558571694650484090:=0
def tw10711511875327877035:=0
def tw6189308205628921209:=0
def tw1866569696252724244:=0
def tw7666804993855657895:=0
def tw13663678422136738021:=0
def tw9598245278253928473:=0
def tw12197214323786352593:=0
def tw17080065299758060336:=0
def tw7563622227609623321:=0
def tw12721530452396964670:=0
def tw15896490773305013207:=0
def tw493728741985226517:=0
def tw9041908870335683267:=0
def tw5150678813610625731:=0
def tw10412448911871025728:=0
def tw11853922322964799345:=0
def tw8382159791903123962:=0
def tw9524254836318092591:=0
def tw154798043179828802:=0
def tw13994232701498013483:=0
def tw7075311511858309340:=0
def tw9255005316379183364:=0
def tw10775972204560705761:=0
def tw7455988562427710313:=0
def tw14926492134544283137:=0
def tw1714586393919969448:=0
def tw1601771301379424972:=0
def tw2347975091874689781:=0
def tw2565430981891936591:=0
def tw8757855985024099967:=0
def tw1166107782424564263:=0
def tw15760145670778389079:=0
def tw4518268025126107228:=0
def tw10339995642056512321:=0
def tw11577371678421680269:=0
def tw1406534263632596991:=0
def tw11532922019273086050:=0
def tw5764310338059768808:=0
def tw14085952286920903485:=0
def tw10093719006005521682:=0
def tw7409917652854332841:=0
def tw5542129552875209033:=0
def tw15893172325343610953:=0
def tw11345771088777418318:=0
def tw18165564496149857984:=0
def tw13938996545893555185:=0
def tw15775416239566625599:=0
def tw15585692605603467659:=0
def tw59067985242665166:=0
def tw15906344043040531048:=0
def tw411932854007823043:=0
def tw2032462897776757212:=0
def tw10785054062217944171:=0
def tw2219322473253621290:=0
def tw12892449543170036434:=0
def tw12267681565311033578:=0
def tw10272773458315173332:=0
def tw5048243596664848513:=0
def tw14516527199353084593:=0
def tw10898562431572999216:=0
def tw8435899277382438542:=0
def tw1274521261293951834:=0
def tw10540856993773351905:=0
def tw7099127319573518963:=0
def tw14502469830504054213:=0
def tw9482708063867228551:=0
def tw3580621604002188035:=0
def tw12797765113473851165:=0
def tw3851161346053976926:=0
def tw4160758376205809268:=0
def tw11854689742798957952:=0
def tw11116825443564100166:=0
def tw2263301613853457821:=0
def tw2813465788201264986:=0
def tw5098468426569291385:=0
def tw3714924638255384064:=0
def tw10394726076395593832:=0
def tw7510294238088311185:=0
def tw18375081397571702228:=0
def tw13808377480175278332:=0
def tw16003520857176136991:=0
def tw15765494448929183158:=0
def tw302201556943789954:=0
def tw4855642457125424129:=0
def tw10358890962462169924:=0
def tw2321116446583875453:=0
def tw3782435367827986433:=0
def tw3889887270298069622:=0
def tw9434262319244919028:=0
def tw16075557840932206446:=0
def tw6476231383795102974:=0
def tw17734845447145431722:=0
def tw5343646879836877175:=0
def tw16748220628824633271:=0
def tw9135002226262711356:=0
def tw11353706439552569587:=0
def tw3582691758699830869:=0
def tw13483238836017922392:=0
def tw17884693595722276188:=0
def tw15026724616866357048:=0
def tw13407478179273992331:=0
def tw3582895426457923106:=0
def tw16562658645418256058:=0
def tw7947320610623157360:=0
def tw5874528154279573359:=0
def tw16932652289935197051:=0
def tw12775163001681317052:=0
def tw1210538620469222037:=0
def tw3965005698414605932:=0
def tw1975260097187629093:=0
def tw6768112592390076383:=0
def tw5141239764925220203:=0
def tw13657526572501948664:=0
def tw7105044457647878087:=0
def tw10225287119277275184:=0
def tw18333966095997328160:=0
def tw15050498412428371759:=0
def tw8709285127388614797:=0
def tw7305836037205877388:=0
def tw10830355697631469108:=0
def tw9203479014376049722:=0
def tw3564025515930288516:=0
def tw9381313683606791747:=0
def tw16540827843096896896:=0
def tw15376851002345365664:=0
def tw5478411259967718549:=0
def tw4010867777263377613:=0
def tw16140573463952709628:=0
def tw8734147688175818535:=0
def tw15153795449026138458:=0
def tw11281988860320506778:=0
def tw4995261189073371726:=0
def tw14611312407547391576:=0
def tw11832142073698602876:=0
def tw8035639350164635719:=0
def tw16917675346349609850:=0
def tw8422109149316848102:=0
def tw2763096583466006032:=0
def tw2255199750604057986:=0
def tw14683777952895912602:=0
def tw11474620526708749415:=0
def tw9810930254172674725:=0
def tw5704987217372401284:=0
def tw12095909591476234560:=0
def tw10376548108390143458:=0
def tw16858836673173901889:=0
def tw1551175412320594076:=0
def tw10882546165128366720:=0
def tw1032984111911614499:=0
def tw5837141098125349926:=0
def tw14374825464481423062:=0
def tw1117674032823122589:=0
def tw7059993744222459916:=0
def tw866445486074739342:=0
def tw13424734098561529201:=0
def tw7577542801841939056:=0
def tw4963716494757783219:=0
def tw9795460400726547585:=0
def tw8518998261151178215:=0
def tw16573250323269751717:=0
def tw7799727426468683905:=0
def tw15515516511993395860:=0
def tw16245835160439235852:=0
def tw4918981564404183423:=0
def tw7879444504026300662:=0
def tw18430253105983947236:=0
def tw16094501947354510163:=0
def tw2969204255053074723:=0
def tw9453454812261230646:=0
def tw16812949876154234960:=0
def tw17738360361026159454:=0
def tw610885311552236711:=0
def tw11947886036842480415:=0
def tw1785116441127140221:=0
def tw9052832964282658373:=0
def tw7398702699774750391:=0
def tw14577424319997413611:=0
def tw13730046413762392068:=0
def tw7183510927907734310:=0
def tw15821274104462667063:=0
def tw12697513826273710409:=0
def tw16422797045414531327:=0
def tw7667591448470503535:=0
def tw12072293437608215685:=0
def tw8431056668966416820:=0
def tw3528765466635013974:=0
def tw1873834172482011152:=0
def tw12663455644107171507:=0
def tw84182305395553009:=0
def tw4487448004391093264:=0
def tw7720469104021884055:=0
def tw17556970850075049300:=0
def tw5720702332888849558:=0
def tw9522568634913175118:=0
def tw17358419429419572353:=0
def tw10086767856448156109:=0
def tw13819476913041051640:=0
def tw13832388963852090474:=0
def tw1240794778401070265:=0
def tw5841745969115878581:=0
def tw11631077499474166964:=0
def tw391132769335305712:=0
def tw14971376091233538118:=0
def tw3893758417918278121:=0
def tw4206147598454238219:=0
def tw15563125556620732590:=0
def tw13678535436941088572:=0
def tw7294623041526008686:=0
def tw12806242476448978834:=0
def tw8032006304590779023:=0
def tw15018858867214594558:=0
def tw5693216796438071750:=0
def tw4970679620472828661:=0
def tw5790252008525426808:=0
def tw5812875101269820686:=0
def tw4003447020356564974:=0
def tw540078592720542189:=0
def tw2719848857927913251:=0
def tw1343916825610196431:=0
def tw12722661749650752364:=0
def tw11459929026656177171:=0
def tw3638685350519973055:=0
def tw9918709394202670185:=0
def tw10490219034181697133:=0
def tw9115646026475765342:=0
def tw11100854160541874234:=0
def tw16324758195438969641:=0
def tw14683781458284262716:=0
def tw15576413466625969187:=0
def tw4959130798068297251:=0
end PySem.W.Fast
section
open PySem PySem.W PyProof.Rows
local macro_rules | `(tactic| o_law) => `(tactic| skip)
local macro_rules | `(tactic| k_head) => `(tactic| k_headS)
local macro_rules | `(tactic| w_witness2) => `(tactic| exact ⟨[.list [.int 15]], by decide +kernel, by decide +kernel⟩)
set_option maxHeartbeats 0 in
open_top cw_outlinebook_s01_answers_head for PySem.Challenge.rw_outlinebook_s01_answers
end
abbrev QH:=@Array.Perm.refl
abbrev Rk:=@Array.length_toList
abbrev Ug:=@Array.toList_append
abbrev uA:=@Bool.and_eq_true
abbrev Uh:=@Bool.eq_false_iff
abbrev GP:=@Bool.eq_iff_iff
abbrev Kd:=@Bool.false_eq_true
abbrev uT:=@Bool.false_ne_true
abbrev QI:=@Bool.false_or
abbrev MK:=@Bool.or_eq_false_iff
abbrev rR:=@Bool.or_eq_true
abbrev zN:=@Bool.or_false
abbrev Kr:=@PySem.Calls.callWith_builtin
abbrev NW:=@PySem.Calls.evalArgs_plain
abbrev GZ:=@PySem.Calls.spliced_cons
abbrev Ks:=@PySem.Calls.spliced_nil
abbrev Rl:=@Classical.byContradiction
abbrev Kt:=@PySem.F.slot_tuple_iterator_next
abbrev Fg:=@PySem.Heap.SameBut.update
abbrev gq:=@PySem.Heap.get?_push_of_some
abbrev jD:=@PySem.Heap.get?_push_size
abbrev dh:=@PySem.Heap.lt_size
abbrev pO:=@PySem.Heap.size_push
abbrev zO:=@Int.toNat_natCast
abbrev Fh:=@List.Perm.refl
abbrev NX:=@List.Sublist.refl
abbrev Ku:=@List.all_cons
abbrev yN:=@List.all_eq_true
abbrev Kv:=@List.all_map
abbrev uU:=@List.any_cons
abbrev Fi:=@List.any_eq_false
abbrev NY:=@List.any_eq_true
abbrev Cd:=@List.any_map
abbrev dQ:=@List.append_assoc
abbrev G0:=@List.append_eq_append_iff
abbrev pz:=@List.append_nil
abbrev Kw:=@List.append_of_mem
abbrev iT:=@List.cons_append
abbrev NZ:=@List.dropLast_concat
abbrev N5:=@List.dropLast_concat_getLast
abbrev Kx:=@List.dropWhile_append_of_pos
abbrev N_:=@List.dropWhile_cons_of_neg
abbrev G1:=@List.dropWhile_sublist
abbrev Rn:=@List.drop_append_of_le_length
abbrev nt:=@List.drop_drop
abbrev rS:=@List.drop_eq_getElem_cons
abbrev Oa:=@List.drop_eq_nil_iff
abbrev ug:=@List.drop_left
abbrev Ky:=@List.drop_length
abbrev uV:=@List.drop_of_length_le
abbrev Kz:=@List.drop_sublist
abbrev zP:=@List.drop_zero
abbrev zQ:=@List.eq_nil_of_length_eq_zero
abbrev KA:=@List.filterMap_append
abbrev rT:=@List.filterMap_cons
abbrev KC:=@List.filterMap_eq_map'
abbrev qM:=@List.filter_append
abbrev rV:=@List.filter_cons
abbrev xk:=@List.filter_cons_of_pos
abbrev Ro:=@List.filter_eq_append_iff
abbrev Rp:=@List.filter_eq_cons_iff
abbrev uW:=@List.filter_eq_nil_iff
abbrev Oc:=@List.find?_append
abbrev rW:=@List.find?_cons
abbrev G2:=@List.find?_eq_none
abbrev G3:=@List.findIdx?_eq_none_iff
abbrev Od:=@List.findIdx?_eq_some_iff_getElem
abbrev Ce:=@List.flatMap_append
abbrev ny:=@List.flatMap_cons
abbrev Cf:=@List.flatten_cons
abbrev Oe:=@List.foldl_cons
abbrev Of:=@List.forIn_nil
abbrev uh:=@List.getD_eq_getElem?_getD
abbrev nz:=@List.getElem?_append_left
abbrev k3:=@List.getElem?_append_right
abbrev Rq:=@List.getElem?_cons_zero
abbrev xl:=@List.getElem?_drop
abbrev c8:=@List.getElem?_eq_getElem
abbrev KD:=@List.getElem?_eq_none
abbrev dm:=@List.getElem?_eq_some_iff
abbrev gW:=@List.getElem?_map
abbrev xm:=@List.getElem?_of_mem
abbrev Og:=@List.getElem?_set_ne
abbrev Oh:=@List.getElem?_set_self
abbrev Fj:=@List.getElem?_take
abbrev Rt:=@List.getElem?_take_of_lt
abbrev Oi:=@List.getElem?_zip_eq_some
abbrev KG:=@List.getElem_inj
abbrev G4:=@List.getElem_map
abbrev Oj:=@List.getElem_mem
abbrev Ru:=@List.getLast?_eq_none_iff
abbrev Rv:=@List.getLast?_eq_some_getLast
abbrev Rw:=@List.getLast?_eq_some_iff
abbrev Rx:=@List.getLastD_eq_getLast?
abbrev Fl:=@List.head?_drop
abbrev Ol:=@List.isEmpty_iff
abbrev Ry:=@List.isPrefixOf_iff_prefix
abbrev a_:=@List.length_append
abbrev cj:=@List.length_cons
abbrev dC:=@List.length_drop
abbrev G5:=@List.length_dropLast
abbrev DM:=@List.length_eq_zero_iff
abbrev DN:=@List.length_filterMap_le
abbrev lF:=@List.length_filter_le
abbrev aS:=@List.length_map
abbrev G6:=@List.length_nil
abbrev tE:=@List.length_reverse
abbrev bg:=@List.length_take
abbrev tF:=@List.lookup_cons
abbrev cV:=@List.map_append
abbrev iU:=@List.map_congr_left
abbrev cy:=@List.map_cons
abbrev jR:=@List.map_drop
abbrev uX:=@List.map_id
abbrev ip:=@List.map_map
abbrev DO:=@List.map_reverse
abbrev mY:=@List.map_take
abbrev dY:=@List.mem_append
abbrev dz:=@List.mem_append_left
abbrev eK:=@List.mem_append_right
abbrev bY:=@List.mem_cons
abbrev bu:=@List.mem_cons_of_mem
abbrev cb:=@List.mem_cons_self
abbrev gX:=@List.mem_filter
abbrev G7:=@List.mem_filterMap
abbrev G8:=@List.mem_iff_getElem
abbrev fc:=@List.mem_map
abbrev zR:=@List.mem_map_of_mem
abbrev xC:=@List.mem_of_find?_eq_some
abbrev cI:=@List.mem_of_getElem?
abbrev zS:=@List.mem_of_mem_drop
abbrev ku:=@List.mem_of_mem_take
abbrev G9:=@List.mem_range'_1
abbrev uY:=@List.mem_reverse
abbrev G_:=@List.mem_singleton
abbrev uZ:=@List.nil_append
abbrev xD:=@List.nodup_append
abbrev tG:=@List.nodup_cons
abbrev zT:=@List.not_mem_nil
abbrev DP:=@List.of_mem_zip
abbrev xE:=@List.pairwise_cons
abbrev DQ:=@List.pairwise_iff_getElem
abbrev ML:=@List.perm_append_comm_assoc
abbrev zU:=@List.prefix_iff_eq_take
abbrev G':=@List.replicate_succ
abbrev zV:=@List.reverse_append
abbrev u0:=@List.reverse_cons
abbrev dZ:=@List.size_toArray
abbrev MM:=@List.sublist_append_right
abbrev MN:=@List.takeWhile_append_dropWhile
abbrev tH:=@List.takeWhile_append_of_pos
abbrev mZ:=@List.takeWhile_cons
abbrev DR:=@List.takeWhile_cons_of_neg
abbrev DS:=@List.takeWhile_cons_of_pos
abbrev Ha:=@List.takeWhile_prefix
abbrev pB:=@List.takeWhile_sublist
abbrev Hb:=@List.take_add_one
abbrev DT:=@List.take_append_drop
abbrev tI:=@List.take_left
abbrev DU:=@List.take_left'
abbrev fq:=@List.take_length
abbrev pC:=@List.take_of_length_le
abbrev zW:=@List.take_sublist
abbrev zX:=@List.toList_toArray
abbrev DV:=@PySem.MeetsSeq3.plain_eq_loop
abbrev zY:=@Nat.add_assoc
abbrev DW:=@Nat.add_comm
abbrev xF:=@Nat.add_sub_cancel_left
abbrev u1:=@Nat.le_add_right
abbrev xG:=@Nat.le_of_eq
abbrev eX:=@Nat.le_of_lt
abbrev DX:=@Nat.le_of_succ_le
abbrev aQ:=@Nat.le_refl
abbrev zZ:=@Nat.le_succ
abbrev u4:=@Nat.le_succ_of_le
abbrev bp:=@Nat.le_trans
abbrev m3:=@Nat.lt_irrefl
abbrev u5:=@Nat.lt_of_le_of_lt
abbrev dF:=@Nat.lt_of_lt_of_le
abbrev tJ:=@Nat.lt_succ_of_lt
abbrev m4:=@Nat.lt_succ_self
abbrev iV:=@Nat.min_eq_left
abbrev z0:=@Nat.min_eq_right
abbrev z_:=@Nat.min_le_right
abbrev DY:=@Nat.mul_le_mul_left
abbrev Aa:=@Nat.mul_succ
abbrev Ab:=@Nat.ne_of_beq_eq_false
abbrev u6:=@Nat.ne_of_gt
abbrev cB:=@Nat.ne_of_lt
abbrev tK:=@Nat.sub_self
abbrev Ac:=@Nat.succ_le_succ
abbrev a8:=@Nat.zero_le
abbrev m5:=@Ne.symm
abbrev Hc:=@Option.getD_none
abbrev u7:=@Option.getD_some
abbrev DZ:=@Option.isNone_some
abbrev Hd:=@Option.isSome_iff_exists
abbrev tL:=@Option.map_some
abbrev di:=@Option.some.inj
abbrev u9:=@PySem.Paired.length
abbrev xH:=@PyProof.Rows.callWith_type1
abbrev MO:=@PySem.F.args_dict_get_3
abbrev eL:=@PySem.F.plainAttrs_list
abbrev He:=@PySem.F.slot_dict_get
abbrev iW:=@PySem.F.slot_list_append
abbrev qN:=@PySem.F.slot_list_extend
abbrev MP:=@PySem.F.slot_list_index
abbrev iX:=@PySem.F.type_list_append
abbrev qO:=@PySem.F.type_list_extend
abbrev MQ:=@PySem.W.length_le_weightAllW
abbrev Ad:=@PySem.boot_len
abbrev jS:=@PySem.mem_of_lookup
abbrev xI:=@PySem.Value.type.inj
abbrev nA:=@beq_eq_false_iff_ne
abbrev kx:=@beq_iff_eq
abbrev Ae:=@PySem.call_meets
abbrev Af:=@PySem.codeAny_mono
abbrev c_:=@congrArg
abbrev qP:=@decide_eq_decide
abbrev cP:=@decide_eq_false
abbrev m6:=@decide_eq_false_iff_not
abbrev aR:=@decide_eq_true
abbrev qQ:=@decide_eq_true_eq
abbrev dN:=@decide_eq_true_iff
abbrev m7:=@if_false
abbrev ak:=@if_neg
abbrev aq:=@if_pos
abbrev m8:=@if_true
abbrev pD:=@PySem.W.mg_none_of
abbrev iY:=@of_decide_eq_true
abbrev D0:=@PySem.pushCells_keeps
abbrev nB:=@PySem.sizeLine_eq
abbrev D1:=@PySem.tupleKind_room_in1
abbrev u_:=@PySem.wpAny_Call_Name_kw
abbrev aY:=@PySem.wpAny_bind
abbrev D2:=@PySem.wpAny_execs_nil
abbrev D3:=@PySem.wpAny_ite_split
abbrev jT:=@PySem.wpAny_loadPart'
abbrev iq:=@PySem.wpAny_mono
abbrev Hf:=@PySem.wpAny_newObj_type
abbrev va:=@PySem.wpAny_passesOwn
abbrev cW:=@PySem.wpAny_pure
abbrev D4:=@PySem.wpAny_pyIter_enum
abbrev pE:=@PySem.wpAny_truthy_bool
section
open VanbknNeutral (encode asked1 callOf whole60)
open PyVanbkn (shape answers_asked)
open PyFlat (rows played)
open Vanbkn (nodeNo DEEP full usedUp depthIn Text wrapped NODES LONG sibling digit natOf shownWith upFrom outside labelIn holds readNode goodText textByte nodeFault readNodes Answer ofNat stepFrom Node refused inside isText decimal refs doNew textOf withNode shifted tellView visible tellStep labels dotted labelsFrom tell nats tellNodes firstLine nodeLine checked lessText)
open PySem.W (instObj methodObj Frag lookIn plainGet hasDictIn findIn handedIn plainOver takerIn Looks makesIn typeIn emptyDict keepIn callWith_K isFn cellsFrom_some fnOf codeIn WRecords tabIn WalkOS tab_of nsIn mg_of mg_none_of)
namespace L2
open PySem PySem.Spec PyProof.Rows
abbrev Key:=Sum Int Str
def tM:Key->Value->Bool
 | .inl k,v=>Value.isInt k v
 | .inr x,v=>Value.isStrOf x v
def VA(w:World):Key->Int
 | .inl k=>hashInt k
 | .inr x=>hashStr w x
theorem dA:∀{k:Key}{v:Value},tM k v=true->(∃i t,k=Sum.inl i/\ v=Value.int i t)\/ (∃x t,k=Sum.inr x/\ v=Value.str x t)
 | .inl i,v,h=>by obtain⟨t,e⟩:=Value.isInt_shape (k:=i) (v:=v) h;exact .inl ⟨i,t,rfl,e⟩
 | .inr x,v,h=>by obtain⟨t,e⟩:=Value.isStrOf_shape (x:=x) (v:=v) h;exact .inr ⟨x,t,rfl,e⟩
theorem Fm(i:Int)(t:Tok):tM (.inl i) (.int i t)=true:=by simp[tM,Value.isInt]
theorem Fn(x:Str)(t:Tok):tM (.inr x) (.str x t)=true:=by simp[tM,Value.isStrOf]
theorem Om(a b:Int):decide ((Sum.inl a:Key)=Sum.inl b)=(a==b):=by
 by_cases e:a=b
 .subst e;simp
 .have h:¬(Sum.inl a:Key)=Sum.inl b:=λq=>e (Sum.inl.inj q);rw[cP h];exact(nA.mpr e).symm
theorem Oo(a b:Str):decide ((Sum.inr a:Key)=Sum.inr b)=decide (a=b):=by
 by_cases e:a=b
 .subst e;simp
 .have h:¬(Sum.inr a:Key)=Sum.inr b:=λq=>e (Sum.inr.inj q);rw[cP h,cP e]
theorem Oq(a:Int)(b:Str):decide ((Sum.inl a:Key)=Sum.inr b)=false:=cP (λq=>nomatch q)
theorem Ot(a:Str)(b:Int):decide ((Sum.inr a:Key)=Sum.inl b)=false:=cP (λq=>nomatch q)
def dJ(prog:Program)(w:World):PySem.KeyKind prog w Key where
 is:=tM
 hash:=VA w
 inj:=λv a b ha hb=>by
  rcases dA ha with⟨i,t,rfl,rfl⟩|⟨x,t,rfl,rfl⟩
  .rcases dA hb with⟨j,u,rfl,e⟩|⟨y,u,rfl,e⟩
   .injection e with e1 _;rw[e1]
   .exact nomatch e
  .rcases dA hb with⟨j,u,rfl,e⟩|⟨y,u,rfl,e⟩
   .exact nomatch e
   .injection e with e1 _;rw[e1]
 byValue:=λk v h=>by rcases dA h with⟨i,t,rfl,rfl⟩|⟨x,t,rfl,rfl⟩<;>rfl
 pyHash:=λhv h=>by
  rcases dA hv with⟨i,t,rfl,rfl⟩|⟨x,t,rfl,rfl⟩
  .exact wpAny_pyHash_int h
  .exact wpAny_pyHash_str h
 eqBool:=λhu hv h=>by
  rcases dA hu with⟨i,t,rfl,rfl⟩|⟨x,t,rfl,rfl⟩
  .rcases dA hv with⟨j,u,rfl,rfl⟩|⟨y,u,rfl,rfl⟩
   .rw[Om] at h;exact wpAny_eqBool_int h
   .rw[Oq] at h;exact SeqAt.EqAt.int_str i t y u _ _ _ _ h
  .rcases dA hv with⟨j,u,rfl,rfl⟩|⟨y,u,rfl,rfl⟩
   .rw[Ot] at h;exact SeqAt.EqAt.str_int x t j u _ _ _ _ h
   .rw[Oo] at h;exact wpAny_eqBool_str h
 «strs»:=λk x t v h=>by
  rcases dA h with⟨i,u,rfl,e⟩|⟨y,u,rfl,e⟩
  .exact nomatch e
  .injection e with e1 _;subst e1;cases v<;>rfl
theorem Ag(prog:Program)(w:World)(i:Int)(t:Tok):(dJ prog w).is (.inl i) (.int i t)=true:=Fm i t
theorem Ah(prog:Program)(w:World)(x:Str)(t:Tok):(dJ prog w).is (.inr x) (.str x t)=true:=Fn x t
inductive V where
 |eQ|bl(b:Bool)|int(i:Int)|str(x:Str)|B7(b:Array UInt8)|Ui(b:UInt64)|ref(a:Addr)|ty(n:String)
 deriving DecidableEq
def RelV:V->Value->Prop
 | .eQ,u=>u=Value.none
 | .bl b,u=>u=Value.bool b
 | .int i,u=>∃t,u=Value.int i t
 | .str x,u=>∃t,u=Value.str x t
 | .B7 b,u=>∃t,u=Value.bytes b t
 | .Ui b,u=>∃t,u=Value.float b t
 | .ref a,u=>u=Value.ref a
 | .ty n,u=>u=Value.type n
abbrev Vals:List V->List Value->Prop:=Paired RelV
theorem Vals.length{xs:List V}{us:List Value}(r:Vals xs us):xs.length=us.length:=u9 r
theorem Vals.get:∀{xs:List V}{us:List Value}{i:Nat}{x:V},Vals xs us->xs[i]?=some x->∃u,us[i]?=some u/\ RelV x u
 |_,_,_,_, .nil,e=>by simp at e
 |_,_,0,_, .cons r _,e=>by simp at e;subst e;exact⟨_,rfl,r⟩
 |_,_,i+1,x, .cons _ t,e=>by obtain⟨u,h1,h2⟩:=Vals.get (i:=i) (x:=x) t (by simpa using e);exact⟨u,by simpa using h1,h2⟩
theorem Vals.append:∀{xs ys:List V}{us ws:List Value},Vals xs us->Vals ys ws->Vals (xs++ys) (us++ws)
 |_,_,_,_, .nil,s=>s
 |_,_,_,_, .cons r t,s=> .cons r (Vals.append t s)
theorem Vals.take:∀{xs:List V}{us:List Value}(n:Nat),Vals xs us->Vals (xs.take n) (us.take n)
 |_,_,0,_=> .nil
 |_,_,_+1, .nil=> .nil
 |_,_,n+1, .cons r t=> .cons r (Vals.take n t)
theorem Vals.drop:∀{xs:List V}{us:List Value}(n:Nat),Vals xs us->Vals (xs.drop n) (us.drop n)
 |_,_,0,r=>r
 |_,_,_+1, .nil=> .nil
 |_,_,n+1, .cons _ t=>Vals.drop n t
def pP:Option V->Option Value->Prop
 |some v,some u=>RelV v u
 |none,none=>True
 |_,_=>False
def KV{κ:Type}:List (κ×V)->List (κ×Value)->Prop:=Paired λ(p:κ×V)(q:κ×Value)=>p.1=q.1/\ RelV p.2 q.2
def kV:Key->V
 | .inl i=> .int i
 | .inr x=> .str x
inductive HO where
 |lst(xs:List V)
 |tup(xs:List V)
 |dK(a6:List (Key×V))|dT(a6:List (List Key×V))
 |set(S:Int->Bool)(n:Nat)
 |ins(C dx:Addr)(fs:List (Str×V))
 |own(x:Addr)
 |xd(fs:List (Str×V))
 |met(f x:Addr)
 |VB(lo hi:Int)
 |jO(o:Obj)(u:HO)
 |o2(ps:Array Value)
 |ext(φ:Heap->Prop)
abbrev Hp:=Addr->Option HO
def upd(H:Hp)(a:Addr)(o:HO):Hp:=λb=>if b=a then some o else H b
variable{H:Hp}{a:Addr}
theorem ah{o:HO}:upd H a o a=some o:=by unfold upd;rw[aq rfl]
variable{b:Addr}
theorem az{o:HO}(h:b≠a):upd H a o b=H b:=by unfold upd;rw[ak h]
theorem kz{o u:HO}:upd (upd H a o) a u=upd H a u:=by funext b;unfold upd;split<;>rfl
theorem jy{o u:HO}(h:H a=some o)(h':H b=some u)(d:o≠u):a≠b:=by intro e;subst e;rw[h] at h';exact d (di h')
theorem ba{o:HO}(h:H a=some o)(h':H b=none):a≠b:=by intro e;subst e;rw[h] at h';cases h'
section
variable(P:Program)(w:World)
def dj(H:Hp)(h:Heap)(a:Addr):HO->Prop
 | .lst xs=>xs.length<=sizeLine/\ ∃(its:List Value)(n:Nat),Vals xs its/\ h.get? a=some {cls:= .type "list",data:= .seq its.toArray n}
 | .tup xs=>xs.length<=sizeLine/\ ∃its:List Value,Vals xs its/\ IsTup h a its.toArray
 | .dK a6=>a6.length<=sizeLine/\ (a==sysModules)=false/\ ∃vs,KV a6 vs/\ h.DictOf (dJ P w) a vs
 | .dT a6=>a6.length<=sizeLine/\ (a==sysModules)=false/\ ∃xs:List (List Key×Addr×Value),
  Paired (λ(p:List Key×V)(q:List Key×Addr×Value)=>p.1=q.1/\ H q.2.1=some (.tup (p.1.map kV))/\ RelV p.2 q.2.2) a6 xs/\
  ∃o es ep,h.get? a=some o/\ o.ExactDict/\ o.data= .dict es ep/\ es.toList=xs.map (entryOfKey (tupleKind (dJ P w)))/\ (xs.map (·.1)).Nodup
 | .set S n=>h.SetOf (intKind P w) a S n
 | .ins C dx fs=>H dx=some (.own a)/\ fs.length<=1000/\ dx≠a/\ h.get? a=some (instObj C dx)/\
  ∃mA,h.Ns1 dx mA/\ (∀f,pP (fs.lookup f) (mA f))/\ PySem.Within mA (fs.map (·.1))
 | .own _=>∃o,h.get? a=some o
 | .xd fs=>∃mA,h.Ns1 a mA/\ ∀f,pP (fs.lookup f) (mA f)
 | .VB lo hi=>∃t u v,h.get? a=some {cls:= .type "range",data:= .fields #[.int lo t, .int hi u, .int 1 v]}
 | .jO o u=>h.get? a=some o/\ dj H h a u
 | .o2 ps=>h.get? a=some {cls:= .none,data:= .fields ps}
 | .met f x=>h.get? a=some (methodObj (.ref f) (.ref x))
 | .ext φ=>φ h/\ (∃o,h.get? a=some o)/\ ∀h1 h2:Heap,φ h1->(∀o,h1.get? a=some o->h2.get? a=some o)->φ h2
def nu(H:Hp)(h:Heap):Prop:=∀a o,H a=some o->dj P w H h a o
end
section
variable{P:Program}{w:World}{H H':Hp}{h h':Heap}{a:Addr}{o:HO}
theorem dj.lt(x:dj P w H h a o):a<h.objs.size:=by
 cases o with
 |lst xs=>obtain⟨_,_,_,_,e⟩:=x;exact dh e
 |tup xs=>obtain⟨_,_,_,p⟩:=x;exact p.lt
 |dK a6=>obtain⟨_,_,_,_,o,_,_,e,_⟩:=x;exact dh e
 |dT a6=>obtain⟨_,_,_,_,o,_,_,e,_⟩:=x;exact dh e
 |set S n=>obtain⟨o,_,_,_,e,_⟩:=x;exact dh e
 |ins C dx fs=>obtain⟨_,_,_,e,_⟩:=x;exact dh e
 |own y=>obtain⟨_,e⟩:=x;exact dh e
 |xd fs=>obtain⟨_,⟨_,_,_,e,_⟩,_⟩:=x;exact dh e
 |VB lo hi=>obtain⟨_,_,_,e⟩:=x;exact dh e
 |jO ob u=>obtain⟨e,_⟩:=x;exact dh e
 |o2 ps=>exact dh (show h.get? a=some _ from x)
 |met f y=>exact dh (show h.get? a=some _ from x)
 |ext φ=>obtain⟨_,⟨_,e⟩,_⟩:=x;exact dh e
theorem Paired.Ou{α β:Type}{F G:α->β->Prop}:∀{l₁:List α}{l₂:List β},Paired F l₁ l₂->(∀a b,F a b->G a b)->Paired G l₁ l₂
 |_,_, .nil,_=> .nil
 |_,_, .cons r t,f=> .cons (f _ _ r) (Paired.Ou t f)
theorem dj.ui(x:dj P w H h a o)(k:∀b u,(b=a\/ H b=some (.own a))->h.get? b=some u->h'.get? b=some u)(ho:∀b,H b=some (.own a)->H' b=some (.own a))(ht:∀b xs,H b=some (.tup xs)->H' b=some (.tup xs)):dj P w H' h' a o:=by
 induction o with
 |lst xs=>obtain⟨z,its,n,r,e⟩:=x;exact⟨z,its,n,r,k _ _ (.inl rfl) e⟩
 |tup xs=>obtain⟨z,its,r,ob,e,c⟩:=x;exact⟨z,its,r,ob,k _ _ (.inl rfl) e,c⟩
 |dK a6=>obtain⟨z,y,vs,r,ob,es,ep,e,c⟩:=x;exact⟨z,y,vs,r,ob,es,ep,k _ _ (.inl rfl) e,c⟩
 |dT a6=>obtain⟨z,y,xs,r,ob,es,ep,e,c⟩:=x;exact⟨z,y,xs,Paired.Ou r λp q z=>⟨z.1,ht _ _ z.2.1,z.2.2⟩,ob,es,ep,k _ _ (.inl rfl) e,c⟩
 |set S n=>obtain⟨ob,es,ep,t,e,c⟩:=x;exact⟨ob,es,ep,t,k _ _ (.inl rfl) e,c⟩
 |ins C dx fs=>obtain⟨d,z,ne,e,mA,⟨od,es,ep,e2,c⟩,r⟩:=x;exact⟨ho _ d,z,ne,k _ _ (.inl rfl) e,mA,⟨od,es,ep,k _ _ (.inr d) e2,c⟩,r⟩
 |own y=>obtain⟨ob,e⟩:=x;exact⟨ob,k _ _ (.inl rfl) e⟩
 |xd fs=>obtain⟨mA,⟨od,es,ep,e,c⟩,r⟩:=x;exact⟨mA,⟨od,es,ep,k _ _ (.inl rfl) e,c⟩,r⟩
 |VB lo hi=>obtain⟨t,u,v,e⟩:=x;exact⟨t,u,v,k _ _ (.inl rfl) e⟩
 |jO ob u ih=>obtain⟨e,q⟩:=x;exact⟨k _ _ (.inl rfl) e,ih q⟩
 |o2 ps=>have e:h.get? a=some {cls:= .none,data:= .fields ps}:=x;show h'.get? a=some {cls:= .none,data:= .fields ps};exact k a _ (.inl rfl) e
 |met f y=>have e:h.get? a=some (methodObj (.ref f) (.ref y)):=x;show h'.get? a=some (methodObj (.ref f) (.ref y));exact k a _ (.inl rfl) e
 |ext φ=>obtain⟨p,⟨o,e⟩,st⟩:=x;exact⟨st _ _ p λo q=>k _ _ (.inl rfl) q,⟨o,k _ _ (.inl rfl) e⟩,st⟩
theorem nu.lt(x:nu P w H h)(e:H a=some o):a<h.objs.size:=(x a o e).lt
theorem nu.fresh(x:nu P w H h)(e:h.objs.size<=a):H a=none:=by
 cases q:H a with
 |none=>rfl
 |some u=>exact absurd (dF (x.lt q) e) (m3 _)
theorem nu.kept(x:nu P w H h)(k:∀b u,h.get? b=some u->h'.get? b=some u):nu P w H h':=λa o e=>(x a o e).ui (λb u _ q=>k b u q) (λ_ q=>q) λ_ _ q=>q
theorem nu.laid(x:nu P w H h)(k:∀b u,h.get? b=some u->h'.get? b=some u)(hp:h.objs.size<=a)(new:dj P w (upd H a o) h' a o):nu P w (upd H a o) h':=λb u e=>by
 have hn:=x.fresh hp;by_cases hb:b=a
 .subst hb;rw[ah] at e;cases e;exact new
 .rw[az hb] at e;exact(x b u e).ui (λc v _ q=>k c v q) (λc q=>by rw[az (ba q hn)];exact q) λc xs q=>by rw[az (ba q hn)];exact q
end
def Rd(H:Hp)(a:Addr)(u:HO):Prop:=H a=some u\/ ∃o,H a=some (.jO o u)
variable{P:Program}
theorem Rd.ok{w:World}{h:Heap}{u:HO}(r:Rd H a u)(x:nu P w H h):dj P w H h a u:=by
 rcases r with r|⟨o,r⟩
 .exact x a u r
 .obtain⟨_,q⟩:=x a _ r;exact q
def KH:Option HO->Prop
 |some (.lst _)=>True
 |some (.dK _)=>True
 |some (.dT _)=>True
 |some (.set _ _)=>True
 |some (.ins _ _ _)=>True
 |some (.ext _)=>True
 |_=>False
section
variable{P:Program}{w:World}{H:Hp}{h h':Heap}{x e:Addr}{o':HO}
theorem nu.write(ok:nu P w H h)(mu:KH (H x))(he:e=x\/ H e=some (.own x))(k:∀b u,b≠e->h.get? b=some u->h'.get? b=some u)(QJ:∃u,h'.get? e=some u)(new:dj P w (upd H x o') h' x o'):nu P w (upd H x o') h':=λb u q=>by
 have Rz:∀c y,H c=some (.own y)->c≠x:=λc y r z=>by subst z;rw[r] at mu;exact mu
 have VC:∀c xs,H c=some (.tup xs)->c≠x:=λc xs r z=>by subst z;rw[r] at mu;exact mu
 by_cases hb:b=x
 .subst hb;rw[ah] at q;cases q;exact new
 .rw[az hb] at q;by_cases Ov:b=e
  .have q':H b=some (.own x):=by
    rcases he with z|z
    .exact absurd (Ov.trans z) hb
    .rw[Ov];exact z
   rw[q] at q';cases q';obtain⟨v,hv⟩:=QJ;exact⟨v,by rw[Ov];exact hv⟩
  .refine(ok b u q).ui (λc v hc r=>k c v ?_ r) (λc r=>by rw[az (Rz c b r)];exact r) λc xs r=>by rw[az (VC c xs r)];exact r
   rcases hc with rfl|hc
   .exact Ov
   .rintro rfl;rcases he with z|z
    .exact Rz c b hc z
    .rw[hc] at z;cases z;exact hb rfl
end
structure Un(fs ex:List Addr)(H H':Hp)(h h':Heap):Prop where
 keep:∀b o,h.get? b=some o->H b=none->b∉fs->b∉ex->h'.get? b=some o
 slot:∀b o,h.get? b=some o->H b=none->b∈fs->b∉ex->∃sl,h'.get? b=some {o with slots:=sl}
 free:∀b o,h.get? b=some o->H b=none->b∉ex->H' b=none
 there:∀b o,h.get? b=some o->b∉ex->∃o',h'.get? b=some o'
 xn:∀b xs,H b=some (.tup xs)->H' b=some (.tup xs)
 uj:∀b o u,H b=some (.jO o u)->H' b=some (.jO o u)
 vb:∀b ps,H b=some (.o2 ps)->∃more,H' b=some (.o2 (ps++more))
section
variable{fs KI ex ex':List Addr}{H H1 H2:Hp}{h h1 h2 h':Heap}{a x e:Addr}{o:HO}
theorem Un.any(u:Un fs ex H H1 h h1){ob:Obj}(q:h.get? b=some ob)(n:H b=none)(hx:b∉ex):∃sl,h1.get? b=some {ob with slots:=sl}:=by
 by_cases hb:b∈fs
 .exact u.slot b ob q n hb hx
 .exact⟨ob.slots,u.keep b ob q n hb hx⟩
theorem Un.kept(k:∀b u,h.get? b=some u->h'.get? b=some u):Un fs ex H H h h':=
 ⟨λb ob q _ _ _=>k b ob q,λb ob q _ _ _=>⟨ob.slots,k b ob q⟩,λ_ _ _ n _=>n,λb ob q _=>⟨ob,k b ob q⟩,λ_ _ q=>q,λ_ _ _ q=>q,λ_ ps q=>⟨#[],by rw[q];simp⟩⟩
theorem Un.refl:Un fs ex H H h h:=Un.kept λ_ _ q=>q
theorem Un.laid(k:∀b u,h.get? b=some u->h'.get? b=some u)(hp:h.objs.size<=a)(hn:H a=none):Un fs ex H (upd H a o) h h' where
 keep:=λb u q _ _ _=>k b u q
 slot:=λb u q _ _ _=>⟨u.slots,k b u q⟩
 free:=λb u q n _=>by rw[az (cB (dF (dh q) hp))];exact n
 there:=λb u q _=>⟨u,k b u q⟩
 xn:=λb xs q=>by rw[az (ba q hn)];exact q
 uj:=λb u xs q=>by rw[az (ba q hn)];exact q
 vb:=λb ps q=>⟨#[],by rw[az (ba q hn),q];simp⟩
theorem Un.write(mu:KH (H x))(he:e=x\/ H e=some (.own x))(k:∀b u,b≠e->h.get? b=some u->h'.get? b=some u)(QJ:∃u,h'.get? e=some u):Un fs ex H (upd H x o) h h':=by
 have hx:∀b,H b=none->b≠x:=λb n z=>by subst z;rw[n] at mu;exact mu
 have hb:∀b,H b=none->b≠e:=λb n z=>by
  subst z;rcases he with r|r
  .exact hx b n r
  .rw[n] at r;cases r
 have hm:∀b u,H b=some u->¬KH (some u)->b≠x:=λb u q nm z=>by subst z;rw[q] at mu;exact nm mu
 refine⟨λb u q n _ _=>k b u (hb b n) q,λb u q n _ _=>⟨u.slots,k b u (hb b n) q⟩,λb u q n _=>by rw[az (hx b n)];exact n,λb u q _=>?_,
  λb xs q=>by rw[az (hm b _ q λz=>z)];exact q,λb u xs q=>by rw[az (hm b _ q λz=>z)];exact q,λb ps q=>⟨#[],by rw[az (hm b _ q λz=>z),q];simp⟩⟩
 by_cases Ov:b=e
 .subst Ov;exact QJ
 .exact⟨u,k b u Ov q⟩
end
def Uj(h:Heap)(H:Hp):List Addr:=(List.range h.objs.size).filter λa=>(H a).isSome
def vc(h:Heap)(H:Hp):Heap:=PySem.W.hideAll h (Uj h H)
theorem Fo(h:Heap)(H:Hp):(vc h H).objs.size=h.objs.size:=PySem.W.hideAll_size _ _
theorem Hg{h:Heap}{o:Obj}(e:h.get? b=some o)(n:H b=none):(vc h H).get? b=some o:=
 PySem.W.hideAll_get _ e λhm=>by have q:(H b).isSome=true:=(gX.mp hm).2;rw[n] at q;simp at q
theorem KJ{h:Heap}{o:Obj}(e:(vc h H).get? b=some o):h.get? b=some o/\ H b=none:=by
 have e':h.get? b=some o:=PySem.W.of_hideAll (Uj h H) e;refine⟨e',?_⟩;cases q:H b with
 |none=>rfl
 |some x=>have hm:b∈Uj h H:=gX.mpr ⟨List.mem_range.mpr (dh e'),by simp[q]⟩;have z:(vc h H).get? b=none:=PySem.W.hideAll_none (Uj h H) hm;rw[z] at e;cases e
structure Mod(K:Frag)(mg:Str->Option Value)(base:Heap):Prop where
 Uk:K.In base
 glob:base.Ns mainGlobals mg
 blt:∃mb,base.Ns builtinsNs mb/\ ∀x:Str,x≠"__name__"->mb x=bootBuiltins x
 nolimit:base.NoLimit
structure Cx where
 prog:Program
 w:World
 K:Frag
 mg:Str->Option Value
 base:Heap
 A:Around
 N:List Str
 xg:Shared
 Ow:Hp
 env:Env
 outer:List Env
 stack:List Env
 ex:List Addr
 fn:Str->Bool
 calm:Bool
 pn:List (Addr×Obj)
 xe:Value->Shared->Prop
def Fp(l:List Env):List Addr:=l.filterMap (·.frame)
abbrev Cx.fs(X:Cx):List Addr:=Fp X.outer
def QK(sc:Scope)(x:Str):Prop:=sc.names.lookup x=some .local\/ sc.names.lookup x=some .cell\/ sc.names.lookup x=some .free
def Loc(sc:Scope)(x:Str):Prop:=sc.names.lookup x=some .local\/ sc.names.lookup x=some .cell
def Look(env:Env)(h:Heap)(m:Str->Option Value)(x:Str)(u:Value):Prop:=
 (env.kindOf x=some .local/\ m x=some u)\/ ((env.kindOf x=some .cell\/ env.kindOf x=some .free)/\ ∃c,env.cells.lookup x=some c/\ h.IsCell c (some u))
structure Cx.Ok(X:Cx):Prop where
 mod:Mod X.K X.mg X.base
 kind:X.env.scope.kind= .function
 glob:X.env.globals=mainGlobals
 blt:X.env.builtins=builtinsNs
 above:X.xg.heap.objs.size<=X.env.locals
 inj:∀x y c,X.env.cells.lookup x=some c->X.env.cells.lookup y=some c->x=y
 has:∀x,(X.env.kindOf x=some .cell\/ X.env.kindOf x=some .free)->∃c,X.env.cells.lookup x=some c
 RA:∀x c,X.fn x=true->X.env.cells.lookup x=some c->X.xg.heap.objs.size<=c
 hd:X.calm=true->X.A.handled=none
 frames:X.A.frames=some X.stack
 Ul:X.stack=X.outer\/ (X.stack=X.env::X.outer/\ X.env.frame=some X.env.locals)
 Um:∀b∈X.ex,b≠X.env.locals/\ ∀x c,X.env.cells.lookup x=some c->c≠b
 bs:∀b o,X.base.get? b=some o->X.xg.heap.get? b=some o/\ X.Ow b=none
 Ke:X.base.objs.size<=X.xg.heap.objs.size
 Hh:∀b o,X.base.get? b=some o->b∉X.ex
 Hi:∀b∈X.ex,b∉X.fs
 rX:X.xg.heap.FunFrames X.base X.outer
 MR:∀b∈X.fs,X.Ow b=none
structure Inv(X:Cx)(ao:List (Addr×Obj))(σ:List (Option V))(H:Hp)(s:Shared):Prop where
 ok:X.Ok
 os:s.os=X.xg.os
 bare:AllBare s.gens
 base:Un X.fs X.ex X.Ow H X.xg.heap s.heap
 loc:∃m,s.heap.Ns X.env.locals m/\ ∀(i:Nat)(x:Str)(v:V),X.N[i]?=some x->σ[i]?=some (some v)->QK X.env.scope x->∃u,RelV v u/\ Look X.env s.heap m x u
 cell:∀x c,X.env.cells.lookup x=some c->∃v,s.heap.IsCell c v
 free:H X.env.locals=none
 kC:∀x c,X.env.cells.lookup x=some c->H c=none
 pin:∀p∈X.pn++ao,s.heap.get? p.1=some p.2/\ H p.1=none/\ p.1≠X.env.locals/\ p.1∉X.fs/\ ∀v,p.2.data≠ .cell v
 cu:nu X.prog X.w H s.heap
 len:σ.length=X.N.length
variable{g':Array GenState}{t':Nat}{d':Drawn}{ch:List Addr}
variable{it:Addr}
variable{N:List Str}{i j:Nat}{x:Str}
variable{M:Model}{A:Around}{E:Value->Shared->Prop}{v:V}{u:Value}
section
variable{X:Cx}{ao:List (Addr×Obj)}{σ:List (Option V)}{H H':Hp}{s:Shared}{h':Heap}
theorem Cx.Ok.VD(ok:X.Ok){o:Obj}(e:X.base.get? b=some o):b∉X.fs:=λhb=>by have:=(ok.rX.mem hb).1;rw[e] at this;cases this
theorem Inv.bs(I:Inv X ao σ H s):∀b o,X.base.get? b=some o->s.heap.get? b=some o/\ H b=none:=λb o e=>⟨I.base.keep b o (I.ok.bs b o e).1 (I.ok.bs b o e).2 (I.ok.VD e) (I.ok.Hh b o e),I.base.free b o (I.ok.bs b o e).1 (I.ok.bs b o e).2 (I.ok.Hh b o e)⟩
theorem Inv.bk(I:Inv X ao σ H s):∀b o,X.base.get? b=some o->s.heap.get? b=some o:=λb o e=>(I.bs b o e).1
theorem Inv.mod(I:Inv X ao σ H s):Mod X.K X.mg X.base:=I.ok.mod
theorem Inv.GQ(I:Inv X ao σ H s):X.K.In s.heap:=I.ok.mod.Uk.keeps I.bk
theorem Inv.lt(I:Inv X ao σ H s):X.env.locals<s.heap.objs.size:=let ⟨_,hn,_⟩:=I.loc;hn.lt
theorem Inv.sz(I:Inv X ao σ H s):X.xg.heap.objs.size<=s.heap.objs.size:=bp I.ok.above (eX I.lt)
theorem Inv.VE(I:Inv X ao σ H s)(h:s.heap.objs.size<=a):a∉X.fs:=λhb=>by obtain⟨_,o,ho,_⟩:=I.ok.rX.mem hb;exact absurd (dF (dh ho) (bp I.sz h)) (m3 _)
theorem Inv.Ox(I:Inv X ao σ H s):∀x c,X.env.cells.lookup x=some c->c≠X.env.locals:=λx c e z=>by obtain⟨v,o,ho,hd⟩:=I.cell x c e;obtain⟨m,⟨o',es,ep,D5,MS,_⟩,_⟩:=I.loc;rw[z,D5] at ho;cases ho;rw[MS] at hd;cases hd
theorem Inv.rX(I:Inv X ao σ H s):s.heap.FunFrames X.base X.outer:=by
 have all:∀(l:List Env),(∀b∈Fp l,b∈X.fs)->X.xg.heap.FunFrames X.base l->s.heap.FunFrames X.base l:=by
  intro l;induction l with
  |nil=>intro _ _;trivial
  |cons env r ih=>intro hs hl;obtain⟨hk,⟨L,o,hf,hn,ho,hd⟩,hr⟩:=hl;have hL:L∈X.fs:=hs L (by unfold Fp;rw[rT,hf];exact cb);obtain⟨sl,e⟩:=I.base.slot L o ho (I.ok.MR L hL) hL λz=>I.ok.Hi L z hL;exact⟨hk,⟨L,_,hf,hn,e,hd⟩,ih (λb hb=>hs b (by unfold Fp;rw[rT,hf];exact bu _ hb)) hr⟩
 exact all X.outer (λ_ hb=>hb) I.ok.rX
theorem Inv.stack(I:Inv X ao σ H s):s.heap.FunFrames X.base X.stack:=by
 rcases I.ok.Ul with e|⟨e,hf⟩
 .rw[e];exact I.rX
 .rw[e];obtain⟨m,hn,_⟩:=I.loc;refine .cons (by rw[I.ok.kind];decide) hf hn ?_ I.rX;exact Heap.get?_none_of_le (bp I.ok.Ke I.ok.above)
theorem Inv.Cg(I:Inv X ao σ H s):∀b∈Fp X.stack,b∈X.env.locals::X.fs:=λb hb=>by
 rcases I.ok.Ul with e|⟨e,hf⟩
 .rw[e] at hb;exact bu _ hb
 .rw[e] at hb;unfold Fp at hb;rw[rT,hf] at hb;exact hb
theorem Inv.D7(I:Inv X ao σ H s):∀b∈Fp X.stack,H b=none:=λb hb=>by
 rcases bY.mp (I.Cg b hb) with e|hb
 .rw[e];exact I.free
 .obtain⟨_,o,ho,_⟩:=I.ok.rX.mem hb;exact I.base.free b o ho (I.ok.MR b hb) λz=>I.ok.Hi b z hb
theorem Inv.step(I:Inv X ao σ H s)(Kf:∀b∈ch,(b∈X.ex\/ X.xg.heap.objs.size<=b)/\ b≠X.env.locals/\ (∀x c,X.env.cells.lookup x=some c->c≠b)/\ ∀p∈X.pn++ao,p.1≠b)(keep:∀b o,b≠X.env.locals->b∉X.fs->b∉ch->s.heap.get? b=some o->H b=none->h'.get? b=some o)(slot:∀b o,b≠X.env.locals->b∈X.fs->b∉ch->s.heap.get? b=some o->H b=none->∃sl,h'.get? b=some {o with slots:=sl})(free:∀b o,b∉ch->s.heap.get? b=some o->H b=none->H' b=none)(there:∀b o,b∉ch->s.heap.get? b=some o->∃o',h'.get? b=some o')(xn:∀b xs,H b=some (.tup xs)->H' b=some (.tup xs))(uj:∀b o u,H b=some (.jO o u)->H' b=some (.jO o u))(vb:∀b ps,H b=some (.o2 ps)->∃more,H' b=some (.o2 (ps++more)))(ns:∀m,s.heap.Ns X.env.locals m->h'.Ns X.env.locals m)(cu:nu X.prog X.w H' h')(hg:AllBare g'):
 Inv X ao σ H' {s with heap:=h',gens:=g',drawn:=d',toks:=t'}:=by
 have XX:∀b o,X.xg.heap.get? b=some o->b≠X.env.locals:=λb o e=>cB (dF (dh e) I.ok.above);have Uo:∀b o,X.xg.heap.get? b=some o->b∉X.ex->b∉ch:=λb o e hx hb=>by
  rcases(Kf b hb).1 with z|z
  .exact hx z
  .exact absurd (dF (dh e) z) (m3 _)
 have cellK:∀x c,X.env.cells.lookup x=some c->∀v,s.heap.IsCell c v->h'.IsCell c v:=λx c e v ⟨o,ho,hd⟩=>by
  have RB:c∉ch:=λz=>(Kf c z).2.2.1 x c e rfl;by_cases hc:c∈X.fs
  .obtain⟨sl,q⟩:=slot c o (I.Ox x c e) hc RB ho (I.kC x c e);exact⟨_,q,hd⟩
  .exact⟨o,keep c o (I.Ox x c e) hc RB ho (I.kC x c e),hd⟩
 refine⟨I.ok,I.os,hg,⟨λb o e n hb hx=>?_,λb o e n hb hx=>?_,λb o e n hx=>?_,λb o e hx=>?_,λb xs e=>xn b xs (I.base.xn b xs e),λb o xs e=>uj b o xs (I.base.uj b o xs e),λb ps e=>?_⟩,?_,λx c e=>?_,?_,λx c e=>?_,λp hp=>?_,cu,I.len⟩
 .exact keep b o (XX b o e) hb (Uo b o e hx) (I.base.keep b o e n hb hx) (I.base.free b o e n hx)
 .obtain⟨sl,e1⟩:=I.base.slot b o e n hb hx;obtain⟨Zb,e2⟩:=slot b _ (XX b o e) hb (Uo b o e hx) e1 (I.base.free b o e n hx);exact⟨Zb,e2⟩
 .obtain⟨o',e1⟩:=I.base.there b o e hx;exact free b o' (Uo b o e hx) e1 (I.base.free b o e n hx)
 .obtain⟨o',e1⟩:=I.base.there b o e hx;exact there b o' (Uo b o e hx) e1
 .obtain⟨m1,e1⟩:=I.base.vb b ps e;obtain⟨m2,e2⟩:=vb b _ e1;exact⟨m1++m2,by rw[e2,Array.append_assoc]⟩
 .obtain⟨m,hn,hl⟩:=I.loc;refine⟨m,ns m hn,λi x v e1 e2 e3=>?_⟩;obtain⟨u,r,l⟩:=hl i x v e1 e2 e3;refine⟨u,r,?_⟩;rcases l with l|⟨k,c,e,z⟩
  .exact .inl l
  .exact .inr ⟨k,c,e,cellK x c e _ z⟩
 .obtain⟨v,z⟩:=I.cell x c e;exact⟨v,cellK x c e v z⟩
 .obtain⟨m,⟨o,_,_,ho,_⟩,_⟩:=I.loc;exact free _ o (λz=>(Kf _ z).2.1 rfl) ho I.free
 .obtain⟨v,o,ho,hd⟩:=I.cell x c e;exact free c o (λz=>(Kf c z).2.2.1 x c e rfl) ho (I.kC x c e)
 .obtain⟨e,n,ne,nf,d⟩:=I.pin p hp;have RB:p.1∉ch:=λz=>(Kf p.1 z).2.2.2 p hp rfl;exact⟨keep p.1 p.2 ne nf RB e n,free p.1 p.2 RB e n,ne,nf,d⟩
theorem Inv.un(I:Inv X ao σ H s)(u:Un X.fs [] H H' s.heap h')(cu:nu X.prog X.w H' h'):Inv X ao σ H' {s with heap:=h',toks:=t'}:=by obtain⟨m,⟨o,es,ep,ho,r⟩,_⟩:=id I.loc;obtain⟨sl,hL⟩:=u.any ho I.free (by simp);exact I.step (g':=s.gens) (d':=s.drawn) (ch:=[]) (λ_ z=>nomatch z) (λb o _ hb _ e n=>u.keep b o e n hb (by simp)) (λb o _ hb _ e n=>u.slot b o e n hb (by simp)) (λb o _ e n=>u.free b o e n (by simp)) (λb o _ e=>u.there b o e (by simp)) u.xn u.uj u.vb (λm' hm=>by obtain⟨o',MT,MU,D5,r'⟩:=hm;rw[ho] at D5;cases D5;exact⟨_,MT,MU,hL,r'⟩) cu I.bare
theorem Inv.call(I:Inv X ao σ H s)(u:Un (Fp X.stack) ch H H' s.heap h')(cu:nu X.prog X.w H' h')(hg:AllBare g')(Kf:∀b∈ch,(b∈X.ex\/ X.xg.heap.objs.size<=b)/\ b≠X.env.locals/\ (∀x c,X.env.cells.lookup x=some c->c≠b)/\ ∀p∈X.pn++ao,p.1≠b):
 Inv X ao σ H' {s with heap:=h',gens:=g',drawn:=d',toks:=t'}:=by
 obtain⟨m,⟨o,es,ep,ho,r⟩,_⟩:=id I.loc;obtain⟨sl,hL⟩:=u.any ho I.free λz=>(Kf _ z).2.1 rfl;exact I.step (ch:=ch) Kf (λb o hL hb hc e n=>u.keep b o e n (λz=>(bY.mp (I.Cg b z)).elim hL hb) hc) (λb o _ _ hc e n=>u.any e n hc) (λb o hc e n=>u.free b o e n hc) (λb o hc e=>u.there b o e hc) u.xn u.uj u.vb (λm' hm=>by obtain⟨o',MT,MU,D5,r'⟩:=hm;rw[ho] at D5;cases D5;exact⟨_,MT,MU,hL,r'⟩) cu hg
theorem Inv.turned(I:Inv X ao σ H s)(k:∀b o,b≠it->s.heap.get? b=some o->h'.get? b=some o)(hn:H it=none)(hL:it≠X.env.locals)(h1:it∈X.ex\/ X.xg.heap.objs.size<=it)(h2:∀x c,X.env.cells.lookup x=some c->c≠it)(h3:∀p∈X.pn++ao,p.1≠it):Inv X ao σ H {s with heap:=h',toks:=t'}:=by
 have RC:∀b u,H b=some u->b≠it:=λb u e z=>by rw[z,hn] at e;cases e
 refine I.step (g':=s.gens) (d':=s.drawn) (ch:=[it]) (λb hb=>?_) (λb o _ _ hc e _=>k b o (λz=>hc (by simp[z])) e) (λb o _ _ hc e _=>⟨o.slots,k b o (λz=>hc (by simp[z])) e⟩) (λ_ _ _ _ n=>n)
  (λb o hc e=>⟨o,k b o (λz=>hc (by simp[z])) e⟩) (λ_ _ e=>e) (λ_ _ _ e=>e) (λb ps e=>⟨#[],by rw[e];simp⟩) (λm hm=>?_) (λb u e=>?_) I.bare
 .have e:b=it:=by simpa using hb
  subst e;exact⟨h1,hL,h2,h3⟩
 .obtain⟨o,es,ep,ho,r⟩:=hm;exact⟨o,es,ep,k _ o (m5 hL) ho,r⟩
 .refine(I.cu b u e).ui (λc v hc q=>k c v ?_ q) (λ_ q=>q) λ_ _ q=>q;rcases hc with z|z
  .rw[z];exact RC b u e
  .exact RC c _ z
theorem Inv.tok(I:Inv X ao σ H s)(t:Nat):Inv X ao σ H {s with toks:=t}:=I.un (h':=s.heap) (t':=t) Un.refl I.cu
theorem Inv.kept{t':Nat}(I:Inv X ao σ H s)(k:∀b u,s.heap.get? b=some u->h'.get? b=some u):Inv X ao σ H {s with heap:=h',toks:=t'}:=I.un (Un.kept k) (I.cu.kept k)
theorem Inv.laid{a:Addr}{o:HO}{t':Nat}(I:Inv X ao σ H s)(k:∀b u,s.heap.get? b=some u->h'.get? b=some u)(hp:s.heap.objs.size<=a)(new:dj X.prog X.w (upd H a o) h' a o):
 Inv X ao σ (upd H a o) {s with heap:=h',toks:=t'}:=I.un (Un.laid k hp (I.cu.fresh hp)) (I.cu.laid k hp new)
theorem Inv.write{x e:Addr}{o:HO}{t':Nat}(I:Inv X ao σ H s)(mu:KH (H x))(he:e=x\/ H e=some (.own x))(k:∀b u,b≠e->s.heap.get? b=some u->h'.get? b=some u)(QJ:∃u,h'.get? e=some u)(new:dj X.prog X.w (upd H x o) h' x o):Inv X ao σ (upd H x o) {s with heap:=h',toks:=t'}:=I.un (Un.write mu he k QJ) (I.cu.write mu he k QJ new)
theorem Inv.weak{σ':List (Option V)}(I:Inv X ao σ H s)(hl:σ'.length=σ.length)(w:∀(i:Nat) v,σ'[i]?=some (some v)->σ[i]?=some (some v)):Inv X ao σ' H s:=
 ⟨I.ok,I.os,I.bare,I.base,let ⟨m,hn,Zc⟩:=I.loc;⟨m,hn,λi x v e1 e2 e3=>Zc i x v e1 (w i v e2) e3⟩,I.cell,I.free,I.kC,I.pin,I.cu,hl.trans I.len⟩
theorem Inv.D8{MV:List (Addr×Obj)}(I:Inv X ao σ H s)(h:∀p∈MV,s.heap.get? p.1=some p.2/\ H p.1=none/\ p.1≠X.env.locals/\ p.1∉X.fs/\ ∀v,p.2.data≠ .cell v):Inv X MV σ H s:=
 ⟨I.ok,I.os,I.bare,I.base,I.loc,I.cell,I.free,I.kC,λp hp=>(dY.mp hp).elim (λz=>I.pin p (dz _ z)) (h p),I.cu,I.len⟩
theorem vd(hN:N.Nodup)(a:N[i]?=some x)(b:N[j]?=some x):i=j:=by obtain⟨h1,e1⟩:=dm.mp a;obtain⟨h2,e2⟩:=dm.mp b;exact(KG hN).mp (e1.trans e2.symm)
theorem xJ{Q:Unit->Shared->Prop}(I:Inv X ao σ H s)(hN:X.N.Nodup)(hi:X.N[i]?=some x)(hx:Loc X.env.scope x)(r:RelV v u)(h:∀s',Inv X ao (σ.set i (some v)) H s'->(∃a,Heap.SameBut a s.heap s'.heap/\ (a=X.env.locals\/ X.env.cells.lookup x=some a))->Q () s')(hf:X.fn x=true\/ X.env.scope.names.lookup x=some .local:=by first|exact .inl rfl|exact .inr rfl|assumption):wpAny M A (storeName X.env x u) Q E s:=by
 obtain⟨m,hn,hl⟩:=id I.loc;have VF:(X.env.scope.kind== .class||(X.env.scope.kind== .module&&X.env.locals !=X.env.globals))=false:=by rw[I.ok.kind];rfl
 have RD:i<σ.length:=by rw[I.len];exact(dm.mp hi).1
 have Ox:=I.Ox;have tracked:∀{a:Addr}{h':Heap},(∃o,s.heap.get? a=some o/\ H a=none)->Heap.SameBut a s.heap h'->nu X.prog X.w H h':=λ{a h'} ha hs b ob e=>by
  obtain⟨_,_,xK⟩:=ha;refine(I.cu b ob e).ui (λc w' hc q=>(hs.2 c ?_).trans q) (λ_ q=>q) λ_ _ q=>q;rintro rfl;rcases hc with rfl|hc
  .rw[xK] at e;cases e
  .rw[xK] at hc;cases hc
 rcases hx with hk|hk
 .refine wpAny_storeName_local hk hn (λh' RE hs=>?_) VF;obtain⟨oL,_,_,Uq,_⟩:=id hn;refine h _ ⟨I.ok,I.os,I.bare,⟨λb o e n hb hx=>?_,λb o e n hb hx=>?_,I.base.free,λb o e hx=>?_,I.base.xn,I.base.uj,I.base.vb⟩,⟨_,RE,λj y v' e1 e2 e3=>?_⟩,λy c e=>?_,I.free,I.kC,λp hp=>?_,tracked ⟨oL,Uq,I.free⟩ hs,by simpa using I.len⟩ ⟨_,hs, .inl rfl⟩
  .exact(hs.2 b (cB (dF (dh e) I.ok.above))).trans (I.base.keep b o e n hb hx)
  .obtain⟨sl,e1⟩:=I.base.slot b o e n hb hx;exact⟨sl,(hs.2 b (cB (dF (dh e) I.ok.above))).trans e1⟩
  .obtain⟨o',e1⟩:=I.base.there b o e hx;exact⟨o',(hs.2 b (cB (dF (dh e) I.ok.above))).trans e1⟩
  .by_cases hj:j=i
   .subst hj;rw[hi] at e1;cases e1;rw[Oh RD] at e2;cases e2;exact⟨u,r, .inl ⟨hk,by simp⟩⟩
   .rw[Og (m5 hj)] at e2;obtain⟨u',r',q⟩:=hl j y v' e1 e2 e3;refine⟨u',r',?_⟩;rcases q with⟨k,e⟩|⟨k,c,e,z⟩
    .refine .inl ⟨k,?_⟩;have:y≠x:=λe=>hj (vd hN e1 (e▸hi));simp[this,e]
    .exact .inr ⟨k,c,e,z.sameBut hs (Ox y c e)⟩
  .obtain⟨w',z⟩:=I.cell y c e;exact⟨w',z.sameBut hs (Ox y c e)⟩
  .obtain⟨e,n,ne,nf,d⟩:=I.pin p hp;exact⟨(hs.2 p.1 ne).trans e,n,ne,nf,d⟩
 .have VG:X.fn x=true:=by
   rcases hf with z|z
   .exact z
   .rw[z] at hk;cases hk
  obtain⟨c,hc⟩:=I.ok.has x (.inl hk);obtain⟨w',z⟩:=I.cell x c hc;refine wpAny_storeName_cell I.ok.kind hk hc z (λh' xM hs=>?_);obtain⟨oc,XY,VH⟩:=id z;refine h {s with heap:=h'} ⟨I.ok,I.os,I.bare,⟨λb o e n hb hx=>?_,λb o e n hb hx=>?_,I.base.free,λb o e hx=>?_,I.base.xn,I.base.uj,I.base.vb⟩,⟨m,hn.sameBut hs (m5 (Ox x c hc)),λj y v' e1 e2 e3=>?_⟩,λy c' e=>?_,I.free,I.kC,λp hp=>?_,tracked ⟨oc,XY,I.kC x c hc⟩ hs,by simpa using I.len⟩ ⟨c,hs, .inr hc⟩
  .exact(hs.2 b (cB (dF (dh e) (I.ok.RA x c VG hc)))).trans (I.base.keep b o e n hb hx)
  .obtain⟨sl,e1⟩:=I.base.slot b o e n hb hx;exact⟨sl,(hs.2 b (cB (dF (dh e) (I.ok.RA x c VG hc)))).trans e1⟩
  .obtain⟨o',e1⟩:=I.base.there b o e hx;exact⟨o',(hs.2 b (cB (dF (dh e) (I.ok.RA x c VG hc)))).trans e1⟩
  .by_cases hj:j=i
   .subst hj;rw[hi] at e1;cases e1;rw[Oh RD] at e2;cases e2;exact⟨u,r, .inr ⟨.inl hk,c,hc,xM⟩⟩
   .rw[Og (m5 hj)] at e2;obtain⟨u',r',q⟩:=hl j y v' e1 e2 e3;refine⟨u',r',?_⟩;rcases q with q|⟨k,c',e,z'⟩
    .exact .inl q
    .refine .inr ⟨k,c',e,z'.sameBut hs ?_⟩;rintro rfl;exact hj (vd hN e1 (I.ok.inj _ _ _ e hc▸hi))
  .by_cases MW:c'=c
   .subst MW;exact⟨_,xM⟩
   .obtain⟨w2,z2⟩:=I.cell y c' e;exact⟨w2,z2.sameBut hs MW⟩
  .obtain⟨e,n,ne,nf,d⟩:=I.pin p hp;refine⟨(hs.2 p.1 ?_).trans e,n,ne,nf,d⟩;intro q;rw[q,XY] at e;have q':oc=p.2:=di e;exact d w' (by rw[<-q'];exact VH)
theorem ve{Q:Unit->Shared->Prop}(I:Inv X ao σ H s)(hN:X.N.Nodup)(hi:X.N[i]?=some x)(hx:Loc X.env.scope x)(r:RelV v u)(h:∀s',Inv X ao (σ.set i (some v)) H s'->Q () s')(hf:X.fn x=true\/ X.env.scope.names.lookup x=some .local:=by first|exact .inl rfl|exact .inr rfl|assumption):wpAny M A (storeName X.env x u) Q E s:=
 xJ I hN hi hx r (λs' I' _=>h s' I') hf
theorem Inv.RF{s':Shared}(I:Inv X ao σ H s)(ho:s'.os=s.os)(u:Un (Fp X.stack) ch H H' s.heap s'.heap)(cu:nu X.prog X.w H' s'.heap)(hg:AllBare s'.gens)(Kf:∀b∈ch,(b∈X.ex\/ X.xg.heap.objs.size<=b)/\ b≠X.env.locals/\ (∀x c,X.env.cells.lookup x=some c->c≠b)/\ ∀p∈X.pn++ao,p.1≠b):Inv X ao σ H' s':=by obtain⟨h',g',d',t',o'⟩:=s';have e:o'=s.os:=ho;subst e;exact I.call (g':=g') (t':=t') (d':=d') u cu hg Kf
end
abbrev XK:=Value->Option Addr->Hp->Prop
abbrev St:=List (Option V)
abbrev VK:=V->Hp->Prop
abbrev TE:=St->Hp->VK->Prop
abbrev TT:=St->Hp->(Bool->Hp->Prop)->Prop
abbrev TA:=St->Hp->(List V->Hp->Prop)->Prop
structure Ends where
 nx:St->Hp->Prop
 rt:VK
 bk:St->Hp->Prop:=λ_ _=>False
 ct:St->Hp->Prop:=λ_ _=>False
abbrev TS:=Ends->St->Hp->Prop
inductive XP{α β:Type}(R:α->β->Prop)(X:Cx)(ao:List (Addr×Obj))(σ:St)(Q:α->Hp->Prop)(u:β)(s':Shared):Prop
 |mk (v:α) (H':Hp) (i:Inv X ao σ H' s') (r:R v u) (q:Q v H')
abbrev EP(X:Cx)(ao:List (Addr×Obj))(σ:St)(Q:VK)(u:Value)(s':Shared):Prop:=XP RelV X ao σ Q u s'
inductive TP(X:Cx)(ao:List (Addr×Obj))(σ:St)(Q:Bool->Hp->Prop)(b:Bool)(s':Shared):Prop
 |mk (H':Hp) (i:Inv X ao σ H' s') (q:Q b H')
abbrev AP(X:Cx)(ao:List (Addr×Obj))(σ:St)(Q:List V->Hp->Prop)(us:List Value)(s':Shared):Prop:=XP Vals X ao σ Q us s'
def SP(X:Cx)(ao:List (Addr×Obj))(D:Ends)(f:Flow)(s':Shared):Prop:=
 match f with
 | .next=>∃σ' H',Inv X ao σ' H' s'/\ D.nx σ' H'
 | .brk=>∃σ' H',Inv X ao σ' H' s'/\ D.bk σ' H'
 | .cont=>∃σ' H',Inv X ao σ' H' s'/\ D.ct σ' H'
 | .ret u=>∃v σ' H',Inv X ao σ' H' s'/\ RelV v u/\ D.rt v H'
def PE(X:Cx)(e:Expr)(t:TE):Prop:=
 ∀(ao:List (Addr×Obj))(s:Shared)(σ:St)(H:Hp)(Q:VK),Inv X ao σ H s->t σ H Q->wpAny (model X.prog X.w) X.A (eval e X.env) (EP X ao σ Q) X.xe s
def PT(X:Cx)(e:Expr)(t:TT):Prop:=
 ∀(ao:List (Addr×Obj))(s:Shared)(σ:St)(H:Hp)(Q:Bool->Hp->Prop),Inv X ao σ H s->t σ H Q->wpAny (model X.prog X.w) X.A (isTrue e X.env (eval e X.env)) (TP X ao σ Q) X.xe s
def PW(X:Cx)(e:Expr)(t:TT):Prop:=
 ∀(whole:Sem Value)(ao:List (Addr×Obj))(s:Shared)(σ:St)(H:Hp)(Q:Bool->Hp->Prop),Inv X ao σ H s->t σ H Q->wpAny (model X.prog X.w) X.A (isTrue e X.env whole) (TP X ao σ Q) X.xe s
variable{X:Cx}{e:Expr}
theorem PW.pt{t:TT}(h:PW X e t):PT X e t:=h _
def PA(X:Cx)(es:List Expr)(t:TA):Prop:=
 ∀(pos:Pos)(ao:List (Addr×Obj))(s:Shared)(σ:St)(H:Hp)(Q:List V->Hp->Prop),Inv X ao σ H s->t σ H Q->wpAny (model X.prog X.w) X.A (spliced (backTo pos (starEach es X.env))) (AP X ao σ Q) X.xe s
def PS(X:Cx)(st:Stmt)(t:TS):Prop:=
 ∀(ao:List (Addr×Obj))(s:Shared)(σ:St)(H:Hp)(D:Ends),Inv X ao σ H s->t D σ H->wpAny (model X.prog X.w) X.A (exec st X.env) (SP X ao D) X.xe s
def B8(X:Cx)(st:List Stmt)(t:TS):Prop:=
 ∀(ao:List (Addr×Obj))(s:Shared)(σ:St)(H:Hp)(D:Ends),Inv X ao σ H s->t D σ H->wpAny (model X.prog X.w) X.A (execs st X.env) (SP X ao D) X.xe s
variable{s:Shared}
theorem rP{α:Type}{t:Sem α}{Q Q':α->Shared->Prop}(h:wpAny M A t Q E s)(hQ:∀a s,Q a s->Q' a s):wpAny M A t Q' E s:=iq h hQ λ_ _ x=>x
variable{ao:List (Addr×Obj)}{σ:St}
theorem cD{α β:Type}{R:α->β->Prop}{Q:α->Hp->Prop}{t:Sem β}{Q':β->Shared->Prop}(h:wpAny M A t (XP R X ao σ Q) E s)(k:∀u s' v H',Inv X ao σ H' s'->R v u->Q v H'->Q' u s'):wpAny M A t Q' E s:=rP h λ_ _ z=>by obtain⟨v,H1,i,r,q⟩:=z;exact k _ _ v H1 i r q
theorem Fq{Q:Bool->Hp->Prop}{t:Sem Bool}{Q':Bool->Shared->Prop}(h:wpAny M A t (TP X ao σ Q) E s)(k:∀b s' H',Inv X ao σ H' s'->Q b H'->Q' b s'):wpAny M A t Q' E s:=rP h λ_ _ z=>by obtain⟨H1,i,q⟩:=z;exact k _ _ H1 i q
variable{Q:Value->Shared->Prop}
variable{op:CmpOp}
variable{c:Expr}
section
variable{X:Cx}
inductive cv(i:Nat)(σ:St)(H:Hp)(Q:VK):Prop
 |mk (v:V) (h:σ[i]?=some (some v)) (k:Q v H)
def tC(v:V):TE:=λ_ H Q=>Q v H
theorem Oy{pos:Pos}(hN:X.N[i]?=some x)(hv:QK X.env.scope x)(hd:(x==("__debug__":Str))=false:=by decide)(Hj:(x==("__classdict__":Str))=false:=by decide):PE X (.Name x pos) (cv i):=by
 intro ao s σ H Q I h;obtain⟨v,e,h⟩:=h;obtain⟨m,hn,hl⟩:=I.loc;obtain⟨u,r,l⟩:=hl i x v hN e hv;have fin:EP X ao σ Q u s:=⟨v,H,I,r,h⟩;rcases l with⟨hk,hm⟩|⟨hk,c,hc,bR⟩
 .exact wpAny_Name (wpAny_loadName_local I.ok.kind hk hn hm fin) hd
 .rcases hk with hk|hk
  .exact wpAny_Name (wpAny_loadName_cell I.ok.kind hk hc bR fin) hd
  .exact wpAny_Name (wpAny_loadName_free I.ok.kind hk hc bR fin Hj) hd
theorem au{i j pos}:PE X (.Constant (.int i) j pos) (tC (.int i)):=λ_ _ _ H _ I h=>wpAny_Constant_int ⟨.int i,H,I.tok _,⟨_,rfl⟩,h⟩
theorem D9{b j pos}:PE X (.Constant (.bool b) j pos) (tC (.bl b)):=λ_ _ _ H _ I h=>Constant_bool ⟨.bl b,H,I,rfl,h⟩
theorem aZ{j pos}:PE X (.Constant .none j pos) (tC .eQ):=λ_ _ _ H _ I h=>Constant_none ⟨.eQ,H,I,rfl,h⟩
theorem bN{x j pos}:PE X (.Constant (.str x) j pos) (tC (.str x)):=λ_ _ _ H _ I h=>Calls.Constant_str ⟨.str x,H,I.tok _,⟨_,rfl⟩,h⟩
def Gl(X:Cx)(x:Str):Prop:=X.env.kindOf x=some .globalImplicit
theorem uB{pos:Pos}(I:Inv X ao σ H s)(hg:Gl X x)(hm:X.mg x=some u)(h:Q u s)(hd:(x==("__debug__":Str))=false:=by decide):wpAny (model X.prog X.w) X.A (eval (.Name x pos) X.env) Q E s:=
 Calls.Name_function_global I.ok.kind hg (Calls.loadGlobal_global (by rw[I.ok.glob];exact I.mod.glob.keeps I.bk) hm h) hd
theorem nD{pos:Pos}(I:Inv X ao σ H s)(hg:Gl X x)(hm:X.mg x=none)(hv:bootBuiltins x=some u)(h:Q u s)(hn:x≠"__name__":=by decide)(hd:(x==("__debug__":Str))=false:=by decide):wpAny (model X.prog X.w) X.A (eval (.Name x pos) X.env) Q E s:=by obtain⟨mb,h1,h2⟩:=I.mod.blt;exact Calls.Name_function_global I.ok.kind hg (Calls.loadGlobal_builtin (by rw[I.ok.glob];exact I.mod.glob.keeps I.bk) hm (by rw[I.ok.blt];exact h1.keeps I.bk) ((h2 x hn).trans hv) h) hd
theorem yO{pos:Pos}(hg:Gl X x)(hm:X.mg x=some u)(r:RelV v u)(hd:(x==("__debug__":Str))=false:=by decide):PE X (.Name x pos) (tC v):=
 λ_ _ _ H _ I h=>uB I hg hm ⟨v,H,I,r,h⟩ hd
variable{a b:Expr}{ta tb:TE}{pos:Pos}
def PC(X:Cx)(op:CmpOp)(a b:Expr)(t:TE):Prop:=
 ∀(ao:List (Addr×Obj))(s:Shared)(σ:St)(H:Hp)(Q:VK),Inv X ao σ H s->t σ H Q->
  wpAny (model X.prog X.w) X.A (eval a X.env) (λv s₁=>wpAny (model X.prog X.w) X.A (eval b X.env) (λu s₂=>wpAny (model X.prog X.w) X.A (compareOp op v u) (EP X ao σ Q) X.xe s₂) X.xe s₁) X.xe s
inductive RG(x:V)(H:Hp)(Q:Bool->Hp->Prop):Prop
 |mk (k:Bool) (h:x= .bl k) (q:Q k H)
def tB(t:TE):TT:=λσ H Q=>t σ H λx H1=>RG x H1 Q
theorem Oz{t:TE}(h:PC X op a b t)(h1:behindInMarks op b=false:=by first|exact RH _ (by decide) (by decide)|rfl):PT X (.Compare a [op] [b] pos) (tB t):=by intro ao s σ H Q I hw;refine wpAny_isTrue_Compare1 (rP (h ao s σ H _ I hw) λv s1 h1=>rP h1 λu s2 h2=>rP h2 λc s3 ⟨x,H1,I1,r1,q1⟩=>?_) h1;obtain⟨d,rfl,q⟩:=q1;cases r1;exact pE ⟨H1,I1,q⟩
theorem gk{t:TE}(h:PE X e t)(he:∀whole,isTrue e X.env whole=(do let v<-whole;standAt e.pos;holding [v] (truthy v)):=by intro _;rfl):PT X e (tB t):=by intro ao s σ H Q I hw;refine isTrue_plain (cD (h ao s σ H _ I hw) λv s1 x H1 I1 r1 q1=>?_) (he _);obtain⟨d,rfl,q⟩:=q1;cases r1;exact pE ⟨H1,I1,q⟩
variable{tA Ur:TT}{rest:List Expr}
def OA(t u:TT):TT:=λσ H Q=>t σ H λc H1=>if c=true then u σ H1 Q else Q false H1
def MX(t u:TT):TT:=λσ H Q=>t σ H λc H1=>if c=true then Q true H1 else u σ H1 Q
def OB(t:TT):TT:=λσ H Q=>t σ H λc H1=>Q (!c) H1
theorem fX(ha:PT X a tA):PW X (.BoolOp .And [a] pos) tA:=by
 intro wh ao s σ H Q I h;refine isTrue_and (rP (ha ao s σ H Q I h) λc s1 e=>?_);cases c with
 |true=>exact isTrue_and_nil e
 |false=>exact e
theorem gz(ha:PT X a tA):PW X (.BoolOp .Or [a] pos) tA:=by
 intro wh ao s σ H Q I h;refine isTrue_or (rP (ha ao s σ H Q I h) λc s1 e=>?_);cases c with
 |false=>exact isTrue_or_nil e
 |true=>exact e
theorem gY(ha:PT X a tA)(hb:PW X (.BoolOp .And (b::rest) pos) Ur):PW X (.BoolOp .And (a::b::rest) pos) (OA tA Ur):=by
 intro wh ao s σ H Q I h;refine isTrue_and (Fq (ha ao s σ H _ I h) λc s1 H1 I1 q1=>?_);cases c with
 |true=>exact hb wh ao s1 σ H1 Q I1 q1
 |false=>exact⟨H1,I1,q1⟩
theorem gh(ha:PT X a tA)(hb:PW X (.BoolOp .Or (b::rest) pos) Ur):PW X (.BoolOp .Or (a::b::rest) pos) (MX tA Ur):=by
 intro wh ao s σ H Q I h;refine isTrue_or (Fq (ha ao s σ H _ I h) λc s1 H1 I1 q1=>?_);cases c with
 |true=>exact⟨H1,I1,q1⟩
 |false=>exact hb wh ao s1 σ H1 Q I1 q1
theorem vf(ha:PT X a tA):PT X (.UnaryOp .Not a pos) (OB tA):=by intro ao s σ H Q I h;exact isTrue_not (Fq (ha ao s σ H (λc H1=>Q (!c) H1) I h) λc s1 H1 I1 q1=>⟨H1,I1,q1⟩)
inductive RI(tb:TE)(σ:St)(x:V)(H:Hp)(Q:VK):Prop
 |mk (c:Bool) (e:x= .bl c) (k:if c=true then tb σ H Q else Q (.bl false) H)
inductive VI(tb:TE)(σ:St)(x:V)(H:Hp)(Q:VK):Prop
 |mk (c:Bool) (e:x= .bl c) (k:if c=true then Q (.bl true) H else tb σ H Q)
def MY(ta tb:TE):TE:=λσ H Q=>ta σ H λx H1=>RI tb σ x H1 Q
def RJ(ta tb:TE):TE:=λσ H Q=>ta σ H λx H1=>VI tb σ x H1 Q
theorem Ci{op}{t:TE}(h:PE X a t):PE X (.BoolOp op [a] pos) t:=λao s σ H Q I hw=>BoolOp_one (h ao s σ H Q I hw)
theorem Hk(ha:PE X a ta)(hb:PE X (.BoolOp .And (b::rest) pos) tb):PE X (.BoolOp .And (a::b::rest) pos) (MY ta tb):=by
 intro ao s σ H Q I h;refine BoolOp_and (cD (ha ao s σ H _ I h) λv s1 x H1 I1 r1 q1=>?_);obtain⟨c,rfl,q1⟩:=q1;cases r1;refine pE ?_;cases c with
 |true=>exact hb ao s1 σ H1 Q I1 q1
 |false=>exact⟨.bl false,H1,I1,rfl,q1⟩
theorem RK(ha:PE X a ta)(hb:PE X (.BoolOp .Or (b::rest) pos) tb):PE X (.BoolOp .Or (a::b::rest) pos) (RJ ta tb):=by
 intro ao s σ H Q I h;refine BoolOp_or (cD (ha ao s σ H _ I h) λv s1 x H1 I1 r1 q1=>?_);obtain⟨c,rfl,q1⟩:=q1;cases r1;refine pE ?_;cases c with
 |false=>exact hb ao s1 σ H1 Q I1 q1
 |true=>exact⟨.bl true,H1,I1,rfl,q1⟩
def VJ(t:TT)(ta tb:TE):TE:=λσ H Q=>t σ H λc H1=>if c=true then ta σ H1 Q else tb σ H1 Q
theorem gZ(hc:PT X c tA)(ha:PE X a ta)(hb:PE X b tb):PE X (.IfExp c a b pos) (VJ tA ta tb):=by
 intro ao s σ H Q I h;refine wpAny_IfExp (Fq (hc ao s σ H _ I h) λd s1 H1 I1 q1=>?_);cases d with
 |true=>exact ha ao s1 σ H1 Q I1 q1
 |false=>exact hb ao s1 σ H1 Q I1 q1
end
def bf(K:Frag)(H:Hp)(a:Addr)(xs:List V):Prop:=
 Rd H a (.lst xs)\/
  ∃(o:Obj)(its:Array Value)(n:Nat),K.lookup a=some o/\ o.cls= .type "list"/\ o.dict=none/\ o.data= .seq its n/\ its.size<=sizeLine/\ Vals xs its.toList
def i_(K:Frag)(H:Hp)(a:Addr)(xs:List V):Prop:=
 Rd H a (.tup xs)\/
  ∃(o:Obj)(its:Array Value)(n:Nat),K.lookup a=some o/\ o.cls= .type "tuple"/\ o.data= .seq its n/\ its.size<=sizeLine/\ Vals xs its.toList
def VL:Value->Option V
 | .none=>some .eQ
 | .bool b=>some (.bl b)
 | .int i _=>some (.int i)
 | .str x _=>some (.str x)
 | .bytes b _=>some (.B7 b)
 | .float b _=>some (.Ui b)
 | .ref a=>some (.ref a)
 | .type n=>some (.ty n)
 |_=>none
theorem RelV.abs{x:V}(r:RelV x u):VL u=some x:=by
 cases x with
 |eQ=>cases r;rfl
 |bl _=>cases r;rfl
 |int _=>obtain⟨t,rfl⟩:=r;rfl
 |str _=>obtain⟨t,rfl⟩:=r;rfl
 |B7 _=>obtain⟨t,rfl⟩:=r;rfl
 |Ui _=>obtain⟨t,rfl⟩:=r;rfl
 |ref _=>cases r;rfl
 |ty _=>cases r;rfl
theorem RelV.inj{x y:V}{u:Value}(r:RelV x u)(q:RelV y u):x=y:=di (r.abs.symm.trans q.abs)
theorem Vals.inj:∀{xs ys:List V}{us:List Value},Vals xs us->Vals ys us->xs=ys
 |_,_,_, .nil, .nil=>rfl
 |_,_,_, .cons r t, .cons r' t'=>by rw[r.inj r',Vals.inj t t']
variable{K:Frag}
section
variable{X:Cx}{ao:List (Addr×Obj)}{σ:St}{H:Hp}{s:Shared}{a:Addr}{xs ys:List V}
theorem bf.of(h:H a=some (.lst xs)):bf K H a xs:= .inl (.inl h)
theorem i_.of(h:H a=some (.tup xs)):i_ K H a xs:= .inl (.inl h)
theorem Inv.list(I:Inv X ao σ H s)(h:bf X.K H a xs):∃its:List Value,Vals xs its/\ PlainL s.heap a its.toArray/\ xs.length<=sizeLine:=by
 rcases h with h|⟨o,its,n,hk,hc,hd,hs,hz,r⟩
 .obtain⟨z,its,n,r,e⟩:=h.ok I.cu;exact⟨its,r,⟨_,n,e,rfl,rfl,rfl⟩,z⟩
 .refine⟨its.toList,r,⟨o,n,I.GQ a o hk,hc,hd,by simpa using hs⟩,?_⟩;have e:=r.length;simp only[Rk] at e
  lia
theorem Inv.tuple(I:Inv X ao σ H s)(h:i_ X.K H a xs):∃its:List Value,Vals xs its/\ IsTup s.heap a its.toArray/\ xs.length<=sizeLine:=by
 rcases h with h|⟨o,its,n,hk,hc,hs,hz,r⟩
 .obtain⟨z,its,r,p⟩:=h.ok I.cu;exact⟨its,r,p,z⟩
 .refine⟨its.toList,r,⟨o,I.GQ a o hk,hc,n,by simpa using hs⟩,?_⟩;have e:=r.length;simp only[Rk] at e
  lia
theorem Inv.Ai(I:Inv X ao σ H s)(h:bf X.K H a xs)(h':bf X.K H a ys):xs=ys:=by
 obtain⟨its,r,⟨o,n,e,_,_,d⟩,_⟩:=I.list h;obtain⟨its',r',⟨o',n',e',_,_,d'⟩,_⟩:=I.list h';rw[e] at e';cases e';rw[d] at d';injection d' with d1 _;have:its=its':=by simpa using c_ Array.toList d1
 subst this;exact r.inj r'
theorem Inv.Fs(I:Inv X ao σ H s)(h:i_ X.K H a xs)(h':i_ X.K H a ys):xs=ys:=by
 obtain⟨its,r,⟨o,e,_,n,d⟩,_⟩:=I.tuple h;obtain⟨its',r',⟨o',e',_,n',d'⟩,_⟩:=I.tuple h';rw[e] at e';cases e';rw[d] at d';injection d' with d1 _;have:its=its':=by simpa using c_ Array.toList d1
 subst this;exact r.inj r'
end
abbrev Cx.xp(X:Cx)(E:Value->Shared->Prop):Cx:={X with xe:=E}
abbrev Cx.MZ(X:Cx):Cx:=X.xp λ_ _=>False
theorem Cx.Ok.xp{X:Cx}(ok:X.Ok)(E:Value->Shared->Prop):(X.xp E).Ok:=
 ⟨ok.mod,ok.kind,ok.glob,ok.blt,ok.above,ok.inj,ok.has,ok.RA,ok.hd,ok.frames,ok.Ul,ok.Um,ok.bs,ok.Ke,ok.Hh,ok.Hi,ok.rX,ok.MR⟩
theorem Cx.Ok.nE(ok:(X.xp E).Ok):X.Ok:=
 ⟨ok.mod,ok.kind,ok.glob,ok.blt,ok.above,ok.inj,ok.has,ok.RA,ok.hd,ok.frames,ok.Ul,ok.Um,ok.bs,ok.Ke,ok.Hh,ok.Hi,ok.rX,ok.MR⟩
section
variable{X:Cx}{ao:List (Addr×Obj)}{σ:St}{H:Hp}{s:Shared}{E:Value->Shared->Prop}
theorem Inv.xp(I:Inv X ao σ H s)(E:Value->Shared->Prop):Inv (X.xp E) ao σ H s:=⟨I.ok.xp E,I.os,I.bare,I.base,I.loc,I.cell,I.free,I.kC,I.pin,I.cu,I.len⟩
theorem Inv.nE(I:Inv (X.xp E) ao σ H s):Inv X ao σ H s:=⟨I.ok.nE,I.os,I.bare,I.base,I.loc,I.cell,I.free,I.kC,I.pin,I.cu,I.len⟩
theorem SP.nE{D:Ends}{f:Flow}{s':Shared}(h:SP (X.xp E) ao D f s'):SP X ao D f s':=by
 cases f with
 |next=>obtain⟨σ',H',I,q⟩:=h;exact⟨σ',H',I.nE,q⟩
 |brk=>obtain⟨σ',H',I,q⟩:=h;exact⟨σ',H',I.nE,q⟩
 |cont=>obtain⟨σ',H',I,q⟩:=h;exact⟨σ',H',I.nE,q⟩
 |ret u=>obtain⟨v,σ',H',I,r,q⟩:=h;exact⟨v,σ',H',I.nE,r,q⟩
theorem B8.MZ{st:List Stmt}{t:TS}(h:B8 X.MZ st t):B8 X st t:=λao s σ H D I hw=>iq (h ao s σ H D (I.xp _) hw) (λ_ _ q=>q.nE) λ_ _ z=>False.elim z
end
variable{tc:TT}
section
variable{X:Cx}{st:Stmt}{rest:List Stmt}{t u:TS}{e:Expr}{te:TE}{pos:Pos}
def jz:TS:=λD σ H=>D.nx σ H
def ma(t u:TS):TS:=λD σ H=>t {D with nx:=u D} σ H
theorem aA:B8 X [] jz:=λ_ _ σ H _ I h=>D2 ⟨σ,H,I,h⟩
theorem ae(h1:PS X st t)(h2:B8 X rest u):B8 X (st::rest) (ma t u):=by
 intro ao s σ H D I h;refine wpAny_execs_cons (rP (h1 ao s σ H {D with nx:=u D} I h) λf s1 q=>?_);cases f with
 |next=>obtain⟨σ',H',I',q⟩:=q;exact h2 ao s1 σ' H' D I' q
 |ret v=>exact q
 |brk=>exact q
 |cont=>exact q
theorem aj(h1:PS X st t):B8 X [st] t:=by
 intro ao s σ H D I h;refine wpAny_execs_cons (rP (h1 ao s σ H D I h) λf s1 q=>?_);cases f with
 |next=>exact D2 q
 |ret v=>exact q
 |brk=>exact q
 |cont=>exact q
theorem Inv.quiet(I:Inv X ao σ H s):interactive X.env=false:=by simp[interactive,I.ok.kind]
def M0(te:TE):TS:=λD σ H=>te σ H λ_ H1=>D.nx σ H1
theorem bF(he:PE X e te)(hs:swapsWith e none pos.line X.env=pure false:=by rfl):PS X (.Expr e pos) (M0 te):=by intro ao s σ H D I h;exact wpAny_Expr_any (cD (he ao s σ H _ I h) λv s1 x H1 I1 r1 q1=>⟨σ,H1,I1,q1⟩) I.quiet hs
def yP(te:TE):TS:=λD σ H=>te σ H D.rt
theorem aw(he:PE X e te):PS X (.Return (some e) pos) (yP te):=by intro ao s σ H D I h;exact wpAny_Return_some (cD (he ao s σ H _ I h) λv s1 x H1 I1 r1 q1=>⟨x,σ,H1,I1,r1,q1⟩)
def uk(c:TT)(t u:TS):TS:=λD σ H=>c σ H λb H1=>if b=true then t D σ H1 else u D σ H1
theorem aM{a b:List Stmt}(hc:PT X c tc)(ha:B8 X a t)(hb:B8 X b u):PS X (.If c a b pos) (uk tc t u):=by
 intro ao s σ H D I h;refine wpAny_If (Fq (hc ao s σ H _ I h) λd s1 H1 I1 q1=>?_);cases d with
 |true=>exact ha ao s1 σ H1 D I1 q1
 |false=>exact hb ao s1 σ H1 D I1 q1
end
abbrev TG:=V->St->Hp->(St->Hp->Prop)->Prop
abbrev QL:=List V->St->Hp->(St->Hp->Prop)->Prop
def PG(X:Cx)(target:Expr)(t:TG):Prop:=
 ∀(ao:List (Addr×Obj))(s:Shared)(σ:St)(H:Hp)(v:V)(u:Value)(Q:St->Hp->Prop),Inv X ao σ H s->RelV v u->t v σ H Q->
  wpAny (model X.prog X.w) X.A (assign target X.env u) (λ_ s'=>∃σ' H',Inv X ao σ' H' s'/\ Q σ' H') X.xe s
def RL(X:Cx)(ts:List Expr)(t:QL):Prop:=
 ∀(ao:List (Addr×Obj))(s:Shared)(σ:St)(H:Hp)(vs:List V)(us:List Value)(Q:St->Hp->Prop),Inv X ao σ H s->Vals vs us->t vs σ H Q->
  wpAny (model X.prog X.w) X.A (assignInOrder ((assignEach ts X.env).map (·.2)) us) (λ_ s'=>∃σ' H',Inv X ao σ' H' s'/\ Q σ' H') X.xe s
abbrev Us:=V->V->Hp->VK->Prop
def VM(X:Cx)(op:Operator)(t:Us):Prop:=
 ∀(ao:List (Addr×Obj))(s:Shared)(σ:St)(H:Hp)(x y:V)(v u:Value)(Q:VK),Inv X ao σ H s->RelV x v->RelV y u->t x y H Q->
  wpAny (model X.prog X.w) X.A (inplaceOp op v u) (EP X ao σ Q) X.xe s
variable{es:List Expr}
variable{te:TE}{pos':Pos}
variable{body:List Stmt}{tb:TS}
section
variable{X:Cx}{pos:Pos}
def fG(i:Nat):TG:=λv σ H Q=>Q (σ.set i (some v)) H
theorem KL(hN:X.N.Nodup)(hi:X.N[i]?=some x)(hx:Loc X.env.scope x)(hf:X.fn x=true\/ X.env.scope.names.lookup x=some .local:=by first|exact .inl rfl|exact .inr rfl|assumption):PG X (.Name x pos) (fG i):=by intro ao s σ H v u Q I r h;exact wpAny_assign_Name (ve I hN hi hx r (λs' I'=>⟨_,H,I',h⟩) hf)
inductive VN(vs:List V)(σ:St)(H:Hp)(Q:St->Hp->Prop):Prop
 |mk (e:vs=[]) (k:Q σ H)
inductive RM(t:TG)(u:QL)(vs:List V)(σ:St)(H:Hp)(Q:St->Hp->Prop):Prop
 |mk (v:V) (r:List V) (e:vs=v::r) (k:t v σ H λσ' H'=>u r σ' H' Q)
theorem jE:RL X [] VN:=by intro ao s σ H vs us Q I r h;obtain⟨e,h⟩:=h;subst e;cases r;exact assignInOrder_nil ⟨σ,H,I,h⟩
theorem bZ{t:TG}{u:QL}(h1:PG X e t)(h2:RL X es u)(hs:(assignEach (e::es) X.env).map (·.2)=assign e X.env::(assignEach es X.env).map (·.2):=by rfl):RL X (e::es) (RM t u):=by
 intro ao s σ H vs us Q I r h;obtain⟨v,vr,e1,h⟩:=h;subst e1;cases r with
 |cons r rr=>rw[hs];refine assignInOrder_cons (rP (h1 ao s σ H _ _ _ I r h) λ_ s1 ⟨σ1,H1,I1,q1⟩=>?_);exact h2 ao s1 σ1 H1 _ _ Q I1 rr q1
inductive RN(K:Frag)(n:Nat)(t:QL)(v:V)(σ:St)(H:Hp)(Q:St->Hp->Prop):Prop
 |mk (a:Addr) (xs:List V) (e:v= .ref a) (h:i_ K H a xs) (l:xs.length=n) (k:t xs σ H Q)
theorem nF{k:Nat}{t:QL}{n:Nat}(hc:X.calm=true)(h:RL X es t)(hn:(assignEach es X.env).length=n:=by rfl)(m9:(assignEach es X.env).findIdx? (·.1)=none:=by rfl):PG X (.Tuple es k pos) (RN X.K n t):=by intro ao s σ H v u Q I r hw;obtain⟨a,xs,e1,hq,hl,hw⟩:=hw;subst e1;cases r;obtain⟨its,rv,ht,hz⟩:=I.tuple hq;refine assign_Tuple_tuple (I.ok.hd hc) ht (by simp[hn,<-hl,rv.length]) m9 λh' hx=>?_;have I1:Inv X ao σ H {s with heap:=h'}:=I.kept (t':=s.toks) λb o e=>hx b o (cB (dh e)) e;exact h ao _ σ H xs _ Q I1 (by simpa using rv) hw
def xq(te:TE)(g:TG):TS:=λD σ H=>te σ H λx H1=>g x σ H1 D.nx
theorem OC(hN:X.N.Nodup)(hi:X.N[i]?=some x)(hx:Loc X.env.scope x)(he:PE X e te)(hs:swapsWith e (some (.Name x pos')) pos.line X.env=pure false:=by rfl)(hf:X.fn x=true\/ X.env.scope.names.lookup x=some .local:=by first|exact .inl rfl|exact .inr rfl|assumption):
 PS X (.Assign [.Name x pos'] e pos) (xq te (fG i)):=by
 intro ao s σ H D I h;refine wpAny_Assign_Name (cD (he ao s σ H _ I h) λv s1 y H1 I1 r1 q1=>?_) hs;exact ve I1 hN hi hx r1 (λs2 I2=>⟨_,H1,I2,q1⟩) hf
inductive RO(i:Nat)(te:TE)(ti:Us)(D:Ends)(σ:St)(H:Hp):Prop
 |mk (x:V) (h:σ[i]?=some (some x)) (k:te σ H λy H1=>ti x y H1 λz H2=>D.nx (σ.set i (some z)) H2)
theorem k4{op:Operator}{ti:Us}(hN:X.N.Nodup)(hi:X.N[i]?=some x)(hx:Loc X.env.scope x)(he:PE X e te)(ho:VM X op ti)(hf:X.fn x=true\/ X.env.scope.names.lookup x=some .local:=by first|exact .inl rfl|exact .inr rfl|assumption):
 PS X (.AugAssign (.Name x pos') op e pos) (RO i te ti):=by
 intro ao s σ H D I h;obtain⟨v,e1,h⟩:=h;obtain⟨m,hn,hl⟩:=I.loc;have Zd:QK X.env.scope x:=by rcases hx with k|k;exact .inl k;exact .inr (.inl k)
 obtain⟨u,r,l⟩:=hl i x v hi e1 Zd;refine wpAny_AugAssign_Name ?_;have go:wpAny (model X.prog X.w) X.A (eval e X.env) (λw s₂=>wpAny (model X.prog X.w) X.A (inplaceOp op u w) (λr s₃=>wpAny (model X.prog X.w) X.A (storeName X.env x r) (λ_=>SP X ao D .next) X.xe s₃) X.xe s₂) X.xe s:=by refine cD (he ao s σ H _ I h) λw s1 y H1 I1 r1 q1=>?_;refine cD (ho ao s1 σ H1 v y u w _ I1 r r1 q1) λz s2 zv H2 I2 r2 q2=>?_;exact ve I2 hN hi hx r2 (λs3 I3=>⟨_,H2,I3,q2⟩) hf
 rcases l with⟨hk,hm⟩|⟨hk,c,hc,bR⟩
 .exact wpAny_loadName_local I.ok.kind hk hn hm go
 .rcases hk with hk|hk
  .exact wpAny_loadName_cell I.ok.kind hk hc bR go
  .rcases hx with k|k
   .have:X.env.scope.names.lookup x=some .free:=hk;rw[k] at this;cases this
   .have:X.env.scope.names.lookup x=some .free:=hk;rw[k] at this;cases this
def VO(f:Int->Int->Int):Us:=λx y H Q=>∃i j,x= .int i/\ y= .int j/\ Q (.int (f i j)) H
theorem nG:VM X .Add (VO λi j=>i+j):=by intro ao s σ H x y v u Q I r1 r2 h;obtain⟨i,j,e1,e2,q⟩:=h;subst e1;subst e2;obtain⟨t,rfl⟩:=r1;obtain⟨t',rfl⟩:=r2;exact iadd_int ⟨.int _,H,I.tok _,⟨_,rfl⟩,q⟩
theorem Hl:VM X .Sub (VO λi j=>i - j):=by intro ao s σ H x y v u Q I r1 r2 h;obtain⟨i,j,e1,e2,q⟩:=h;subst e1;subst e2;obtain⟨t,rfl⟩:=r1;obtain⟨t',rfl⟩:=r2;exact isub_int ⟨.int _,H,I.tok _,⟨_,rfl⟩,q⟩
def Hm(c:TT)(tb:TS):TS:=λD σ H=>∃W:Nat->St->Hp->Prop,(∃m,W m σ H)/\ ∀m σ H,W m σ H->
 c σ H λb H1=>if b=true then∃N:St->Hp->Prop,(∀σ' H',N σ' H'->∃m',m'<m/\ W m' σ' H')/\ tb {D with nx:=N,ct:=N,bk:=D.nx} σ H1 else D.nx σ H1
theorem ft(hp:PassesOwn (model X.prog X.w) X.A X.env X.xe)(hc:PT X c tc)(hb:B8 X body tb):PS X (.While c body [] pos) (Hm tc tb):=by
 intro ao s σ H D I h;obtain⟨W,⟨m0,w0⟩,turn⟩:=h;refine wpAny_While (codeAny_whileLoop (λn s'=>∃σ' H',Inv X ao σ' H' s'/\ W n σ' H') ?_ m0 ⟨σ,H,I,w0⟩);rintro n s1 ⟨σ1,H1,I1,w1⟩;refine va hp (Fq (hc ao s1 σ1 H1 _ I1 (turn n σ1 H1 w1)) λb s2 H2 I2 q2=>?_);cases b with
 |true=>
  obtain⟨N,hN,q2⟩:=q2;rw[aq rfl];refine va hp (rP (hb ao s2 σ1 H2 _ I2 q2) λf s3 q3=>?_);cases f with
  |next=>obtain⟨σ3,H3,I3,n3⟩:=q3;obtain⟨m',hm,w3⟩:=hN σ3 H3 n3;exact⟨m',hm,σ3,H3,I3,w3⟩
  |cont=>obtain⟨σ3,H3,I3,n3⟩:=q3;obtain⟨m',hm,w3⟩:=hN σ3 H3 n3;exact⟨m',hm,σ3,H3,I3,w3⟩
  |brk=>exact q3
  |ret v=>exact q3
 |false=>rw[ak uT];exact D2 ⟨σ1,H2,I2,q2⟩
end
structure It where
 go:Nat->Hp->Prop
 GR:Nat->Hp->V->Hp->Prop
 stop:Nat->Hp->Prop
def vg(X:Cx)(ao:List (Addr×Obj))(H:Hp)(b:Addr):Prop:=
 H b=none/\ b≠X.env.locals/\ b∉X.fs/\ (b∈X.ex\/ X.xg.heap.objs.size<=b)/\ (∀x c,X.env.cells.lookup x=some c->c≠b)/\ ∀p∈X.pn++ao,p.1≠b
theorem Inv.Ft{H':Hp}(I:Inv X ao σ H s)(hb:s.heap.objs.size<=b)(hn:H' b=none):vg X ao H' b:=by
 refine⟨hn,u6 (dF I.lt hb),I.VE hb, .inr (bp I.sz hb),λx c e z=>?_,λp hp z=>?_⟩
 .obtain⟨v,q⟩:=I.cell x c e;exact absurd (dF q.lt (by rw[z];exact hb)) (m3 _)
 .exact absurd (dF (dh (I.pin p hp).1) (by rw[z];exact hb)) (m3 _)
structure Turn(P:Program)(w:World)(K:Frag)(tg:Expr)(J:It)(fp:List Addr)(it:Addr)(tn:Nat->Heap->Prop):Prop where
 mem:it∈fp
 obj:∀i h,tn i h->∀b∈fp,∃o,h.get? b=some o/\ ∀v,o.data≠ .cell v
 keep:∀i h h',tn i h->(∀b∈fp,∀o,h.get? b=some o->h'.get? b=some o)->tn i h'
 item:∀(X:Cx),X.prog=P->X.w=w->X.K=K->X.calm=true->∀(i:Nat)(ao:List (Addr×Obj))(s:Shared)(σ:St)(H:Hp)(E:Value->Shared->Prop),Inv X ao σ H s->(∀b∈fp,vg X ao H b)->tn i s.heap->J.go i H->
  wpAny (model P w) X.A (pyNext (.ref it)) (λr s1=>∃u,r=some u/\
   wpAny (model P w) X.A (letOwnedTupleGo tg (.ref it) u) (λ_ s2=>∃x H',Inv X ao σ H' s2/\ RelV x u/\ J.GR i H x H'/\ tn (i+1) s2.heap/\ ∀b∈fp,H' b=none) E s1) E s
 done:∀(X:Cx),X.prog=P->X.w=w->X.K=K->X.calm=true->∀(i:Nat)(ao:List (Addr×Obj))(s:Shared)(σ:St)(H:Hp)(E:Value->Shared->Prop),Inv X ao σ H s->(∀b∈fp,vg X ao H b)->tn i s.heap->J.stop i H->
  wpAny (model P w) X.A (pyNext (.ref it)) (λr s1=>r=none/\ Inv X ao σ H s1) E s
 self:∀(A:Around)(i:Nat)(s:Shared)(Q:Value->Shared->Prop)(E:Value->Shared->Prop),tn i s.heap->Q (.ref it) s->wpAny (model P w) A (pyIter (.ref it)) Q E s
abbrev TI:=St->Hp->(It->Hp->Prop)->Prop
def Ut(X:Cx)(ao:List (Addr×Obj))(σ:St)(tg:Expr)(R:It->Hp->Prop)(VP:Value)(s2:Shared):Prop:=
 ∃(it:Addr)(fp:List Addr)(tn:Nat->Heap->Prop)(J:It)(H':Hp),VP= .ref it/\ Inv X ao σ H' s2/\ Turn X.prog X.w X.K tg J fp it tn/\ tn 0 s2.heap/\ (∀b∈fp,vg X ao H' b)/\ R J H'
def PI(X:Cx)(tg iter:Expr)(wi:TI):Prop:=
 ∀(ao:List (Addr×Obj))(s:Shared)(σ:St)(H:Hp)(R:It->Hp->Prop),Inv X ao σ H s->wi σ H R->
  wpAny (model X.prog X.w) X.A (eval iter X.env) (λv s1=>wpAny (model X.prog X.w) X.A (pyIter v) (Ut X ao σ tg R) X.xe s1) X.xe s
variable{tg:Expr}
theorem Hn{o:Obj}{n:String}{vs:Array Value}{Q:Unit->Shared->Prop}(ho:s.heap.get? it=some o)(hc:o.cls= .type n)(hd:o.data= .fields vs)(hn:["enumerate","zip","dict_itemiterator","dict_reverseitemiterator","odict_iterator","itertools.zip_longest","itertools.pairwise"].contains n=false)(hQ:Q () s):wpAny M A (letOwnedTupleGo tg (.ref it) u) Q E s:=by
 unfold letOwnedTupleGo;cases tg<;>first
  |exact cW hQ
  |(cases u<;>first
   |exact cW hQ
   |(refine aY (wpAny_load ho ?_);rw[hc,hd];show wpAny M A (if(["enumerate","zip","dict_itemiterator","dict_reverseitemiterator","odict_iterator","itertools.zip_longest","itertools.pairwise"].contains n&&vs[0]?==some (rawInt _))=true then _ else _) Q E s;rw[ak (by intro h;rw[hn,Bool.false_and] at h;cases h)];exact cW hQ))
def Ho(K:Frag)(a:Addr):It:=
 ⟨λi H=>∃xs x,bf K H a xs/\ xs[i]?=some x,λi H x H'=>H'=H/\ ∀xs,bf K H a xs->xs[i]?=some x,λi H=>∃xs,bf K H a xs/\ xs.length<=i⟩
def KN(lo:Int)(n:Nat):It:=⟨λi _=>i<n,λi H x H'=>H'=H/\ x= .int (lo+i),λi _=>n<=i⟩
theorem Fu{w:World}(a it:Addr):Turn P w K tg (Ho K a) [it] it (λi h=>h.IsListIter it a i) where
 mem:=by simp
 obj:=λi h st b hb=>by
  have e:b=it:=by simpa using hb
  subst e;obtain⟨o,e,c,d⟩:=st;exact⟨o,e,λv z=>by rw[d] at z;cases z⟩
 keep:=λi h h' st k=>st.at λo e=>k it (by simp) o e
 item:=by intro X hP hw hK hc i ao s σ H E I hf st hg;subst hP hw hK;obtain⟨xs,x,hq,hx⟩:=hg;obtain⟨its,rv,p,hz⟩:=I.list hq;obtain⟨u,hu,ru⟩:=rv.get hx;obtain⟨f0,f1,f2,f3,f4,f5⟩:=hf it (by simp);refine wpAny_pyNext_list_item st p.isList (x:=u) (by simpa using hu) λh' Fv sb=>?_;have I1:Inv X ao σ H {s with heap:=h'}:=I.turned (t':=s.toks) (λb o hb e=>(sb.2 b hb).trans e) f0 f1 f3 f4 f5;obtain⟨o,e,c,d⟩:=id Fv;exact⟨u,rfl,Hn (s:={s with heap:=h'}) e c d (by decide) ⟨x,H,I1,ru,⟨rfl,λys hy=>by rw[I.Ai hy hq];exact hx⟩,Fv,λb hb=>(hf b hb).1⟩⟩
 done:=by intro X hP hw hK hc i ao s σ H E I hf st hg;subst hP hw hK;obtain⟨xs,hq,hx⟩:=hg;obtain⟨its,rv,p,hz⟩:=I.list hq;obtain⟨f0,f1,f2,f3,f4,f5⟩:=hf it (by simp);have hl:=rv.length;exact wpAny_pyNext_list_end (I.ok.hd hc) st p.isList (by simp;lia) λh' eb=>⟨rfl,I.turned (t':=s.toks) (λb o hb e=>eb b o hb e) f0 f1 f3 f4 f5⟩
 self:=λ_ _ _ _ _ st h=>wpAny_pyIter_listiter st h
theorem Cj{w:World}(it:Addr)(lo:Int)(n:Nat):Turn P w K tg (KN lo n) [it] it (λi h=>IsRangeIter h it (lo+(i:Nat)*1) ((n:Int) - (i:Nat)) 1) where
 mem:=by simp
 obj:=λi h st b hb=>by
  have e:b=it:=by simpa using hb
  subst e;exact⟨_,st,λv z=>by have z':Data.fields _=Data.cell v:=z;cases z'⟩
 keep:=λi h h' st k=>k it (by simp) _ st
 item:=by intro X hP hw hK hc i ao s σ H E I hf st hg;subst hP hw hK;obtain⟨f0,f1,f2,f3,f4,f5⟩:=hf it (by simp);have W:=Walks.range (prog:=X.prog) (w:=X.w) (I.ok.hd hc) it lo 1 n;refine W.item i s _ _ hg st λv h' tk hv Fv kk=>?_;obtain⟨t,rfl⟩:=hv;have I1:Inv X ao σ H {s with heap:=h',toks:=tk}:=I.turned (λb o hb e=>kk b o (by simpa using hb) e) f0 f1 f3 f4 f5;refine⟨_,rfl,Hn (s:={s with heap:=h',toks:=tk}) (n:="range_iterator") Fv rfl rfl (by decide) ⟨.int (lo+i),H,I1,⟨t,?_⟩,⟨rfl,rfl⟩,Fv,λb hb=>(hf b hb).1⟩⟩;rw[Int.mul_one]
 done:=by intro X hP hw hK hc i ao s σ H E I hf st hg;subst hP hw hK;obtain⟨f0,f1,f2,f3,f4,f5⟩:=hf it (by simp);exact wpAny_pyNext_range_end (I.ok.hd hc) st (by have:n<=i:=hg;lia) λh' eb=>⟨rfl,I.turned (t':=s.toks) (λb o hb e=>eb b o hb e) f0 f1 f3 f4 f5⟩
 self:=λ_ _ _ _ _ st h=>wpAny_pyIter_rangeiter st h
variable{fp:List Addr}
variable{g:TG}
section
variable{X:Cx}{tg:Expr}
inductive VQ(K:Frag)(x:V)(H:Hp)(R:It->Hp->Prop):Prop
 |mk (a:Addr) (e:x= .ref a) (h:∃xs,bf K H a xs) (k:R (Ho K a) H)
def RP(K:Frag)(tl:TE):TI:=λσ H R=>tl σ H λx H1=>VQ K x H1 R
theorem bL{l:Expr}{tl:TE}(hl:PE X l tl):PI X tg l (RP X.K tl):=by
 intro ao s σ H R I h;refine cD (hl ao s σ H _ I h) λv s1 x H1 I1 r1 q1=>?_;obtain⟨a,e,⟨xs,hq⟩,q⟩:=q1;subst e;cases r1;obtain⟨its,rv,p,hz⟩:=I1.list hq;refine wpAny_pyIter_list p.isList ?_;refine⟨s1.heap.objs.size,[s1.heap.objs.size],_,_,H1,rfl,I1.kept (t':=s1.toks) λb o e=>gq _ e,Fu a _,⟨_,jD _ rfl,rfl,rfl⟩,λb hb=>?_,q⟩;have e:b=s1.heap.objs.size:=by simpa using hb
 subst e;exact I1.Ft (aQ _) (I1.cu.fresh (aQ _))
theorem Hq{R:It->Hp->Prop}{lo hi:Int}{t u v:Tok}{tk:Nat}(I:Inv X ao σ H s)(h1:-(2 ^ 62)<=lo)(h2:lo<2 ^ 62)(h3:-(2 ^ 62)<=hi)(h4:hi<2 ^ 62)(q:R (KN lo (hi - lo).toNat) H):wpAny (model X.prog X.w) X.A (pyIter (.ref s.heap.objs.size)) (Ut X ao σ tg R) E {s with heap:=s.heap.push {cls:= .type "range",data:= .fields #[.int lo t, .int hi u, .int 1 v]},toks:=tk}:=by
 refine wpAny_pyIter_range (IsRange.new ..) (small_one h1 h2 h3 h4) ?_;have I1:Inv X ao σ H {s with heap:=s.heap.push {cls:= .type "range",data:= .fields #[.int lo t, .int hi u, .int 1 v]},toks:=tk}:=I.kept λb o e=>gq _ e;refine⟨(s.heap.push {cls:= .type "range",data:= .fields #[.int lo t, .int hi u, .int 1 v]}).objs.size,[(s.heap.push {cls:= .type "range",data:= .fields #[.int lo t, .int hi u, .int 1 v]}).objs.size],_,_,H,rfl,
  I1.kept (t':=tk) λb o e=>gq _ e,Cj _ lo (hi - lo).toNat,?_,λb hb=>?_,q⟩
 .have e1:lo+((0:Nat):Int)*1=lo:=by simp
  have e2:(((hi - lo).toNat:Nat):Int) - ((0:Nat):Int)=Builtin.Range.rangeSize lo hi 1:=by rw[rangeSize_one];split<;>lia
  show IsRangeIter _ _ (lo+((0:Nat):Int)*1) ((((hi - lo).toNat:Nat):Int) - ((0:Nat):Int)) 1;rw[e1,e2];exact jD _ rfl
 .have e:b=(s.heap.push {cls:= .type "range",data:= .fields #[.int lo t, .int hi u, .int 1 v]}).objs.size:=by simpa using hb
  subst e;exact I1.Ft (aQ _) (I1.cu.fresh (aQ _))
def RQ(ta:TA):TI:=λσ H R=>ta σ H λvs H1=>∃j:Int,vs=[.int j]/\ -(2 ^ 62)<=j/\ j<2 ^ 62/\ R (KN 0 j.toNat) H1
theorem xN{a:Expr}{ta:TA}{p pos:Pos}(hg:Gl X "range")(hm:X.mg "range"=none)(ha:PA X [a] ta)(hs:starEach [a] X.env=[(false,eval a X.env)]:=by rfl):PI X tg (.Call (.Name "range" p) [a] [] pos) (RQ ta):=by
 intro ao s σ H R I h;refine Call_ (nD I hg hm boot_range (xH (cD (ha pos ao s σ H _ I h) λus s1 vs H1 I1 r1 q1=>?_) hs rfl));obtain⟨j,e,q1,q2,q⟩:=q1;subst e;cases r1 with
 |cons r rr=>cases rr;obtain⟨t,rfl⟩:=r;exact call_range_1 (Hq I1 (by lia) (by lia) q1 q2 (by simpa using q))
def VR(wi:TI)(g:TG)(tb:TS):TS:=λD σ H=>wi σ H λJ H1=>∃W:Nat->Nat->St->Hp->Prop,(∃m,W 0 m σ H1)/\ ∀i m σ H,W i m σ H->
 (J.stop i H/\ D.nx σ H)\/ (J.go i H/\ ∃N:St->Hp->Prop,(∀σ' H',N σ' H'->∃m',m'<m/\ W (i+1) m' σ' H')/\ ∀x H',J.GR i H x H'->g x σ H' λσ2 H2=>tb {D with nx:=N,ct:=N,bk:=D.nx} σ2 H2)
def vh(fp:List Addr)(h:Heap):List (Addr×Obj):=fp.filterMap λb=>(h.get? b).map λo=>(b,o)
theorem pQ{h:Heap}{o:Obj}(hb:b∈fp)(e:h.get? b=some o):(b,o)∈vh fp h:=G7.mpr ⟨b,hb,by rw[e];rfl⟩
theorem Fw{h:Heap}{p:Addr×Obj}(hp:p∈vh fp h):p.1∈fp/\ h.get? p.1=some p.2:=by
 obtain⟨b,hb,e⟩:=G7.mp hp;cases q:h.get? b with
 |none=>rw[q] at e;cases e
 |some o=>rw[q] at e;have e':(b,o)=p:=di e;subst e';exact⟨hb,q⟩
theorem Inv.pinned(I:Inv X ao σ H s)(hf:∀b∈fp,vg X ao H b)(ho:∀b∈fp,∃o,s.heap.get? b=some o/\ ∀v,o.data≠ .cell v):Inv X (ao++vh fp s.heap) σ H s:=
 I.D8 λp hp=>(dY.mp hp).elim (λz=>I.pin p (eK _ z)) λz=>by obtain⟨hb,e⟩:=Fw z;obtain⟨f0,f1,f2,_⟩:=hf p.1 hb;obtain⟨o,e',d⟩:=ho p.1 hb;rw[e] at e';cases e';exact⟨e,f0,f1,f2,d⟩
theorem Inv.qR{pl:List (Addr×Obj)}(I:Inv X (ao++pl) σ H s):Inv X ao σ H s:=I.D8 λp hp=>I.pin p (eK _ (dz _ hp))
theorem eB{iter:Expr}{wi:TI}{pos:Pos}(hp:PassesOwn (model X.prog X.w) X.A X.env X.xe)(hc:X.calm=true)(hi:PI X tg iter wi)(hg:PG X tg g)(hb:B8 X body tb)(hs:∀x,foldedSetIterable iter X.env x=pure x:=by intro _;rfl):PS X (.For tg iter body [] pos) (VR wi g tb):=by
 intro ao s σ H D I h;refine wpAny_For (rP (hi ao s σ H _ I h) λv s1 h1=>rP h1 λVP s2 h2=>?_) hs;obtain⟨it,fp,tn,J,H2,e,I2,T,Uu,f2,W,⟨m0,w0⟩,turn⟩:=h2;subst e;have Ck:∀{H':Hp},(∀b∈fp,H' b=none)->∀b∈fp,vg X ao H' b:=λhn b hb=>⟨hn b hb,(f2 b hb).2⟩;refine codeAny_forLoop_any (λn s'=>∃i σ' H',Inv X ao σ' H' s'/\ tn i s'.heap/\ (∀b∈fp,H' b=none)/\ W i n σ' H') ?_ m0 ⟨0,σ,H2,I2,Uu,λb hb=>(f2 b hb).1,w0⟩;rintro n s3 ⟨i,σ3,H3,I3,Uv,XZ,w3⟩;rcases turn i n σ3 H3 w3 with⟨stop,qn⟩|⟨go,N,hN,step⟩
 .refine va hp (rP (T.done X rfl rfl rfl hc i ao s3 σ3 H3 X.xe I3 (Ck XZ) Uv stop) λr s4 ⟨hr,I4⟩=>?_);subst hr;exact D2 ⟨σ3,H3,I4,qn⟩
 .refine va hp (rP (T.item X rfl rfl rfl hc i ao s3 σ3 H3 X.xe I3 (Ck XZ) Uv go) λr s4 ⟨u,hr,h4⟩=>?_);subst hr;refine va hp (rP h4 λ_ s5 ⟨x,H5,I5,r5,y5,QM,Ze⟩=>?_);have Zf:=I5.pinned (Ck Ze) (T.obj _ _ QM);refine va hp (rP (hg _ s5 σ3 H5 x u _ Zf r5 (step x H5 y5)) λ_ s6 ⟨σ6,H6,I6,q6⟩=>?_);refine va hp (rP (hb _ s6 σ6 H6 _ I6 q6) λf s7 q7=>?_);have again:∀{σ7:St}{H7:Hp},Inv X (ao++vh fp s5.heap) σ7 H7 s7->N σ7 H7->∃m,m<n/\ ∃i σ' H',Inv X ao σ' H' s7/\ tn i s7.heap/\ (∀b∈fp,H' b=none)/\ W i m σ' H':=λ{σ7 H7} I7 n7=>by obtain⟨m',hm,w7⟩:=hN σ7 H7 n7;refine⟨m',hm,i+1,σ7,H7,I7.qR,T.keep _ _ _ QM λb hb o e=>(I7.pin (b,o) (eK _ (eK _ (pQ hb e)))).1,λb hb=>?_,w7⟩;obtain⟨o,e,d⟩:=T.obj _ _ QM b hb;exact(I7.pin (b,o) (eK _ (eK _ (pQ hb e)))).2.1
  cases f with
  |next=>obtain⟨σ7,H7,I7,n7⟩:=q7;exact again I7 n7
  |cont=>obtain⟨σ7,H7,I7,n7⟩:=q7;exact again I7 n7
  |brk=>obtain⟨σ7,H7,I7,q7⟩:=q7;exact⟨σ7,H7,I7.qR,q7⟩
  |ret v=>obtain⟨x7,σ7,H7,I7,r7,q7⟩:=q7;exact⟨x7,σ7,H7,I7.qR,r7,q7⟩
end
variable{D:Ends}
theorem dG{xs:List V}(Pv:Nat->St->Hp->Prop)(h0:Pv 0 σ H)(hl:∀i σ H,i<=xs.length->Pv i σ H->bf K H a xs)(hs:∀i x σ H,xs[i]?=some x->Pv i σ H->g x σ H λσ2 H2=>tb {D with nx:=Pv (i+1),ct:=Pv (i+1),bk:=D.nx} σ2 H2)(hd:∀σ H,Pv xs.length σ H->D.nx σ H):
 ∃W:Nat->Nat->St->Hp->Prop,(∃m,W 0 m σ H)/\ ∀i m σ H,W i m σ H->
  ((Ho K a).stop i H/\ D.nx σ H)\/ ((Ho K a).go i H/\ ∃N:St->Hp->Prop,(∀σ' H',N σ' H'->∃m',m'<m/\ W (i+1) m' σ' H')/\ ∀x H',(Ho K a).GR i H x H'->g x σ H' λσ2 H2=>tb {D with nx:=N,ct:=N,bk:=D.nx} σ2 H2):=by
 refine⟨λi m σ H=>m=xs.length - i/\ i<=xs.length/\ Pv i σ H,⟨xs.length,by simp,a8 _,h0⟩,?_⟩;rintro i m σ H ⟨rfl,hi,p⟩;have q:=hl i σ H hi p;by_cases fH:i<xs.length
 .refine .inr ⟨⟨xs,xs[i],q,by simp[fH]⟩,Pv (i+1),λσ' H' p'=>⟨xs.length - (i+1),by lia,rfl,fH,p'⟩,λx H' y=>?_⟩;obtain⟨e,y⟩:=y;subst e;exact hs i x σ _ (y xs q) p
 .have e:i=xs.length:=by lia
  subst e;exact .inl ⟨⟨xs,q,aQ _⟩,hd σ H p⟩
theorem Fx{lo:Int}{n:Nat}(Pv:Nat->St->Hp->Prop)(h0:Pv 0 σ H)(hs:∀i σ H,i<n->Pv i σ H->g (.int (lo+i)) σ H λσ2 H2=>tb {D with nx:=Pv (i+1),ct:=Pv (i+1),bk:=D.nx} σ2 H2)(hd:∀σ H,Pv n σ H->D.nx σ H):
 ∃W:Nat->Nat->St->Hp->Prop,(∃m,W 0 m σ H)/\ ∀i m σ H,W i m σ H->
  ((KN lo n).stop i H/\ D.nx σ H)\/ ((KN lo n).go i H/\ ∃N:St->Hp->Prop,(∀σ' H',N σ' H'->∃m',m'<m/\ W (i+1) m' σ' H')/\ ∀x H',(KN lo n).GR i H x H'->g x σ H' λσ2 H2=>tb {D with nx:=N,ct:=N,bk:=D.nx} σ2 H2):=by
 refine⟨λi m σ H=>m=n - i/\ i<=n/\ Pv i σ H,⟨n,by simp,a8 _,h0⟩,?_⟩;rintro i m σ H ⟨rfl,hi,p⟩;by_cases fH:i<n
 .refine .inr ⟨fH,Pv (i+1),λσ' H' p'=>⟨n - (i+1),by lia,rfl,fH,p'⟩,λx H' y=>?_⟩;obtain⟨e,y⟩:=y;subst e y;exact hs i σ _ fH p
 .have e:i=n:=by lia
  subst e;exact .inl ⟨aQ _,hd σ H p⟩
abbrev R2:=V->V->Hp->VK->Prop
def qI(X:Cx)(f:Value->Value->Sem Value)(r:R2):Prop:=
 ∀(ao:List (Addr×Obj))(s:Shared)(σ:St)(H:Hp)(x y:V)(v u:Value)(Q:VK),Inv X ao σ H s->RelV x v->RelV y u->r x y H Q->
  wpAny (model X.prog X.w) X.A (f v u) (EP X ao σ Q) X.xe s
def VS(X:Cx)(f:Value->Sem Value)(r:V->Hp->VK->Prop):Prop:=
 ∀(ao:List (Addr×Obj))(s:Shared)(σ:St)(H:Hp)(x:V)(v:Value)(Q:VK),Inv X ao σ H s->RelV x v->r x H Q->
  wpAny (model X.prog X.w) X.A (f v) (EP X ao σ Q) X.xe s
def qS(X:Cx)(f:Value)(r:List V->Hp->VK->Prop):Prop:=
 ∀(ao:List (Addr×Obj))(s:Shared)(σ:St)(H:Hp)(xs:List V)(us:List Value)(Q:VK),Inv X ao σ H s->Vals xs us->r xs H Q->
  wpAny (model X.prog X.w) X.A (call f us) (EP X ao σ Q) X.xe s
def qJ(r:R2)(ta tb:TE):TE:=λσ H Q=>ta σ H λx H1=>tb σ H1 λy H2=>r x y H2 Q
def Zg(r:V->Hp->VK->Prop)(ta:TE):TE:=λσ H Q=>ta σ H λx H1=>r x H1 Q
inductive rI(C:Int->Int->Prop)(g:Int->Int->V)(x y:V)(H:Hp)(Q:VK):Prop
 |mk (i j:Int) (e:x= .int i) (e2:y= .int j) (c:C i j) (k:Q (g i j) H)
inductive xO(g:Int->Int->V)(x y:V)(H:Hp)(Q:VK):Prop
 |mk (i j:Int) (e:x= .int i) (e2:y= .int j) (k:Q (g i j) H)
inductive rU(g:Int->V)(x:V)(H:Hp)(Q:VK):Prop
 |mk (i:Int) (e:x= .int i) (k:Q (g i) H)
variable{f:Value->Value->Sem Value}
section
variable{X:Cx}{a b c:Expr}{ta tb tc:TE}{pos:Pos}
theorem OD(ha:PE X a ta)(hb:PE X b tb){R:V->V->Hp->Prop}(I:Inv X ao σ H s)(h:ta σ H λx H1=>tb σ H1 λy H2=>R x y H2)(hf:∀v u s2 x y H2,Inv X ao σ H2 s2->RelV x v->RelV y u->R x y H2->wpAny (model X.prog X.w) X.A (f v u) Q X.xe s2):
 wpAny (model X.prog X.w) X.A (eval a X.env) (λv s₁=>wpAny (model X.prog X.w) X.A (eval b X.env) (λu s₂=>wpAny (model X.prog X.w) X.A (f v u) Q X.xe s₂) X.xe s₁) X.xe s:=by
 refine cD (ha ao s σ H _ I h) λv s1 x H1 I1 r1 q1=>?_;refine cD (hb ao s1 σ H1 _ I1 q1) λu s2 y H2 I2 r2 q2=>?_;exact hf v u s2 x y H2 I2 r1 r2 q2
theorem bc{op:Operator}{r:R2}(ho:qI X (binaryOp op) r)(ha:PE X a ta)(hb:PE X b tb):PE X (.BinOp a op b pos) (qJ r ta tb):=by intro ao s σ H Q I h;exact wpAny_BinOp (OD ha hb I h λv u s2 x y H2 I2 rx ry q=>ho ao s2 σ H2 x y v u Q I2 rx ry q)
theorem vi{op:UnaryOp}{r:V->Hp->VK->Prop}(ho:VS X (unaryOp op) r)(ha:PE X a ta):PE X (.UnaryOp op a pos) (Zg r ta):=by intro ao s σ H Q I h;exact UnaryOp_ (cD (ha ao s σ H _ I h) λv s1 x H1 I1 r1 q1=>ho ao s1 σ H1 x v Q I1 r1 q1)
theorem Zh{C:Int->Int->Prop}{g:Int->Int->Int}(rule:∀(i j:Int)(t u:Tok)(s:Shared)(Q:Value->Shared->Prop)(E:Value->Shared->Prop),C i j->Q (.int (g i j) s.toks) {s with toks:=s.toks+1}->wpAny (model X.prog X.w) X.A (f (.int i t) (.int j u)) Q E s):
 qI X f (rI C λi j=> .int (g i j)):=by
 intro ao s σ H x y v u Q I rx ry h;obtain⟨i,j,rfl,rfl,hc,q⟩:=h;obtain⟨t,rfl⟩:=rx;obtain⟨t',rfl⟩:=ry;exact rule i j t t' s _ _ hc ⟨.int (g i j),H,I.tok _,⟨_,rfl⟩,q⟩
theorem RR{g:Int->Int->Int}(rule:∀(i j:Int)(t u:Tok)(s:Shared)(Q:Value->Shared->Prop)(E:Value->Shared->Prop),Q (.int (g i j) s.toks) {s with toks:=s.toks+1}->wpAny (model X.prog X.w) X.A (f (.int i t) (.int j u)) Q E s):
 qI X f (xO λi j=> .int (g i j)):=by
 intro ao s σ H x y v u Q I rx ry h;obtain⟨i,j,rfl,rfl,q⟩:=h;obtain⟨t,rfl⟩:=rx;obtain⟨t',rfl⟩:=ry;exact rule i j t t' s _ _ ⟨.int (g i j),H,I.tok _,⟨_,rfl⟩,q⟩
theorem KO{g:Int->Int->Bool}(rule:∀(i j:Int)(t u:Tok)(s:Shared)(Q:Value->Shared->Prop)(E:Value->Shared->Prop),Q (.bool (g i j)) s->wpAny (model X.prog X.w) X.A (f (.int i t) (.int j u)) Q E s):
 qI X f (xO λi j=> .bl (g i j)):=by
 intro ao s σ H x y v u Q I rx ry h;obtain⟨i,j,rfl,rfl,q⟩:=h;obtain⟨t,rfl⟩:=rx;obtain⟨t',rfl⟩:=ry;exact rule i j t t' s _ _ ⟨.bl (g i j),H,I,rfl,q⟩
def OE(i j:Int):Prop:=(-(2 ^ 64)<i/\ i<2 ^ 64)\/ (-(2 ^ 64)<j/\ j<2 ^ 64)
theorem OE.ok{i j:Int}(h:OE i j):IntMulOk i j:=by
 rcases h with⟨h1,h2⟩|⟨h1,h2⟩
 .exact .of_left (intBits_le_64 h1 h2)
 .exact .of_right (intBits_le_64 h1 h2)
theorem bO:qI X (binaryOp .Add) (xO λi j=> .int (i+j)):=RR λ_ _ _ _ _ _ _ q=>add_int q
theorem gm:qI X (binaryOp .Sub) (xO λi j=> .int (i - j)):=RR λ_ _ _ _ _ _ _ q=>sub_int q
theorem OF:qI X (binaryOp .Mult) (rI OE λi j=> .int (i*j)):=Zh λ_ _ _ _ _ _ _ hc q=>mul_int q hc.ok
theorem Zi{f:Value->Sem Value}{g:Int->Int}(rule:∀(i:Int)(t:Tok)(s:Shared)(Q:Value->Shared->Prop)(E:Value->Shared->Prop),Q (.int (g i) s.toks) {s with toks:=s.toks+1}->wpAny (model X.prog X.w) X.A (f (.int i t)) Q E s):
 VS X f (rU λi=> .int (g i)):=by
 intro ao s σ H x v Q I rx h;obtain⟨i,rfl,q⟩:=h;obtain⟨t,rfl⟩:=rx;exact rule i t s _ _ ⟨.int (g i),H,I.tok _,⟨_,rfl⟩,q⟩
theorem pR:VS X (unaryOp .USub) (rU λi=> .int (-i)):=Zi λ_ _ _ _ _ q=>neg_int q
end
def RS:V->V->Bool
 | .eQ, .eQ=>true| .eQ, .int _=>true| .int _, .eQ=>true| .eQ, .bl _=>true| .bl _, .eQ=>true| .eQ, .str _=>true| .str _, .eQ=>true
 | .int _, .int _=>true| .bl _, .bl _=>true| .str _, .str _=>true| .B7 _, .B7 _=>true
 | .int _, .str _=>true| .str _, .int _=>true| .bl _, .str _=>true| .str _, .bl _=>true
 |_,_=>false
inductive RT(x y:V)(H:Hp)(Q:VK):Prop
 |mk (s:RS x y=true) (k:Q (.bl (decide (x=y))) H)
inductive Zj(x y:V)(H:Hp)(Q:VK):Prop
 |mk (s:RS x y=true) (k:Q (.bl (!decide (x=y))) H)
theorem D_{i j:Int}:decide (V.int i=V.int j)=(i==j):=by rw[GP];simp
theorem Hr{i j:Bool}:decide (V.bl i=V.bl j)=(i==j):=by rw[GP];simp
theorem Ea{i j:Str}:decide (V.str i=V.str j)=(i==j):=by rw[GP];simp
theorem Eb{i j:Array UInt8}:decide (V.B7 i=V.B7 j)=(i.toList==j.toList):=by rw[GP];cases i;cases j;simp
variable{QN:CmpOp}{r':R2}
variable{us:List Value}
section
variable{X:Cx}{a b c:Expr}{ta tb tc:TE}{pos:Pos}
theorem cn{Q:VK}{k k':Bool}(I:Inv X ao σ H s)(q:Q (.bl k) H)(e:k=k'):EP X ao σ Q (.bool k') s:=by subst e;exact⟨.bl k,H,I,rfl,q⟩
theorem bw:qI X (compareOp .Eq) RT:=by
 intro ao s σ H x y v u Q I rx ry h;obtain⟨hs,q⟩:=h;cases x with
 |eQ=>
  cases rx;cases y with
  |eQ=>cases ry;exact PySem.EqNone.eq_none_none (cn I q (by simp))
  |bl j=>cases ry;exact PySem.EqNone.eq_none_bool (cn I q (by simp))
  |int j=>obtain⟨t',rfl⟩:=ry;exact PySem.EqNone.eq_none_int (cn I q (by simp))
  |str j=>obtain⟨t',rfl⟩:=ry;exact PySem.EqNone.eq_none_str (cn I q (by simp))
  |_=>exact absurd (show false=true from hs) uT
 |bl i=>
  cases rx;cases y with
  |eQ=>cases ry;exact PySem.EqNone.eq_bool_none (cn I q (by simp))
  |bl j=>cases ry;exact eq_bool (cn I q Hr)
  |str j=>obtain⟨t',rfl⟩:=ry;exact PySem.EqMixed.eq_bool_str (cn I q (by simp))
  |_=>exact absurd (show false=true from hs) uT
 |int i=>
  obtain⟨t,rfl⟩:=rx;cases y with
  |eQ=>cases ry;exact PySem.EqNone.eq_int_none (cn I q (by simp))
  |int j=>obtain⟨t',rfl⟩:=ry;exact eq_int (cn I q D_)
  |str j=>obtain⟨t',rfl⟩:=ry;exact PySem.EqMixed.eq_int_str (cn I q (by simp))
  |_=>exact absurd (show false=true from hs) uT
 |str i=>
  obtain⟨t,rfl⟩:=rx;cases y with
  |eQ=>cases ry;exact PySem.EqNone.eq_str_none (cn I q (by simp))
  |bl j=>cases ry;exact PySem.EqMixed.eq_str_bool (cn I q (by simp))
  |int j=>obtain⟨t',rfl⟩:=ry;exact PySem.EqMixed.eq_str_int (cn I q (by simp))
  |str j=>obtain⟨t',rfl⟩:=ry;exact eq_str (cn I q Ea)
  |_=>exact absurd (show false=true from hs) uT
 |B7 i=>
  obtain⟨t,rfl⟩:=rx;cases y with
  |B7 j=>obtain⟨t',rfl⟩:=ry;exact PySem.W.eq_bytes (cn I q Eb)
  |_=>exact absurd (show false=true from hs) uT
 |_=>cases y<;>exact absurd (show false=true from hs) uT
theorem lG:qI X (compareOp .NotEq) Zj:=by
 intro ao s σ H x y v u Q I rx ry h;obtain⟨hs,q⟩:=h;cases x with
 |eQ=>
  cases rx;cases y with
  |eQ=>cases ry;exact PySem.EqNone.ne_none_none (cn I q (by simp))
  |bl j=>cases ry;exact PySem.EqNone.ne_none_bool (cn I q (by simp))
  |int j=>obtain⟨t',rfl⟩:=ry;exact PySem.EqNone.ne_none_int (cn I q (by simp))
  |str j=>obtain⟨t',rfl⟩:=ry;exact PySem.EqNone.ne_none_str (cn I q (by simp))
  |_=>exact absurd (show false=true from hs) uT
 |bl i=>
  cases rx;cases y with
  |eQ=>cases ry;exact PySem.EqNone.ne_bool_none (cn I q (by simp))
  |bl j=>cases ry;exact ne_bool (cn I q (c_ not Hr))
  |str j=>obtain⟨t',rfl⟩:=ry;exact PySem.EqMixed.ne_bool_str (cn I q (by simp))
  |_=>exact absurd (show false=true from hs) uT
 |int i=>
  obtain⟨t,rfl⟩:=rx;cases y with
  |eQ=>cases ry;exact PySem.EqNone.ne_int_none (cn I q (by simp))
  |int j=>obtain⟨t',rfl⟩:=ry;exact ne_int (cn I q (c_ not D_))
  |str j=>obtain⟨t',rfl⟩:=ry;exact PySem.EqMixed.ne_int_str (cn I q (by simp))
  |_=>exact absurd (show false=true from hs) uT
 |str i=>
  obtain⟨t,rfl⟩:=rx;cases y with
  |eQ=>cases ry;exact PySem.EqNone.ne_str_none (cn I q (by simp))
  |bl j=>cases ry;exact PySem.EqMixed.ne_str_bool (cn I q (by simp))
  |int j=>obtain⟨t',rfl⟩:=ry;exact PySem.EqMixed.ne_str_int (cn I q (by simp))
  |str j=>obtain⟨t',rfl⟩:=ry;exact ne_str (cn I q (c_ not Ea))
  |_=>exact absurd (show false=true from hs) uT
 |B7 i=>
  obtain⟨t,rfl⟩:=rx;cases y with
  |B7 j=>obtain⟨t',rfl⟩:=ry;exact PySem.W.ne_bytes (cn I q (c_ not Eb))
  |_=>exact absurd (show false=true from hs) uT
 |_=>cases y<;>exact absurd (show false=true from hs) uT
theorem g0:qI X (compareOp .Lt) (xO λi j=> .bl (decide (i<j))):=KO λ_ _ _ _ _ _ _ q=>lt_int q
theorem vj:qI X (compareOp .LtE) (xO λi j=> .bl (decide (i<=j))):=KO λ_ _ _ _ _ _ _ q=>le_int q
theorem gK:qI X (compareOp .Gt) (xO λi j=> .bl (decide (j<i))):=KO λ_ _ _ _ _ _ _ q=>gt_int q
theorem nH:qI X (compareOp .GtE) (xO λi j=> .bl (decide (j<=i))):=KO λ_ _ _ _ _ _ _ q=>ge_int q
inductive KP(x y:V)(H:Hp)(Q:VK):Prop
 |mk (s:y= .eQ) (k:Q (.bl (decide (x= .eQ))) H)
inductive RU(x y:V)(H:Hp)(Q:VK):Prop
 |mk (s:y= .eQ) (k:Q (.bl (!decide (x= .eQ))) H)
theorem bC:qI X (compareOp .Is) KP:=by
 intro ao s σ H x y v u Q I rx ry h;obtain⟨rfl,q⟩:=h;cases ry;refine is_none_gen (cn I q ?_);cases x<;>first
  |(cases rx;rfl)
  |(obtain⟨t,rfl⟩:=rx;rfl)
theorem uC:qI X (compareOp .IsNot) RU:=by
 intro ao s σ H x y v u Q I rx ry h;obtain⟨rfl,q⟩:=h;cases ry;refine isnot_none_gen (cn I q ?_);cases x<;>first
  |(cases rx;rfl)
  |(obtain⟨t,rfl⟩:=rx;rfl)
theorem k5(b:Expr)(h:op≠ .In:=by decide)(h2:op≠ .NotIn:=by decide):behindInMarks op b=false:=by
 have e1:(op==CmpOp.In)=false:=by cases op<;>first|rfl|exact absurd rfl h
 have e2:(op==CmpOp.NotIn)=false:=by cases op<;>first|rfl|exact absurd rfl h2
 cases b<;>simp[behindInMarks,e1,e2]
theorem jF{r:R2}(ho:qI X (compareOp op) r)(ha:PE X a ta)(hb:PE X b tb)(hm:behindInMarks op b=false):PE X (.Compare a [op] [b] pos) (qJ r ta tb):=by intro ao s σ H Q I h;exact wpAny_Compare1 (OD ha hb I h λv u s2 x y H2 I2 rx ry q=>ho ao s2 σ H2 x y v u Q I2 rx ry q) hm
def iZ(t:TE):TT:=λσ H Q=>t σ H λx H'=>RG x H' Q
theorem KQ{r:R2}(ho:qI X (compareOp op) r)(ha:PE X a ta)(hb:PE X b tb)(hm:behindInMarks op b=false):PT X (.Compare a [op] [b] pos) (iZ (qJ r ta tb)):=by
 intro ao s σ H Q I h;refine wpAny_isTrue_Compare1 (cD (ha ao s σ H _ I h) λv s1 x H1 I1 r1 q1=>cD (hb ao s1 σ H1 _ I1 q1) λu s2 y H2 I2 r2 q2=>cD (ho ao s2 σ H2 x y v u _ I2 r1 r2 q2) λc s3 z H3 I3 r3 ⟨k,e,q3⟩=>?_) hm
 subst e;cases r3;exact pE ⟨H3,I3,q3⟩
def Hs(r r':R2)(ta tb tc:TE):TE:=λσ H Q=>ta σ H λx H1=>tb σ H1 λy H2=>r x y H2 λz H3=>∃k,z= .bl k/\
 (if k=true then tc σ H3 λw' H4=>r' y w' H4 Q else Q (.bl false) H3)
theorem Ht{r:R2}(ho:qI X (compareOp op) r)(D5:qI X (compareOp QN) r')(ha:PE X a ta)(hb:PE X b tb)(hc:PE X c tc)(hm:lastMarks [op,QN] [b,c]=false:=by with_unfolding_all rfl):PE X (.Compare a [op,QN] [b,c] pos) (Hs r r' ta tb tc):=by
 intro ao s σ H Q I h;refine Compare_chain (cD (ha ao s σ H _ I h) λv s1 x H1 I1 r1 q1=>chain_link (cD (hb ao s1 σ H1 _ I1 q1) λu s2 y H2 I2 r2 q2=>cD (ho ao s2 σ H2 x y v u _ I2 r1 r2 q2) λd s3 z H3 I3 r3 ⟨k,e,q3⟩=>?_)) hm
 subst e;cases r3;refine pE ?_;cases k with
 |false=>exact ite_ff ⟨.bl false,H3,I3,rfl,q3⟩
 |true=>exact ite_tt (chain_last (cD (hc ao s3 σ H3 _ I3 q3) λw' s4 z' H4 I4 r4 q4=>D5 ao s4 σ H4 y z' u w' Q I4 r2 r4 q4))
theorem Aj{r:R2}(ho:qI X (compareOp op) r)(D5:qI X (compareOp QN) r')(ha:PE X a ta)(hb:PE X b tb)(hc:PE X c tc)(hm:lastMarks [op,QN] [b,c]=false:=by with_unfolding_all rfl):PT X (.Compare a [op,QN] [b,c] pos) (iZ (Hs r r' ta tb tc)):=by
 intro ao s σ H Q I h;refine isTrue_chain (cD (ha ao s σ H _ I h) λv s1 x H1 I1 r1 q1=>test_link (cD (hb ao s1 σ H1 _ I1 q1) λu s2 y H2 I2 r2 q2=>cD (ho ao s2 σ H2 x y v u _ I2 r1 r2 q2) λd s3 z H3 I3 r3 ⟨k,e,q3⟩=>?_)) hm
 subst e;cases r3;refine pE ?_;cases k with
 |false=>obtain⟨k',e',q'⟩:=q3;cases e';exact ite_ff ⟨H3,I3,q'⟩
 |true=>refine ite_tt (test_last (cD (hc ao s3 σ H3 _ I3 q3) λw' s4 z' H4 I4 r4 q4=>cD (D5 ao s4 σ H4 y z' u w' _ I4 r2 r4 q4) λd' s5 z2 H5 I5 r5 ⟨k2,e2,q5⟩=>?_));subst e2;cases r5;exact pE ⟨H5,I5,q5⟩
theorem yQ:(sizeLine:Nat)<2 ^ 63:=by rw[nB];decide
inductive RV(x y:V)(H:Hp)(Q:VK):Prop
 |mk (i j:Str) (e:x= .str i) (e2:y= .str j) (z:i.length+j.length<=sizeLine) (k:Q (.str (i++j)) H)
theorem jU:qI X (binaryOp .Add) RV:=by intro ao s σ H x y v u Q I rx ry h;obtain⟨i,j,rfl,rfl,hz,q⟩:=h;obtain⟨t,rfl⟩:=rx;obtain⟨t',rfl⟩:=ry;exact add_str (λt' tk=>⟨.str (i++j),H,I.tok _,⟨_,rfl⟩,q⟩) hz
theorem vals1{x:V}(r:Vals [x] us):∃u,us=[u]/\ RelV x u:=by
 cases r with
 |cons r1 r2=>cases r2;exact⟨_,rfl,r1⟩
inductive RX(xs:List V)(H:Hp)(Q:VK):Prop
 |mk (i:Int) (e:xs=[.int i]) (z:i.natAbs.log2<1920) (k:Q (.str (toString i)) H)
theorem g7:qS X (.type "str") RX:=by intro ao s σ H xs us Q I r h;obtain⟨i,rfl,hz,q⟩:=h;obtain⟨u,rfl,t,rfl⟩:=vals1 r;exact PySem.P.str_of_int hz ⟨.str _,H,I.tok _,⟨_,rfl⟩,q⟩
theorem Hu:qS X (.builtin "ord") (λxs H Q=>∃x,xs=[.str x]/\ x.length=1/\ Q (.int (x.cps.getD 0 0:Nat)) H):=by intro ao s σ H xs us Q I r h;obtain⟨x,rfl,hz,q⟩:=h;obtain⟨u,rfl,t,rfl⟩:=vals1 r;exact ord_of_one hz ⟨.int _,H,I.tok _,⟨_,rfl⟩,q⟩
end
structure Fy(h:Heap)(x dx C:Addr)(mA:Str->Option Value):Prop where
 obj:h.get? x=some (instObj C dx)
 ns:h.Ns1 dx mA
 ne:dx≠x
variable{dx:Addr}{mA:Str->Option Value}
theorem Fz{h:Heap}(n:h.Ns1 dx mA):∃od,h.get? dx=some od/\ ∀name,lookIn name od=some (mA name):=by
 obtain⟨o,es,ep,ho,hd,hk,_,hm⟩:=n;refine⟨o,ho,λname=>?_⟩;have e:=hm name;unfold nsFind findBy at e;rw[<-Array.find?_toList] at e;unfold lookIn;rw[hd];dsimp only;split
 .rename_i y q;rw[q] at e;exact c_ some e
 .rename_i q;rw[q] at e;have a:es.toList.any (·.refKey)=false:=by rw[Fi];intro y hy;obtain⟨z,t,OG⟩:=hk y (Array.mem_toList_iff.mp hy);simp[DictEntry.refKey,OG]
  have a':¬es.toList.any (·.refKey)=true:=by rw[a];exact uT
  rw[ak a'];exact c_ some e
variable{C:Addr}
theorem Fy.look{h:Heap}{x:Addr}(I:Fy h x dx C mA):∃od,PySem.W.InstAt h x (instObj C dx) C (some od)/\ ∀name,lookIn name od=some (mA name):=
 let ⟨od,ho,hl⟩:=Fz I.ns
 ⟨od,⟨I.obj,rfl,rfl,ho⟩,hl⟩
variable{kw:List (Str×Value)}
section
variable{prog:Program}{w:World}{A:Around}{E:Value->Shared->Prop}{s:Shared}{K:Frag}{x dx C f:Addr}{mA:Str->Option Value}{name:Str}{v:Value}
theorem get_map{expr:Bool}(X:K.In s.heap)(I:Fy s.heap x dx C mA)(hg:plainGet K C name=true)(hh:hasDictIn K C=true)(ha:findIn K (.ref C) name=some none)(hv:mA name=some v)(Uw:handedIn v=true)(h:Q v {s with toks:=s.toks+1}):
 wpAny (model prog w) A (getAttr (.ref x) name expr) Q E s:=by
 obtain⟨od,J,hl⟩:=I.look;exact PySem.W.get_value X J (PySem.W.plainGet_of hg).1 (PySem.W.findObj_own hh ha rfl (by rw[hl,hv])) Uw h
theorem KR{ns:List Str}{Q:Unit->Shared->Prop}(X:K.In s.heap)(I:Fy s.heap x dx C mA)(hs:findIn K (.ref C) "__setattr__"=some (some (.builtin "object.__setattr__")))(hp:plainOver K C=true)(ht:takerIn K C name=some none)(hh:hasDictIn K C=true)(hw:PySem.Within mA ns)(hsz:ns.length<=sizeLine)(h:∀h',Fy h' x dx C (λy=>if y=name then some v else mA y)->Heap.SameBut dx s.heap h'->Q () {s with heap:=h',toks:=s.toks+2}):
 wpAny (model prog w) A (setAttr (.ref x) name v) Q E s:=by
 obtain⟨od,J,hl⟩:=I.look;refine PySem.W.set_plain X J hs (PySem.W.osa_open (s:={s with toks:=s.toks+1}) (r:=none) X J hp ht λb=>?_);obtain⟨cd,hc,MS⟩:=PySem.W.any_some hh;have hx:s.heap.get? x=some ⟨.ref C,some dx, .plain,#[]⟩:=I.obj;refine aY (cW (aY (aY (wpAny_loadPart hx (aY (Looks.here (s:={s with toks:=s.toks+1}) (PySem.W.looks_clsIn X hc) ?_))))));rw[MS];refine cW (a:=some dx) (aY (cW (aY ?_)));refine wpAny_nsSet1 (s:={s with toks:=s.toks+1}) I.ns λh' Ak RY=>?_;obtain⟨oD,esD,epD,Zk,Zl,Zm⟩:=Ak.count (PySem.Within.cons name v hw);refine aY (wpAny_lookBehind Zk (by rw[Zl];exact pastItsLine_dict (bp Zm (by rw[cj];lia))) ?_);exact cW (h _ ⟨(RY.2 _ (m5 I.ne)).trans I.obj,Ak,I.ne⟩ RY)
theorem Hv{R:Result->Shared->Prop}{vs:List Value}(X:K.In s.heap)(hm:makesIn K C=true)(hi:findIn K (.ref C) "__init__"=some (some (.ref f)))(hf:typeIn K (.ref f)=some (.type "function"))(h:codeAny (model prog w) (A.under (.builtin "type.__call__" ⟨.ref C::vs,kw⟩)) (.call (.ref f) ⟨.ref (s.heap.objs.size+1)::vs,kw⟩) (PySem.W.InitBack (s.heap.objs.size+1) R)
 {s with heap:=(s.heap.push emptyDict).push (instObj C s.heap.objs.size)}):
 codeAny (model prog w) A (.call (.ref C) ⟨vs,kw⟩) R s:=by
 obtain⟨hh,g,d,t,os⟩:=s;exact PySem.W.make_core (PySem.W.makes_of X hm) (PySem.W.looks_findIn X hi) (λself=>PySem.W.bind_fn X self hf) (.inl rfl) h
end
def eY(f:Str)(v:V):List (Str×V)->List (Str×V)
 |[]=>[(f,v)]
 |(g,x)::r=>if g=f then(g,v)::r else(g,x)::eY f v r
theorem tN(f g:Str)(v:V):∀fs:List (Str×V),(eY f v fs).lookup g=if g=f then some v else fs.lookup g
 |[]=>by
  show List.lookup g [(f,v)]=_;by_cases h:g=f
  .have hb:(g==f)=true:=kx.mpr h;simp only[List.lookup,hb,aq h]
  .have hb:(g==f)=false:=nA.mpr h;simp only[List.lookup,hb,ak h]
 |(k,x)::r=>by
  have ih:=tN f g v r;rw[show eY f v ((k,x)::r)=(if k=f then(k,v)::r else(k,x)::eY f v r) from rfl];by_cases hk:k=f
  .rw[aq hk];by_cases h:g=k
   .have hb:(g==k)=true:=kx.mpr h;simp only[List.lookup,hb,aq (h.trans hk)]
   .have hb:(g==k)=false:=nA.mpr h;simp only[List.lookup,hb,ak (λe:g=f=>h (e.trans hk.symm))]
  .rw[ak hk];by_cases h:g=k
   .have hb:(g==k)=true:=kx.mpr h;simp only[List.lookup,hb,ak (λe:g=f=>hk (h.symm.trans e))]
   .have hb:(g==k)=false:=nA.mpr h;simp only[List.lookup,hb];exact ih
theorem rY(f:Str)(v:V):∀fs:List (Str×V),f∈(eY f v fs).map (·.1)/\ ∀g,g∈fs.map (·.1)->g∈(eY f v fs).map (·.1)
 |[]=>⟨by simp[eY],λg h=>by simp at h⟩
 |(k,x)::r=>by
  obtain⟨i1,i2⟩:=rY f v r;rw[show eY f v ((k,x)::r)=(if k=f then(k,v)::r else(k,x)::eY f v r) from rfl];by_cases hk:k=f
  .rw[aq hk];subst hk;exact⟨by simp,λg h=>by simpa using h⟩
  .rw[ak hk];refine⟨?_,λg h=>?_⟩
   .rw[cy];exact bu _ i1
   .rw[cy] at h⊢;rcases bY.mp h with e|e
    .exact bY.mpr (.inl e)
    .exact bu _ (i2 g e)
theorem tO(f:Str)(v:V):∀fs:List (Str×V),(eY f v fs).length<=fs.length+1
 |[]=>by simp[eY]
 |(k,x)::r=>by
  have ih:=tO f v r;rw[show eY f v ((k,x)::r)=(if k=f then(k,v)::r else(k,x)::eY f v r) from rfl];by_cases hk:k=f
  .rw[aq hk,cj,cj];lia
  .rw[ak hk,cj,cj];lia
theorem pP.some_of{o:Option Value}(r:pP (some v) o):∃u,o=some u/\ RelV v u:=by
 cases o with
 |none=>exact(show False from r).elim
 |some u=>exact⟨u,rfl,r⟩
theorem FA(r:RelV v u):handedIn u=true:=by
 cases v with
 |eQ=>cases(show u=Value.none from r);rfl
 |bl b=>cases(show u=Value.bool b from r);rfl
 |int i=>obtain⟨t,e⟩:=(show∃t,u=Value.int i t from r);cases e;rfl
 |str x=>obtain⟨t,e⟩:=(show∃t,u=Value.str x t from r);cases e;rfl
 |B7 b=>obtain⟨t,e⟩:=(show∃t,u=Value.bytes b t from r);cases e;rfl
 |Ui b=>obtain⟨t,e⟩:=(show∃t,u=Value.float b t from r);cases e;rfl
 |ref a=>cases(show u=Value.ref a from r);rfl
 |ty n=>cases(show u=Value.type n from r);rfl
section
variable{P:Program}{w:World}{H H':Hp}{h h':Heap}{a C dx:Addr}{fs KI:List (Str×V)}
theorem Ec(cu:nu P w H h)(e:H a=some (.ins C dx fs)):∃mA,Fy h a dx C mA/\ (∀f,pP (fs.lookup f) (mA f))/\ PySem.Within mA (fs.map (·.1))/\ fs.length<=1000/\ H dx=some (.own a):=by obtain⟨d,z,ne,ob,mA,n,r,q⟩:=(show dj P w H h a (.ins C dx fs) from cu a _ e);exact⟨mA,⟨ob,n,ne⟩,r,q,z,d⟩
end
structure FC(K:Frag)(C:Addr):Prop where
 pg:plainGet K C Str.empty=true
 hd:hasDictIn K C=true
 po:plainOver K C=true
 sa:findIn K (.ref C) "__setattr__"=some (some (.builtin "object.__setattr__"))
theorem FC.get(c:FC K C)(f:Str):plainGet K C f=true:=c.pg
def eZ(K:Frag)(C:Addr)(f:Str):Prop:=findIn K (.ref C) f=some none
theorem eZ.RZ{f:Str}(n:eZ K C f):takerIn K C f=some none:=by unfold takerIn;rw[show findIn K (.ref C) f=some none from n];rfl
section
variable{X:Cx}{ao:List (Addr×Obj)}{σ:St}{H:Hp}{s:Shared}{a C dx:Addr}{fs:List (Str×V)}{f:Str}{v:V}{A:Around}{E:Value->Shared->Prop}
theorem vk{b:Bool}(I:Inv X ao σ H s)(e:H a=some (.ins C dx fs))(c:FC X.K C)(n:eZ X.K C f)(l:fs.lookup f=some v)(h:∀u s',Inv X ao σ H s'->RelV v u->Q u s'):wpAny (model X.prog X.w) A (getAttr (.ref a) f b) Q E s:=by obtain⟨mA,O,r,_,_,_⟩:=Ec I.cu e;obtain⟨u,hu,ru⟩:=pP.some_of (v:=v) (o:=mA f) (by rw[<-l];exact r f);exact get_map I.GQ O (c.get f) c.hd n hu (FA ru) (h u _ (I.tok _) ru)
theorem vm{y:V}{Q:Unit->Shared->Prop}(I:Inv X ao σ H s)(e:H a=some (.ins C dx fs))(c:FC X.K C)(n:eZ X.K C f)(hl:fs.length<1000)(ry:RelV y u)(h:∀s',Inv X ao σ (upd H a (.ins C dx (eY f y fs))) s'->Q () s'):wpAny (model X.prog X.w) A (setAttr (.ref a) f u) Q E s:=by
 obtain⟨mA,O,r,wi,_,ho⟩:=Ec I.cu e;have hz:(fs.map (·.1)).length<=sizeLine:=by rw[aS,nB];lia
 refine KR I.GQ O c.sa c.po n.RZ c.hd wi hz λh' O' sb=>h _ ?_;have hd:∃o,h'.get? dx=some o:=let ⟨o,_,_,e',_⟩:=O'.ns;⟨o,e'⟩;refine I.write (x:=a) (e:=dx) (by rw[e];exact True.intro) (.inr ho) (λb q hb z=>(sb.2 b hb).trans z) hd ?_;refine⟨by rw[az O.ne];exact ho,?_,O.ne,O'.obj,_,O'.ns,λg=>?_,λg hg=>?_⟩
 .have:=tO f y fs;lia
 .show pP ((eY f y fs).lookup g) (if g=f then some u else mA g);rw[tN];by_cases q:g=f
  .rw[aq q,aq q];exact ry
  .rw[ak q,ak q];exact r g
 .by_cases q:g=f
  .rw[q];exact(rY f y fs).1
  .refine(rY f y fs).2 g (wi g λz=>hg ?_);show(if g=f then some u else mA g)=none;rw[ak q];exact z
theorem Inv.made(I:Inv X ao σ H s):Inv X ao σ (upd (upd H s.heap.objs.size (.own (s.heap.objs.size+1))) (s.heap.objs.size+1) (.ins C s.heap.objs.size []))
 {s with heap:=(s.heap.push emptyDict).push (instObj C s.heap.objs.size)}:=by
 have e1:(s.heap.push emptyDict).get? s.heap.objs.size=some emptyDict:=jD s.heap rfl;have e2:((s.heap.push emptyDict).push (instObj C s.heap.objs.size)).get? (s.heap.objs.size+1)=some (instObj C s.heap.objs.size):=by
  have:=jD (s.heap.push emptyDict) (o:=instObj C s.heap.objs.size) rfl
  rwa [pO] at this
 have e3:(s.heap.push emptyDict).Ns s.heap.objs.size (λ_=>none):=⟨emptyDict,#[],_,e1,rfl,(λe he=>absurd he (by simp)),λ_=>rfl⟩;have I1:=I.laid (a:=s.heap.objs.size) (o:= .own (s.heap.objs.size+1)) (h':=s.heap.push emptyDict) (t':=s.toks) (λb u q=>gq _ q) (aQ _) ⟨_,e1⟩;refine I1.laid (a:=s.heap.objs.size+1) (o:= .ins C s.heap.objs.size []) (t':=s.toks) (λb u q=>gq _ q) (xG (pO _ _)) ?_;have ne:s.heap.objs.size≠s.heap.objs.size+1:=cB (m4 _);refine⟨by rw[az ne,ah],a8 _,ne,e2,λ_=>none,(Heap.Ns1.of_empty e3).at λo q=>gq _ q,λ_=>True.intro,λy hy=>absurd rfl hy⟩
theorem KS{prog:Program}{w:World}{env:Env}{f:Str}{pos:Pos}{s:Shared}(hb:attributeBase e f env (eval e env)=eval e env)(h:wpAny (model prog w) A (eval e env) (λo s₁=>wpAny (model prog w) A (getAttr o f true) Q E s₁) E s):wpAny (model prog w) A (eval (.Attribute e f pos) env) Q E s:=
 Attribute_any_ h (by rw[arm_eval_Attribute,hb])
end
inductive lH(K:Frag)(f:Str)(x:V)(H:Hp)(R:V->Prop):Prop
 |mk (a C dx:Addr) (fs:List (Str×V)) (v:V) (e:x= .ref a) (h:H a=some (.ins C dx fs)) (c:FC K C) (n:eZ K C f) (l:fs.lookup f=some v) (k:R v)
inductive Hw(K:Frag)(f:Str)(x y:V)(H:Hp)(R:Hp->Prop):Prop
 |mk (a C dx:Addr) (fs:List (Str×V)) (e:x= .ref a) (h:H a=some (.ins C dx fs)) (c:FC K C) (n:eZ K C f) (l:fs.length<1000) (k:R (upd H a (.ins C dx (eY f y fs))))
def xr(K:Frag)(ta:TE)(f:Str):TE:=λσ H Q=>ta σ H λx H1=>lH K f x H1 λv=>Q v H1
def R3(K:Frag)(ta tv:TE)(f:Str):TS:=λD σ H=>tv σ H λy H1=>ta σ H1 λx H2=>Hw K f x y H2 λH3=>D.nx σ H3
def R4(X:Cx)(op:Operator)(rd:V->V->Hp->VK->Prop):Prop:=
 ∀(ao:List (Addr×Obj))(s:Shared)(σ:St)(H:Hp)(x y:V)(u v:Value)(Q:VK),Inv X ao σ H s->RelV x u->RelV y v->rd x y H Q->wpAny (model X.prog X.w) X.A (inplaceOp op u v) (EP X ao σ Q) X.xe s
inductive OH(K:Frag)(tv:TE)(rd:V->V->Hp->VK->Prop)(f:Str)(D:Ends)(σ:St)(x:V)(H1:Hp):Prop
 |mk (a C dx:Addr) (fs:List (Str×V)) (v:V) (e:x= .ref a) (h:H1 a=some (.ins C dx fs)) (c:FC K C) (n:eZ K C f) (l:fs.lookup f=some v) (k:tv σ H1 λy H2=>rd v y H2 λz H3=>∃xP KI,H3 a=some (.ins C xP KI)/\ KI.length<1000/\ D.nx σ (upd H3 a (.ins C xP (eY f z KI))))
def KU(K:Frag)(ta tv:TE)(rd:V->V->Hp->VK->Prop)(f:Str):TS:=λD σ H=>ta σ H λx H1=>OH K tv rd f D σ x H1
section
variable{X:Cx}{o e value:Expr}{f:Str}{pos pos' vn:Pos}{ta tv:TE}
theorem aB(he:PE X e ta)(hb:attributeBase e f X.env (eval e X.env)=eval e X.env):PE X (.Attribute e f pos) (xr X.K ta f):=by intro ao s σ H Q I h;refine KS hb (cD (he ao s σ H _ I h) λu s1 x H1 I1 rx ⟨a,C,dx,fs,v,ex,ea,c,n,l,q⟩=>?_);subst ex;obtain rfl:u=Value.ref a:=rx;exact vk I1 ea c n l λu' s2 I2 ru=>⟨v,H1,I2,ru,q⟩
theorem df(ha:PE X o ta)(hv:PE X value tv)(hs:swapsWith value (some (.Attribute o f pos')) pos.line X.env=pure false):PS X (.Assign [.Attribute o f pos'] value pos) (R3 X.K ta tv f):=by intro ao s σ H D I h;refine plainObj_wpAny_Assign_Attribute (cD (hv ao s σ H _ I h) λu s1 y H1 I1 ry q=>cD (ha ao s1 σ H1 _ I1 q) λov s2 x H2 I2 rx ⟨a,C,dx,fs,ex,ea,c,n,l,q2⟩=>?_) hs;subst ex;obtain rfl:ov=Value.ref a:=rx;exact vm I2 ea c n l ry λs3 I3=>⟨σ,_,I3,q2⟩
theorem rZ{op:Operator}{rd:V->V->Hp->VK->Prop}(ha:PE X o ta)(hv:PE X value tv)(VT:R4 X op rd):PS X (.AugAssign (.Attribute o f vn) op value pos) (KU X.K ta tv rd f):=by intro ao s σ H D I h;refine wpAny_AugAssign_AttributeAny (cD (ha ao s σ H _ I h) λov s1 x H1 I1 rx ⟨a,C,dx,fs,v,ex,ea,c,n,l,q⟩=>?_);subst ex;obtain rfl:ov=Value.ref a:=rx;refine vk I1 ea c n l λu s2 I2 ru=>cD (hv ao s2 σ H1 _ I2 q) λw3 s3 y H2 I3 ry q3=>cD (VT ao s3 σ H2 v y u w3 _ I3 ru ry q3) λw4 s4 z H3 I4 rz ⟨xP,KI,Zn,l',q4⟩=>?_;exact vm I4 Zn c n l' rz λs5 I5=>⟨σ,_,I5,q4⟩
inductive VU(x y:V)(H:Hp)(Q:VK):Prop
 |mk (i j:Int) (e:x= .int i) (e2:y= .int j) (k:Q (.int (i+j)) H)
theorem Cm:R4 X .Add VU:=by rintro ao s σ H x y u v Q I rx ry ⟨i,j,rfl,rfl,q⟩;obtain⟨t,rfl⟩:=(show∃t,u=Value.int i t from rx);obtain⟨t',rfl⟩:=(show∃t',v=Value.int j t' from ry);exact PyProof.Rows.iadd_int ⟨.int (i+j),H,I.tok _,⟨_,rfl⟩,q⟩
end
structure fK(k:Nat)(A:Around):Prop where
 hd:A.handled=none
 dp:A.depth+3*k+5<recursionLimit
 un:A.units+16*k+200<cLine
theorem fK.mono{k:Nat}(r:fK k A)(h:j<=k):fK j A:=⟨r.hd,by have:=r.dp;lia,by have:=r.un;lia⟩
theorem fK.deeper{k:Nat}{A:Around}(r:fK (k+1) A)(env:Env):fK k (A.deeper env):=
 ⟨r.hd,by have:=r.dp;show A.depth+1+3*k+5<_;lia,by have:=r.un;show A.units+3+16*k+200<_;lia⟩
theorem fK.in1{k:Nat}{A:Around}(r:fK (k+1) A):fK k A.in1:=
 ⟨r.hd,by have:=r.dp;show A.depth+3*k+5<_;lia,by have:=r.un;show A.units+1+16*k+200<_;lia⟩
theorem Cn:(A.under (.builtin "type.__call__" ⟨.ref C::us,kw⟩)).depth=A.depth+1:=by first|rfl|simp[Around.under,Code.weight,Code.isCreation,Code.isGuard,Code.isCaller,Code.frames,Code.isFrame,guardIds]
theorem Co:(A.under (.builtin "type.__call__" ⟨.ref C::us,kw⟩)).units=A.units+1:=by first|rfl|simp[Around.under,Code.cUnits,Code.frames,Code.isFrame]
theorem fK.make{k:Nat}(r:fK (k+1) A)(C:Addr)(us:List Value)(kw:List (Str×Value)):fK k (A.under (.builtin "type.__call__" ⟨.ref C::us,kw⟩)):=
 ⟨r.hd,by have:=r.dp;rw[Cn];lia,by have:=r.un;rw[Co];lia⟩
theorem fK.depth{k:Nat}{A:Around}(r:fK k A):A.depth<recursionLimit:=by have:=r.dp;lia
theorem fK.units{k:Nat}{A:Around}(r:fK k A):A.units+64<cLine:=by have:=r.un;lia
def k6:TA:=λ_ H Q=>Q [] H
def dk(ta:TE)(tr:TA):TA:=λσ H Q=>ta σ H λx H1=>tr σ H1 λxs H2=>Q (x::xs) H2
section
variable{X:Cx}{e:Expr}{es:List Expr}{te:TE}{t:TA}{pos:Pos}
theorem ag:PA X [] k6:=λ_ _ _ _ H Q I h=>Ks ⟨[],H,I, .nil,h⟩
theorem aa(ha:PE X e te)(hr:PA X es t)(hs:starEach (e::es) X.env=(false,eval e X.env)::starEach es X.env:=by rfl):PA X (e::es) (dk te t):=by intro pos ao s σ H Q I h;rw[hs];show wpAny _ _ (spliced ((false,eval e X.env)::backTo pos (starEach es X.env))) _ _ s;refine GZ (cD (ha ao s σ H _ I h) λu s1 x H1 I1 r1 q1=>?_);exact cD (hr pos ao s1 σ H1 _ I1 q1) λus s2 xs H2 I2 r2 q2=>⟨x::xs,H2,I2, .cons r1 r2,q2⟩
inductive Zo(xs:List V)(H:Hp)(Q:VK):Prop
 |mk (l:xs.length<=sizeLine) (k:∀p,H p=none->Q (.ref p) (upd H p (.tup xs)))
inductive X0(xs:List V)(H:Hp)(Q:VK):Prop
 |mk (l:xs.length<=sizeLine) (k:∀p,H p=none->Q (.ref p) (upd H p (.lst xs)))
def OI(t:TA):TE:=λσ H Q=>t σ H λxs H1=>Zo xs H1 Q
def Cp(t:TA):TE:=λσ H Q=>t σ H λxs H1=>X0 xs H1 Q
theorem md{x1}(h:PA X es t):PE X (.Tuple es x1 pos) (OI t):=by intro ao s σ H Q I hq;refine wpAny_Tuple_spliced (cD (h pos ao s σ H _ I hq) λus s1 xs H1 I1 r ⟨z,q⟩=>⟨by rw[<-r.length];exact z,?_⟩);have hf:H1 s1.heap.objs.size=none:=I1.cu.fresh (aQ _);refine⟨.ref s1.heap.objs.size,upd H1 s1.heap.objs.size (.tup xs),I1.laid (t':=s1.toks) (λb u e=>gq _ e) (aQ _) ?_,rfl,q _ hf⟩;exact⟨z,us,r,⟨_,jD _ rfl,rfl,_,rfl⟩⟩
theorem aL(h:PA X es t):PE X (.List es pos) (Cp t):=by intro ao s σ H Q I hq;refine wpAny_List_spliced (cD (h pos ao s σ H _ I hq) λus s1 xs H1 I1 r ⟨z,q⟩=>⟨by rw[<-r.length];exact z,?_⟩);have hf:H1 s1.heap.objs.size=none:=I1.cu.fresh (aQ _);refine⟨.ref s1.heap.objs.size,upd H1 s1.heap.objs.size (.lst xs),I1.laid (t':=s1.toks) (λb u e=>gq _ e) (aQ _) ?_,rfl,q _ hf⟩;exact⟨z,us,0,r,jD _ rfl⟩
end
abbrev Sp:=List V->Hp->VK->XK->Prop
abbrev KW:=List Env->Hp->Shared->XK->Value->Shared->Prop
structure vo(P:Program)(w:World)(K:Frag)(mg:Str->Option Value)(base:Heap)(A:Around)(outer:List Env)(s:Shared)(H:Hp):Prop where
 frames:A.frames=some outer
 mod:Mod K mg base
 bs:∀b o,base.get? b=some o->s.heap.get? b=some o/\ H b=none
 Ke:base.objs.size<=s.heap.objs.size
 rX:s.heap.FunFrames base outer
 MR:∀b∈Fp outer,H b=none
 cu:nu P w H s.heap
 bare:AllBare s.gens
def CE(outer:List Env)(P:Program)(w:World)(H:Hp)(s:Shared)(Q:VK)(u:Value)(s':Shared):Prop:=
 ∃v H',s'.os=s.os/\ AllBare s'.gens/\ Un (Fp outer) [] H H' s.heap s'.heap/\ nu P w H' s'.heap/\ RelV v u/\ Q v H'
def CR(CX:KW)(outer:List Env)(P:Program)(w:World)(H:Hp)(s:Shared)(Q:VK)(E:XK)(r:Result)(s':Shared):Prop:=
 match r with
 | .ok (.ret u)=>CE outer P w H s Q u s'
 | .ok _=>False
 | .error e=>CX outer H s E e s'
structure k7(P:Program)(w:World)(K:Frag)(mg:Str->Option Value)(base:Heap)(CX:KW)(k:Nat)(f:Addr)(fd:FuncData)(ps:List Str)(sp:Sp):Prop where
 len:∀vs H Q E,sp vs H Q E->vs.length=ps.length
 run:∀(A:Around)(outer:List Env)(s:Shared)(H:Hp)(args:Args)(us:List Value)(vs:List V)(Q:VK)(E:XK),fK k A->vo P w K mg base A outer s H->BindsTo s fd args (ps.zip us)->Vals vs us->sp vs H Q E->
  codeAny (model P w) A (.call (.ref f) args) (CR CX outer P w H s Q E) s
variable{CX:KW}{fd:FuncData}{ps:List Str}{sp:Sp}
theorem k7.imp{w:World}{mg:Str->Option Value}{base:Heap}{k:Nat}{f:Addr}{X1:Sp}(F:k7 P w K mg base CX k f fd ps sp)(h:∀vs H Q E,X1 vs H Q E->sp vs H Q E):k7 P w K mg base CX k f fd ps X1:=
 ⟨λvs H Q E q=>F.len vs H Q E (h _ _ _ _ q),λA outer s H args us vs Q E hr he hb hv hs=>F.run A outer s H args us vs Q E hr he hb hv (h _ _ _ _ hs)⟩
theorem vo.make{w:World}{mg:Str->Option Value}{base:Heap}{outer:List Env}(e:vo P w K mg base A outer s H)(C:Addr)(us:List Value)(kw:List (Str×Value)):
 vo P w K mg base (A.under (.builtin "type.__call__" ⟨.ref C::us,kw⟩)) outer s H:=⟨by first|exact e.frames|(simpa[Around.under,Code.envs,Code.isFrame,pushEnvs] using e.frames),e.mod,e.bs,e.Ke,e.rX,e.MR,e.cu,e.bare⟩
theorem vo.in1{P:Program}{w:World}{K:Frag}{mg:Str->Option Value}{base:Heap}{A:Around}{outer:List Env}{s:Shared}{H:Hp}(e:vo P w K mg base A outer s H):
 vo P w K mg base A.in1 outer s H:=⟨e.frames,e.mod,e.bs,e.Ke,e.rX,e.MR,e.cu,e.bare⟩
section
variable{X:Cx}{ao:List (Addr×Obj)}{σ:St}{H:Hp}{s s':Shared}
theorem Inv.OJ(I:Inv X ao σ H s):vo X.prog X.w X.K X.mg X.base X.A X.stack s H:=
 ⟨I.ok.frames,I.ok.mod,I.bs,bp I.ok.Ke I.sz,I.stack,I.D7,I.cu,I.bare⟩
theorem Inv.after{Q:VK}(I:Inv X ao σ H s)(h:CE X.stack X.prog X.w H s Q u s'):EP X ao σ Q u s':=by obtain⟨v,H',os,bare,un,cu,r,q⟩:=h;obtain⟨hh,g,d,t,Zp⟩:=s';obtain rfl:Zp=s.os:=os;exact⟨v,H',I.call (h':=hh) (g':=g) (d':=d) (t':=t) (ch:=[]) un cu bare (λb z=>absurd z (by simp)),r,q⟩
end
def pF(sp:Sp)(Al:List V)(E:XK)(t:TA):TE:=λσ H Q=>t σ H λvs H1=>sp (vs++Al) H1 Q E
def Ed(C:Addr)(sp:Sp)(Al:List V)(E:XK)(t:TA):TE:=λσ H Q=>t σ H λvs H1=>∀x dx,H1 x=none->H1 dx=none->dx≠x->
 sp (.ref x::(vs++Al)) (upd (upd H1 dx (.own x)) x (.ins C dx [])) (λv H2=>v= .eQ/\ Q (.ref x) H2) E
def Binds(K:Frag)(fd:FuncData)(ps:List Str)(ds:List Value):Prop:=
 ∀(s:Shared)(us:List Value),K.In s.heap->(us++ds).length=ps.length->BindsTo s fd ⟨us,[]⟩ (ps.zip (us++ds))
theorem Binds.all(h:∀us:List Value,us.length=ps.length->bindArgs fd ⟨us,[]⟩=pure (ps.zip us)):Binds K fd ps []:=λs us _ hl=>by rw[pz] at hl⊢;exact .of_eq (h us hl)
def Passes(CX:KW)(X:Cx)(E:XK):Prop:=∀(ao:List (Addr×Obj))(σ:St)(H:Hp)(s:Shared)(e:Value)(s':Shared),Inv X ao σ H s->CX X.stack H s E e s'->X.xe e s'
variable{vs:List V}
section
variable{X:Cx}{CX:KW}{k:Nat}{f C:Addr}{fd:FuncData}{ps:List Str}{sp:Sp}{Al:List V}{ds:List Value}{E:XK}{x m:Str}{p pos apos:Pos}{e o:Expr}{es:List Expr}{ta:TE}{t:TA}
theorem OK{Q:VK}(F:k7 X.prog X.w X.K X.mg X.base CX k f fd ps sp)(hr:fK k X.A)(hb:Binds X.K fd ps ds)(hd:Vals Al ds)(hx:Passes CX X E)(I:Inv X ao σ H s)(r:Vals vs us)(h:sp (vs++Al) H Q E):wpAny (model X.prog X.w) X.A (call (.ref f) us) (EP X ao σ Q) X.xe s:=by
 have r2:Vals (vs++Al) (us++ds):=r.append hd;have hl:(us++ds).length=ps.length:=by rw[<-r2.length];exact F.len _ _ _ _ h
 refine wpAny_call (Af (F.run X.A X.stack s H ⟨us,[]⟩ (us++ds) (vs++Al) Q E hr I.OJ (hb s us I.GQ hl) r2 h) λr s' hq=>?_);cases r with
 |error e=>exact hx ao σ H s e s' I hq
 |ok fl=>
  cases fl with
  |ret u=>exact I.after hq
  |next=>exact False.elim hq
  |brk=>exact False.elim hq
  |cont=>exact False.elim hq
theorem KY(F:k7 X.prog X.w X.K X.mg X.base CX k f fd ps sp)(hr:fK k X.A)(hg:Gl X x)(hm:X.mg x=some (.ref f))(hk:keepIn X.K (.ref f)=true)(hb:Binds X.K fd ps ds)(hd:Vals Al ds)(hx:Passes CX X E)(ha:PA X (e::es) t)(Am:(x==("__debug__":Str))=false:=by decide)(he:starEach (e::es) X.env=(false,eval e X.env)::starEach es X.env:=by rfl)(hpl:(backTo pos (starEach es X.env)).any (·.1)=false:=by rfl):
 PE X (.Call (.Name x p) (e::es) [] pos) (pF sp Al E t):=by
 intro ao s σ H Q I h;refine u_ (uB I hg hm ?_ Am);refine callWith_K (h₀:=X.base) I.ok.mod.Uk hk (cD (ha pos ao s σ H _ I h) λus s1 vs H1 I1 r q=>⟨I1.GQ,?_⟩) he hpl;exact OK F hr hb hd hx I1 r q
structure Mk(K:Frag)(C f:Addr):Prop where
 makes:makesIn K C=true
 init:findIn K (.ref C) "__init__"=some (some (.ref f))
 fn:isFn K (.ref f)=true
 kp:keepIn K (.ref C)=true
theorem An{Q:VK}(M:Mk X.K C f)(F:k7 X.prog X.w X.K X.mg X.base CX k f fd ps sp)(hr:fK (k+1) X.A)(hb:Binds X.K fd ps ds)(hd:Vals Al ds)(hx:Passes CX X E)(I:Inv X ao σ H s)(r:Vals vs us)(h:∀x dx,H x=none->H dx=none->dx≠x->sp (.ref x::(vs++Al)) (upd (upd H dx (.own x)) x (.ins C dx [])) (λv H2=>v= .eQ/\ Q (.ref x) H2) E):
 wpAny (model X.prog X.w) X.A (call (.ref C) us) (EP X ao σ Q) X.xe s:=by
 have hq:=h (s.heap.objs.size+1) s.heap.objs.size (I.cu.fresh (zZ _)) (I.cu.fresh (aQ _)) (cB (m4 _));have I2:=Inv.made (C:=C) I;have r2:Vals (V.ref (s.heap.objs.size+1)::(vs++Al)) (Value.ref (s.heap.objs.size+1)::(us++ds)):= .cons rfl (r.append hd);have hl:(Value.ref (s.heap.objs.size+1)::us++ds).length=ps.length:=by have e:=r2.length;rw[F.len _ _ _ _ hq] at e;exact e.symm
 refine wpAny_call (Hv (f:=f) I.GQ M.makes M.init (kx.mp M.fn) (Af (F.run _ X.stack _ _ ⟨Value.ref (s.heap.objs.size+1)::us,[]⟩ (Value.ref (s.heap.objs.size+1)::(us++ds)) _ _ E (hr.make C us [])
  (I2.OJ.make C us []) (hb _ (Value.ref (s.heap.objs.size+1)::us) I2.GQ hl) r2 hq) λr s' B9=>?_))
 cases r with
 |error e=>exact hx ao σ _ _ e s' I2 B9
 |ok fl=>
  cases fl with
  |ret u=>obtain⟨v,H',I3,rv,ev,q3⟩:=I2.after B9;subst ev;exact⟨rv,⟨V.ref (s.heap.objs.size+1),H',I3,rfl,q3⟩⟩
  |next=>exact False.elim B9
  |brk=>exact False.elim B9
  |cont=>exact False.elim B9
theorem KZ(M:Mk X.K C f)(F:k7 X.prog X.w X.K X.mg X.base CX k f fd ps sp)(hr:fK (k+1) X.A)(hg:Gl X x)(hm:X.mg x=some (.ref C))(hb:Binds X.K fd ps ds)(hd:Vals Al ds)(hx:Passes CX X E)(ha:PA X (e::es) t)(Am:(x==("__debug__":Str))=false:=by decide)(he:starEach (e::es) X.env=(false,eval e X.env)::starEach es X.env:=by rfl)(hpl:(backTo pos (starEach es X.env)).any (·.1)=false:=by rfl):
 PE X (.Call (.Name x p) (e::es) [] pos) (Ed C sp Al E t):=by
 intro ao s σ H Q I h;refine u_ (uB I hg hm ?_ Am);refine callWith_K (h₀:=X.base) I.ok.mod.Uk M.kp (cD (ha pos ao s σ H _ I h) λus s1 vs H1 I1 r q=>⟨I1.GQ,?_⟩) he hpl;exact An M F hr hb hd hx I1 r q
theorem Hx(M:Mk X.K C f)(F:k7 X.prog X.w X.K X.mg X.base CX k f fd ps sp)(hr:fK (k+1) X.A)(hg:Gl X x)(hm:X.mg x=some (.ref C))(hb:Binds X.K fd ps ds)(hd:Vals Al ds)(hx:Passes CX X E)(Am:(x==("__debug__":Str))=false:=by decide):PE X (.Call (.Name x p) [] [] pos) (Ed C sp Al E k6):=by intro ao s σ H Q I h;refine u_ (uB I hg hm ?_ Am);exact PySem.W.callWith_K0 I.GQ M.kp (An (us:=[]) M F hr hb hd hx I .nil h)
end
structure aG(N P:List Str)(sc:Scope):Prop where
 kind:sc.kind= .function
 co:sc.isCoroutine=false
 gen:sc.isGenerator=false
 nd:N.Nodup
 pre:N.take P.length=P
 par:∀x∈P,sc.names.lookup x=some .local\/ sc.names.lookup x=some .cell
 OM:∀y∈sc.names,y.2≠ .free
theorem xQ{kindOf:Str->Option NameKind}{x:Str}:∀{binds:List (Str×Value)}{m:Str->Option Value},(∀v,(x,v)∉binds)->bindL kindOf binds m x=m x
 |[],_,_=>rfl
 |(n,v)::r,m,h=>by
  unfold bindL;rw[xQ λw hw=>h w (bu _ hw)];split
  .have:x≠n:=by rintro rfl;exact h v cb
   simp[this]
  .rfl
theorem xR{kindOf:Str->Option NameKind}{x:Str}:∀{binds:List (Str×Value)}{m:Str->Option Value},(∀v,(x,v)∉binds)->bindC kindOf binds m x=m x
 |[],_,_=>rfl
 |(n,v)::r,m,h=>by
  unfold bindC;rw[xR λw hw=>h w (bu _ hw)];split
  .rfl
  .have:x≠n:=by rintro rfl;exact h v cb
   simp[this]
theorem xS{kindOf:Str->Option NameKind}{x:Str}{v:Value}:∀{P:List Str}{vs:List Value}{i:Nat}{m:Str->Option Value},P.Nodup->P[i]?=some x->vs[i]?=some v->kindOf x=some .local->
 bindL kindOf (P.zip vs) m x=some v
 |[],_,_,_,_,h,_,_=>by simp at h
 |_::_,[],_,_,_,_,h,_=>by simp at h
 |p::P,w::vs,0,m,nd,h1,h2,hk=>by simp at h1 h2;subst h1;subst h2;show bindL kindOf ((p,w)::P.zip vs) m p=_;unfold bindL;rw[xQ λv hv=>(tG.mp nd).1 (DP hv).1,aq hk];simp
 |p::P,w::vs,i+1,m,nd,h1,h2,hk=>by show bindL kindOf ((p,w)::P.zip vs) m x=_;unfold bindL;exact xS (i:=i) (tG.mp nd).2 (by simpa using h1) (by simpa using h2) hk
theorem xT{kindOf:Str->Option NameKind}{x:Str}{v:Value}:∀{P:List Str}{vs:List Value}{i:Nat}{m:Str->Option Value},P.Nodup->P[i]?=some x->vs[i]?=some v->kindOf x≠some .local->
 bindC kindOf (P.zip vs) m x=some v
 |[],_,_,_,_,h,_,_=>by simp at h
 |_::_,[],_,_,_,_,h,_=>by simp at h
 |p::P,w::vs,0,m,nd,h1,h2,hk=>by simp at h1 h2;subst h1;subst h2;show bindC kindOf ((p,w)::P.zip vs) m p=_;unfold bindC;rw[xR λv hv=>(tG.mp nd).1 (DP hv).1,ak hk];simp
 |p::P,w::vs,i+1,m,nd,h1,h2,hk=>by show bindC kindOf ((p,w)::P.zip vs) m x=_;unfold bindC;exact xT (i:=i) (tG.mp nd).2 (by simpa using h1) (by simpa using h2) hk
def start(N:List Str)(vs:List V):St:=vs.map some++List.replicate (N.length - vs.length) none
def vp(CX:KW)(P:Program)(w:World)(K:Frag)(mg:Str->Option Value)(base:Heap)(N:List Str)(qual:Str)(scope:Scope)(f:Addr)(cd:Value)(A:Around)(outer:List Env)(s:Shared)(H:Hp)(E:XK):Cx where
 prog:=P
 w:=w
 K:=K
 mg:=mg
 base:=base
 A:=A.deeper (envOfC qual scope s.heap.objs.size f cd)
 N:=N
 xg:=s
 Ow:=H
 env:=envOfC qual scope s.heap.objs.size f cd
 outer:=outer
 stack:=envOfC qual scope s.heap.objs.size f cd::outer
 ex:=[]
 calm:=true
 fn:=λ_=>true
 pn:=[]
 xe:=λe s'=>wpAny (model P w) (A.deeper (envOfC qual scope s.heap.objs.size f cd)) (leaving (envOfC qual scope s.heap.objs.size f cd) e) (λ_ xt=>CX outer H s E e xt) (λe' xt=>CX outer H s E e' xt) s'
theorem Ao{sc:Scope}{n:Nat}(h:sc.names.lookup x=some .cell):∃c,(cellsFrom n sc.names []).lookup x=some c:=by have q:=cellsFrom_some sc.names n [] (.inl h);exact Hd.mp q
variable{qual:Str}{scope:Scope}
theorem xU{w:World}{mg:Str->Option Value}{base:Heap}{f:Addr}{cd:Value}{outer:List Env}{s1:Shared}{E:XK}(S:aG N ps scope)(hd:A.handled=none)(e0:vo P w K mg base A outer s H)(hl:vs.length=ps.length)(r:Vals vs us)(x:InCallC s s.heap.objs.size (bindL (envOfC qual scope s.heap.objs.size f cd).kindOf (ps.zip us) λ_=>none) (cellsFrom (s.heap.objs.size+1) scope.names []) (bindC (envOfC qual scope s.heap.objs.size f cd).kindOf (ps.zip us) λ_=>none) s1):
 Inv (vp CX P w K mg base N qual scope f cd A outer s H E) [] (start N vs) H s1:=by
 have hpl:ps.length<=N.length:=by have:=c_ List.length S.pre;rw[bg] at this;lia
 obtain⟨h1,tk,rfl,hk⟩:=x.done;have K0:∀b:Addr,b∉(vp CX P w K mg base N qual scope f cd A outer s H E).ex:=λb z=>absurd (show b∈([]:List Addr) from z) (by simp);refine⟨⟨e0.mod,S.kind,rfl,rfl,aQ _,λy z c h1 h2=>?_,λy hy=>?_,λy c _ h=>?_,λ_=>hd,Around.frames_deeper e0.frames, .inr ⟨rfl,rfl⟩,λb z=>absurd z (K0 b),e0.bs,e0.Ke,λb _ _=>K0 b,λb z=>absurd z (K0 b),e0.rX,e0.MR⟩,
  rfl,e0.bare,Un.kept hk,⟨_,x.toInCall.ns,λi y v h1 h2 h3=>?_⟩,λy c h=>⟨_,x.cell y c h⟩,e0.cu.fresh (aQ _),λy c h=>?_,λp hp=>absurd (show p∈([]:List (Addr×Obj)) from hp) (by simp),e0.cu.kept hk,?_⟩
 .exact name_of_addr x.apart (jS h1) (jS h2)
 .have hy:scope.names.lookup y=some .cell\/ scope.names.lookup y=some .free:=hy;rcases hy with hy|hy
  .exact Ao hy
  .exact absurd rfl (S.OM _ (jS hy))
 .exact eX (x.above y c (jS h))
 .have hi:i<vs.length:=by
   unfold start at h2;by_cases hi:i<vs.length
   .exact hi
   .rw[k3 (by simpa using hi)] at h2;rw[List.getElem?_replicate] at h2;split at h2<;>cases h2
  have ha:vs[i]?=some v:=by
   unfold start at h2;rw[nz (by simpa using hi),gW] at h2;cases e:vs[i]? with
   |none=>rw[e] at h2;cases h2
   |some a=>rw[e] at h2;cases h2;rfl
  obtain⟨u,hu,rv⟩:=r.get ha;have hp:ps[i]?=some y:=by rw[<-S.pre,Rt (by lia)];exact h1
  have X2:ps.Nodup:=by rw[<-S.pre];exact S.nd.sublist (zW _ _)
  refine⟨u,rv,?_⟩;rcases S.par y (cI hp) with k|k
  .exact .inl ⟨k,xS X2 hp hu k⟩
  .obtain⟨c,e⟩:=Ao (n:=s.heap.objs.size+1) k;refine .inr ⟨.inl k,c,e,?_⟩;have q:=x.cell y c e;rw[xT X2 hp hu (by show scope.names.lookup y≠_;rw[k];decide)] at q;exact q
 .exact e0.cu.fresh (eX (x.above y c (jS h)))
 .unfold start;show _=N.length;rw[a_,aS,List.length_replicate]
  lia
theorem M3{w:World}{mg:Str->Option Value}{base:Heap}{k:Nat}{f:Addr}{name:Str}{params:Arguments}{dV kV doc pm l_ ct oc:Value}{an od:Option Addr}{Hy:Array (Option Value)}(lk:K.lookup f=some ⟨oc,od, .func (fnOf name qual params body scope dV kV doc pm an l_ ct),Hy⟩)(Hj:codeIn K l_ qual=true)(S:aG N ps scope)(len:∀vs H Q E,sp vs H Q E->vs.length=ps.length)(vq:∀(A:Around)(outer:List Env)(s:Shared)(H:Hp)(vs:List V)(Q:VK)(E:XK),fK k (A.deeper (envOfC qual scope s.heap.objs.size f l_))->sp vs H Q E->
 ∃t,B8 (vp CX P w K mg base N qual scope f l_ A outer s H E) body t/\ t {nx:=λ_ H'=>Q .eQ H',rt:=Q} (start N vs) H):
 k7 P w K mg base CX (k+1) f (fnOf name qual params body scope dV kV doc pm an l_ ct) ps sp:=by
 refine⟨len,λA outer s H args us vs Q E hr e0 hb r B_=>?_⟩;have hl:=len _ _ _ _ B_;have KX:K.In s.heap:=e0.mod.Uk.keeps λb o e=>(e0.bs b o e).1;have lim:s.heap.NoLimit:=e0.mod.nolimit.keeps λb o e=>(e0.bs b o e).1;have Hz:∀y∈ps.zip us,scope.names.lookup y.1=some .local\/ (scope.names.lookup y.1=some .cell/\ ((cellsFrom (s.heap.objs.size+1) scope.names []).lookup y.1).isSome=true):=λ⟨n,v⟩ hy=>by
  rcases S.par n (DP hy).1 with q|q
  .exact .inl q
  .exact .inr ⟨q,cellsFrom_some _ _ _ (.inl q)⟩
 refine codeAny_call_function hr.depth (KX _ _ lk) rfl S.co S.gen rfl (PySem.W.codeRec_of KX Hj) (hb _ _ _ _ ?_);refine wpAny_newFunctionEnv_cells S.kind Hz λenv he s1 x=>?_;subst he;refine⟨lim.keeps x.toInCall.keep,codeAny_func ?_⟩;obtain⟨t,ht,hq⟩:=vq A outer s H vs Q E (hr.deeper _) B_;have I:Inv (vp CX P w K mg base N qual scope f l_ A outer s H E) [] (start N vs) H s1:=xU S hr.hd e0 hl r x;refine iq (ht [] s1 (start N vs) H _ I hq) (λfl s' hs=>?_) λe s' hs=>hs;have fin:∀{σ':St}{H':Hp}{v:V}{u:Value},Inv (vp CX P w K mg base N qual scope f l_ A outer s H E) [] σ' H' s'->RelV v u->Q v H'->CE outer P w H s Q u s':=
  λ{σ' H' v u} J rv q=>⟨v,H',J.os,J.bare,J.base,J.cu,rv,q⟩
 cases fl with
 |ret u=>obtain⟨v,σ',H',J,rv,q⟩:=hs;exact fin J rv q
 |next=>obtain⟨σ',H',J,q⟩:=hs;exact fin (v:=V.eQ) (u:=Value.none) J rfl q
 |brk=>obtain⟨_,_,_,q⟩:=hs;exact False.elim q
 |cont=>obtain⟨_,_,_,q⟩:=hs;exact False.elim q
section
variable{X:Cx}{x:Str}{p pos:Pos}{e:Expr}{es:List Expr}{t:TA}{id T:String}{r:List V->Hp->VK->Prop}
def Ux(r:List V->Hp->VK->Prop)(t:TA):TE:=λσ H Q=>t σ H λvs H1=>r vs H1 Q
theorem fM(hc:qS X (.builtin id) r)(hg:Gl X x)(hm:X.mg x=none)(hv:bootBuiltins x=some (.builtin id))(ha:PA X (e::es) t)(hn:x≠"__name__":=by decide)(Am:(x==("__debug__":Str))=false:=by decide)(he:starEach (e::es) X.env=(false,eval e X.env)::starEach es X.env:=by rfl)(hpl:(backTo pos (starEach es X.env)).any (·.1)=false:=by rfl):PE X (.Call (.Name x p) (e::es) [] pos) (Ux r t):=by intro ao s σ H Q I h;refine u_ (nD I hg hm hv ?_ hn Am);exact PyProof.Rows.callWith_builtin1 (cD (ha pos ao s σ H _ I h) λus s1 vs H1 I1 r1 q1=>hc ao s1 σ H1 vs us Q I1 r1 q1) he hpl
theorem lI(hc:qS X (.type T) r)(hg:Gl X x)(hm:X.mg x=none)(hv:bootBuiltins x=some (.type T))(ha:PA X (e::es) t)(hn:x≠"__name__":=by decide)(Am:(x==("__debug__":Str))=false:=by decide)(he:starEach (e::es) X.env=(false,eval e X.env)::starEach es X.env:=by rfl)(hpl:(backTo pos (starEach es X.env)).any (·.1)=false:=by rfl):PE X (.Call (.Name x p) (e::es) [] pos) (Ux r t):=by intro ao s σ H Q I h;refine u_ (nD I hg hm hv ?_ hn Am);exact xH (cD (ha pos ao s σ H _ I h) λus s1 vs H1 I1 r1 q1=>hc ao s1 σ H1 vs us Q I1 r1 q1) he hpl
end
end L2
namespace HT
open PySem PyProof.Rows
section
variable{prog:Program}{w:World}{A:Around}{E:Value->Shared->Prop}{s:Shared}
def qK(n d:Nat):Option Int->Nat
 |none=>d
 |some v=>if v<0 then(v+(n:Int)).toNat else min v.toNat n
theorem kD(n d k:Nat):qK n d (some (k:Int))=min k n:=by show(if(k:Int)<0 then((k:Int)+(n:Int)).toNat else min (k:Int).toNat n)=min k n;rw[ak (by lia),zO]
end
end HT
namespace L2
open PySem PySem.Spec PyProof.Rows
abbrev TO:=St->Hp->(Option Int->Hp->Prop)->Prop
def PO(X:Cx)(e:Option Expr)(t:TO):Prop:=
 ∀(ao:List (Addr×Obj))(s:Shared)(σ:St)(H:Hp)(Q:Option Int->Hp->Prop),Inv X ao σ H s->t σ H Q->
  wpAny (model X.prog X.w) X.A (evalPart e X.env) (λu s'=>∃o H',Inv X ao σ H' s'/\ IsPart u o/\ Q o H') X.xe s
def K1:TO:=λ_ H Q=>Q none H
inductive R5(x:V)(H:Hp)(Q:Option Int->Hp->Prop):Prop
 |mk (i:Int) (e:x= .int i) (k:Q (some i) H)
def Ap(t:TE):TO:=λσ H Q=>t σ H λx H1=>R5 x H1 Q
theorem intsAre_of{ns:List Int}:∀{us:List Value},Vals (ns.map V.int) us->IntsAre us ns:=by
 induction ns with
 |nil=>intro us r;rw[List.map_nil] at r;cases r;exact .nil
 |cons n ns ih=>
  intro us r;rw[cy] at r;cases r with
  |cons r1 r2=>obtain⟨t,e⟩:=r1;subst e;exact .cons n t (ih r2)
section
variable{X:Cx}{e:Expr}{te:TE}{lo hi:Option Expr}{tl th:TO}{pos p2:Pos}
theorem eR:PO X none K1:=by intro ao s σ H Q I h;rw[evalPart_none];exact cW ⟨none,H,I, .none,h⟩
theorem aW(h:PE X e te):PO X (some e) (Ap te):=by intro ao s σ H Q I hw;rw[evalPart_some];refine cD (h ao s σ H _ I hw) λu s1 x H1 I1 r1 q1=>?_;obtain⟨i,rfl,q⟩:=q1;obtain⟨t,rfl⟩:=r1;exact⟨some i,H1,I1, .int i t,q⟩
def X3(X:Cx)(r:V->Option Int->Option Int->Hp->VK->Prop):Prop:=
 ∀(ao:List (Addr×Obj))(s:Shared)(σ:St)(H:Hp)(x:V)(v vl vu:Value)(lo hi:Option Int)(sl:Addr)(Q:VK),Inv X ao σ H s->RelV x v->s.heap.IsSliceOf sl vl vu .none->IsPart vl lo->IsPart vu hi->r x lo hi H Q->
  ∃T id,typeLookup (.type T) "__getitem__"=pure (some (.builtin id))/\ s.TypeIs v T/\ wpAny (model X.prog X.w) X.A (getItem v (.ref sl)) (EP X ao σ Q) X.xe s
def VV(r:V->Option Int->Option Int->Hp->VK->Prop)(te:TE)(tl th:TO):TE:=λσ H Q=>te σ H λx H1=>tl σ H1 λl H2=>th σ H2 λu H3=>r x l u H3 Q
theorem bh{r:V->Option Int->Option Int->Hp->VK->Prop}(hr:X3 X r)(he:PE X e te)(hl:PO X lo tl)(hu:PO X hi th):PE X (.Subscript e (.Slice lo hi none p2) pos) (VV r te tl th):=by intro ao s σ H Q I h;refine Subscript_ (cD (he ao s σ H _ I h) λv s1 x H1 I1 r1 q1=>?_);refine wpAny_Slice (rP (hl ao s1 σ H1 _ I1 q1) λvl s2 ⟨l,H2,I2,pl,q2⟩=>rP (hu ao s2 σ H2 _ I2 q2) λvu s3 ⟨u,H3,I3,pu,q3⟩=>?_);rw[evalPart_none];refine cW ?_;have I4:Inv X ao σ H3 {s3 with heap:=s3.heap.push {cls:= .type "slice",data:= .fields #[vl,vu, .none]}}:=I3.kept (t':=s3.toks) λb ob q=>gq _ q;obtain⟨T,id,hT,ht,hg⟩:=hr ao {s3 with heap:=s3.heap.push {cls:= .type "slice",data:= .fields #[vl,vu, .none]}} σ H3 x v vl vu l u s3.heap.objs.size Q I4 r1 (Heap.IsSliceOf.new ..) pl pu q3;show wpAny (model X.prog X.w) X.A (subscriptTail e (.Slice lo hi none p2) v (.ref s3.heap.objs.size)) (EP X ao σ Q) X.xe {s3 with heap:=s3.heap.push {cls:= .type "slice",data:= .fields #[vl,vu, .none]}};exact tail_any (ops:=[.ref s3.heap.objs.size,v]) ht hT hg (by with_unfolding_all rfl)
def d5(xs:List V)(lo hi:Option Int):List V:=(xs.drop (HT.qK xs.length 0 lo)).take (HT.qK xs.length xs.length hi - HT.qK xs.length 0 lo)
theorem Aq(xs:List V)(lo hi:Option Int):(d5 xs lo hi).length<=xs.length:=by
 unfold d5;rw[bg,dC]
 lia
end
def K2(n:Nat)(i:Int):Option Nat:=if 0<=i then(if i<n then some i.toNat else none) else if -(n:Int)<=i then some (i+n).toNat else none
def GU{α:Type}(xs:List α)(i:Int):Option α:=(K2 xs.length i).bind λj=>xs[j]?
variable{i:Int}{j:Nat}
theorem K3{n:Nat}(h:K2 n i=some j):seqIndex? i n=some j/\ j<n/\ -(n:Int)<=i/\ i<n:=by
 unfold K2 at h;by_cases h0:0<=i
 .rw[aq h0] at h;by_cases h1:i<n
  .rw[aq h1] at h;have e:i.toNat=j:=di h;exact⟨by rw[seqIndex_of h0 h1,e],by lia,by lia,h1⟩
  .rw[ak h1] at h;cases h
 .rw[ak h0] at h;by_cases h1:-(n:Int)<=i
  .rw[aq h1] at h;have e:(i+n).toNat=j:=di h;exact⟨by rw[seqIndex_neg (by lia) h1,e],by lia,h1,by lia⟩
  .rw[ak h1] at h;cases h
theorem Ee{α:Type}{xs:List α}{v:α}(h:GU xs i=some v):∃j,seqIndex? i xs.length=some j/\ xs[j]?=some v/\ j<xs.length/\ -(xs.length:Int)<=i/\ i<xs.length:=by
 unfold GU at h;cases e:K2 xs.length i with
 |none=>rw[e] at h;cases h
 |some j=>rw[e] at h;obtain⟨h1,h2,h3,h4⟩:=K3 e;exact⟨j,h1,h,h2,h3,h4⟩
theorem bT{α:Type}{xs:List α}{v:α}(h:xs[j]?=some v):GU xs (j:Int)=some v:=by
 have hj:j<xs.length:=(dm.mp h).1;have e:K2 xs.length (j:Int)=some j:=by unfold K2;rw[aq (by lia),aq (by lia)];simp
 unfold GU;rw[e];exact h
theorem HA{α:Type}(xs:List α)(v:α):GU (xs++[v]) (-1)=some v:=by
 have hl:(xs++[v]).length=xs.length+1:=by simp
 have e:K2 (xs++[v]).length (-1)=some xs.length:=by
  unfold K2;rw[hl,ak (by decide),aq (by lia)];congr 1
  lia
 unfold GU;rw[e];show(xs++[v])[xs.length]?=some v;simp
def Ef(b:Expr):Prop:=∀o i,subscripted b false o i=operate [o,i] (getItem o i)
def R6(X:Cx)(r:R2):Prop:=
 ∀(value slice:Expr)(ao:List (Addr×Obj))(s:Shared)(σ:St)(H:Hp)(x y:V)(v u:Value)(Q:VK),Inv X ao σ H s->RelV x v->RelV y u->r x y H Q->
  subscripted slice false v u=operate [v,u] (getItem v u)->wpAny (model X.prog X.w) X.A (subscriptTail value slice v u) (EP X ao σ Q) X.xe s
def R7(X:Cx)(id:String)(r:V->List V->Hp->VK->Prop):Prop:=
 ∀(ao:List (Addr×Obj))(s:Shared)(σ:St)(H:Hp)(x:V)(xs:List V)(v:Value)(us:List Value)(Q:VK),Inv X ao σ H s->RelV x v->Vals xs us->r x xs H Q->
  wpAny (model X.prog X.w) X.A (call (.builtin id) (v::us)) (EP X ao σ Q) X.xe s
variable{A:Around}{s:Shared}{y x:V}{u v:Value}
variable{ao:List (Addr×Obj)}{σ:St}{H:Hp}
section
variable{X:Cx}{a b:Expr}{ta tb:TE}{pos:Pos}
theorem M4{r:R2}(hr:R6 X r)(ha:PE X a ta)(hb:PE X b tb)(hs:Ef b):PE X (.Subscript a b pos) (qJ r ta tb):=by intro ao s σ H Q I h;exact Subscript_ (OD ha hb I h λv u s2 x y H2 I2 rx ry q=>hr a b ao s2 σ H2 x y v u Q I2 rx ry q (hs _ _))
inductive HB(K:Frag)(x y:V)(H:Hp)(R:V->Prop):Prop
 |mk (p:Addr) (xs:List V) (i:Int) (v:V) (e:x= .ref p) (e2:y= .int i) (h:bf K H p xs) (l:GU xs i=some v) (k:R v)
inductive R8(K:Frag)(x y:V)(H:Hp)(R:V->Prop):Prop
 |mk (p:Addr) (xs:List V) (i:Int) (v:V) (e:x= .ref p) (e2:y= .int i) (h:i_ K H p xs) (l:GU xs i=some v) (k:R v)
def FD(K:Frag):R2:=λx y H Q=>HB K x y H λv=>Q v H
def VW(K:Frag):R2:=λx y H Q=>R8 K x y H λv=>Q v H
theorem aJ:R6 X (FD X.K):=by
 intro value slice ao s σ H x y v u Q I rx ry h hs;obtain⟨p,xs,i,z,rfl,rfl,hq,he,q⟩:=h;cases rx;obtain⟨t,rfl⟩:=ry;obtain⟨its,r,pl,hz⟩:=I.list hq;obtain⟨j,h1,h2,h3,h4,h5⟩:=Ee he;obtain⟨w,ew,FE⟩:=r.get h2;have hl:=r.length;have hn:=yQ;have fin:EP X ao σ Q w s:=⟨z,H,I,FE,q⟩;by_cases h0:0<=i
 .have hj:i.toNat=j:=by rw[seqIndex_of h0 h5] at h1;exact di h1
  exact item_listR pl.isList h0 (by lia) (by rw[hj];simpa using ew) fin hs
 .have hj:(i+(its.toArray.size:Int)).toNat=j:=by rw[seqIndex_neg (by lia) h4] at h1;rw[dZ,<-hl];exact di h1
  exact subscriptTail_builtinR (x:=w) pl.isList.typeIs slot_list_getitem.lookup
   (wpAny_getItem_list_neg (Q:=λr s'=>r=w/\ EP X ao σ Q r s') pl.isList (by lia) (by rw[dZ]<;>lia) (by lia) (by rw[hj];simpa using ew) ⟨rfl,fin⟩) hs
theorem dR:R6 X (VW X.K):=by
 intro value slice ao s σ H x y v u Q I rx ry h hs;obtain⟨p,xs,i,z,rfl,rfl,hq,he,q⟩:=h;cases rx;obtain⟨t,rfl⟩:=ry;obtain⟨its,r,pl,hz⟩:=I.tuple hq;obtain⟨j,h1,h2,h3,h4,h5⟩:=Ee he;obtain⟨w,ew,FE⟩:=r.get h2;have hl:=r.length;have hn:=yQ;have fin:EP X ao σ Q w s:=⟨z,H,I,FE,q⟩;exact subscriptTail_builtinR (x:=w) pl.typeIs slot_tuple_getitem.lookup
  (getItem_tuple (j:=j) (Q:=λr s'=>r=w/\ EP X ao σ Q r s') pl (by lia) (by lia) (by rw[dZ,<-hl];exact h1) (by simpa using ew) ⟨rfl,fin⟩) hs
theorem yR(lo hi:Option Int)(n:Nat):(sliceBounds lo hi none n).1=((HT.qK n 0 lo:Nat):Int)/\ (sliceBounds lo hi none n).2.1=((HT.qK n n hi:Nat):Int)/\ (sliceBounds lo hi none n).2.2=1:=by
 refine⟨?_,?_,rfl⟩
 .cases lo with
  |none=>simp[sliceBounds,HT.qK]
  |some i=>
   simp only[sliceBounds,HT.qK,Hc,show(1:Int)>0 by decide,m8];by_cases h:i<0
   .simp only[h,m8]<;>lia
   .simp only[h,m7]<;>lia
 .cases hi with
  |none=>simp[sliceBounds,HT.qK]
  |some i=>
   simp only[sliceBounds,HT.qK,Hc,show(1:Int)>0 by decide,m8];by_cases h:i<0
   .simp only[h,m8]<;>lia
   .simp only[h,m7]<;>lia
theorem xu(its:List Value)(lo hi:Option Int):slicePick its.toArray lo hi none=((its.drop (HT.qK its.length 0 lo)).take (HT.qK its.length its.length hi - HT.qK its.length 0 lo)).toArray:=by obtain⟨h1,h2,h3⟩:=yR lo hi its.toArray.size;unfold slicePick;rw[h1,h2,h3];simp only[sliceRange_one,pick_run,dZ]<;>rfl
inductive ON(K:Frag)(x:V)(lo hi:Option Int)(H:Hp)(Q:VK):Prop
 |mk (a:Addr) (xs:List V) (e:x= .ref a) (h:bf K H a xs) (k:∀p,H p=none->Q (.ref p) (upd H p (.lst (d5 xs lo hi))))
theorem bz:X3 X (ON X.K):=by intro ao s σ H x v vl vu lo hi sl Q I rx hs pl pu h;obtain⟨a,xs,rfl,hx,q⟩:=h;cases rx;obtain⟨its,r,ht,hz⟩:=I.list hx;have hlen:=r.length;refine⟨"list",_,slot_list_getitem.lookup,ht.isList.typeIs,?_⟩;refine wpAny_getItem_list_slice ht.isList hs pl pu .none (by simp) ?_ (by rw[dZ]<;>lia);rw[xu,<-hlen];refine⟨.ref s.heap.objs.size,_,I.laid (t':=s.toks) (o:= .lst (d5 xs lo hi)) (λb ob q=>gq _ q) (aQ _) ?_,rfl,q _ (I.cu.fresh (aQ _))⟩;exact⟨bp (Aq xs lo hi) hz,_,0,(r.drop (HT.qK xs.length 0 lo)).take (HT.qK xs.length xs.length hi - HT.qK xs.length 0 lo),jD _ rfl⟩
def lK:V->Bool
 | .eQ=>true
 | .bl _=>true
 | .int _=>true
 | .str _=>true
 |_=>false
def Kg:V->V->Bool
 | .eQ, .eQ=>true
 | .bl a, .bl b=>a==b
 | .bl a, .int b=>(if a then 1 else 0)==b
 | .int a, .bl b=>a==(if b then 1 else 0)
 | .int a, .int b=>a==b
 | .str a, .str b=>a==b
 |_,_=>false
theorem OP(ry:RelV y u)(rx:RelV x v)(fy:lK y=true)(fx:lK x=true):SeqAt.EqAt A s u v (Kg y x):=by
 cases y with
 |eQ=>
  cases ry;cases x with
  |eQ=>cases rx;exact SeqAt.EqAt.same _
  |bl b=>cases rx;exact SeqAt.EqAt.none_bool b
  |int b=>obtain⟨t,rfl⟩:=rx;exact SeqAt.EqAt.none_int b t
  |str b=>obtain⟨t,rfl⟩:=rx;exact SeqAt.EqAt.none_str b t
  |_=>exact absurd (show false=true from fx) uT
 |bl a=>
  cases ry;cases x with
  |eQ=>cases rx;exact SeqAt.EqAt.bool_none a
  |bl b=>cases rx;exact SeqAt.EqAt.bool_bool a b
  |int b=>obtain⟨t,rfl⟩:=rx;exact SeqAt.EqAt.bool_int a b t
  |str b=>obtain⟨t,rfl⟩:=rx;exact SeqAt.EqAt.bool_str a b t
  |_=>exact absurd (show false=true from fx) uT
 |int a=>
  obtain⟨t',rfl⟩:=ry;cases x with
  |eQ=>cases rx;exact SeqAt.EqAt.int_none a t'
  |bl b=>cases rx;exact SeqAt.EqAt.int_bool a t' b
  |int b=>obtain⟨t,rfl⟩:=rx;exact SeqAt.EqAt.int_int a t' b t
  |str b=>obtain⟨t,rfl⟩:=rx;exact SeqAt.EqAt.int_str a t' b t
  |_=>exact absurd (show false=true from fx) uT
 |str a=>
  obtain⟨t',rfl⟩:=ry;cases x with
  |eQ=>cases rx;exact SeqAt.EqAt.str_none a t'
  |bl b=>cases rx;exact SeqAt.EqAt.str_bool a t' b
  |int b=>obtain⟨t,rfl⟩:=rx;exact SeqAt.EqAt.str_int a t' b t
  |str b=>obtain⟨t,rfl⟩:=rx;exact SeqAt.EqAt.str_str a t' b t
  |_=>exact absurd (show false=true from fx) uT
 |_=>exact absurd (show false=true from fy) uT
def B'(x:V)(u:Value):Bool:=match u with
 | .none=>Kg .eQ x
 | .bool b=>Kg (.bl b) x
 | .int i _=>Kg (.int i) x
 | .str z _=>Kg (.str z) x
 |_=>false
theorem yS(r:RelV y u)(f:lK y=true):B' x u=Kg y x:=by
 cases y with
 |eQ=>cases r;rfl
 |bl b=>cases r;rfl
 |int i=>obtain⟨t,rfl⟩:=r;rfl
 |str z=>obtain⟨t,rfl⟩:=r;rfl
 |_=>exact absurd (show false=true from f) uT
theorem qT{x:V}:∀{xs:List V}{us:List Value},Vals xs us->xs.all lK=true->us.any (B' x)=xs.any λy=>Kg y x
 |_,_, .nil,_=>rfl
 |y::xs,u::us, .cons r t,f=>by rw[Ku,uA] at f;rw[uU,uU,yS r f.1,qT t f.2]
theorem lL{A:Around}{s:Shared}{x:V}{v:Value}(rx:RelV x v)(fx:lK x=true):∀{xs:List V}{us:List Value},Vals xs us->xs.all lK=true->∀u∈us,SeqAt.EqAt A s u v (B' x u)
 |_,_, .nil,_=>λu hu=>by cases hu
 |y::xs,u::us, .cons r t,f=>λu' hu=>by
  rw[Ku,uA] at f;rcases bY.mp hu with rfl|hu
  .rw[yS r f.1];exact OP r rx f.1 fx
  .exact lL rx fx t f.2 u' hu
def R9(x:V)(xs:List V):Bool:=xs.any λy=>Kg y x
inductive Uy(K:Frag)(neg:Bool)(x y:V)(H:Hp)(Q:VK):Prop
 |mk (p:Addr) (xs:List V) (e:y= .ref p) (h:bf K H p xs\/ i_ K H p xs) (f:lK x=true) (g:xs.all lK=true) (k:Q (.bl (if neg then !R9 x xs else R9 x xs)) H)
theorem FF:qI X (compareOp .In) (Uy X.K false):=by
 intro ao s σ H x y v u Q I rx ry h;obtain⟨p,xs,rfl,hq,fx,fs,q⟩:=h;cases ry;rcases hq with hq|hq
 .obtain⟨its,r,pl,hz⟩:=I.list hq;refine SeqAt.in_listAt (B' x) pl.isList (λw hw=>lL rx fx r fs w (by simpa using hw)) ⟨.bl _,H,I,rfl,?_⟩;rw[show its.toArray.any (B' x)=its.any (B' x) by simp,qT r fs];exact q
 .obtain⟨its,r,pl,hz⟩:=I.tuple hq;refine SeqAt.in_tupleAt (B' x) pl (λw hw=>lL rx fx r fs w (by simpa using hw)) ⟨.bl _,H,I,rfl,?_⟩;rw[show its.toArray.any (B' x)=its.any (B' x) by simp,qT r fs];exact q
theorem yT:qI X (compareOp .NotIn) (Uy X.K true):=by
 intro ao s σ H x y v u Q I rx ry h;obtain⟨p,xs,rfl,hq,fx,fs,q⟩:=h;cases ry;rcases hq with hq|hq
 .obtain⟨its,r,pl,hz⟩:=I.list hq;refine SeqAt.notIn_listAt (B' x) pl.isList (λw hw=>lL rx fx r fs w (by simpa using hw)) ⟨.bl _,H,I,rfl,?_⟩;rw[show its.toArray.any (B' x)=its.any (B' x) by simp,qT r fs];exact q
 .obtain⟨its,r,pl,hz⟩:=I.tuple hq;refine SeqAt.notIn_tupleAt (B' x) pl (λw hw=>lL rx fx r fs w (by simpa using hw)) ⟨.bl _,H,I,rfl,?_⟩;rw[show its.toArray.any (B' x)=its.any (B' x) by simp,qT r fs];exact q
inductive K4(K:Frag)(xs:List V)(H:Hp)(Q:VK):Prop
 |mk (p:Addr) (ys:List V) (e:xs=[.ref p]) (h:bf K H p ys\/ i_ K H p ys) (k:Q (.int ys.length) H)
theorem qU:qS X (.builtin "len") (K4 X.K):=by
 intro ao s σ H xs us Q I r h;obtain⟨p,ys,rfl,hq,q⟩:=h;obtain⟨u,rfl,rx⟩:=vals1 r;cases rx;have hn:=yQ;rcases hq with hq|hq
 .obtain⟨its,r',pl,hz⟩:=I.list hq;have hlen:=r'.length;exact Calls.call_len_list pl.isList (by simp only[dZ]<;>lia) ⟨.int ys.length,H,I.tok _,⟨s.toks+1,by rw[dZ,hlen]⟩,q⟩
 .obtain⟨its,r',pl,hz⟩:=I.tuple hq;have hlen:=r'.length;exact len_tuple pl (by simp only[dZ]<;>lia) ⟨.int ys.length,H,I.tok _,⟨s.toks+1,by rw[dZ,hlen]⟩,q⟩
theorem me:qS X (.builtin "len") (λxs H Q=>∃z,xs=[.str z]/\ z.length<=sizeLine/\ Q (.int z.length) H):=by intro ao s σ H xs us Q I r h;obtain⟨z,rfl,hz,q⟩:=h;obtain⟨u,rfl,t,rfl⟩:=vals1 r;have hn:=yQ;exact len_str (by lia) ⟨.int z.length,H,I.tok _,⟨_,rfl⟩,q⟩
def VX(K:Frag)(T:String)(x:V)(H:Hp):Prop:=match x with
 | .str _=>T="str"
 | .int _=>T="int"
 | .ref p=>(T="list"/\ ∃xs,bf K H p xs)\/ (T="tuple"/\ ∃o,K.lookup p=some o/\ o.cls= .type "tuple"/\ o.dict=none)\/
  (T="dict"/\ ((∃a6,H p=some (.dK a6))\/ ∃a6,H p=some (.dT a6)))\/ (T="set"/\ ∃S n,H p=some (.set S n))
 |_=>False
theorem HC{T:String}(I:Inv X ao σ H s)(r:RelV x v)(ty:VX X.K T x H):
 s.TypeIs v T/\ ∀a,v= .ref a->∃ob,s.heap.get? a=some ob/\ ob.dict=none:=by
 cases x with
 |str z=>obtain⟨t,rfl⟩:=r;cases(show T="str" from ty);exact⟨typeIs_str s z t,λ_ e=>nomatch e⟩
 |int i=>obtain⟨t,rfl⟩:=r;cases(show T="int" from ty);exact⟨typeIs_int s i t,λ_ e=>nomatch e⟩
 |ref p=>
  cases r;rcases ty with⟨rfl,xs,hq⟩|⟨rfl,o,hk,hc,hd⟩|⟨rfl,hk⟩|⟨rfl,S,n,hk⟩
  .obtain⟨its,_,pl,_⟩:=I.list hq;refine⟨pl.isList.typeIs,λa e=>?_⟩;cases e;obtain⟨o,n,e,c,hd,_⟩:=pl;exact⟨o,e,hd⟩
  .refine⟨⟨o,I.GQ p o hk,hc⟩,λa e=>?_⟩;cases e;exact⟨o,I.GQ _ o hk,hd⟩
  .have z:∃o,s.heap.get? p=some o/\ o.ExactDict:=by
    rcases hk with⟨a6,hk⟩|⟨a6,hk⟩
    .obtain⟨_,_,_,_,o,_,_,e,ex,_⟩:=I.cu p _ hk;exact⟨o,e,ex⟩
    .obtain⟨_,_,_,_,o,_,_,e,ex,_⟩:=I.cu p _ hk;exact⟨o,e,ex⟩
   obtain⟨o,e,ex⟩:=z;refine⟨⟨o,e,ex.1⟩,λa e2=>?_⟩;cases e2;exact⟨o,e,ex.2.1⟩
  .obtain⟨o,_,_,_,e,ex,_⟩:=I.cu p _ hk;refine⟨⟨o,e,ex.1⟩,λa e2=>?_⟩;cases e2;exact⟨o,e,ex.2.1⟩
 |_=>exact False.elim ty
def VY(K:Frag)(T:String)(r:V->List V->Hp->VK->Prop)(to:TE):TE:=λσ H Q=>to σ H λx H1=>VX K T x H1/\ r x [] H1 Q
inductive VZ(K:Frag)(T:String)(r:V->List V->Hp->VK->Prop)(t:TA)(σ:St)(x:V)(H:Hp)(Q:VK):Prop
 |mk (h:VX K T x H) (k:t σ H λxs H2=>r x xs H2 Q)
def V0(K:Frag)(T:String)(r:V->List V->Hp->VK->Prop)(to:TE)(t:TA):TE:=λσ H Q=>to σ H λx H1=>VZ K T r t σ x H1 Q
variable{o e:Expr}{es:List Expr}{to:TE}{t:TA}{name:Str}{apos k8:Pos}{T id:String}{r:V->List V->Hp->VK->Prop}
theorem OQ(pa:PlainAttrs T)(slot:Slot T name id)(M5:typeOf (.builtin id)=pure (.type "method_descriptor"))(hm:R7 X id r)(ho:PE X o to)(qV:attributeBase o name X.env (eval o X.env)=eval o X.env:=by rfl)(qW:(apos.endLine==k8.line)=true:=by rfl):PE X (.Call (.Attribute o name apos) [] [] k8) (VY X.K T r to):=by intro ao s σ H Q I h;refine wpAny_Call_method0_late qV qW (cD (ho ao s σ H _ I h) λv s1 x H1 I1 r1 ⟨ty,q1⟩=>?_);obtain⟨h1,h2⟩:=HC I1 r1 ty;exact⟨T,id,pa,slot,M5,h1,h2,Kr rfl (PySem.evalArgs_none (hm ao s1 σ H1 x [] v [] Q I1 r1 .nil q1))⟩
theorem e_(pa:PlainAttrs T)(slot:Slot T name id)(M5:typeOf (.builtin id)=pure (.type "method_descriptor"))(hm:R7 X id r)(ho:PE X o to)(ha:PA X (e::es) t)(qV:attributeBase o name X.env (eval o X.env)=eval o X.env:=by rfl)(V1:((backTo k8 (starEach (e::es) X.env)).all (λx=> !x.1)&&(backToKw k8 (keywordEach [] X.env)).all (λx=>x.1.isSome)
 &&decide ((e::es).length+([]:List Keyword).length+(if([]:List Keyword).isEmpty then 0 else 1)<30))=true:=by rfl)(qW:(apos.endLine==k8.line)=true:=by rfl)(hs:starEach (e::es) X.env=(false,eval e X.env)::starEach es X.env:=by rfl)(OR:(backTo k8 (starEach es X.env)).any (·.1)=false:=by rfl):
 PE X (.Call (.Attribute o name apos) (e::es) [] k8) (V0 X.K T r to t):=by
 intro ao s σ H Q I h;refine wpAny_Call_method_late qV V1 qW rfl (cD (ho ao s σ H _ I h) λv s1 x H1 I1 r1 ⟨ty,q1⟩=>?_);obtain⟨h1,h2⟩:=HC I1 r1 ty;refine⟨T,id,pa,slot,M5,h1,h2,?_⟩;have hA:=ha k8 ao s1 σ H1 _ I1 q1;rw[hs] at hA⊢;refine Kr (by show(false||(backTo k8 (starEach es X.env)).any (·.1))=false;rw[OR]<;>rfl) (NW ?_);exact rP hA λus s2 ⟨vs,H2,I2,r2,q2⟩=>hm ao s2 σ H2 x vs v us Q I2 r1 r2 q2
end
def V2(X:Cx)(id:String)(r:V->List V->Hp->VK->Prop):Prop:=
 ∀(ao:List (Addr×Obj))(s:Shared)(σ:St)(H:Hp)(x:V)(xs:List V)(v:Value)(us:List Value)(Q:VK),Inv X ao σ H s->RelV x v->Vals xs us->r x xs H Q->
  wpAny (model X.prog X.w) X.A (call (.builtin id) (v::us)) (EP X ao σ Q) X.xe s
theorem Vals.one:∀{x:V}{us:List Value},Vals [x] us->∃u,us=[u]/\ RelV x u
 |_,_, .cons r .nil=>⟨_,rfl,r⟩
theorem Vals.zero:∀{us:List Value},Vals [] us->us=[]
 |_, .nil=>rfl
theorem Vals.dropLast{xs:List V}{us:List Value}(h:Vals xs us):Vals xs.dropLast us.dropLast:=by
 induction h with
 |nil=>exact .nil
 |cons r t ih=>
  cases t with
  |nil=>exact .nil
  |cons q t'=>exact .cons r ih
theorem Vals.reverse{xs:List V}{us:List Value}(h:Vals xs us):Vals xs.reverse us.reverse:=by
 induction h with
 |nil=>exact .nil
 |cons r t ih=>rw[u0,u0];exact Vals.append ih (.cons r .nil)
theorem Cq{α:Type}(l:List α):l.eraseIdx (l.length - 1)=l.dropLast:=by
 induction l with
 |nil=>rfl
 |cons a r ih=>
  cases r with
  |nil=>rfl
  |cons b r=>
   have e:(a::b::r).length - 1=((b::r).length - 1)+1:=by
    have h1:(a::b::r).length=r.length+2:=rfl;have h2:(b::r).length=r.length+1:=rfl
    lia
   rw[e,List.eraseIdx_cons_succ,ih]
   all_goals rfl
variable{its:List Value}{t':Nat}
section
variable{X:Cx}{ao:List (Addr×Obj)}{σ:St}{H:Hp}{s:Shared}{l b:Addr}{xs ys zs:List V}
theorem Inv.OS{its':List Value}{n:Nat}{f:Array Value->Array Value}(I:Inv X ao σ H s)(hH:H l=some (.lst xs))(e:s.heap.get? l=some {cls:= .type "list",data:= .seq its.toArray n})(hf:f its.toArray=its'.toArray)(hv:Vals ys its')(hz:ys.length<=sizeLine):
 Inv X ao σ (upd H l (.lst ys)) {s with heap:=s.heap.update l (Obj.mapSeq f),toks:=t'}:=by
 have q:=PySem.IsL.update e f;rw[hf] at q;refine I.write (x:=l) (e:=l) (by rw[hH];exact trivial) (.inl rfl) (λb' u hb hu=>(Heap.get?_update_other s.heap (Obj.mapSeq f) (m5 hb)).trans hu) ⟨_,q⟩ ?_;exact⟨hz,its',_,hv,q⟩
theorem Inv.V3(I:Inv X ao σ H s)(hv:Vals ys its)(hz:ys.length<=sizeLine):
 Inv X ao σ (upd H s.heap.objs.size (.lst ys)) {s with heap:=s.heap.push {cls:= .type "list",data:= .seq its.toArray},toks:=t'}:=
 I.laid (λ_ _ q=>gq _ q) (aQ _) ⟨hz,its,0,hv,jD _ rfl⟩
theorem Inv.fresh(I:Inv X ao σ H s):H s.heap.objs.size=none:=I.cu.fresh (aQ _)
theorem Inv.FG(I:Inv X ao σ H s)(hH:H l=some (.lst xs)):xs.length<=sizeLine/\ ∃(its:List Value)(n:Nat),Vals xs its/\ xs.length=its.length/\ s.heap.get? l=some {cls:= .type "list",data:= .seq its.toArray n}:=by obtain⟨z,its,n,r,e⟩:=I.cu l _ hH;exact⟨z,its,n,r,r.length,e⟩
theorem HD{n:Nat}(h:n<=sizeLine):Builtin.List.listTooLong n=false:=by unfold Builtin.List.listTooLong;exact cP (by lia)
end
section
variable{X:Cx}
inductive Eg(x:V)(vs:List V)(H:Hp)(Q:VK):Prop
 |mk (l:Addr) (xs:List V) (y:V) (e:x= .ref l) (e2:vs=[y]) (h:H l=some (.lst xs)) (z:xs.length<sizeLine) (k:Q .eQ (upd H l (.lst (xs++[y]))))
theorem cw:V2 X "list.append" Eg:=by
 intro ao s σ H x vs v us Q I rx rv h;obtain⟨l,xs,y,rfl,rfl,hH,hz,q⟩:=h;cases rx;obtain⟨u,rfl,ru⟩:=rv.one;obtain⟨z,its,n,r,hl,e⟩:=I.FG hH;refine Ae F.slot_list_append ⟨_,e,rfl⟩ F.entry_list_append (F.args_list_append_2 _ _) (PySem.list_append l its.toArray n u (by rw[dZ];lia)) ⟨e,?_⟩;refine⟨.eQ,_,I.OS (its':=its++[u]) hH e (by simp) (r.append (.cons ru .nil)) ?_,rfl,q⟩;rw[a_,List.length_singleton]
 lia
inductive Eh(x:V)(vs:List V)(H:Hp)(Q:VK):Prop
 |mk (l b:Addr) (xs zs:List V) (e:x= .ref l) (e2:vs=[.ref b]) (h:H l=some (.lst xs)) (h2:H b=some (.lst zs)) (z:xs.length+zs.length<=sizeLine) (k:Q .eQ (upd H l (.lst (xs++zs))))
theorem fY:V2 X "list.extend" Eh:=by
 intro ao s σ H x vs v us Q I rx rv h;obtain⟨l,b,xs,zs,rfl,rfl,hH,hB,hz,q⟩:=h;cases rx;obtain⟨u,rfl,ru⟩:=rv.one;cases ru;obtain⟨z,its,n,r,hl,e⟩:=I.FG hH;obtain⟨z2,ja,n2,r2,Ca,e2⟩:=I.FG hB;have hsz:its.toArray.size+ja.toArray.size<=sizeLine:=by rw[dZ,dZ];lia
 have R_:¬(!its.toArray.isEmpty&&Builtin.List.listTooLong (its.toArray.size+ja.toArray.size))=true:=by rw[HD hsz,Bool.and_false];exact uT
 refine Ae F.slot_list_extend ⟨_,e,rfl⟩ F.entry_list_extend (F.args_list_extend_2 _ _)
  (AutoSeq1.list_extend_list_list_0 l its.toArray n b ja.toArray n2 R_ (by rw[dZ];lia) (by lia)) ⟨e,e2,?_⟩
 refine⟨.eQ,_,I.OS (its':=its++ja) hH e (by simp) (r.append r2) ?_,rfl,q⟩;rw[a_]
 lia
def V4:V->List V->Hp->VK->Prop:=λx vs H Q=>∃l xs y,x= .ref l/\ vs=[]/\ H l=some (.lst xs)/\ xs[xs.length - 1]?=some y/\ Q y (upd H l (.lst xs.dropLast))
theorem OT:V2 X "list.pop" V4:=by
 intro ao s σ H x vs v us Q I rx rv h;obtain⟨l,xs,y,rfl,rfl,hH,hy,q⟩:=h;cases rx;have OU:=rv.zero;subst OU;obtain⟨z,its,n,r,hl,e⟩:=I.FG hH;obtain⟨u,hu,ru⟩:=r.get hy;have Sa:its.toArray[its.toArray.size - 1]?=some u:=by show its.toArray[its.length - 1]?=some u;rw[<-Array.getElem?_toList,<-hl];exact hu
 refine Ae F.slot_list_pop ⟨_,e,rfl⟩ F.entry_list_pop (F.args_list_pop_1 _) (MeetsSeq.list_pop_last l its.toArray n u Sa (by rw[dZ];lia)) ⟨e,?_⟩;refine⟨y,_,I.OS (its':=its.dropLast) hH e ?_ r.dropLast ?_,ru,q⟩
 .show its.toArray.eraseIdxIfInBounds (its.toArray.size - 1)=its.dropLast.toArray;rw[dZ,List.eraseIdxIfInBounds_toArray,Cq]
 .rw[G5]
  lia
inductive V5(x y:V)(H:Hp)(Q:VK):Prop
 |mk (l b:Addr) (xs zs:List V) (e:x= .ref l) (e2:y= .ref b) (h:H l=some (.lst xs)) (h2:H b=some (.lst zs)) (z:xs.length+zs.length<=sizeLine) (k:∀p,H p=none->Q (.ref p) (upd H p (.lst (xs++zs))))
theorem g8:qI X (binaryOp .Add) V5:=by
 intro ao s σ H x y v u Q I rx ry h;obtain⟨l,b,xs,zs,rfl,rfl,hH,hB,hz,q⟩:=h;cases rx;cases ry;obtain⟨z,its,n,r,hl,e⟩:=I.FG hH;obtain⟨z2,ja,n2,r2,Ca,e2⟩:=I.FG hB;refine PySem.P.add_list e e2 ?_ (by rw[dZ,dZ];lia);have ea:its.toArray++ja.toArray=(its++ja).toArray:=by simp
 rw[ea];exact⟨.ref _,_,I.V3 (t':=s.toks) (r.append r2) (by rw[a_];lia),rfl,q _ I.fresh⟩
end
theorem Vals.V6:∀{bs:List Bool}{us:List Value},Vals (bs.map V.bl) us->us=bs.map Value.bool
 |[],us,h=>by rw[List.map_nil] at h;cases h;rfl
 |b::bs,us,h=>by
  rw[cy] at h;cases h with
  |cons r t=>cases r;rw[Vals.V6 t,cy]
variable{a:Addr}
theorem Vals.Sb{us:List Value}(r:Vals [V.ref a] us):us=[Value.ref a]:=by
 cases r with
 |cons r t=>cases t;cases r;rfl
section
variable{X:Cx}
def HE(K:Frag):V->List V->Hp->VK->Prop:=λx xs H Q=>∃(a:Addr)(ys:List V)(y:V)(j:Nat)(z:V),x=V.ref a/\ xs=[y]/\ bf K H a ys/\ lK y=true/\ ys.all lK=true/\ ys[j]?=some z/\ Kg z y=true/\
 (∀(m:Nat)(z':V),m<j->ys[m]?=some z'->Kg z' y=false)/\ Q (.int (j:Nat)) H
theorem Ei{ys:List V}(f:ys.all lK=true){z:V}(h:ys[j]?=some z):lK z=true:=yN.mp f z (cI h)
theorem HF:R7 X "list.index" (HE X.K):=by
 intro ao s σ H x xs v us Q I rx Zq h;obtain⟨a,ys,y,j,z,rfl,rfl,hs,fy,V7,hz,Zr,rQ,q⟩:=h;cases rx;cases Zq with
 |cons ry rt=>
  rename_i uy ut;cases rt;obtain⟨its,rv,⟨⟨cls,dd,data,sl⟩,n,ho,hc,GV,hd⟩,hlen⟩:=I.list hs;simp only at hc hd;subst hc hd;obtain⟨u,hu,ru⟩:=rv.get hz;obtain⟨Cr,QO⟩:=dm.mp hu;have V8:=rv.length;have hj:j<its.toArray.size:=by simpa using Cr
  have Uz:=nB;refine Ae MP ⟨_,ho,rfl⟩ PySem.F.entry_list_index (PySem.F.args_list_index_2 _ _)
   (SeqAt.list_indexAt a its.toArray n dd sl uy (B' y) j hj (by lia) ?_ ?_) ⟨ho,λu' OV=>lL ry fy rv V7 u' (by simpa using OV),?_⟩
  .have e1:its.toArray[j]=u:=by simpa using QO
   rw[e1,yS ru (Ei V7 hz)];exact Zr
  .intro m hm Zs;have pG:m<its.length:=by simpa using hm
   have Zt:m<ys.length:=by lia
   have Sa:ys[m]?=some ys[m]:=c8 Zt;obtain⟨u2,Zu,Zv⟩:=rv.get Sa;obtain⟨_,V9⟩:=dm.mp Zu;have e1:its.toArray[m]=u2:=by simpa using V9
   rw[e1,yS Zv (Ei V7 Sa)];exact rQ m _ Zs Sa
  .exact⟨.int (j:Nat),H,I.tok _,⟨_,rfl⟩,q⟩
end
variable{E Q:Value->Shared->Prop}
theorem Ar{prog:Program}{w:World}{l:Addr}{items:Array Value}(hl:s.heap.IsList l items)(h:∀s₂:Shared,s₂={s with heap:=s.heap.push {cls:= .type "list_iterator",data:= .fields #[.ref l, .int 0 0]}}->
 (s₂.heap.IsListIter s.heap.objs.size l 0/\ s₂.heap.IsList l items)->l≠s.heap.objs.size->Q (.ref s.heap.objs.size) s₂):wpAny (model prog w) A (pyIter (.ref l)) Q E s:=by
 have fH:l<s.heap.objs.size:=by obtain⟨_,e,_⟩:=hl;exact dh e
 exact wpAny_pyIter_list hl (h _ rfl ⟨⟨_,jD _ rfl,rfl,rfl⟩,hl.push _⟩ (cB fH))
theorem tP{prog:Program}{w:World}{bs:List Bool}(e:its=bs.map Value.bool):
 TruthOf prog w A (λi v=>its.toArray[i]?=some v) (λi=>bs.getD i false):=λi v s Q E hv hq=>by
 have Uw:its[i]?=some v:=by simpa using hv
 rw[e,gW] at Uw;obtain⟨b,hb,rfl⟩:=Option.map_eq_some_iff.mp Uw;have hg:bs.getD i false=b:=by rw[uh,hb]<;>rfl
 have B9:Q (bs.getD i false) s:=hq;rw[hg] at B9;exact pE B9
theorem any_range:∀bs:List Bool,(List.range bs.length).any (λi=>bs.getD i false)=bs.any id
 |[]=>rfl
 |b::bs=>by
  rw[cj,List.range_succ_eq_map,uU,Cd,uU,<-any_range bs]
  all_goals rfl
theorem all_range:∀bs:List Bool,(List.range bs.length).all (λi=>bs.getD i false)=bs.all id
 |[]=>rfl
 |b::bs=>by
  rw[cj,List.range_succ_eq_map,Ku,Kv,Ku,<-all_range bs]
  all_goals rfl
section
variable{X:Cx}
def V_(K:Frag):List V->Hp->VK->Prop:=λvs H Q=>∃(a:Addr)(bs:List Bool),vs=[V.ref a]/\ bf K H a (bs.map V.bl)/\ Q (.bl (bs.any id)) H
def V'(K:Frag):List V->Hp->VK->Prop:=λvs H Q=>∃(a:Addr)(bs:List Bool),vs=[V.ref a]/\ bf K H a (bs.map V.bl)/\ Q (.bl (bs.all id)) H
theorem Cs(hc:X.calm=true):qS X (.builtin "any") (V_ X.K):=by
 intro ao s σ H vs us Q I r h;obtain⟨a,bs,rfl,hs,q⟩:=h;obtain⟨its,rv,hl,_⟩:=I.list hs;rw[Vals.Sb r];have hb:=rv.V6;refine call_any_walk (Ar hl.isList λs₂ e2 st fo=>?_);subst e2;refine⟨_,_,_,_,_,_,_,rfl,Walks.list (A:=X.A.in1) (I.ok.hd hc) _ a fo its.toArray,st,tP hb,λh' tk hk=>?_⟩;refine⟨.bl _,H,I.kept λb o eo=>hk b o (λgR=>?_) (gq _ eo),?_,q⟩
 .rcases bY.mp gR with e1|gR
  .exact absurd (e1▸dh eo) (m3 _)
  .cases gR
 .show Value.bool _=Value.bool _;rw[<-any_range,hb,dZ,aS]
theorem HG(hc:X.calm=true):qS X (.builtin "all") (V' X.K):=by
 intro ao s σ H vs us Q I r h;obtain⟨a,bs,rfl,hs,q⟩:=h;obtain⟨its,rv,hl,_⟩:=I.list hs;rw[Vals.Sb r];have hb:=rv.V6;refine call_all_walk (Ar hl.isList λs₂ e2 st fo=>?_);subst e2;refine⟨_,_,_,_,_,_,_,rfl,Walks.list (A:=X.A.in1) (I.ok.hd hc) _ a fo its.toArray,st,tP hb,λh' tk hk=>?_⟩;refine⟨.bl _,H,I.kept λb o eo=>hk b o (λgR=>?_) (gq _ eo),?_,q⟩
 .rcases bY.mp gR with e1|gR
  .exact absurd (e1▸dh eo) (m3 _)
  .cases gR
 .show Value.bool _=Value.bool _;rw[<-all_range,hb,dZ,aS]
end
mutual
inductive Dp (K:Frag) (H:Hp):V->PyData->Prop
 |eQ:Dp K H .eQ .none
 |bl (b:Bool):Dp K H (.bl b) (.bool b)
 |int (i:Int):Dp K H (.int i) (.int i)
 |str (x:Str):Dp K H (.str x) (.str x)
 |lst {a:Addr} {xs:List V} {ds:List PyData}:bf K H a xs->vt K H xs ds->Dp K H (.ref a) (.list ds)
 |tup {a:Addr} {xs:List V} {ds:List PyData}:i_ K H a xs->vt K H xs ds->Dp K H (.ref a) (.tuple ds)
inductive vt (K:Frag) (H:Hp):List V->List PyData->Prop
 |nil:vt K H [] []
 |cons {v:V} {vs:List V} {d:PyData} {ds:List PyData}:Dp K H v d->vt K H vs ds->vt K H (v::vs) (d::ds)
end
section
variable{X:Cx}{ao:List (Addr×Obj)}{σ:St}{H:Hp}{s:Shared}
mutual
theorem Dp.reads (I:Inv X ao σ H s):∀(d:PyData)(v:V)(u:Value),Dp X.K H v d->RelV v u->∃as,Reads s.heap u d as
 | .none,_,_,h,r=>by cases h;cases r;exact⟨_,Reads.none⟩
 | .bool b,_,_,h,r=>by cases h;cases r;exact⟨_,Reads.bool b⟩
 | .int i,_,_,h,r=>by cases h;obtain⟨t,rfl⟩:=r;exact⟨_,Reads.int i t⟩
 | .str x,_,_,h,r=>by cases h;obtain⟨t,rfl⟩:=r;exact⟨_,Reads.str x t⟩
 | .list ds,_,_,h,r=>by
  cases h with
  |lst hs ha=>cases r;obtain⟨its,rv,⟨o,n,ho,hc,_,hd⟩,_⟩:=I.list hs;obtain⟨as,hr⟩:=Dp.readsAll I ds _ its ha rv;exact⟨_,Reads.list ho hc hd hr⟩
 | .tuple ds,_,_,h,r=>by
  cases h with
  |tup hs ha=>cases r;obtain⟨its,rv,⟨o,ho,hc,n,hd⟩,_⟩:=I.tuple hs;obtain⟨as,hr⟩:=Dp.readsAll I ds _ its ha rv;exact⟨_,Reads.tuple ho hc hd hr⟩
 | .dict _,_,_,h,_=>by cases h
theorem Dp.readsAll (I:Inv X ao σ H s):∀(ds:List PyData)(vs:List V)(us:List Value),vt X.K H vs ds->Vals vs us->∃as,ReadsAll s.heap us ds as
 |[],_,_,h,r=>by cases h;cases r;exact⟨_,ReadsAll.nil⟩
 |d::ds,_,_,h,r=>by
  cases h with
  |cons h1 h2=>
   cases r with
   |cons r1 r2=>obtain⟨as,q1⟩:=Dp.reads I d _ _ h1 r1;obtain⟨bs,q2⟩:=Dp.readsAll I ds _ _ h2 r2;exact⟨_,ReadsAll.cons q1 q2⟩
end
end
section
variable{X:Cx}
def Wa(K:Frag):R2:=λx y H Q=>∃d e,Dp K H x d/\ Dp K H y e/\ SeqAt.shaped d=true/\ SeqAt.shaped e=true/\ Q (.bl (PyData.eqv d e)) H
theorem OW(hu:X.A.units+64<cLine):qI X (compareOp .Eq) (Wa X.K):=by intro ao s σ H x y v u Q I rx ry h;obtain⟨d,e,hd,he,sd,se,q⟩:=h;obtain⟨as,r1⟩:=Dp.reads I d x v hd rx;obtain⟨bs,r2⟩:=Dp.reads I e y u he ry;exact SeqAt.compareEq_shaped r1 r2 sd se hu ⟨.bl _,H,I,rfl,q⟩
end
abbrev HH(h:Heap)(c:Addr)(v:Option Value):Prop:=h.IsCell c v
def Wb(scope sc:Scope):Scope:=
 {scope with names:=scope.names.map λ(n,k)=>if(k== .free&&sc.kind== .function&&sc.names.lookup n==some .cell) then(n, .cell) else(n,k)}
def cQ(cells:List (Str×Addr)):List (Str×NameKind)->List (Str×Addr)->List (Str×Addr)
 |[],acc=>acc
 |(n,k)::r,acc=>if k== .free then cQ cells r ((n,(cells.lookup n).getD 0)::acc) else cQ cells r acc
theorem qX(env:Env)(f:Str×NameKind->List (Str×Addr)->Sem (ForInStep (List (Str×Addr))))(hf:∀n k c,f (n,k) c=if k== .free then(do let a<-cellOf env n;pure (.yield ((n,a)::c))) else pure (.yield c)):
 ∀(names:List (Str×NameKind))(acc:List (Str×Addr)),(∀y∈names,y.2= .free->∃c,env.cells.lookup y.1=some c)->forIn names acc f=pure (cQ env.cells names acc)
 |[],acc,_=>by rw[Of];rfl
 |(n,k)::r,acc,h=>by
  rw[List.forIn_cons,hf];have ih:=λacc=>qX env f hf r acc λy hy=>h y (bu _ hy);unfold cQ;by_cases hk:(k==NameKind.free)=true
  .rw[aq hk,aq hk];obtain⟨c,hc⟩:=h (n,k) cb (by simpa using hk);have e:cellOf env n=pure c:=by unfold cellOf;rw[hc]
   rw[e];have e2:(env.cells.lookup n).getD 0=c:=by rw[hc];rfl
   rw[e2];exact ih _
  .rw[ak hk,ak hk];exact ih _
variable{scope:Scope}
theorem Ct{env:Env}(h:∀y∈scope.names,y.2= .free->∃c,env.cells.lookup y.1=some c):closureFor scope env=pure (cQ env.cells scope.names []):=by simp only[closureFor];rw[qX env _ (λn k c=>rfl) scope.names [] h];rfl
theorem mem_lookup{α:Type}:∀{l:List (Str×α)}{n:Str}{c:α},(n,c)∈l->∃c',l.lookup n=some c'
 |(k,v)::r,n,c,h=>by
  rw[tF];cases hb:n==k with
  |true=>exact⟨_,rfl⟩
  |false=>
   rcases bY.mp h with e|h
   .cases e;simp at hb
   .exact mem_lookup h
theorem kE{cells:List (Str×Addr)}:∀{names:List (Str×NameKind)}{acc:List (Str×Addr)}{n:Str}{c:Addr},(n,c)∈cQ cells names acc->(n,c)∈acc\/ ((n, .free)∈names/\ c=(cells.lookup n).getD 0)
 |[],_,_,_,h=> .inl h
 |(m,k)::r,acc,n,c,h=>by
  unfold cQ at h;split at h
  .rename_i hk;have hk:k= .free:=by simpa using hk
   rcases kE h with h|⟨h1,h2⟩
   .rcases bY.mp h with e|h
    .cases e;exact .inr ⟨hk▸cb,rfl⟩
    .exact .inl h
   .exact .inr ⟨bu _ h1,h2⟩
  .rcases kE h with h|⟨h1,h2⟩
   .exact .inl h
   .exact .inr ⟨bu _ h1,h2⟩
theorem nJ{cells:List (Str×Addr)}:∀{names:List (Str×NameKind)}{acc:List (Str×Addr)}{p:Str×Addr},p∈acc->p∈cQ cells names acc
 |[],_,_,h=>h
 |(m,k)::r,acc,p,h=>by
  unfold cQ;split
  .exact nJ (bu _ h)
  .exact nJ h
theorem nL{cells:List (Str×Addr)}:∀{names:List (Str×NameKind)}{acc:List (Str×Addr)}{n:Str},(n, .free)∈names->(n,(cells.lookup n).getD 0)∈cQ cells names acc
 |(m,k)::r,acc,n,h=>by
  unfold cQ;rcases bY.mp h with e|h
  .cases e;exact nJ cb
  .split
   .exact nL h
   .exact nL h
theorem lM:∀{names:List (Str×NameKind)}{h:Heap}{acc:List (Str×Addr)}{x:Str}{c:Addr},(x,c)∈cellsFrom h.objs.size names acc->
 (x,c)∈acc\/ ((x, .cell)∈names/\ h.objs.size<=c/\ HH (pushCells h names) c none)
 |[],_,_,_,_,h=> .inl h
 |(n,k)::r,h,acc,x,c,hm=>by
  unfold cellsFrom at hm;unfold pushCells;split at hm
  .rename_i hk;rw[aq hk];have hk:k= .cell:=by simpa using hk
   rw[<-pO h {cls:= .type "cell",data:= .cell none}] at hm;rcases lM hm with hm|⟨h1,h2,h3⟩
   .rcases bY.mp hm with e|hm
    .cases e;exact .inr ⟨hk▸cb,aQ _,_,D0 r _ _ _ (jD _ rfl),rfl⟩
    .exact .inl hm
   .rw[pO] at h2;exact .inr ⟨bu _ h1,DX h2,h3⟩
  .rename_i hk;rw[ak hk];rcases lM hm with hm|⟨h1,h2,h3⟩
   .exact .inl hm
   .exact .inr ⟨bu _ h1,h2,h3⟩
theorem o3:∀{names:List (Str×NameKind)}{n:Nat}{acc:List (Str×Addr)}{p:Str×Addr},p∈acc->p∈cellsFrom n names acc
 |[],_,_,_,h=>h
 |(m,k)::r,n,acc,p,h=>by
  unfold cellsFrom;split
  .exact o3 (bu _ h)
  .exact o3 h
theorem r0:∀{names:List (Str×NameKind)}{n:Nat}{acc:List (Str×Addr)}{x:Str},(x, .cell)∈names->∃c,(x,c)∈cellsFrom n names acc
 |(m,k)::r,n,acc,x,h=>by
  unfold cellsFrom;rcases bY.mp h with e|h
  .cases e;exact⟨n,o3 cb⟩
  .split
   .exact r0 h
   .exact r0 h
theorem r9:∀{names:List (Str×NameKind)}{h:Heap}{acc:List (Str×Addr)}{x y:Str}{c:Addr},(∀p∈acc,p.2<h.objs.size)->(∀x y c,(x,c)∈acc->(y,c)∈acc->x=y)->
 (x,c)∈cellsFrom h.objs.size names acc->(y,c)∈cellsFrom h.objs.size names acc->x=y
 |[],_,_,_,_,_,_,hi,h1,h2=>hi _ _ _ h1 h2
 |(n,k)::r,h,acc,x,y,c,hl,hi,h1,h2=>by
  unfold cellsFrom at h1 h2;split at h1
  .rename_i hk;rw[aq hk] at h2;rw[<-pO h {cls:= .type "cell",data:= .cell none}] at h1 h2;refine r9 (h:=h.push _) (λp hp=>?_) (λx y c a b=>?_) h1 h2
   .rw[pO];rcases bY.mp hp with rfl|hp
    .exact m4 _
    .exact tJ (hl p hp)
   .rcases bY.mp a with e|a<;>rcases bY.mp b with e'|b
    .cases e;cases e';rfl
    .cases e;exact absurd (hl _ b) (m3 _)
    .cases e';exact absurd (hl _ a) (m3 _)
    .exact hi _ _ _ a b
  .rename_i hk;rw[ak hk] at h2;exact r9 hl hi h1 h2
variable{M:Model}
theorem As{globals:Addr}{closure:List (Str×Addr)}{qual:Str}{func:Option Addr}{code:Value}{around:Env}{builtins:Addr}{Q:Env->Shared->Prop}(h:Q (newEnv scope s.heap.objs.size globals (cellsFrom (s.heap.objs.size+1) scope.names closure) qual func code (some around) builtins)
 {s with heap:=pushCells (s.heap.push {cls:= .type "dict",data:= .dict #[]}) scope.names}):
 wpAny M A (newFunctionEnv scope globals closure [] qual func code (some around) builtins) Q E s:=by
 simp only[newFunctionEnv,Option.isSome_some,m8];refine aY (wpAny_alloc ?_);refine aY (wpAny_layCells _ (λn k c=>rfl) scope.names closure _ _ ?_);rw[show({s with heap:=s.heap.push {cls:= .type "dict",data:= .dict #[]}}:Shared).heap.objs.size=s.heap.objs.size+1 from pO ..];rw[Of];exact aY (cW (cW h))
theorem nM{sc:Scope}:∀{names:List (Str×NameKind)}{x:Str}{k:NameKind},
 (names.map λ(n,k)=>if(k==NameKind.free&&sc.kind== .function&&sc.names.lookup n==some .cell) then(n,NameKind.cell) else(n,k)).lookup x=some k->
 ∃k',names.lookup x=some k'/\ (k=k'\/ (k'= .free/\ k= .cell))
 |[],_,_,h=>by simp at h
 |(n,k₀)::r,x,k,h=>by
  have ih:=@nM sc r x k;have h':List.lookup x ((if(k₀==NameKind.free&&sc.kind== .function&&sc.names.lookup n==some .cell)=true then(n,NameKind.cell) else(n,k₀))::(r.map _))=some k:=h;cases hx:x==n with
  |true=>
   simp only[tF,hx];by_cases hc:(k₀==NameKind.free&&sc.kind== .function&&sc.names.lookup n==some .cell)=true
   .rw[aq hc] at h';simp only[tF,hx] at h';cases h';simp only[uA,kx] at hc;exact⟨k₀,rfl, .inr ⟨hc.1.1,rfl⟩⟩
   .rw[ak hc] at h';simp only[tF,hx] at h';cases h';exact⟨_,rfl, .inl rfl⟩
  |false=>
   simp only[tF,hx];by_cases hc:(k₀==NameKind.free&&sc.kind== .function&&sc.names.lookup n==some .cell)=true
   .rw[aq hc] at h';simp only[tF,hx] at h';exact ih h'
   .rw[ak hc] at h';simp only[tF,hx] at h';exact ih h'
structure xV(N:List Str)(sc scope:Scope)(own:List (Str×Nat)):Prop where
 kind:scope.kind= .function
 uniq:∀y∈scope.names,scope.names.lookup y.1=some y.2
 ix:∀p∈own,N[p.2]?=some p.1
 free:∀y∈scope.names,y.2= .free->sc.names.lookup y.1=some .cell\/ sc.names.lookup y.1=some .free
 own:∀y∈scope.names,y.2= .local\/ y.2= .cell->y.1∈own.map (·.1)\/ y.1∉N
def wipe(σ:St):List Nat->St
 |[]=>σ
 |v::vs=>(wipe σ vs).set v none
theorem nN(σ:St):∀vs:List Nat,(wipe σ vs).length=σ.length
 |[]=>rfl
 |v::vs=>by unfold wipe;rw[List.length_set,nN σ vs]
theorem r_{σ:St}{i:Nat}{x:V}:∀{vs:List Nat},(wipe σ vs)[i]?=some (some x)->σ[i]?=some (some x)/\ i∉vs
 |[],h=>⟨h,by simp⟩
 |v::vs,h=>by
  unfold wipe at h;by_cases hi:v=i
  .subst hi;by_cases hv:v<(wipe σ vs).length
   .rw[Oh hv] at h;cases h
   .rw[KD (by simpa using hv)] at h;cases h
  .rw[Og hi] at h;obtain⟨h1,h2⟩:=r_ h;exact⟨h1,by simp only[bY,not_or];exact⟨λe=>hi e.symm,h2⟩⟩
abbrev Cx.yU(X:Cx)(s:Shared)(H:Hp)(scope:Scope)(gS:Env)(fp:List Addr):Cx:={X with xg:=s,Ow:=H,env:=gS,outer:=X.stack,ex:=fp,fn:=λx=>scope.names.lookup x==some .cell,pn:=[],xe:=λ_ _=>False}
variable{D:Addr}
section
variable{X:Cx}{ao:List (Addr×Obj)}{σ:St}{H:Hp}{s:Shared}
theorem Au{own:List (Str×Nat)}{fp:List Addr}(I:Inv X ao σ H s)(ok:xV X.N X.env.scope scope own)(hN:X.N.Nodup)(QP:∀b∈fp,vg X ao H b/\ b<s.heap.objs.size):
 Inv (X.yU s H scope (compEnvC scope (cellsFrom (s.heap.objs.size+1) scope.names (cQ X.env.cells scope.names [])) s.heap.objs.size X.env) fp) [] (wipe σ (own.map (·.2))) H {s with heap:=pushCells (s.heap.push {cls:= .type "dict",data:= .dict #[]}) scope.names}:=by
 have xK:∀y∈scope.names,y.2= .free->∃c,X.env.cells.lookup y.1=some c:=λy hy e=>by
  rcases ok.free y hy e with k|k
  .exact I.ok.has _ (.inl k)
  .exact I.ok.has _ (.inr k)
 generalize Av:compEnvC scope (cellsFrom (s.heap.objs.size+1) scope.names (cQ X.env.cells scope.names [])) s.heap.objs.size X.env=gS;have kp:∀b o,s.heap.get? b=some o->(pushCells (s.heap.push {cls:= .type "dict",data:= .dict #[]}) scope.names).get? b=some o:=λb o e=>D0 _ _ _ _ (gq _ e);have hL:gS.locals=s.heap.objs.size:=by rw[<-Av];rfl
 have zK:gS.cells=cellsFrom (s.heap.objs.size+1) scope.names (cQ X.env.cells scope.names []):=by rw[<-Av];rfl
 have Wc:gS.scope=Wb scope X.env.scope:=by rw[<-Av];rfl
 rw[<-pO s.heap {cls:= .type "dict",data:= .dict #[]}] at zK;have cm:∀{y c},(y,c)∈cQ X.env.cells scope.names []->X.env.cells.lookup y=some c/\ c<s.heap.objs.size:=λ{y c} hm=>by
  rcases kE hm with hm|⟨h1,rfl⟩
  .cases hm
  .obtain⟨c,hc⟩:=xK _ h1 rfl;rw[hc];obtain⟨w,z⟩:=I.cell _ _ hc;exact⟨rfl,z.lt⟩
 have mem:∀{y c},gS.cells.lookup y=some c->(X.env.cells.lookup y=some c/\ c<s.heap.objs.size)\/ (s.heap.objs.size+1<=c/\ HH (pushCells (s.heap.push {cls:= .type "dict",data:= .dict #[]}) scope.names) c none):=λ{y c} e=>by
  rw[zK] at e;rcases lM (jS e) with hm|⟨_,h2,h3⟩
  .exact .inl (cm hm)
  .rw[pO] at h2;exact .inr ⟨h2,h3⟩
 have look:∀{y},scope.names.lookup y=some .free->∃c,gS.cells.lookup y=some c/\ X.env.cells.lookup y=some c:=λ{y} hl=>by
  have hy:(y,NameKind.free)∈scope.names:=jS hl;obtain⟨c',e'⟩:=mem_lookup (o3 (names:=scope.names) (n:=(s.heap.push {cls:= .type "dict",data:= .dict #[]}).objs.size) (nL (cells:=X.env.cells) (acc:=[]) hy));rw[<-zK] at e';refine⟨c',e',?_⟩;rw[zK] at e';rcases lM (jS e') with hm|⟨h1,_,_⟩
  .exact(cm hm).1
  .have:=ok.uniq _ h1;rw[hl] at this;cases this
 have Zw:(X.yU s H scope gS fp).Ok:=by
  refine⟨I.ok.mod,by show gS.scope.kind=_;rw[Wc];exact ok.kind,by show gS.globals=_;rw[<-Av];exact I.ok.glob,by show gS.builtins=_;rw[<-Av];exact I.ok.blt,by show s.heap.objs.size<=gS.locals;rw[hL];exact aQ _,
   λy z c e1 e2=>?_,λy hy=>?_,λy c z e=>?_,I.ok.hd,I.ok.frames, .inl rfl,λb hb=>⟨?_,λy c e z=>?_⟩,I.bs,bp I.ok.Ke I.sz,λb o e hb=>?_,λb hb z=>?_,I.stack,I.D7⟩
  .have e1:gS.cells.lookup y=some c:=e1;have e2:gS.cells.lookup z=some c:=e2;rw[zK] at e1 e2;refine r9 (λp hp=>?_) (λy z c a b=>I.ok.inj y z c (cm a).1 (cm b).1) (jS e1) (jS e2);rw[pO];exact tJ (cm (y:=p.1) (c:=p.2) hp).2
  .show∃c,gS.cells.lookup y=some c;have key:∀k,gS.kindOf y=some k->(k= .cell\/ k= .free)->∃c,gS.cells.lookup y=some c:=λk hk QQ=>by
    unfold Env.kindOf at hk;rw[Wc] at hk;obtain⟨k',e,r⟩:=nM hk;have:k'= .cell\/ k'= .free:=by
     rcases r with rfl|⟨rfl,_⟩
     .exact QQ
     .exact .inr rfl
    rcases this with rfl|rfl
    .obtain⟨c,hm⟩:=r0 (n:=(s.heap.push {cls:= .type "dict",data:= .dict #[]}).objs.size) (acc:=cQ X.env.cells scope.names []) (jS e);obtain⟨c',e'⟩:=mem_lookup hm;exact⟨c',by rw[zK];exact e'⟩
    .obtain⟨c,h1,_⟩:=look e;exact⟨c,h1⟩
   rcases hy with hy|hy
   .exact key _ hy (.inl rfl)
   .exact key _ hy (.inr rfl)
  .have z:(scope.names.lookup y==some NameKind.cell)=true:=z;have z:scope.names.lookup y=some .cell:=by simpa using z
   have e:gS.cells.lookup y=some c:=e;rw[zK] at e;rcases lM (jS e) with hm|⟨_,h2,_⟩
   .rcases kE hm with hm|⟨h1,_⟩
    .cases hm
    .have q:=ok.uniq _ h1;rw[z] at q;cases q
   .rw[pO] at h2;exact DX h2
  .show b≠gS.locals;rw[hL];exact cB (QP b hb).2
  .have e:gS.cells.lookup y=some c:=e;rcases mem e with⟨h1,_⟩|⟨h1,_⟩
   .exact(QP b hb).1.2.2.2.2.1 y c h1 z
   .have h2:s.heap.objs.size+1<=b:=by rw[<-z];exact h1
    exact absurd (dF (QP b hb).2 (DX h2)) (m3 _)
  .rcases(QP b hb).1.2.2.2.1 with z|z
   .exact I.ok.Hh b o e z
   .exact absurd (dF (dh e) (bp I.ok.Ke z)) (m3 _)
  .rcases bY.mp (I.Cg b z) with z|z
   .exact(QP b hb).1.2.1 z
   .exact(QP b hb).1.2.2.1 z
 refine⟨Zw,rfl,I.bare,Un.kept kp,⟨λ_=>none,?_,λi y av e1 e2 e3=>?_⟩,λy c e=>?_,?_,λy c e=>?_,λp hp=>?_,I.cu.kept kp,by rw[nN];exact I.len⟩
 .show Heap.Ns _ gS.locals _;rw[hL];exact Heap.Ns.keeps (Heap.Ns.new ..) λb o e=>D0 _ _ _ _ e
 .obtain⟨e2,fo⟩:=r_ e2;have FH:scope.names.lookup y=some .free/\ (gS.kindOf y=some .cell\/ gS.kindOf y=some .free):=by
   have key:∀k,gS.scope.names.lookup y=some k->k= .local\/ k= .cell\/ k= .free->scope.names.lookup y=some .free/\ (gS.kindOf y=some .cell\/ gS.kindOf y=some .free):=λk hk QQ=>by
    have UA:=hk;rw[Wc] at hk;obtain⟨k',e,r⟩:=nM hk;have no:¬(k'= .local\/ k'= .cell):=λhh=>by
     rcases ok.own _ (jS e) hh with e'|e'
     .obtain⟨p,hp,Zx⟩:=fc.mp e';have e3:=ok.ix p hp;have:p.1=y:=Zx;rw[this] at e3;exact fo (fc.mpr ⟨p,hp,vd hN e3 e1⟩)
     .exact e' (cI e1)
    rcases r with rfl|⟨rfl,rfl⟩
    .rcases QQ with rfl|rfl|rfl
     .exact absurd (.inl rfl) no
     .exact absurd (.inr rfl) no
     .exact⟨e, .inr UA⟩
    .exact⟨e, .inl UA⟩
   have e3:QK gS.scope y:=e3;rcases e3 with e3|e3|e3
   .exact key _ e3 (.inl rfl)
   .exact key _ e3 (.inr (.inl rfl))
   .exact key _ e3 (.inr (.inr rfl))
  obtain⟨m,hn,hl⟩:=I.loc;have Wd:QK X.env.scope y:=(ok.free _ (jS FH.1) rfl).elim (λk=> .inr (.inl k)) (λk=> .inr (.inr k));obtain⟨w,r,q⟩:=hl i y av e1 e2 Wd;refine⟨w,r, .inr ⟨FH.2,?_⟩⟩;obtain⟨c,h1,h2⟩:=look FH.1;rcases q with⟨k,_⟩|⟨_,c',e',z⟩
  .have k:X.env.scope.names.lookup y=some .local:=k;rcases ok.free _ (jS FH.1) rfl with k'|k'<;>rw[show X.env.scope.names.lookup y=_ from k'] at k<;>cases k
  .rw[h2] at e';cases e';exact⟨c,h1,z.keeps kp⟩
 .have e:gS.cells.lookup y=some c:=e;rcases mem e with⟨h1,_⟩|⟨_,z⟩
  .obtain⟨w,z⟩:=I.cell y c h1;exact⟨w,z.keeps kp⟩
  .exact⟨_,z⟩
 .show H gS.locals=none;rw[hL];exact I.cu.fresh (aQ _)
 .have e:gS.cells.lookup y=some c:=e;rcases mem e with⟨h1,_⟩|⟨h1,_⟩
  .exact I.kC y c h1
  .exact I.cu.fresh (DX h1)
 .exact absurd (show p∈([]:List (Addr×Obj))++[] from hp) (by simp)
theorem OX{xs:List V}(I:Inv X ao σ H s)(hD:H D=some (.lst xs))(hz:xs.length<sizeLine)(r:RelV y v)(h:∀s',Inv X ao σ (upd H D (.lst (xs++[y]))) s'->Q .none s'):wpAny (model X.prog X.w) X.A (call (.builtin "list.append") [.ref D,v]) Q E s:=by obtain⟨K5,its,n,ri,e⟩:=I.cu D _ hD;have hl:=ri.length;refine append_at (hsz:=by rw[dZ];lia) e λh' sb D5=>?_;refine h {s with heap:=h'} (I.write (t':=s.toks) (by rw[hD];trivial) (.inl rfl) (λb u hb q=>(sb.2 b hb).trans q) ⟨_,D5⟩ ⟨by rw[a_];exact hz,its++[v],n+1,ri.append (.cons r .nil),?_⟩);rw[D5];simp
def Sd(X:Cx)(ifs:List Expr)(t:TT):Prop:=
 ∀(ao:List (Addr×Obj))(s:Shared)(σ:St)(H:Hp)(Q:Bool->Hp->Prop),Inv X ao σ H s->t σ H Q->
  wpAny (model X.prog X.w) X.A (forIn ifs true λc r=>if r=true then do let ok<-isTrue c X.env (eval c X.env);pure (ForInStep.yield ok) else pure (ForInStep.yield r)) (TP X ao σ Q) X.xe s
def Se:TT:=λ_ H Q=>Q true H
theorem kF:Sd X [] Se:=λ_ _ _ H _ I h=>wpAny_tests_nil ⟨H,I,h⟩
theorem kG{c:Expr}{t:TT}(h:PT X c t):Sd X [c] t:=λao s σ H Q I hw=>wpAny_tests_one (h ao s σ H Q I hw)
end
theorem FI{α:Type}{t:Sem α}{Q Q':α->Shared->Prop}(h:wpAny M A t Q (λ_ _=>False) s)(hQ:∀a s,Q a s->Q' a s):wpAny M A t Q' E s:=iq h hQ λ_ _ z=>False.elim z
variable{elt iter:Expr}{ifs:List Expr}
theorem yV{prog:Program}{w:World}{R:Result->Shared->Prop}{target:Expr}{pos:Pos}{it acc:Value}{env:Env}(I:Nat->Shared->Prop)(turn:∀n s,I n s->wpAny (model prog w) A (pyNext it) (λr s₁=>match r with
 |none=>R (.ok .next) s₁
 |some v=>wpAny (model prog w) A (letOwnedTupleGo target it v) (λ_ M6=>wpAny (model prog w) A (assign target env v) (λ_ s₂=>
  wpAny (model prog w) A (forIn ifs true λc r=>if r=true then do let ok<-isTrue c env (eval c env);pure (ForInStep.yield ok) else pure (ForInStep.yield r)) (λok s₃=>
   if ok=true then wpAny (model prog w) A (eval elt env) (λx s₄=>wpAny (model prog w) A (call (.builtin "list.append") [acc,x]) (λ_ s₅=>∃m,m<n/\ I m s₅) (notedBy (model prog w) A env λe s'=>R (.error e) s') s₄) (notedBy (model prog w) A env λe s'=>R (.error e) s') s₃
   else∃m,m<n/\ I m s₃) (notedBy (model prog w) A env λe s'=>R (.error e) s') s₂) (notedBy (model prog w) A env λe s'=>R (.error e) s') M6) (notedBy (model prog w) A env λe s'=>R (.error e) s') s₁) (notedBy (model prog w) A env λe s'=>R (.error e) s') s)(n:Nat)(h:I n s):
 codeAny (model prog w) A (.compLoop (.ListComp elt [⟨target,iter,ifs,0⟩] scope pos) 0 it acc env) R s:=by
 refine codeAny_loop rfl I (λn s hI=>?_) n h;show wpAny _ A ((compTurn (.ListComp elt [⟨target,iter,ifs,0⟩] scope pos) 0 it acc env).onRaise (λx=>do noteFrame x env;theTreesLotGoes x)) _ _ s;refine wpAny_noted ?_;rw[compTurn_list];refine aY (wpAny_standAt (aY (iq (turn n s hI) (λr s₁ h₁=>?_) λ_ _ h'=>h')));cases r with
 |none=>exact cW h₁
 |some v=>
  refine aY (iq h₁ (λ_ M6 Sf=>?_) λ_ _ h'=>h');refine aY (iq Sf (λ_ s₂ h₂=>aY (iq h₂ (λok s₃ h₃=>?_) λ_ _ h'=>h')) λ_ _ h'=>h');cases ok with
  |false=>exact cW ⟨rfl,h₃⟩
  |true=>exact aY (aY (iq h₃ (λx s₄ h₄=>aY (iq h₄ (λ_ s₅ h₅=>cW (cW ⟨rfl,h₅⟩)) λ_ _ h'=>h')) λ_ _ h'=>h'))
variable{tg:Expr}{wi:TI}{g:TG}{tt:TT}{te:TE}
variable{py:Pos}
section
variable{X:Cx}
def UB(wi:TI)(g:TG)(tt:TT)(te:TE)(vs:List Nat):TE:=λσ H Q=>wi σ H λJ H1=>∀D,H1 D=none->∃W:Nat->Nat->Hp->Prop,(∃m,W 0 m (upd H1 D (.lst [])))/\ ∀i m H,W i m H->
 (J.stop i H/\ Q (.ref D) H)\/ (J.go i H/\ ∃Nx:Hp->Prop,(∀H',Nx H'->∃m',m'<m/\ W (i+1) m' H')/\ ∀x H',J.GR i H x H'->g x (wipe σ vs) H' λσ2 H2=>wipe σ2 vs=wipe σ vs/\ tt σ2 H2 λb H3=>if b=true then te σ2 H3 λy H4=>∃acc,H4 D=some (.lst acc)/\ acc.length<sizeLine/\ Nx (upd H4 D (.lst (acc++[y]))) else Nx H3)
theorem Ej{Q:VK}{own:List (Str×Nat)}{pos pos':Pos}{use:Option (Value->Sem Unit)}{Qf:Value->Shared->Prop}(hc:X.calm=true)(hN:X.N.Nodup)(I:Inv X ao σ H s)(hi:PI X tg iter wi)(ok:xV X.N X.env.scope scope own)(hg:∀(s:Shared)(H:Hp)(C:Addr)(cl:List (Str×Addr))(fp:List Addr),PG (X.yU s H scope (compEnvC scope cl C X.env) fp) tg g)(ht:∀(s:Shared)(H:Hp)(C:Addr)(cl:List (Str×Addr))(fp:List Addr),Sd (X.yU s H scope (compEnvC scope cl C X.env) fp) ifs tt)(he:∀(s:Shared)(H:Hp)(C:Addr)(cl:List (Str×Addr))(fp:List Addr),PE (X.yU s H scope (compEnvC scope cl C X.env) fp) elt te)(hs:∀x,foldedSetIterable iter X.env x=pure x)(h:UB wi g tt te (own.map (·.2)) σ H Q)(Zy:∀D C s' m H',Inv X ao σ H' s'->Q (.ref D) H'->s'.heap.Ns C m->vg X ao H' C->compPost (model X.prog X.w) X.A X.xe use Qf (.ref D) C (.ok .next) s'):
 wpAny (model X.prog X.w) X.A (comprehension (.ListComp elt [⟨tg,iter,ifs,0⟩] scope pos) scope X.env pos' (newList []) false (eval iter X.env) use) Qf X.xe s:=by
 have xK:∀y∈scope.names,y.2= .free->∃c,X.env.cells.lookup y.1=some c:=λy hy e=>by
  rcases ok.free y hy e with k|k
  .exact I.ok.has _ (.inl k)
  .exact I.ok.has _ (.inr k)
 refine wpAny_comprehension_free (use:=use) rfl hs (Ct xK) ok.kind (λy hy e=>by rw[ok.uniq y hy,e])
  (rP (hi ao s σ H _ I h) λxv s1 hx=>rP hx λVP s2 h2=>?_)
 obtain⟨it,fp,tn,J,H2,e,I2,T,Uu,f2,q⟩:=h2;subst e;refine Hf (As ?_) (by show 0<=sizeLine;decide);generalize hD:s2.heap.objs.size=D;have Zz:H2 D=none:=I2.cu.fresh (xG hD);obtain⟨W,⟨m0,w0⟩,turn⟩:=q D Zz;generalize X4:({s2 with heap:=s2.heap.push {cls:= .type "list",data:= .seq ([]:List Value).toArray}}:Shared)=s3;have I3:Inv X ao σ (upd H2 D (.lst [])) s3:=by rw[<-X4];refine I2.laid (t':=s2.toks) (λb o e=>gq _ e) (xG hD) ⟨a8 _,[],0, .nil,?_⟩;rw[<-hD];exact jD _ rfl
 have h3:s3.heap=s2.heap.push {cls:= .type "list",data:= .seq ([]:List Value).toArray}:=by rw[<-X4]
 have sz:∀b∈fp,b<s2.heap.objs.size:=λb hb=>by obtain⟨o,e,_⟩:=T.obj _ _ Uu b hb;exact dh e
 have f3:∀b∈fp,vg X ao (upd H2 D (.lst [])) b/\ b<s3.heap.objs.size:=λb hb=>by have fH:=sz b hb;refine⟨⟨?_,(f2 b hb).2⟩,by rw[h3,pO];exact tJ fH⟩;rw[az (by rw[<-hD];exact cB fH)];exact(f2 b hb).1
 have Uv:tn 0 s3.heap:=T.keep _ _ _ Uu λb _ o e=>by rw[h3];exact gq _ e
 have I4:=Au I3 ok hN f3;have pg:=hg s3 (upd H2 D (.lst [])) s3.heap.objs.size (cellsFrom (s3.heap.objs.size+1) scope.names (cQ X.env.cells scope.names [])) fp;have pt:=ht s3 (upd H2 D (.lst [])) s3.heap.objs.size (cellsFrom (s3.heap.objs.size+1) scope.names (cQ X.env.cells scope.names [])) fp;have pe:=he s3 (upd H2 D (.lst [])) s3.heap.objs.size (cellsFrom (s3.heap.objs.size+1) scope.names (cQ X.env.cells scope.names [])) fp;show codeAny _ _ (.compStart (.ListComp elt [⟨tg,iter,ifs,0⟩] scope pos) 0 (.ref it) (.ref D) (compEnvC scope (cellsFrom (s3.heap.objs.size+1) scope.names (cQ X.env.cells scope.names [])) s3.heap.objs.size X.env)) (compPost (model X.prog X.w) X.A X.xe use Qf (.ref D) s3.heap.objs.size) {s3 with heap:=pushCells (s3.heap.push {cls:= .type "dict",data:= .dict #[]}) scope.names};have X5:∀b∈fp,(upd H2 D (.lst [])) b=none:=λb hb=>(f3 b hb).1.1;generalize ZA:compEnvC scope (cellsFrom (s3.heap.objs.size+1) scope.names (cQ X.env.cells scope.names [])) s3.heap.objs.size X.env=ce at I4 pg pt pe⊢;have cL:ce.locals=s3.heap.objs.size:=by subst ZA;rfl
 generalize hH3:upd H2 D (.lst [])=H3 at I3 I4 pg pt pe w0 X5 f3;generalize ZC:({s3 with heap:=pushCells (s3.heap.push {cls:= .type "dict",data:= .dict #[]}) scope.names}:Shared)=s4 at I4⊢;have X6:tn 0 s4.heap:=T.keep _ _ _ Uv λb _ o e=>by rw[<-ZC];exact D0 _ _ _ _ (gq _ e)
 have Ck:∀{σ':St}{H':Hp}{s':Shared},Inv (X.yU s3 H3 scope ce fp) [] σ' H' s'->(∀b∈fp,H' b=none)->∀b∈fp,vg (X.yU s3 H3 scope ce fp) [] H' b:=λ{σ' H' s'} I' hn b hb=>⟨hn b hb,(I'.ok.Um b hb).1,I'.ok.Hi b hb, .inl hb,λx c e=>(I'.ok.Um b hb).2 x c e,λp hp=>absurd (show p∈([]:List (Addr×Obj))++[] from hp) (by simp)⟩
 have loop:codeAny (model X.prog X.w) X.A (.compLoop (.ListComp elt [⟨tg,iter,ifs,0⟩] scope pos) 0 (.ref it) (.ref D) ce) (compPost (model X.prog X.w) X.A X.xe use Qf (.ref D) s3.heap.objs.size) s4:=by
  refine yV (λn s'=>∃i H',Inv (X.yU s3 H3 scope ce fp) [] (wipe σ (own.map (·.2))) H' s'/\ tn i s'.heap/\ (∀b∈fp,H' b=none)/\ W i n H') ?_ m0 ⟨0,H3,I4,X6,X5,w0⟩;rintro n s5 ⟨i,H5,I5,QM,n5,w5⟩;rcases turn i n H5 w5 with⟨stop,qq⟩|⟨go,Nx,ZD,step⟩
  .have td:=T.done (X.yU s3 H3 scope ce fp) rfl rfl rfl hc i [] s5 _ H5 (λ_ _=>False) I5 (Ck I5 n5) QM stop;refine FI td λr s6 ⟨hr,I6⟩=>?_;subst hr;have I7:Inv X ao σ H5 s6:=I3.RF (ch:=fp) I6.os I6.base I6.cu I6.bare λb hb=>⟨(f3 b hb).1.2.2.2.1,(f3 b hb).1.2.1,(f3 b hb).1.2.2.2.2.1,(f3 b hb).1.2.2.2.2.2⟩;have nC:H5 s3.heap.objs.size=none:=by have z:H5 ce.locals=none:=I6.free;rw[cL] at z;exact z
   obtain⟨m,hn,_⟩:=I6.loc;have hn:s6.heap.Ns ce.locals m:=hn;rw[cL] at hn;exact Zy D s3.heap.objs.size s6 m H5 I7 qq hn (I3.Ft (aQ _) nC)
  .have ti:=T.item (X.yU s3 H3 scope ce fp) rfl rfl rfl hc i [] s5 _ H5 (λ_ _=>False) I5 (Ck I5 n5) QM go;refine FI ti λr s6 ⟨u,hr,h6⟩=>?_;subst hr;refine FI h6 λ_ s7 ⟨x,H7,I7,r7,y7,We,n7⟩=>?_;have ZE:=I7.pinned (Ck I7 n7) (T.obj _ _ We);refine FI (pg _ s7 _ H7 x u _ ZE r7 (step x H7 y7)) λ_ s8 ⟨σ8,H8,I8,X7,q8⟩=>?_;refine FI (pt _ s8 σ8 H8 _ I8 q8) λb s9 ⟨H9,I9,q9⟩=>?_;have fin:∀{s':Shared}{H':Hp},Inv (X.yU s3 H3 scope ce fp) ([]++vh fp s7.heap) σ8 H' s'->Nx H'->∃m,m<n/\ ∃i H',Inv (X.yU s3 H3 scope ce fp) [] (wipe σ (own.map (·.2))) H' s'/\ tn i s'.heap/\ (∀b∈fp,H' b=none)/\ W i m H':=λ{s' H'} I' nx=>by
    obtain⟨m',hm,w'⟩:=ZD H' nx;have Sg:∀b∈fp,∀o,s7.heap.get? b=some o->s'.heap.get? b=some o/\ H' b=none:=λb hb o e=>
     let z:=I'.pin (b,o) (eK _ (eK _ (pQ hb e)))
     ⟨z.1,z.2.1⟩
    have hl:(wipe σ (own.map (·.2))).length=σ8.length:=by rw[<-X7,nN]
    refine⟨m',hm,i+1,H',(I'.qR (ao:=[])).weak hl (λj v e=>?_),T.keep _ _ _ We λb hb o e=>(Sg b hb o e).1,λb hb=>?_,w'⟩
    .rw[<-X7] at e;exact(r_ e).1
    .obtain⟨o,e,_⟩:=T.obj _ _ We b hb;exact(Sg b hb o e).2
   cases b with
   |false=>simp only[Kd,m7] at q9⊢;exact fin I9 q9
   |true=>simp only[m8] at q9⊢;refine FI (pe _ s9 σ8 H9 _ I9 q9) λz M_ ⟨yv,UC,ZF,ZG,acc,Wg,Wh,nx⟩=>?_;exact OX (X:=X.yU s3 H3 scope ce fp) ZF Wg Wh ZG λs11 ZH=>fin ZH nx
 exact codeAny_compStart_list loop (T.self X.A 0 _ _ _ X6 loop)
theorem kH{own:List (Str×Nat)}{pos:Pos}(hc:X.calm=true)(hN:X.N.Nodup)(hi:PI X tg iter wi)(ok:xV X.N X.env.scope scope own)(hg:∀(s:Shared)(H:Hp)(C:Addr)(cl:List (Str×Addr))(fp:List Addr),PG (X.yU s H scope (compEnvC scope cl C X.env) fp) tg g)(ht:∀(s:Shared)(H:Hp)(C:Addr)(cl:List (Str×Addr))(fp:List Addr),Sd (X.yU s H scope (compEnvC scope cl C X.env) fp) ifs tt)(he:∀(s:Shared)(H:Hp)(C:Addr)(cl:List (Str×Addr))(fp:List Addr),PE (X.yU s H scope (compEnvC scope cl C X.env) fp) elt te)(hs:∀x,foldedSetIterable iter X.env x=pure x:=by intro _;rfl):
 PE X (.ListComp elt [⟨tg,iter,ifs,0⟩] scope pos) (UB wi g tt te (own.map (·.2))):=by
 intro ao s σ H Q I h;rw[eval_ListComp];refine Ej hc hN I hi ok hg ht he hs h λD C s' m H' I' q hn f=>⟨m,hn,λM' sb=>?_⟩;obtain⟨f0,f1,f2,f3,f4,f5⟩:=f;exact⟨.ref D,H',I'.turned (t':=s'.toks) (λb o hb e=>(sb.2 b hb).trans e) f0 f1 f3 f4 f5,rfl,q⟩
theorem Aw{i:Nat}{y:Str}{own:List (Str×Nat)}{pos Sh:Pos}(hc:X.calm=true)(hN:X.N.Nodup)(hy:X.N[i]?=some y)(X8:X.env.scope.names.lookup y=some .local)(ZI:swapsWith (.ListComp elt [⟨tg,iter,ifs,0⟩] scope pos) (some (.Name y py)) Sh.line X.env=pure true)(hi:PI X tg iter wi)(ok:xV X.N X.env.scope scope own)(hg:∀(s:Shared)(H:Hp)(C:Addr)(cl:List (Str×Addr))(fp:List Addr),PG (X.yU s H scope (compEnvC scope cl C X.env) fp) tg g)(ht:∀(s:Shared)(H:Hp)(C:Addr)(cl:List (Str×Addr))(fp:List Addr),Sd (X.yU s H scope (compEnvC scope cl C X.env) fp) ifs tt)(he:∀(s:Shared)(H:Hp)(C:Addr)(cl:List (Str×Addr))(fp:List Addr),PE (X.yU s H scope (compEnvC scope cl C X.env) fp) elt te)(hs:∀x,foldedSetIterable iter X.env x=pure x:=by intro _;rfl):
 PS X (.Assign [.Name y py] (.ListComp elt [⟨tg,iter,ifs,0⟩] scope pos) Sh) (xq (UB wi g tt te (own.map (·.2))) (fG i)):=by
 intro ao s σ H D I h;rw[exec_Assign_Name_used _ _ _ _ ZI];refine aY (wpAny_standAt (aY ?_));show wpAny _ X.A (do let _<-comprehension (.ListComp elt [⟨tg,iter,ifs,0⟩] scope pos) scope X.env (firstIterPos [⟨tg,iter,ifs,0⟩] pos) (newList []) false (eval iter X.env) (some (assign (.Name y py) X.env))) _ _ s;have h:UB wi g tt te (own.map (·.2)) σ H (λx H1=>fG i x σ H1 D.nx):=h;refine aY (rP (Ej (Qf:=λ_ s'=>SP X ao D .next s') hc hN I hi ok hg ht he hs h λL C s' m H' I' q hn f=>?_) λ_ s' hq=>cW (cW hq));show wpAny _ _ (assign (.Name y py) X.env (.ref L)) _ _ _;refine wpAny_assign_Name (xJ (v:=V.ref L) I' hN hy (.inl X8) rfl (λs2 I2 ⟨a,sb,ha⟩=>?_) (.inr X8));obtain⟨f0,f1,f2,f3,f4,f5⟩:=f;have ZJ:C≠a:=by
  rcases ha with z|z
  .rw[z];exact f1
  .exactλe=>f4 y a z e.symm
 refine⟨m,hn.sameBut sb ZJ,λh3 ZK=>?_⟩;exact⟨_,H',I2.turned (t':=s2.toks) (λb o hb e=>(ZK.2 b hb).trans e) f0 f1 f3 f4 f5,q⟩
theorem Ek{gs:List Comprehension}{pos:Pos}{y:Str}{l:Nat}{env:Env}(hk:env.scope.kind= .function)(hy:env.scope.names.lookup y=some .local)(hl:(py.line==pos.line)=true)(ha:(scope.names.any λ(n,k)=>n==y&&(k== .local||k== .cell))=false):swapsWith (.ListComp elt gs scope pos) (some (.Name y py)) l env=pure true:=by
 have ky:env.kindOf y=some .local:=hy;have hb:env.blockKind= .function:=by unfold Env.blockKind;rw[hk];rfl
 unfold swapsWith;simp only[hb,ky,ha,Expr.pos,hl];rfl
end
variable{vs:List Nat}{H1:Hp}{Qd:Hp->Prop}
theorem HI{lo:Int}{n:Nat}(Pv:Nat->Hp->Prop)(h0:Pv 0 (upd H1 D (.lst [])))(hs:∀i H,i<n->Pv i H->g (.int (lo+i)) (wipe σ vs) H λσ2 H2=>wipe σ2 vs=wipe σ vs/\ tt σ2 H2 λb H3=>
 if b=true then te σ2 H3 λy H4=>∃acc,H4 D=some (.lst acc)/\ acc.length<sizeLine/\ Pv (i+1) (upd H4 D (.lst (acc++[y]))) else Pv (i+1) H3)(hd:∀H,Pv n H->Qd H):
 ∃W:Nat->Nat->Hp->Prop,(∃m,W 0 m (upd H1 D (.lst [])))/\ ∀i m H,W i m H->
  ((KN lo n).stop i H/\ Qd H)\/ ((KN lo n).go i H/\ ∃Nx:Hp->Prop,(∀H',Nx H'->∃m',m'<m/\ W (i+1) m' H')/\ ∀x H',(KN lo n).GR i H x H'->g x (wipe σ vs) H' λσ2 H2=>wipe σ2 vs=wipe σ vs/\ tt σ2 H2 λb H3=>if b=true then te σ2 H3 λy H4=>∃acc,H4 D=some (.lst acc)/\ acc.length<sizeLine/\ Nx (upd H4 D (.lst (acc++[y]))) else Nx H3):=by
 refine⟨λi m H=>m=n - i/\ i<=n/\ Pv i H,⟨n,by simp,a8 _,h0⟩,?_⟩;rintro i m H ⟨rfl,hi,p⟩;by_cases fH:i<n
 .refine .inr ⟨fH,Pv (i+1),λH' p'=>⟨n - (i+1),by lia,rfl,fH,p'⟩,λx H' y=>?_⟩;obtain⟨e,y⟩:=y;subst e y;exact hs i _ fH p
 .have e:i=n:=by lia
  subst e;exact .inl ⟨aQ _,hd H p⟩
variable{K:Frag}
theorem El{xs:List V}(Pv:Nat->Hp->Prop)(h0:Pv 0 (upd H1 D (.lst [])))(hl:∀i H,i<=xs.length->Pv i H->bf K H a xs)(hs:∀i x H,xs[i]?=some x->Pv i H->g x (wipe σ vs) H λσ2 H2=>wipe σ2 vs=wipe σ vs/\ tt σ2 H2 λb H3=>
 if b=true then te σ2 H3 λy H4=>∃acc,H4 D=some (.lst acc)/\ acc.length<sizeLine/\ Pv (i+1) (upd H4 D (.lst (acc++[y]))) else Pv (i+1) H3)(hd:∀H,Pv xs.length H->Qd H):
 ∃W:Nat->Nat->Hp->Prop,(∃m,W 0 m (upd H1 D (.lst [])))/\ ∀i m H,W i m H->
  ((Ho K a).stop i H/\ Qd H)\/ ((Ho K a).go i H/\ ∃Nx:Hp->Prop,(∀H',Nx H'->∃m',m'<m/\ W (i+1) m' H')/\ ∀x H',(Ho K a).GR i H x H'->g x (wipe σ vs) H' λσ2 H2=>wipe σ2 vs=wipe σ vs/\ tt σ2 H2 λb H3=>if b=true then te σ2 H3 λy H4=>∃acc,H4 D=some (.lst acc)/\ acc.length<sizeLine/\ Nx (upd H4 D (.lst (acc++[y]))) else Nx H3):=by
 refine⟨λi m H=>m=xs.length - i/\ i<=xs.length/\ Pv i H,⟨xs.length,by simp,a8 _,h0⟩,?_⟩;rintro i m H ⟨rfl,hi,p⟩;have q:=hl i H hi p;by_cases fH:i<xs.length
 .refine .inr ⟨⟨xs,xs[i],q,by simp[fH]⟩,Pv (i+1),λH' p'=>⟨xs.length - (i+1),by lia,rfl,fH,p'⟩,λx H' y=>?_⟩;obtain⟨e,y⟩:=y;subst e;exact hs i x _ (y xs q) p
 .have e:i=xs.length:=by lia
  subst e;exact .inl ⟨⟨xs,q,aQ _⟩,hd H p⟩
def OY(N:List Str)(sc scope:Scope)(own:List (Str×Nat)):Bool:=
 (match scope.kind with| .function=>true|_=>false)&&(scope.names.all λy=>decide (scope.names.lookup y.1=some y.2))&&(own.all λp=>decide (N[p.2]?=some p.1))&&
  (scope.names.all λy=>match y.2 with
   | .free=>(match sc.names.lookup y.1 with|some .cell=>true|some .free=>true|_=>false)
   | .local=>decide (y.1∈own.map (·.1))||decide (y.1∉N)
   | .cell=>decide (y.1∈own.map (·.1))||decide (y.1∉N)
   |_=>true)
theorem HJ{N:List Str}{sc:Scope}{own:List (Str×Nat)}(h:OY N sc scope own=true):xV N sc scope own:=by
 unfold OY at h;simp only[uA,yN,qQ] at h;obtain⟨⟨⟨h1,h2⟩,h3⟩,h4⟩:=h;refine⟨?_,h2,h3,λy hy e=>?_,λy hy e=>?_⟩
 .split at h1
  .assumption
  .cases h1
 .have q:=h4 y hy;simp only[e] at q;split at q<;>first|exact .inl (by assumption)|exact .inr (by assumption)|cases q
 .have q:=h4 y hy;rcases e with e|e<;>(simp only[e,rR,qQ] at q;exact q)
section
variable{κ:Type}[DecidableEq κ]
def gT(a6:List (κ×V))(k:κ):Option V:=(a6.find? λkv=>decide (kv.1=k)).map (·.2)
def putK(a6:List (κ×V))(k:κ)(v:V):List (κ×V):=
 if(a6.any λkv=>decide (kv.1=k))=true then a6.map (λkv=>if kv.1=k then(kv.1,v) else kv) else a6++[(k,v)]
theorem fu{p:κ×V}{r:List (κ×V)}{k:κ}(e:p.1=k):gT (p::r) k=some p.2:=by simp[gT,rW,e]
theorem fw{p:κ×V}{r:List (κ×V)}{k:κ}(e:¬p.1=k):gT (p::r) k=gT r k:=by simp[gT,rW,e]
theorem nO(k:κ):∀a6:List (κ×V),(a6.any λkv=>decide (kv.1=k))=(gT a6 k).isSome
 |[]=>rfl
 |p::r=>by
  rw[uU];by_cases e:p.1=k
  .simp only[fu e,aR e,Bool.true_or,Option.isSome_some]
  .rw[fw e,cP e,QI];exact nO k r
theorem Ax(k j:κ)(y:V):∀a6:List (κ×V),gT (a6.map λkv=>if kv.1=k then(kv.1,y) else kv) j=(gT a6 j).map λx=>if j=k then y else x
 |[]=>rfl
 |p::r=>by
  have ih:=Ax k j y r;rw[cy];by_cases h:p.1=k
  .rw[aq h];by_cases e:p.1=j
   .rw[fu (p:=(p.1,y)) e,fu e,tL,aq (e.symm.trans h)]
   .rw[fw (p:=(p.1,y)) e,fw e,ih]
  .rw[ak h];by_cases e:p.1=j
   .rw[fu (p:=p) e,fu e,tL,ak (λz=>h (e.trans z))]
   .rw[fw (p:=p) e,fw e,ih]
theorem xW(k j:κ)(y:V):∀a6:List (κ×V),gT a6 k=none->gT (a6++[(k,y)]) j=if j=k then some y else gT a6 j
 |[],_=>by
  by_cases e:k=j
  .rw[aq e.symm];exact fu (p:=(k,y)) e
  .rw[ak (λz=>e z.symm)];exact fw (p:=(k,y)) e
 |p::r,hn=>by
  rw[iT];have hk:¬p.1=k:=λz=>by rw[fu z] at hn;cases hn
  rw[fw hk] at hn;have ih:=xW k j y r hn;by_cases e:p.1=j
  .rw[fu e,fu e,ak (λz=>hk (e.trans z))]
  .rw[fw e,fw e,ih]
theorem HK(a6:List (κ×V))(k j:κ)(y:V):gT (putK a6 k y) j=if j=k then some y else gT a6 j:=by
 unfold putK;by_cases a:(a6.any λkv=>decide (kv.1=k))=true
 .rw[aq a,Ax];rw[nO] at a;by_cases e:j=k
  .obtain⟨x,hx⟩:=Hd.mp a;rw[aq e,e,hx,tL,aq rfl]
  .rw[ak e];cases gT a6 j with
   |none=>rfl
   |some x=>rw[tL,ak e]
 .rw[ak a];refine xW k j y a6 ?_;rw[nO] at a;cases q:gT a6 k with
  |none=>rfl
  |some x=>rw[q] at a;exact(a rfl).elim
theorem tQ(a6:List (κ×V))(k:κ)(v:V):(putK a6 k v).length<=a6.length+1:=by
 unfold putK;split
 .rw[aS];lia
 .rw[a_,cj,G6];lia
theorem HL{a6:List (κ×V)}{k:κ}(v:V)(h:gT a6 k=none):putK a6 k v=a6++[(k,v)]:=by unfold putK;rw[nO,h];exact ak (by decide)
theorem pP.sf{o:Option V}{u:Option Value}(r:pP o u):o.isSome=u.isSome:=by
 cases o with
 |none=>cases u with
  |none=>rfl
  |some _=>exact(show False from r).elim
 |some _=>cases u with
  |none=>exact(show False from r).elim
  |some _=>rfl
theorem pP.getD{o:Option V}{u:Option Value}{d:V}{d':Value}(r:pP o u)(rd:RelV d d'):RelV (o.getD d) (u.getD d'):=by
 cases o with
 |none=>cases u with
  |none=>exact rd
  |some _=>exact(show False from r).elim
 |some _=>cases u with
  |none=>exact(show False from r).elim
  |some _=>exact r
theorem KV.val{a6:List (κ×V)}{vs:List (κ×Value)}(r:KV a6 vs)(k:κ):pP (gT a6 k) (valueAt vs k):=by
 unfold KV at r;induction r with
 |nil=>exact True.intro
 |@cons p q ps qs h t ih=>
  obtain⟨h1,h2⟩:=h;by_cases e:p.1=k
  .have e':q.1=k:=h1.symm.trans e;have b:valueAt (q::qs) k=some q.2:=by simp[valueAt,rW,e']
   rw[fu e,b];exact h2
  .have e':¬q.1=k:=λz=>e (h1.trans z);have b:valueAt (q::qs) k=valueAt qs k:=by simp[valueAt,rW,e']
   rw[fw e,b];exact ih
theorem KV.any{a6:List (κ×V)}{vs:List (κ×Value)}(r:KV a6 vs)(k:κ):(a6.any λkv=>decide (kv.1=k))=vs.any λkv=>decide (kv.1=k):=by
 unfold KV at r;induction r with
 |nil=>rfl
 |cons h t ih=>rw[uU,uU,ih,h.1]
theorem KV.OZ{a6:List (κ×V)}{vs:List (κ×Value)}(r:KV a6 vs)(k:κ)(ry:RelV y u):
 KV (a6.map λkv=>if kv.1=k then(kv.1,y) else kv) (vs.map λkv=>if kv.1=k then(kv.1,u) else kv):=by
 unfold KV at r⊢;induction r with
 |nil=>exact .nil
 |@cons p q ps qs h t ih=>
  rw[cy,cy];refine .cons ?_ ih;obtain⟨h1,h2⟩:=h;by_cases e:p.1=k
  .rw[aq e,aq (h1.symm.trans e)];exact⟨h1,ry⟩
  .rw[ak e,ak (λz=>e (h1.trans z))];exact⟨h1,h2⟩
theorem KV.put{a6:List (κ×V)}{vs:List (κ×Value)}(r:KV a6 vs)(k:κ)(ry:RelV y u):KV (putK a6 k y) (stored vs k u):=by
 unfold putK stored;rw[r.any k];by_cases e:(vs.any λkv=>decide (kv.1=k))=true
 .rw[aq e,aq e];exact r.OZ k ry
 .rw[ak e,ak e];exact Paired.snoc r ⟨rfl,ry⟩
theorem KV.length{a6:List (κ×V)}{vs:List (κ×Value)}(r:KV a6 vs):a6.length=vs.length:=u9 r
end
variable{P:Program}
theorem Ay{w:World}{k:Key}(r:RelV (kV k) u):(dJ P w).is k u=true:=by
 cases k with
 |inl i=>obtain⟨t,e⟩:=(show∃t,u=Value.int i t from r);subst e;exact Ag P w i t
 |inr x=>obtain⟨t,e⟩:=(show∃t,u=Value.str x t from r);subst e;exact Ah P w x t
theorem xX{P:Program}{w:World}:∀{ks:List Key}{us:List Value},Vals (ks.map kV) us->ItemsAre (dJ P w) ks us
 |[],_,r=>by rw[List.map_nil] at r;cases r;exact .nil
 |k::ks,_,r=>by
  rw[cy] at r;cases r with
  |cons h t=>exact .cons (Ay h) (xX t)
abbrev KT(H:Hp):List (List Key×V)->List (List Key×Addr×Value)->Prop:=Paired λp q=>p.1=q.1/\ H q.2.1=some (.tup (p.1.map kV))/\ RelV p.2 q.2.2
variable{a6:List (List Key×V)}{xs:List (List Key×Addr×Value)}
theorem KT.val(r:KT H a6 xs)(k:List Key):pP (gT a6 k) ((atKey xs k).map (·.2)):=by
 induction r with
 |nil=>exact True.intro
 |@cons p q ps qs h t ih=>
  obtain⟨h1,_,h2⟩:=h;by_cases e:p.1=k
  .have e':q.1=k:=h1.symm.trans e;have b:atKey (q::qs) k=some q.2:=by simp[atKey,rW,e']
   rw[fu e,b];exact h2
  .have e':¬q.1=k:=λz=>e (h1.trans z);have b:atKey (q::qs) k=atKey qs k:=by simp[atKey,rW,e']
   rw[fw e,b];exact ih
theorem KT.OZ(r:KT H a6 xs)(k:List Key)(ry:RelV y u):
 KT H (a6.map λkv=>if kv.1=k then(kv.1,y) else kv) (xs.map (putAt k u)):=by
 induction r with
 |nil=>exact .nil
 |@cons p q ps qs h t ih=>
  rw[cy,cy];refine .cons ?_ ih;obtain⟨h1,h2,h3⟩:=h;unfold putAt;by_cases e:p.1=k
  .rw[aq e,aq (h1.symm.trans e)];exact⟨h1,h2,ry⟩
  .rw[ak e,ak (λz=>e (h1.trans z))];exact⟨h1,h2,h3⟩
theorem KT.put(r:KT H a6 xs)(k:List Key){b:Addr}(hb:H b=some (.tup (k.map kV)))(ry:RelV y u):
 KT H (putK a6 k y) (storedH xs k b u):=by
 have e:(a6.any λkv=>decide (kv.1=k))=(atKey xs k).isSome:=by rw[nO,(r.val k).sf,Option.isSome_map]
 unfold putK storedH;rw[e];by_cases q:(atKey xs k).isSome=true
 .rw[aq q,aq q];exact r.OZ k ry
 .rw[ak q,ak q];exact Paired.snoc r ⟨rfl,hb,ry⟩
variable{H':Hp}
theorem KT.keeps(r:KT H a6 xs)(ht:∀b ys,H b=some (.tup ys)->H' b=some (.tup ys)):KT H' a6 xs:=
 Paired.Ou r λ_ _ z=>⟨z.1,ht _ _ z.2.1,z.2.2⟩
section
variable{P:Program}{w:World}{H:Hp}{h:Heap}{a:Addr}
theorem Na{u:HO}(ok:nu P w H h)(e:Rd H a u):dj P w H h a u:=e.ok ok
theorem xY{a6:List (Key×V)}(ok:nu P w H h)(e:Rd H a (.dK a6)):a6.length<=sizeLine/\ (a==sysModules)=false/\ ∃vs,KV a6 vs/\ h.DictOf (dJ P w) a vs:=
 show dj P w H h a (.dK a6) from Na ok e
theorem Si{a6:List (Key×V)}(ok:nu P w H h)(e:H a=some (.dK a6)):a6.length<=sizeLine/\ (a==sysModules)=false/\ ∃vs,KV a6 vs/\ h.DictOf (dJ P w) a vs:=xY ok (.inl e)
theorem vw{ks:List Key}(ok:nu P w H h)(e:H a=some (.tup (ks.map kV))):(tupleKind (dJ P w)).is h ks a:=by obtain⟨_,its,r,o,h1,h2,n,h3⟩:=(show dj P w H h a (.tup (ks.map kV)) from ok a _ e);exact⟨o,its.toArray,n,h1,h2,h3,by simpa using xX r⟩
theorem xZ(ok:nu P w H h)(e:Rd H a (.dT a6)):a6.length<=sizeLine/\ (a==sysModules)=false/\
 ∃xs,KT H a6 xs/\ h.DictOfH (tupleKind (dJ P w)) a xs:=by
 obtain⟨z,y,xs,r,o,es,ep,h1,h2,h3,h4,h5⟩:=(show dj P w H h a (.dT a6) from Na ok e);refine⟨z,y,xs,r,o,es,ep,h1,h2,h3,h4,λx hx=>?_,h5⟩;have all:∀{l:List (List Key×V)}{m:List (List Key×Addr×Value)},KT H l m->∀x∈m,(tupleKind (dJ P w)).is h x.1 x.2.1:=by
  intro l m q;induction q with
  |nil=>intro x hx;exact nomatch hx
  |@cons p q ps qs hq t ih=>
   intro x hx;rcases bY.mp hx with e|hx
   .subst e;exact vw ok (by rw[<-hq.1];exact hq.2.1)
   .exact ih x hx
 exact all r x hx
theorem Sj(ok:nu P w H h)(e:H a=some (.dT a6)):a6.length<=sizeLine/\ (a==sysModules)=false/\
 ∃xs,KT H a6 xs/\ h.DictOfH (tupleKind (dJ P w)) a xs:=xZ ok (.inl e)
end
def pS(H:Hp)(a:Addr)(y:V)(r:Option V):Prop:=
 (∃a6 k,Rd H a (.dK a6)/\ y=kV k/\ r=gT a6 k)\/ ∃a6 k b,Rd H a (.dT a6)/\ y= .ref b/\ H b=some (.tup (k.map kV))/\ r=gT a6 k
def Cu(H:Hp)(a:Addr)(y v:V)(H':Hp):Prop:=
 (∃a6 k,H a=some (.dK a6)/\ y=kV k/\ a6.length<sizeLine/\ H'=upd H a (.dK (putK a6 k v)))\/
 ∃a6 k b,H a=some (.dT a6)/\ y= .ref b/\ H b=some (.tup (k.map kV))/\ a6.length<sizeLine/\ H'=upd H a (.dT (putK a6 k v))
theorem pS.k{H:Hp}{a:Addr}{a6:List (Key×V)}{k:Key}(e:H a=some (.dK a6)):pS H a (kV k) (gT a6 k):= .inl ⟨a6,k, .inl e,rfl,rfl⟩
theorem Cu.k{H:Hp}{a:Addr}{a6:List (Key×V)}{k:Key}{v:V}(e:H a=some (.dK a6))(hl:a6.length<sizeLine):Cu H a (kV k) v (upd H a (.dK (putK a6 k v))):= .inl ⟨a6,k,e,rfl,hl,rfl⟩
variable{h':Heap}{ob:HO}
section
variable{X:Cx}{ao:List (Addr×Obj)}{σ:St}{H:Hp}{s:Shared}{a:Addr}{y v:V}{u r:Value}{o:Option V}{A:Around}{E:Value->Shared->Prop}
theorem Inv.big(I:Inv X ao σ H s):sysModules<s.heap.objs.size:=by have h:mainGlobals<s.heap.objs.size:=(I.mod.glob.keeps I.bk).lt;exact Nat.lt_trans (by decide) h
theorem FJ(hu:A.units+1<cLine)(I:Inv X ao σ H s)(g:pS H a y (some v))(ry:RelV y u)(h:∀w' s',Inv X ao σ H s'->RelV v w'->Q w' s'):
 wpAny (model X.prog X.w) A (getItem (.ref a) u) Q E s:=by
 rcases g with⟨a6,k,e,ey,l⟩|⟨a6,k,b,e,ey,eb,l⟩
 .subst ey;obtain⟨z,hd,vs,rel,dd⟩:=xY I.cu e;obtain⟨w',hw,FE⟩:=pP.some_of (v:=v) (o:=valueAt vs k) (by rw[l];exact rel.val k);exact wpAny_getItem_of (Ay ry) dd.mapOf hw (h w' _ (I.tok _) FE)
 .subst ey;cases(show u=Value.ref b from ry);obtain⟨z,hd,xs,rel,dd⟩:=xZ I.cu e;obtain⟨w',hw,FE⟩:=pP.some_of (v:=v) (o:=(atKey xs k).map (·.2)) (by rw[l];exact rel.val k);obtain⟨p,hp,Cv⟩:=Option.map_eq_some_iff.mp hw;refine wpAny_getItem_heap (D1 hu) (vw I.cu eb) dd hp ?_;rw[Cv];exact h w' _ (I.tok _) FE
theorem Wi(hu:A.units+1<cLine)(I:Inv X ao σ H s)(g:pS H a y o)(ry:RelV y u)(h:∀s',Inv X ao σ H s'->Q (.bool o.isSome) s'):
 wpAny (model X.prog X.w) A (compareOp .In u (.ref a)) Q E s:=by
 rcases g with⟨a6,k,e,ey,l⟩|⟨a6,k,b,e,ey,eb,l⟩
 .subst ey;obtain⟨z,hd,vs,rel,dd⟩:=xY I.cu e;refine wpAny_in_of (Ay ry) hd dd.mapOf ?_;rw[<-(rel.val k).sf,<-l];exact h _ (I.tok _)
 .subst ey;cases(show u=Value.ref b from ry);obtain⟨z,hd,xs,rel,dd⟩:=xZ I.cu e;refine wpAny_in_heap (D1 hu) (vw I.cu eb) hd dd ?_;have q:=(rel.val k).sf;rw[Option.isSome_map] at q;rw[<-q,<-l];exact h _ (I.tok _)
theorem Em(I:Inv X ao σ H s)(mu:KH (H a))(hs:Heap.SameBut a s.heap h')(he:∃q,h'.get? a=some q)(new:dj X.prog X.w (upd H a ob) h' a ob):
 Inv X ao σ (upd H a ob) {s with heap:=h',toks:=t'}:=
 I.write (x:=a) (e:=a) mu (.inl rfl) (λb q hb z=>(hs.2 b hb).trans z) he new
theorem O0{w:World}{a6:List (Key×V)}{vs:List (Key×Value)}(z:a6.length<=sizeLine)(hd:(a==sysModules)=false)(rel:KV a6 vs)(dd:h'.DictOf (dJ P w) a vs):
 dj P w H' h' a (.dK a6):=⟨z,hd,vs,rel,dd⟩
theorem FK{Q:Unit->Shared->Prop}(hu:A.units+1<cLine)(I:Inv X ao σ H s)(g:Cu H a y v H')(ry:RelV y u)(rv:RelV v r)(h:∀s',Inv X ao σ H' s'->Q () s'):
 wpAny (model X.prog X.w) A (setItem (.ref a) u r) Q E s:=by
 rcases g with⟨a6,k,e,ey,l,eH⟩|⟨a6,k,b,e,ey,eb,l,eH⟩
 .subst ey eH;obtain⟨z,hd,vs,rel,dd⟩:=Si I.cu e;have hz:vs.length<=sizeLine:=by rw[<-rel.length];exact z
  have hl:(putK a6 k v).length<=sizeLine:=by have:=tQ a6 k v;lia
  refine wpAny_setItem_pairs (hsz:=hz) (Ay ry) dd λh' UD hs=>h _ ?_;have he:∃q,h'.get? a=some q:=let ⟨q,_,_,hq,_⟩:=UD;⟨q,hq⟩;exact Em I (by rw[e];exact True.intro) hs he (O0 hl hd (rel.put k rv) UD)
 .subst ey eH;cases(show u=Value.ref b from ry);obtain⟨z,hd,xs,rel,dd⟩:=Sj I.cu e;have hz:xs.length<=sizeLine:=by rw[<-u9 rel];exact z
  have hl:(putK a6 k v).length<=sizeLine:=by have:=tQ a6 k v;lia
  refine wpAny_setItem_heap (hsz:=hz) (D1 hu) (vw I.cu eb) dd λh' UD hs=>h _ ?_;obtain⟨q,es,ep,hq,h2,h3,h4,_,h5⟩:=UD;refine Em I (by rw[e];exact True.intro) hs ⟨q,hq⟩ ⟨hl,hd,_,(rel.put k eb rv).keeps λc ys ec=>?_,q,es,ep,hq,h2,h3,h4,h5⟩;rw[az (jy ec e (λz=>nomatch z))];exact ec
end
def Sk(i:Expr):Prop:=∀ov iv,subscripted i false ov iv=operate [ov,iv] (getItem ov iv)
theorem K6{prog:Program}{w:World}{env:Env}{value slice:Expr}{pos:Pos}{T id:String}(hl:typeLookup (.type T) "__getitem__"=pure (some (.builtin id)))(hs:Sk slice)(h:wpAny (model prog w) A (eval value env) (λo s₁=>wpAny (model prog w) A (eval slice env) (λi s₂=>s₂.TypeIs o T/\ wpAny (model prog w) A (getItem o i) Q E s₂) E s₁) E s):
 wpAny (model prog w) A (eval (.Subscript value slice pos) env) Q E s:=by
 refine Subscript_ (iq h (λo s₁ h₁=>iq h₁ (λi s₂ h₂=>?_) λ_ _ x=>x) λ_ _ x=>x);obtain⟨hT,h₂⟩:=h₂;unfold subscriptTail;refine aY ?_;rw[getitemInPython_of_ne hT.not_modules];refine aY (wpAny_specialOf hT hl ?_);have fin:wpAny (model prog w) A (subscripted slice false o i) (λr s₃=>wpAny (model prog w) A (letTemporaryGo value o r>>=λ_=>pure r) Q E s₃) E s₂:=by rw[hs o i];exact wpAny_operating (iq h₂ (λr s₃ h₃=>aY (wpAny_letTemporaryGo (cW h₃))) λ_ _ x=>x)
 first
  |exact cW (aY fin)
  |exact aY (cW (aY fin))
  |exact aY fin
variable{X:Cx}
theorem Az{o:Option V}(I:Inv X ao σ H s)(g:pS H a y o):s.TypeIs (.ref a) "dict":=by
 rcases g with⟨a6,k,e,_,_⟩|⟨a6,k,b,e,_,_,_⟩
 .obtain⟨_,_,vs,_,dd⟩:=xY I.cu e;exact dd.typeIs
 .obtain⟨_,_,xs,_,dd⟩:=xZ I.cu e;exact dd.typeIs
def Sl(td ty:TE):TE:=λσ H Q=>td σ H λx H1=>ty σ H1 λy H2=>∃a v,x= .ref a/\ pS H2 a y (some v)/\ Q v H2
def Wj(ty td:TE):TE:=λσ H Q=>ty σ H λy H1=>td σ H1 λx H2=>∃a o,x= .ref a/\ pS H2 a y o/\ Q (.bl o.isSome) H2
def Sm(td ty tv:TE):TS:=λD σ H=>tv σ H λv H1=>td σ H1 λx H2=>ty σ H2 λy H3=>∃a H4,x= .ref a/\ Cu H3 a y v H4/\ D.nx σ H4
section
variable{X:Cx}{o i e value:Expr}{pos pos' vn:Pos}{td ty tv:TE}
theorem uD(hu:X.A.units+1<cLine)(ho:PE X o td)(hi:PE X i ty)(hs:Sk i):PE X (.Subscript o i pos) (Sl td ty):=by intro ao s σ H Q I h;refine K6 PySem.F.slot_dict_getitem.lookup hs (cD (ho ao s σ H _ I h) λu s1 x H1 I1 rx q1=>cD (hi ao s1 σ H1 _ I1 q1) λiv s2 y H2 I2 ry ⟨a,v,ex,g,q2⟩=>?_);subst ex;obtain rfl:u=Value.ref a:=rx;exact⟨Az I2 g,FJ hu I2 g ry λw' s3 I3 FE=>⟨v,H2,I3,FE,q2⟩⟩
theorem O_(hu:X.A.units+1<cLine)(hi:PE X i ty)(ho:PE X o td):PC X .In i o (Wj ty td):=by intro ao s σ H Q I h;refine cD (hi ao s σ H _ I h) λiv s1 y H1 I1 ry q1=>cD (ho ao s1 σ H1 _ I1 q1) λu s2 x H2 I2 rx ⟨a,ov,ex,g,q2⟩=>?_;subst ex;obtain rfl:u=Value.ref a:=rx;exact Wi hu I2 g ry λs3 I3=>⟨.bl ov.isSome,H2,I3,rfl,q2⟩
theorem yW(hu:X.A.units+1<cLine)(ho:PE X o td)(hi:PE X i ty)(hv:PE X value tv)(hs:swapsWith value (some (.Subscript o i pos')) pos.line X.env=pure false):
 PS X (.Assign [.Subscript o i pos'] value pos) (Sm td ty tv):=by
 intro ao s σ H D I h;refine wpAny_Assign_Subscript (cD (hv ao s σ H _ I h) λr s1 v H1 I1 rv q1=>cD (ho ao s1 σ H1 _ I1 q1) λu s2 x H2 I2 rx q2=>cD (hi ao s2 σ H2 _ I2 q2) λiv s3 y H3 I3 ry ⟨a,H4,ex,g,q3⟩=>?_) hs;subst ex;obtain rfl:u=Value.ref a:=rx;exact FK hu I3 g ry rv λs4 I4=>⟨σ,H4,I4,q3⟩
end
theorem HM{w:World}(h:Heap)(hb:sysModules<h.objs.size):dj P w H (h.push {cls:= .type "dict",data:= .dict #[]}) h.objs.size (.dK []):=
 ⟨a8 _,nA.mpr (m5 (cB hb)),[], .nil,Heap.DictOf.new h⟩
def Pa:TE:=λ_ H Q=>∀p,H p=none->Q (.ref p) (upd H p (.dK []))
section
variable{X:Cx}{pos:Pos}
theorem AA:PE X (.Dict [] [] pos) Pa:=λao s σ H Q I h=>wpAny_Dict_empty ⟨.ref s.heap.objs.size,_,I.laid (a:=s.heap.objs.size) (o:= .dK []) (t':=s.toks) (λ_ _ q=>gq _ q) (aQ _) (HM s.heap I.big),rfl,h _ (I.cu.fresh (aQ _))⟩
end
structure M2(X:Cx)(o:Expr)(m:Str)(apos:Pos)(e f:Expr)(k8:Pos):Prop where
 base:attributeBase o m X.env (eval o X.env)=eval o X.env
 ZL:((backTo k8 (starEach [e,f] X.env)).all (λx=> !x.1)&&(backToKw k8 (keywordEach [] X.env)).all (λx=>x.1.isSome)
  &&decide (([e,f]:List Expr).length+([]:List Keyword).length+(if([]:List Keyword).isEmpty then 0 else 1)<30))=true
 line:(apos.endLine==k8.line)=true
 trees:backTo k8 (starEach [e,f] X.env)=[(false,eval e X.env),(false,eval f X.env)]
def X9(H:Hp)(a:Addr):Prop:=(∃a6,Rd H a (.dK a6))\/ ∃a6,Rd H a (.dT a6)
theorem Pb(I:Inv X ao σ H s)(d:X9 H a):
 s.TypeIs (.ref a) "dict"/\ (∀b,Value.ref a= .ref b->∃ob,s.heap.get? b=some ob/\ ob.dict=none)/\ (a==sysModules)=false:=by
 rcases d with⟨a6,e⟩|⟨a6,e⟩
 .obtain⟨_,hd,vs,_,dd⟩:=xY I.cu e;refine⟨dd.typeIs,λb q=>?_,hd⟩;cases q;obtain⟨ob,_,_,h1,h2,_⟩:=dd;exact⟨ob,h1,h2.2.1⟩
 .obtain⟨_,hd,xs,_,dd⟩:=xZ I.cu e;refine⟨dd.typeIs,λb q=>?_,hd⟩;cases q;obtain⟨ob,_,_,h1,h2,_⟩:=dd;exact⟨ob,h1,h2.2.1⟩
section
variable{X:Cx}{ao:List (Addr×Obj)}{σ:St}{H:Hp}{s:Shared}{a:Addr}{y d:V}{u r:Value}{o:Option V}{A:Around}{E:Value->Shared->Prop}
theorem Pc(hu:A.units+1<cLine)(I:Inv X ao σ H s)(g:pS H a y o)(ry:RelV y u)(rd:RelV d r)(h:∀w' s',Inv X ao σ H s'->RelV (o.getD d) w'->Q w' s'):
 wpAny (model X.prog X.w) A (call (.builtin "dict.get") [.ref a,u,r]) Q E s:=by
 rcases g with⟨a6,k,e,ey,l⟩|⟨a6,k,b,e,ey,eb,l⟩
 .subst ey;obtain⟨z,hd,vs,rel,dd⟩:=xY I.cu e;refine call_meetsIn He dd.typeIs PySem.F.entry_dict_get (MO _ _ _) (meets_dict_get_default (dJ X.prog X.w) a (Ay ry) hd r) ⟨_,dd.mapOf,h _ _ (I.tok _) ?_⟩;rw[l];exact(rel.val k).getD rd
 .subst ey;cases(show u=Value.ref b from ry);obtain⟨z,hd,xs,rel,dd⟩:=xZ I.cu e;refine call_meetsIn He dd.typeIs PySem.F.entry_dict_get (MO _ _ _) (meetsH_dict_get_default (tupleKind (dJ X.prog X.w)) a b hd r) ⟨D1 hu,k,xs,vw I.cu eb,dd,h _ _ (I.tok _) ?_⟩;rw[l];exact(rel.val k).getD rd
end
def Pd(td ty tx:TE):TE:=λσ H Q=>td σ H λx H1=>∃a,x= .ref a/\ X9 H1 a/\ ty σ H1 λy H2=>tx σ H2 λz H3=>∃o,pS H3 a y o/\ Q (o.getD z) H3
section
variable{X:Cx}{o e f:Expr}{apos k8:Pos}{td ty tx:TE}
theorem HN(hu:X.A.units+1<cLine)(ho:PE X o td)(he:PE X e ty)(hf:PE X f tx)(m:M2 X o "get" apos e f k8):PE X (.Call (.Attribute o "get" apos) [e,f] [] k8) (Pd td ty tx):=by
 intro ao s σ H Q I h;refine wpAny_Call_method m.base m.ZL m.line PySem.F.plainAttrs_dict He PySem.F.type_dict_get (cD (ho ao s σ H _ I h) λu s1 x H1 I1 rx ⟨a,ex,d,q1⟩=>?_);subst ex;obtain rfl:u=Value.ref a:=rx;obtain⟨t1,t2,_⟩:=Pb I1 d;refine⟨t1,t2,?_⟩;rw[m.trees];refine Kr rfl (NW (GZ (cD (he ao s1 σ H1 _ I1 q1) λiv s2 y H2 I2 ry q2=>GZ (cD (hf ao s2 σ H2 _ I2 q2) λfv s3 z H3 I3 rz ⟨ov,g,q3⟩=>Ks ?_))))
 exact Pc hu I3 g ry rz λw' s4 I4 FE=>⟨_,H3,I4,FE,q3⟩
end
theorem vx:bootBuiltins "reversed"=some (.type "reversed"):=by decide+kernel
variable{d:Addr}
section
variable{X:Cx}{ao:List (Addr×Obj)}{σ:St}{H:Hp}{s:Shared}{h':Heap}
theorem Inv.sg{ch:List Addr}{T:Addr}(I:Inv X ao σ H s)(k:∀b o,b∉ch->s.heap.get? b=some o->h'.get? b=some o)(hf:∀b∈ch,vg X ao H b)(hT:s.heap.objs.size<=T)(new:dj X.prog X.w (upd H T ob) h' T ob):Inv X ao σ (upd H T ob) {s with heap:=h',toks:=t'}:=by
 have hn:H T=none:=I.cu.fresh hT;have RC:∀b u,H b=some u->b∉ch:=λb u e z=>by have q:=(hf b z).1;rw[q] at e;cases e
 refine I.step (g':=s.gens) (d':=s.drawn) (ch:=ch) (λb hb=>⟨(hf b hb).2.2.2.1,(hf b hb).2.1,(hf b hb).2.2.2.2.1,(hf b hb).2.2.2.2.2⟩) (λb o _ _ hc e _=>k b o hc e) (λb o _ _ hc e _=>⟨o.slots,k b o hc e⟩)
  (λb o _ e n=>?_) (λb o hc e=>⟨o,k b o hc e⟩) (λb xs e=>?_) (λb o u e=>?_) (λb ps e=>⟨#[],?_⟩) (λm hm=>?_) (λb u e=>?_) I.bare
 .rw[az (cB (dF (dh e) hT))];exact n
 .rw[az (ba e hn)];exact e
 .rw[az (ba e hn)];exact e
 .rw[az (ba e hn),e];simp
 .obtain⟨o,es,ep,ho,r⟩:=hm;exact⟨o,es,ep,k _ o (λz=>(hf _ z).2.1 rfl) ho,r⟩
 .by_cases hb:b=T
  .subst hb;rw[ah] at e;cases e;exact new
  .rw[az hb] at e;refine(I.cu b u e).ui (λc v hc q=>k c v ?_ q) (λc q=>by rw[az (ba q hn)];exact q) λc xs q=>by rw[az (ba q hn)];exact q
   rcases hc with z|z
   .rw[z];exact RC b u e
   .exact RC c _ z
theorem Inv.lock{u:HO}(I:Inv X ao σ H s)(h:H d=some u)(mu:KH (some u)):∃od,Inv X ao σ (upd H d (.jO od u)) s:=by
 have x:=I.cu d u h;have ex:∃od,s.heap.get? d=some od:=by
  cases u with
  |lst xs=>obtain⟨_,_,_,_,e⟩:=x;exact⟨_,e⟩
  |dK a6=>obtain⟨_,_,_,_,o,_,_,e,_⟩:=x;exact⟨o,e⟩
  |dT a6=>obtain⟨_,_,_,_,o,_,_,e,_⟩:=x;exact⟨o,e⟩
  |set S n=>obtain⟨o,_,_,_,e,_⟩:=x;exact⟨o,e⟩
  |ins C dx fs=>obtain⟨_,_,_,e,_⟩:=x;exact⟨_,e⟩
  |ext φ=>obtain⟨_,⟨_,e⟩,_⟩:=x;exact⟨_,e⟩
  |_=>exact False.elim mu
 obtain⟨od,e⟩:=ex;have new:dj X.prog X.w (upd H d (.jO od u)) s.heap d (.jO od u):=by
  refine⟨e,x.ui (λb v _ q=>q) (λb q=>?_) λb xs q=>?_⟩
  .rw[az (λz=>by rw[z,h] at q;cases q;exact mu)];exact q
  .rw[az (λz=>by rw[z,h] at q;cases q;exact mu)];exact q
 exact⟨od,I.write (x:=d) (e:=d) (t':=s.toks) (h':=s.heap) (by rw[h];exact mu) (.inl rfl) (λb v _ q=>q) ⟨od,e⟩ new⟩
theorem Inv.Sn{u:HO}(I:Inv X ao σ H s)(h:H d=some u)(mu:KH (some u)):∀o' u',X.Ow d≠some (.jO o' u'):=λo' u' e=>by have q:=I.base.uj d o' u' e;rw[h] at q;cases q;exact mu
theorem Inv.unlock{od:Obj}{u:HO}(I:Inv X ao σ H s)(h:H d=some (.jO od u))(hn:∀o' u',X.Ow d≠some (.jO o' u')):Inv X ao σ (upd H d u) s:=by
 have QR:∀b o,H b=some o->(∀o' u',o≠ .jO o' u')->b≠d:=λb o e fo z=>by rw[z,h] at e;cases e;exact fo _ _ rfl
 have neN:∀b,H b=none->b≠d:=λb e z=>by rw[z,h] at e;cases e
 refine⟨I.ok,I.os,I.bare,⟨I.base.keep,I.base.slot,λb o e n hx=>?_,I.base.there,λb xs e=>?_,λb o x e=>?_,λb ps e=>?_⟩,I.loc,I.cell,?_,λx c e=>?_,λp hp=>?_,λb o e=>?_,I.len⟩
 .rw[az (neN b (I.base.free b o e n hx))];exact I.base.free b o e n hx
 .have q:=I.base.xn b xs e;rw[az (QR b _ q (λ_ _ z=>nomatch z))];exact q
 .have q:=I.base.uj b o x e;rw[az (λz=>by rw[z] at e;exact hn _ _ e)];exact q
 .obtain⟨m,q⟩:=I.base.vb b ps e;exact⟨m,by rw[az (QR b _ q (λ_ _ z=>nomatch z))];exact q⟩
 .rw[az (neN _ I.free)];exact I.free
 .rw[az (neN c (I.kC x c e))];exact I.kC x c e
 .obtain⟨e,n,r⟩:=I.pin p hp;exact⟨e,by rw[az (neN _ n)];exact n,r⟩
 .by_cases hb:b=d
  .rw[hb,ah] at e;cases e;rw[hb];obtain⟨_,x⟩:=I.cu d _ h;exact x.ui (λc v _ q=>q) (λc q=>by rw[az (QR c _ q (λ_ _ z=>nomatch z))];exact q) λc xs q=>by rw[az (QR c _ q (λ_ _ z=>nomatch z))];exact q
  .rw[az hb] at e;exact(I.cu b o e).ui (λc v _ q=>q) (λc q=>by rw[az (QR c _ q (λ_ _ z=>nomatch z))];exact q) λc xs q=>by rw[az (QR c _ q (λ_ _ z=>nomatch z))];exact q
end
def Pe(t:TE):TE:=λσ H Q=>∃d u,H d=some u/\ KH (some u)/\ ∀od,t σ (upd H d (.jO od u)) λv H'=>H' d=some (.jO od u)/\ Q v (upd H' d u)
variable{e:Expr}
section
variable{X:Cx}
theorem En{t:TE}(h:PE X e t):PE X e (Pe t):=by intro ao s σ H Q I hw;obtain⟨d,u,hd,mu,hw⟩:=hw;obtain⟨od,I1⟩:=I.lock hd mu;refine cD (h ao s σ _ _ I1 (hw od)) λv s1 x H1 I2 r ⟨e2,q⟩=>?_;exact⟨x,_,I2.unlock e2 (I.Sn hd mu),r,q⟩
theorem Cw{R:It->Hp->Prop}{J:It}{tn:Nat->Heap->Prop}{tk:Nat}(I:Inv X ao σ H s)(o:Obj)(T:Turn X.prog X.w X.K tg J [s.heap.objs.size] s.heap.objs.size tn)(st:tn 0 (s.heap.push o))(q:R J H):Ut X ao σ tg R (.ref s.heap.objs.size) {s with heap:=s.heap.push o,toks:=tk}:=by
 refine⟨s.heap.objs.size,[s.heap.objs.size],tn,J,H,rfl,I.kept λb ob e=>gq _ e,T,st,λb hb=>?_,q⟩;have e:b=s.heap.objs.size:=by simpa using hb
 subst e;exact I.Ft (aQ _) (I.cu.fresh (aQ _))
end
def So(x:Str):It:=⟨λi _=>i<x.cps.size,λi H v H'=>H'=H/\ ∃c,x.cps[i]?=some c/\ v= .str ⟨#[c]⟩,λi _=>x.cps.size<=i⟩
theorem AD{w:World}(it:Addr)(x:Str)(t:Tok)(ty:String)(M5:ty="str_ascii_iterator"\/ ty="str_iterator"):
 Turn P w K tg (So x) [it] it (λi h=>h.IsStrIter it ty x t i) where
 mem:=by simp
 obj:=λi h st b hb=>by
  have e:b=it:=by simpa using hb
  subst e;obtain⟨o,e,c,d⟩:=st;exact⟨o,e,λv z=>by rw[d] at z;cases z⟩
 keep:=λi h h' st k=>let ⟨o,ho,r⟩:=st;⟨o,k it (by simp) o ho,r⟩
 item:=by
  intro X hP hw hK hc i ao s σ H E I hf st hg;subst hP hw hK;obtain⟨f0,f1,f2,f3,f4,f5⟩:=hf it (by simp);have W:Walks X.prog X.w X.A it [it] [it] x.cps.size (SignAt x) (λi h=>h.IsStrIter it ty x t i):=by
   rcases M5 with e|e
   .rw[e];exact Walks.strAscii (I.ok.hd hc) it x t
   .rw[e];exact Walks.strWide (I.ok.hd hc) it x t
  have rQ:["enumerate","zip","dict_itemiterator","dict_reverseitemiterator","odict_iterator","itertools.zip_longest","itertools.pairwise"].contains ty=false:=by
   rcases M5 with e|e
   .rw[e];decide
   .rw[e];decide
  refine W.item i s _ _ hg st λv h' tk hv Fv kk=>?_;obtain⟨c,u,ZM,rfl⟩:=hv;have I1:Inv X ao σ H {s with heap:=h',toks:=tk}:=I.turned (λb o hb e=>kk b o (by simpa using hb) e) f0 f1 f3 f4 f5;obtain⟨oi,e,cc,dd⟩:=id Fv;exact⟨_,rfl,Hn (s:={s with heap:=h',toks:=tk}) e cc dd rQ ⟨.str ⟨#[c]⟩,H,I1,⟨u,rfl⟩,⟨rfl,c,ZM,rfl⟩,Fv,λb hb=>(hf b hb).1⟩⟩
 done:=by
  intro X hP hw hK hc i ao s σ H E I hf st hg;subst hP hw hK;obtain⟨f0,f1,f2,f3,f4,f5⟩:=hf it (by simp);have hx:x.cps[i]?=none:=Array.getElem?_eq_none hg;rcases M5 with e|e
  .rw[e] at st;exact wpAny_pyNext_ascii_end (I.ok.hd hc) st hx λh' eb=>⟨rfl,I.turned (t':=s.toks) (λb o hb e=>eb b o hb e) f0 f1 f3 f4 f5⟩
  .rw[e] at st;exact wpAny_pyNext_wide_end (I.ok.hd hc) st hx λh' eb=>⟨rfl,I.turned (t':=s.toks) (λb o hb e=>eb b o hb e) f0 f1 f3 f4 f5⟩
 self:=λA i s Q E st h=>by
  rcases M5 with e|e
  .rw[e] at st;exact wpAny_pyIter_striter_ascii st h
  .rw[e] at st;exact wpAny_pyIter_striter_wide st h
def Wk(te:TE):TI:=λσ H R=>te σ H λv H1=>∃x,v= .str x/\ R (So x) H1
theorem Pf(he:PE X e te):PI X tg e (Wk te):=by
 intro ao s σ H R I h;refine cD (he ao s σ H _ I h) λv s1 y H1 I1 r1 ⟨x,ex,q⟩=>?_;subst ex;obtain⟨t,rfl⟩:=r1;cases ha:x.cps.all (·<128)
 .exact wpAny_pyIter_wide ha (Cw (tk:=s1.toks) I1 _ (AD _ x t "str_iterator" (.inr rfl)) ⟨_,jD _ rfl,rfl,rfl⟩ q)
 .exact wpAny_pyIter_ascii ha (Cw (tk:=s1.toks) I1 _ (AD _ x t "str_ascii_iterator" (.inl rfl)) ⟨_,jD _ rfl,rfl,rfl⟩ q)
theorem Pg{κ:Type}{a6:List (κ×V)}{vs:List (κ×Value)}(h:KV a6 vs):∀{i:Nat}{k:κ}{v:V},a6[i]?=some (k,v)->∃u,vs[i]?=some (k,u)/\ RelV v u:=by
 unfold KV at h;induction h with
 |nil=>intro i k v e;simp at e
 |@cons a b l₁ l₂ r t ih=>
  intro i k v e;cases i with
  |zero=>simp only[Rq,Option.some.injEq] at e;subst e;refine⟨b.2,?_,r.2⟩;simp only[Rq];exact c_ some (Prod.ext r.1.symm rfl)
  |succ j=>simp only[List.getElem?_cons_succ] at e⊢;exact ih e
theorem HP{k:Key}(h:tM k u=true):RelV (kV k) u:=by
 rcases dA h with⟨i,t,rfl,rfl⟩|⟨x,t,rfl,rfl⟩
 .exact⟨t,rfl⟩
 .exact⟨t,rfl⟩
section
variable{X:Cx}{ao:List (Addr×Obj)}{σ:St}{H:Hp}{s:Shared}{d:Addr}{o:Obj}
theorem Inv.Ph{a6:List (Key×V)}(I:Inv X ao σ H s)(h:H d=some (.jO o (.dK a6))):
 (d==sysModules)=false/\ s.heap.get? d=some o/\ o.ExactDict/\ ∃(es:Array DictEntry)(ep:Nat)(vs:List (Key×Value)),o.data= .dict es ep/\ es.size=a6.length/\ KV a6 vs/\ s.heap.DictAt (dJ X.prog X.w) d vs ep:=by
 obtain⟨hd,z,hs,vs,kv,o',es,ep,ho,hx,Kh,r⟩:=I.cu d _ h;rw[hd] at ho;cases ho;refine⟨hs,hd,hx,es,ep,vs,Kh,?_,kv,o,es,hd,hx,Kh,r⟩;have l1:=r.2.1.length;have l2:a6.length=vs.length:=u9 kv;rw[Rk] at l1
 lia
end
def Sq(d:Addr)(o:Obj)(a6:List (Key×V)):It:=
 ⟨λi H=>H d=some (.jO o (.dK a6))/\ i<a6.length,λi H x H'=>∃T k v,a6[i]?=some (k,v)/\ x= .ref T/\ H T=none/\ H'=upd H T (.tup [kV k,v]),λi H=>H d=some (.jO o (.dK a6))/\ a6.length<=i⟩
theorem Eo{o:Obj}{es MT:Array DictEntry}{ep MU:Nat}(h:o.data= .dict es ep)(h':o.data= .dict MT MU):MT=es/\ MU=ep:=by rw[h] at h';cases h';exact⟨rfl,rfl⟩
variable{elts:List Expr}{kk:Nat}{vn:Pos}
section
variable{P:Program}{w:World}{K:Frag}{tg:Expr}{d:Addr}{o:Obj}{es:Array DictEntry}{ep:Nat}
theorem Cy{a6:List (Key×V)}(it:Addr)(X_:o.data= .dict es ep):
 Turn P w K (.Tuple elts kk vn) (Sq d o a6) [it] it (λi h=>∃ok ov,IsItemIter h it d i a6.length ep ok ov) where
 mem:=by simp
 obj:=λi h st b hb=>by
  have e:b=it:=by simpa using hb
  subst e;obtain⟨ok,ov,e⟩:=st;exact⟨_,e,λv z=>nomatch z⟩
 keep:=λi h h' st k=>let ⟨ok,ov,e⟩:=st;⟨ok,ov,k it (by simp) _ e⟩
 item:=by
  intro X hP hw hK hc i ao s σ H E I hf st hg;subst hP hw hK;obtain⟨hd,hi⟩:=hg;obtain⟨hs,QS,hx,MT,MU,vs,Kh,hsz,kv,hm⟩:=I.Ph hd;obtain⟨rfl,rfl⟩:=Eo X_ Kh;obtain⟨⟨k,v⟩,Nb⟩:∃p,a6[i]?=some p:=⟨a6[i],c8 hi⟩;obtain⟨u,hu,ru⟩:=Pg kv Nb;have hl:a6.length=vs.length:=u9 kv;obtain⟨ok,ov,he⟩:=st;rw[hl] at he;have fH:it<s.heap.objs.size:=dh he;refine wpAny_pyNext_items_item he hm hu λkey h' OG ho hT hz hk=>?_;refine⟨_,rfl,wpAny_letOwnedTupleGo_items (s:={s with heap:=h'}) ho λM' Sr sb=>?_⟩;have Pk:M'.get? s.heap.objs.size=some {cls:= .type "tuple",data:= .seq #[key,u]}:=(sb.2 _ (u6 fH)).trans hT;have new:dj X.prog X.w (upd H s.heap.objs.size (.tup [kV k,v])) M' s.heap.objs.size (.tup [kV k,v]):=
   ⟨by show 2<=sizeLine;decide,[key,u], .cons (HP (show tM k key=true from OG)) (.cons ru .nil),⟨_,Pk,rfl,_,rfl⟩⟩
  have I1:Inv X ao σ (upd H s.heap.objs.size (.tup [kV k,v])) {s with heap:=M'}:=
   I.sg (t':=s.toks) (ch:=[it]) (λb ob hb e=>(sb.2 b (by simpa using hb)).trans (hk b ob (by simpa using hb) e)) hf (aQ _) new
  refine⟨.ref s.heap.objs.size,_,I1,rfl,⟨_,k,v,Nb,rfl,I.cu.fresh (aQ _),rfl⟩,⟨key,u,?_⟩,λb hb=>?_⟩
  .rw[hl];exact Sr
  .have e:b=it:=by simpa using hb
   rw[e,az (cB fH)];exact(hf it (by simp)).1
 done:=by intro X hP hw hK hc i ao s σ H E I hf st hg;subst hP hw hK;obtain⟨hd,hi⟩:=hg;obtain⟨f0,f1,f2,f3,f4,f5⟩:=hf it (by simp);obtain⟨hs,QS,hx,MT,MU,vs,Kh,hsz,kv,hm⟩:=I.Ph hd;obtain⟨rfl,rfl⟩:=Eo X_ Kh;have hl:a6.length=vs.length:=u9 kv;obtain⟨ok,ov,he⟩:=st;rw[hl] at he;exact wpAny_pyNext_items_end (I.ok.hd hc) he hm (KD (by lia)) λh' eb=>⟨rfl,I.turned (t':=s.toks) (λb ob hb e=>eb b ob hb e) f0 f1 f3 f4 f5⟩
 self:=λA i s Q E st h=>let ⟨_,_,e⟩:=st;PySem.W.kcp_self e h
end
def Pl(td:TE):TI:=λσ H R=>td σ H λx H1=>∃d o a6,x= .ref d/\ H1 d=some (.jO o (.dK a6))/\ R (Sq d o a6) H1
section
variable{X:Cx}{tg e:Expr}{td:TE}{apos k8:Pos}
theorem HQ(he:PE X e td)(qV:attributeBase e "items" X.env (eval e X.env)=eval e X.env:=by rfl)(qW:(apos.endLine==k8.line)=true:=by rfl):
 PI X (.Tuple elts kk vn) (.Call (.Attribute e "items" apos) [] [] k8) (Pl td):=by
 intro ao s σ H R I h;refine wpAny_Call_method (T:="dict") (id:="dict.items") qV rfl qW F.plainAttrs_dict F.slot_dict_items F.type_dict_items (cD (he ao s σ H _ I h) λu s1 x H1 I1 rx ⟨d,o,a6,ex,hd,q⟩=>?_);subst ex;obtain rfl:u=Value.ref d:=rx;obtain⟨hs,QS,hx,es,ep,vs,Kh,hsz,kv,hm⟩:=I1.Ph hd;have hl:a6.length=vs.length:=u9 kv;refine⟨hm.dictOf.typeIs,hm.dictOf.mapOf.noDict,?_⟩;have I2:Inv X ao σ H1 {s1 with heap:=s1.heap.push {cls:= .type "dict_items",data:= .fields #[.ref d]}}:=I1.kept (t':=s1.toks) λb ob q=>gq _ q;have fin:wpAny (model X.prog X.w) X.A (pyIter (.ref s1.heap.objs.size)) (Ut X ao σ (.Tuple elts kk vn) R) X.xe {s1 with heap:=s1.heap.push {cls:= .type "dict_items",data:= .fields #[.ref d]}}:=by refine wpAny_pyIter_items (d:=d) (knd:=dJ X.prog X.w) ⟨_,jD _ rfl,rfl,rfl⟩ (hm.push _) (Cw (tk:=s1.toks) I2 _ (Cy _ Kh) ⟨.none, .none,?_⟩ q);rw[hl];exact jD _ rfl
 show wpAny _ _ (callWith k8 (.builtin "dict.items") [.ref d] [] []) _ X.xe s1;exact method_meetsIn F.slot_dict_items F.entry_dict_items rfl (PySem.evalArgs_none ⟨rfl,hm.dictOf.typeIs,F.args_dict_items_1 _,_,meets_dict_items (dJ X.prog X.w) d hs,⟨vs,hm.dictOf⟩,fin⟩)
end
def Ss(K:Frag)(a:Addr):It:=
 ⟨λi H=>∃(xs:List V)(x:V),bf K H a xs/\ xs[i]?=some x,λi H v H'=>∃T x,v= .ref T/\ H T=none/\ H'=upd H T (.tup [.int (i:Nat),x])/\ ∀xs,bf K H a xs->xs[i]?=some x,λi H=>∃xs:List V,bf K H a xs/\ xs.length<=i⟩
theorem FL{w:World}(a e it:Addr):
 Turn P w K (.Tuple elts kk vn) (Ss K a) [e,it] e (λi h=>(∃old,IsEnum h e it ((i:Nat):Int) old)/\ h.IsListIter it a i/\ e≠it) where
 mem:=by simp
 obj:=λi h st b hb=>by
  obtain⟨⟨old,he⟩,⟨o,ho,hc,hd⟩,_⟩:=st;have e':b=e\/ b=it:=by simpa using hb
  rcases e' with z|z
  .rw[z];exact⟨_,he,λv q=>nomatch q⟩
  .rw[z];exact⟨o,ho,λv q=>by rw[hd] at q;cases q⟩
 keep:=λi h h' st k=>let ⟨⟨old,he⟩,hi,fo⟩:=st;⟨⟨old,k e (by simp) _ he⟩,hi.at λo q=>k it (by simp) o q,fo⟩
 item:=by
  intro X hP hw hK hc i ao s σ H E I hf st hg;subst hP hw hK;obtain⟨⟨old,he⟩,hit,fo⟩:=st;obtain⟨xs,x,hq,hx⟩:=hg;obtain⟨its,rv,p,hz⟩:=I.list hq;obtain⟨u,hu,ru⟩:=rv.get hx;have Su:e<s.heap.objs.size:=dh he;have m_:it<s.heap.objs.size:=by obtain⟨_,q,_⟩:=hit;exact dh q
  refine wpAny_pyNext_enum_item he hit p.isList (x:=u) (by simpa using hu) fo λh' ho HR hT hsz hk=>?_;refine⟨_,rfl,wpAny_letOwnedTupleGo_enum (s:={s with heap:=h',toks:=s.toks+1}) ho λM' Sr sb=>?_⟩;have Pk:M'.get? s.heap.objs.size=some {cls:= .type "tuple",data:= .seq #[.int i s.toks,u]}:=(sb.2 _ (u6 Su)).trans hT;have new:dj X.prog X.w (upd H s.heap.objs.size (.tup [.int (i:Nat),x])) M' s.heap.objs.size (.tup [.int (i:Nat),x]):=
   ⟨by show 2<=sizeLine;decide,[.int i s.toks,u], .cons ⟨_,rfl⟩ (.cons ru .nil),⟨_,Pk,rfl,_,rfl⟩⟩
  have I1:Inv X ao σ (upd H s.heap.objs.size (.tup [.int (i:Nat),x])) {s with heap:=M',toks:=s.toks+1}:=
   I.sg (ch:=[e,it]) (λb ob hb q=>(sb.2 b (λz=>hb (by simp[z]))).trans (hk b ob (λz=>hb (by simp[z])) (λz=>hb (by simp[z])) q)) hf (aQ _) new
  refine⟨.ref s.heap.objs.size,_,I1,rfl,⟨_,x,rfl,I.cu.fresh (aQ _),rfl,λys hy=>by rw[I.Ai hy hq];exact hx⟩,⟨⟨u,?_⟩,HR.at λo q=>(sb.2 it (m5 fo)).trans q,fo⟩,λb hb=>?_⟩
  .have e1:((i+1:Nat):Int)=(i:Int)+1:=by lia
   rw[e1];exact Sr
  .have Pn:b<s.heap.objs.size:=by
    have e':b=e\/ b=it:=by simpa using hb
    rcases e' with z|z
    .rw[z];exact Su
    .rw[z];exact m_
   rw[az (cB Pn)];exact(hf b hb).1
 done:=by intro X hP hw hK hc i ao s σ H E I hf st hg;subst hP hw hK;obtain⟨⟨old,he⟩,hit,fo⟩:=st;obtain⟨xs,hq,hx⟩:=hg;obtain⟨its,rv,p,hz⟩:=I.list hq;obtain⟨f0,f1,f2,f3,f4,f5⟩:=hf it (by simp);have hl:=rv.length;exact wpAny_pyNext_enum_end (I.ok.hd hc) he hit p.isList (by simp;lia) λh' eb=>⟨rfl,I.turned (t':=s.toks) (λb o hb q=>eb b o hb q) f0 f1 f3 f4 f5⟩
 self:=λA i s Q E st h=>let ⟨⟨_,he⟩,_⟩:=st;D4 he h
def Sv(K:Frag)(ta:TA):TI:=λσ H R=>ta σ H λvs H1=>∃a xs,vs=[.ref a]/\ bf K H1 a xs/\ R (Ss K a) H1
theorem yX{ta:TA}{p pos:Pos}(hg:Gl X "enumerate")(hm:X.mg "enumerate"=none)(ha:PA X [e] ta)(hs:starEach [e] X.env=[(false,eval e X.env)]:=by rfl):
 PI X (.Tuple elts kk vn) (.Call (.Name "enumerate" p) [e] [] pos) (Sv X.K ta):=by
 intro ao s σ H R I h;refine Call_ (nD I hg hm boot_enumerate (xH (cD (ha pos ao s σ H _ I h) λus s1 vs H1 I1 r1 q1=>?_) hs rfl));obtain⟨a,xs,ex,hq,q⟩:=q1;subst ex;cases r1 with
 |cons r rr=>
  cases rr;cases r;obtain⟨its,rv,p',hz⟩:=I1.list hq;refine call_enumerate_list p'.isList λh' he hit hsz hk=>D4 he ?_;have I2:Inv X ao σ H1 {s1 with heap:=h'}:=I1.kept (t':=s1.toks) hk;refine⟨s1.heap.objs.size+1,[s1.heap.objs.size+1,s1.heap.objs.size],_,_,H1,rfl,I2,FL a (s1.heap.objs.size+1) s1.heap.objs.size,⟨⟨.none,he⟩,hit,Nat.succ_ne_self _⟩,λb hb=>?_,q⟩;have e':b=s1.heap.objs.size+1\/ b=s1.heap.objs.size:=by simpa using hb
  have hle:s1.heap.objs.size<=b:=by
   rcases e' with z|z
   .rw[z];exact u1 _ _
   .rw[z];exact aQ _
  exact I1.Ft hle (I1.cu.fresh hle)
end L2
section
namespace TL
open PySem PySem.Builtin PySem.Builtin.Str PySem.StrLaws
abbrev tl(x:Str):List Nat:=x.cps.toList
theorem dq(x:Str):x.length=(tl x).length:=by simp[tl,Str.length]
theorem Cz{x y:Str}(h:tl x=tl y):x=y:=Str.ext' (Array.toList_inj.mp h)
theorem fD(x y:Str):tl (x++y)=tl x++tl y:=by show(x++y).cps.toList=_;rw[Str.cps_append,Ug]
def x3(S:List Nat):List (List Nat)->List Nat
 |[]=>[]
 |[p]=>p
 |p::q::r=>p++(S++x3 S (q::r))
theorem uE(y:Str):∀parts:List Str,tl (Str.join y parts)=x3 (tl y) (parts.map tl)
 |[]=>rfl
 |[_]=>rfl
 |x::z::r=>by show tl (x++y++Str.join y (z::r))=tl x++(tl y++x3 (tl y) ((z::r).map tl));rw[fD,fD,uE y (z::r),dQ]
theorem join_eq(y:Str)(parts:List Str):Txt.join y parts=Str.join y parts:=glued_eq_join y parts
def AE(n:Nat):List Nat:=(Nat.toDigits 10 n).map Char.toNat
theorem CB(n:Nat):tl (Str.ofString (toString ((n:Nat):Int)))=AE n:=PySem.W.KIN.signs_num n
end TL
end
namespace L2
open PySem PySem.Spec PyProof.Rows
theorem mf:∀{ys:List Str}{us:List Value},Vals (ys.map V.str) us->StrsAre us ys
 |[],_, .nil=> .nil
 |y::ys,_, .cons r t=>by obtain⟨k,rfl⟩:=r;exact .cons y k (mf t)
section
variable{X:Cx}
theorem K7:R7 X "str.join" (λx xs H Q=>∃a p,∃ys:List Str,x= .str a/\ xs=[.ref p]/\ (bf X.K H p (ys.map V.str)\/ i_ X.K H p (ys.map V.str))/\
 (ys.map (·.length)).sum+ys.length*a.length<=16777216/\ Q (.str (Txt.join a ys)) H):=by
 intro ao s σ H x xs v us Q I rx rs h;obtain⟨a,p,ys,rfl,rfl,hp,hz,h⟩:=h;obtain⟨t,rfl⟩:=rx;cases rs with
 |cons r1 rs=>
  cases rs;cases r1;rcases hp with hp|hp
  .obtain⟨its,r,⟨o,n,ho,hc,_,hd⟩,_⟩:=I.list hp;exact PyProof.Rows.join_list (items:=its.toArray) ⟨o,ho,hc,n,hd⟩ (by rw[zX];exact mf r) hz λt' k=>⟨.str _,H,I.tok k,⟨t',rfl⟩,h⟩
  .obtain⟨its,r,ht,_⟩:=I.tuple hp;exact PyProof.Rows.join_tuple (items:=its.toArray) ht (by rw[zX];exact mf r) hz λt' k=>⟨.str _,H,I.tok k,⟨t',rfl⟩,h⟩
end
variable{apos:Pos}
section
variable{X:Cx}{o e:Expr}{to te:TE}
def X'(r:V->List V->Hp->VK->Prop)(to te:TE):TE:=λσ H Q=>to σ H λx H1=>(∃a,x= .str a)/\ te σ H1 λy H2=>r x [y] H2 Q
theorem Sw{id:String}{name:Str}{pos:Pos}{r:V->List V->Hp->VK->Prop}(slot:Slot "str" name id)(ty:typeOf (.builtin id)=pure (.type "method_descriptor"))(rule:R7 X id r)(ho:PE X o to)(he:PE X e te)(hs:starEach [e] X.env=[(false,eval e X.env)]:=by rfl)(qV:attributeBase o name X.env (eval o X.env)=eval o X.env:=by rfl)(qW:(apos.endLine==pos.line)=true:=by rfl):
 PE X (.Call (.Attribute o name apos) [e] [] pos) (X' r to te):=by
 intro ao s σ H Q I h;refine PySem.Call_method1 qV hs qW (cD (ho ao s σ H _ I h) λv s1 x H1 I1 r1 q1=>?_);obtain⟨⟨a,rfl⟩,q1⟩:=q1;obtain⟨t,rfl⟩:=_root_.id r1;refine⟨"str",_,F.plainAttrs_str,slot,ty,typeIs_str _ _ _,(λ_ e=>nomatch e),Kr rfl (NW (GZ ?_))⟩;exact cD (he ao s1 σ H1 _ I1 q1) λu s2 y H2 I2 r2 q2=>Ks (rule ao s2 σ H2 _ [y] _ [u] Q I2 r1 (.cons r2 .nil) q2)
theorem K8{pos:Pos}(ho:PE X o to)(he:PE X e te)(hs:starEach [e] X.env=[(false,eval e X.env)]:=by rfl)(qV:attributeBase o "join" X.env (eval o X.env)=eval o X.env:=by rfl)(qW:(apos.endLine==pos.line)=true:=by rfl):
 PE X (.Call (.Attribute o "join" apos) [e] [] pos) (X' (λx xs H Q=>∃a p,∃ys:List Str,x= .str a/\ xs=[.ref p]/\ (bf X.K H p (ys.map V.str)\/ i_ X.K H p (ys.map V.str))/\
  (ys.map (·.length)).sum+ys.length*a.length<=16777216/\ Q (.str (Txt.join a ys)) H) to te):=
 Sw F.slot_str_join F.type_str_join K7 ho he hs qV qW
end
def inClass(s:Stmt)(j:Nat):Stmt:=match s with
 | .ClassDef _ _ _ body _ _ _ _ _ _ _=>body.getD j (.Pass ⟨0,0,0,0⟩)
 |_=> .Pass ⟨0,0,0,0⟩
def eU(s:Stmt):Arguments:=match s with
 | .FunctionDef _ a _ _ _ _ _ _ _ _=>a
 |_=>{posonlyargs:=[],args:=[],vararg:=none,kwonlyargs:=[],kw_defaults:=[],kwarg:=none,defaults:=[]}
def da(s:Stmt):List Stmt:=match s with
 | .FunctionDef _ _ b _ _ _ _ _ _ _=>b
 |_=>[]
def ay(s:Stmt):Scope:=match s with
 | .FunctionDef _ _ _ _ _ _ sc _ _ _=>sc
 |_=>{kind:= .function,names:=[],isGenerator:=false,isCoroutine:=false}
abbrev zL:KW:=λ_ _ _ _ _ _=>False
abbrev E0:XK:=λ_ _ _=>False
theorem HS{X:Cx}:Passes zL X E0:=λ_ _ _ _ _ _ _ h=>h.elim
structure HU(K:Frag)(x qual:Str)(st:Stmt)(f:Addr)(fd:FuncData):Prop where
 ex:∃(oc:Value)(od:Option Addr)(kV doc pm:Value)(an:Option Addr)(l_ ct:Value)(Hy:Array (Option Value)),
  fd=fnOf x qual (eU st) (da st) (ay st) .none kV doc pm an l_ ct/\ K.lookup f=some ⟨oc,od, .func fd,Hy⟩/\ codeIn K l_ qual=true
 kp:keepIn K (.ref f)=true
variable{x qual:Str}{f:Addr}{fd:FuncData}{ps:List Str}
section
variable{P:Program}{w:World}{K:Frag}{mg:Str->Option Value}{base:Heap}
theorem HU.ok{st:Stmt}{N:List Str}{k:Nat}{sp:Sp}(F:HU K x qual st f fd)(S:aG N ps (ay st))(len:∀vs H Q E,sp vs H Q E->vs.length=ps.length)(vq:∀(l_:Value)(A:Around)(outer:List Env)(s:Shared)(H:Hp)(vs:List V)(Q:VK)(E:XK),fK k (A.deeper (envOfC qual (ay st) s.heap.objs.size f l_))->sp vs H Q E->
 ∃t,B8 (vp zL P w K mg base N qual (ay st) f l_ A outer s H E).MZ (da st) t/\ t {nx:=λ_ H'=>Q .eQ H',rt:=Q} (start N vs) H):k7 P w K mg base zL (k+1) f fd ps sp:=by
 obtain⟨oc,od,kV,doc,pm,an,l_,ct,Hy,rfl,lk,Hj⟩:=F.ex;refine M3 lk Hj S len λA outer s H vs Q E hr B_=>?_;obtain⟨t,h,q⟩:=vq l_ A outer s H vs Q E hr B_;exact⟨t,h.MZ,q⟩
theorem HU.binds{st:Stmt}(F:HU K x qual st f fd)(h:∀(kV doc pm:Value)(an:Option Addr)(l_ ct:Value)(us:List Value),us.length=ps.length->bindArgs (fnOf x qual (eU st) (da st) (ay st) .none kV doc pm an l_ ct) ⟨us,[]⟩=pure (ps.zip us)):Binds K fd ps []:=by obtain⟨oc,od,kV,doc,pm,an,l_,ct,Hy,rfl,lk,Hj⟩:=F.ex;exact .all (h kV doc pm an l_ ct)
theorem sj{st:Stmt}{oc:Value}{od an:Option Addr}{Hy:Array (Option Value)}{kV doc pm l_ ct:Value}(l:K.lookup f=some ⟨oc,od, .func (fnOf x qual (eU st) (da st) (ay st) .none kV doc pm an l_ ct),Hy⟩)(c:codeIn K l_ qual=true)(k:keepIn K (.ref f)=true):HU K x qual st f (fnOf x qual (eU st) (da st) (ay st) .none kV doc pm an l_ ct):=⟨⟨oc,od,kV,doc,pm,an,l_,ct,Hy,rfl,l,c⟩,k⟩
end
theorem qY{A:Around}{k:Nat}(hr:fK k A):A.units+1<cLine:=u5 (Nat.add_le_add_left (by decide:1<=64) _) hr.units
section
variable{X:Cx}
theorem pv(i:Nat){pos:Pos}(hN:X.N[i]?=some x:=by rfl)(hv:QK X.env.scope x:=by first|exact Or.inl rfl|exact Or.inr (Or.inl rfl)|exact Or.inr (Or.inr rfl))(hd:(x==("__debug__":Str))=false:=by decide)(Hj:(x==("__classdict__":Str))=false:=by decide):PE X (.Name x pos) (cv i):=Oy hN hv hd Hj
end
variable{A B:Prop}
theorem fL(h:B):if false=true then A else B:=by rw[ak uT];exact h
theorem eD(h:A):if true=true then A else B:=by rw[aq rfl];exact h
theorem aK{c:Prop}[Decidable c](h1:c->A)(h2:¬c->B):if c then A else B:=by
 by_cases h:c
 .rw[aq h];exact h1 h
 .rw[ak h];exact h2 h
def aD(H H':Hp):Prop:=∀b o,H b=some o->H' b=some o
theorem aD.refl(H:Hp):aD H H:=λ_ _ h=>h
variable{H:Hp}
theorem aD.trans{H1 H2:Hp}(a:aD H H1)(b:aD H1 H2):aD H H2:=λc o h=>b c o (a c o h)
variable{H':Hp}
theorem aD.free(e:aD H H'){l:Addr}(h:H' l=Option.none):H l=Option.none:=by
 cases q:H l with
 |none=>rfl
 |some o=>rw[e l o q] at h;cases h
variable{xs:List V}
theorem aD.seq{K:Frag}{a:Addr}(e:aD H H')(h:bf K H a xs):bf K H' a xs:=by
 rcases h with(h|⟨o,h⟩)|h
 .exact .inl (.inl (e _ _ h))
 .exact .inl (.inr ⟨o,e _ _ h⟩)
 .exact .inr h
variable{j:Nat}
theorem at_of{z:Int}{v:V}(e:z=(j:Int))(h:xs[j]?=some v):GU xs z=some v:=by rw[e];exact bT h
theorem AG{α:Type}{l:List α}(hN:l.Nodup){i:Nat}{x:α}(a:l[i]?=some x)(b:l[j]?=some x):i=j:=by obtain⟨h1,e1⟩:=dm.mp a;obtain⟨h2,e2⟩:=dm.mp b;exact(KG hN).mp (e1.trans e2.symm)
end L2
section
variable{a:Addr}{xs:List V}
variable{A:List Addr}
variable{P:Params}{v:Value}{ds:List WData}
variable{us:List Value}
variable{b:Addr}
variable{u:HO}
variable{vs:List Value}
namespace L2
open PySem PySem.Spec PyProof.Rows
open PySem.W (WData Codec OpenSpec Well WellAll ReadsW ReadsAllW)
mutual
inductive Dw (K:Frag) (H:Hp):V->WData->Prop
 |eQ:Dw K H .eQ .none
 |bl (b:Bool):Dw K H (.bl b) (.bool b)
 |int (i:Int):Dw K H (.int i) (.int i)
 |str (x:Str):Dw K H (.str x) (.str x)
 |B7 (b:Array UInt8):Dw K H (.B7 b) (.bytes b.toList)
 |lst {a:Addr} {xs:List V} {ds:List WData}:bf K H a xs->nc K H xs ds->Dw K H (.ref a) (.list ds)
 |tup {a:Addr} {xs:List V} {ds:List WData}:i_ K H a xs->nc K H xs ds->Dw K H (.ref a) (.tuple ds)
inductive nc (K:Frag) (H:Hp):List V->List WData->Prop
 |nil:nc K H [] []
 |cons {v:V} {vs:List V} {d:WData} {ds:List WData}:Dw K H v d->nc K H vs ds->nc K H (v::vs) (d::ds)
end
theorem Ep{K:Frag}{H:Hp}:∀ns:List Int,nc K H (ns.map V.int) (ns.map WData.int)
 |[]=> .nil
 |n::r=> .cons (.int n) (Ep r)
theorem Er{K:Frag}{H:Hp}:∀(ns:List Int)(xs:List V),nc K H xs (ns.map WData.int)->xs=ns.map V.int
 |[],xs,h=>by cases h;rfl
 |n::r,xs,h=>by
  cases h with
  |cons h1 h2=>cases h1;rw[Er r _ h2]<;>rfl
section
variable{P:Program}{w:World}{K:Frag}{H:Hp}{h:Heap}{R:WRecords}{cl:Str->Option Addr}
theorem Po(cu:nu P w H h)(KX:K.In h)(q:bf K H a xs):∃(its:List Value)(o:Obj)(n:Nat),Vals xs its/\ h.get? a=some o/\ o.cls= .type "list"/\ o.data= .seq its.toArray n:=by
 rcases q with q|⟨o,its,n,e,hc,_,hd,_,hv⟩
 .obtain⟨_,its,n,hv,e⟩:=(show dj P w H h a (.lst xs) from q.ok cu);exact⟨its,_,n,hv,e,rfl,rfl⟩
 .exact⟨its.toList,o,n,hv,KX _ _ e,hc,by simp[hd]⟩
theorem Pp(cu:nu P w H h)(KX:K.In h)(q:i_ K H a xs):∃(its:List Value)(o:Obj)(n:Nat),Vals xs its/\ h.get? a=some o/\ o.cls= .type "tuple"/\ o.data= .seq its.toArray n:=by
 rcases q with q|⟨o,its,n,e,hc,hd,_,hv⟩
 .obtain⟨_,its,hv,o,e,hc,n,hd⟩:=(show dj P w H h a (.tup xs) from q.ok cu);exact⟨its,o,n,hv,e,hc,hd⟩
 .exact⟨its.toList,o,n,hv,KX _ _ e,hc,by simp[hd]⟩
mutual
theorem Dw.reads (cu:nu P w H h) (KX:K.In h):∀(d:WData)(v:V)(u:Value),Dw K H v d->RelV v u->∃as,ReadsW R cl h u d as
 | .none,_,_,x,r=>by cases x;cases r;exact⟨_,ReadsW.none⟩
 | .bool b,_,_,x,r=>by cases x;cases r;exact⟨_,ReadsW.bool b⟩
 | .int i,_,_,x,r=>by cases x;obtain⟨t,rfl⟩:=r;exact⟨_,ReadsW.int i t⟩
 | .str s,_,_,x,r=>by cases x;obtain⟨t,rfl⟩:=r;exact⟨_,ReadsW.str s t⟩
 | .bytes b,_,_,x,r=>by cases x;obtain⟨t,rfl⟩:=r;exact⟨_,ReadsW.bytes _ t⟩
 | .list ds,_,_,x,r=>by
  cases x with
  |lst hs ha=>cases r;obtain⟨its,o,n,rv,ho,hc,hd⟩:=Po cu KX hs;obtain⟨as,hr⟩:=Dw.readsAll cu KX ds _ its ha rv;exact⟨_,ReadsW.list ho hc hd hr⟩
 | .tuple ds,_,_,x,r=>by
  cases x with
  |tup hs ha=>cases r;obtain⟨its,o,n,rv,ho,hc,hd⟩:=Pp cu KX hs;obtain⟨as,hr⟩:=Dw.readsAll cu KX ds _ its ha rv;exact⟨_,ReadsW.tuple ho hc hd hr⟩
 | .float _,_,_,x,_=>by cases x
 | .dict _,_,_,x,_=>by cases x
 | .bytearray _,_,_,x,_=>by cases x
 | .set _,_,_,x,_=>by cases x
 | .frozenset _,_,_,x,_=>by cases x
 | .obj _ _,_,_,x,_=>by cases x
theorem Dw.readsAll (cu:nu P w H h) (KX:K.In h):∀(ds:List WData)(vs:List V)(us:List Value),nc K H vs ds->Vals vs us->∃as,ReadsAllW R cl h us ds as
 |[],_,_,x,r=>by cases x;cases r;exact⟨_,ReadsAllW.nil⟩
 |d::ds,_,_,x,r=>by
  cases x with
  |cons h1 h2=>
   cases r with
   |cons r1 r2=>obtain⟨as,q1⟩:=Dw.reads cu KX d _ _ h1 r1;obtain⟨bs,q2⟩:=Dw.readsAll cu KX ds _ _ h2 r2;exact⟨_,ReadsAllW.cons q1 q2⟩
end
end
mutual
def Es:WData->Bool
 | .none=>true
 | .bool _=>true
 | .int _=>true
 | .str _=>true
 | .bytes _=>true
 | .list xs=>um xs
 | .tuple xs=>um xs
 |_=>false
def um:List WData->Bool
 |[]=>true
 |x::r=>Es x&&um r
end
theorem AH{α:Type}{f:α->WData}(h:∀a,Es (f a)=true):∀l:List α,um (l.map f)=true
 |[]=>rfl
 |x::r=>by show(Es (f x)&&um (r.map f))=true;rw[h x,AH h r]<;>rfl
theorem nP:∀(c:Codec)(a:c.denote),Es (c.enc a)=true
 | .unit,_=>rfl
 | .bool,_=>rfl
 | .int _ _,_=>rfl
 | .nat _ _,_=>rfl
 | .u8,_=>rfl
 | .bytes _ _,_=>rfl
 | .text _ _ _ _,_=>rfl
 | .list _ _ c,a=>AH (λx=>nP c x) a
 | .pair c d,a=>by show(Es (c.enc a.1)&&(Es (d.enc a.2)&&true))=true;rw[nP c a.1,nP d a.2]<;>rfl
 | .triple c d e,a=>by show(Es (c.enc a.1)&&(Es (d.enc a.2.1)&&(Es (e.enc a.2.2)&&true)))=true;rw[nP c a.1,nP d a.2.1,nP e a.2.2]<;>rfl
 | .option c,none=>rfl
 | .option c,some x=>nP c x
theorem x4:∀(cs:List Codec)(a:Codec.denoteAll cs),um (Codec.encAll cs a)=true
 |[],_=>rfl
 |c::cs,a=>by show(Es (c.enc a.1)&&um (Codec.encAll cs a.2))=true;rw[nP c a.1,x4 cs a.2]<;>rfl
theorem pT:∀{xs:List WData}{d:WData},d∈xs->d.weight<=WData.weightAll xs
 |[],d,h=>absurd h (by simp)
 |x::r,d,h=>by
  show d.weight<=x.weight+1+WData.weightAll r;rcases bY.mp h with e|m
  .rw[e]
   lia
  .have z:=pT m
   lia
def toV:Value->V
 | .none=> .eQ
 | .bool b=> .bl b
 | .int i _=> .int i
 | .str x _=> .str x
 | .bytes b _=> .B7 b
 | .ref a=> .ref a
 |_=> .eQ
def FN(A:List Addr):Value->Prop
 | .none=>True
 | .bool _=>True
 | .int _ _=>True
 | .str _ _=>True
 | .bytes _ _=>True
 | .ref a=>a∈A
 |_=>False
theorem FN.mono{B:List Addr}(h:∀a∈A,a∈B):∀{u:Value},FN A u->FN B u:=λ{u} x=>by
 cases u with
 |ref a=>exact h a x
 |none=>trivial
 |bool b=>trivial
 |int i t=>trivial
 |str s t=>trivial
 |bytes b t=>trivial
 |_=>exact False.elim x
theorem HV{u:Value}(x:FN A u):RelV (toV u) u:=by
 cases u with
 |ref a=>rfl
 |none=>rfl
 |bool b=>rfl
 |int i t=>exact⟨t,rfl⟩
 |str s t=>exact⟨t,rfl⟩
 |bytes b t=>exact⟨t,rfl⟩
 |_=>exact False.elim x
theorem lN{A:List Addr}:∀{vs:List Value},(∀u∈vs,FN A u)->Vals (vs.map toV) vs
 |[],_=> .nil
 |u::r,h=> .cons (HV (h u (cb ..))) (lN λx hx=>h x (bu _ hx))
def nh(h:Heap)(A:List Addr)(a:Addr):Prop:=∃vs:List Value,vs.length<=sizeLine/\ (∀u∈vs,FN A u)/\
 (h.get? a=some {cls:= .type "list",data:= .seq vs.toArray}\/ h.get? a=some {cls:= .type "tuple",data:= .seq vs.toArray})
theorem nh.mono{h:Heap}{A B:List Addr}{a:Addr}(k:∀a∈A,a∈B)(x:nh h A a):nh h B a:=by obtain⟨vs,h1,h2,h3⟩:=x;exact⟨vs,h1,λu hu=>(h2 u hu).mono k,h3⟩
theorem kI{P:Params}{h:Heap}:∀{vs:List Value}{ds:List WData},WellAll P h vs ds->vs.length=ds.length
 |_,_, .nil=>rfl
 |_,_, .cons _ b=>by show _+1=_+1;rw[kI b]
theorem x5{h:Heap}(x:Well P h v (.list ds)):∃(a:Addr)(vs:List Value),v= .ref a/\ h.get? a=some {cls:= .type "list",data:= .seq vs.toArray}/\ WellAll P h vs ds:=by
 cases x with
 |list ho nQ=>exact⟨_,_,rfl,ho,nQ⟩
theorem vy{h:Heap}(x:Well P h v (.tuple ds)):∃(a:Addr)(vs:List Value),v= .ref a/\ h.get? a=some {cls:= .type "tuple",data:= .seq vs.toArray}/\ WellAll P h vs ds:=by
 cases x with
 |tuple ho nQ=>exact⟨_,_,rfl,ho,nQ⟩
theorem x6{h:Heap}{d:WData}(x:WellAll P h us (d::ds)):∃(v:Value)(vs:List Value),us=v::vs/\ Well P h v d/\ WellAll P h vs ds:=by
 cases x with
 |cons a b=>exact⟨_,_,rfl,a,b⟩
theorem Et{n:Nat}(h:n<=1048576):n<=sizeLine:=bp h (by decide)
section
variable{P:Params}{h:Heap}
mutual
theorem HW:∀(d:WData)(v:Value),Well P h v d->Es d=true->d.weight<=1048576->∃A:List Addr,FN A v/\ ∀a∈A,nh h A a
 | .none,_,x,_,_=>by cases x;exact⟨[],trivial,λa m=>absurd m (by simp)⟩
 | .bool b,_,x,_,_=>by cases x;exact⟨[],trivial,λa m=>absurd m (by simp)⟩
 | .int i,_,x,_,_=>by cases x;exact⟨[],trivial,λa m=>absurd m (by simp)⟩
 | .str s,_,x,_,_=>by cases x;exact⟨[],trivial,λa m=>absurd m (by simp)⟩
 | .bytes b,_,x,_,_=>by cases x;exact⟨[],trivial,λa m=>absurd m (by simp)⟩
 | .list ds,_,x,p,z=>by
  obtain⟨a,vs,rfl,ho,nQ⟩:=x5 x;have z2:WData.weightAll ds<=1048576:=z;obtain⟨A,h1,h2⟩:=qZ ds _ nQ p λd hd=>bp (pT hd) z2;have k:∀b∈A,b∈a::A:=λb hb=>bu _ hb;refine⟨a::A,cb ..,λb hb=>?_⟩;rcases bY.mp hb with e|m
  .rw[e];exact⟨vs,Et (by rw[kI nQ];exact bp (MQ ds) z2),λu hu=>(h1 u hu).mono k, .inl ho⟩
  .exact(h2 b m).mono k
 | .tuple ds,_,x,p,z=>by
  obtain⟨a,vs,rfl,ho,nQ⟩:=vy x;have z2:WData.weightAll ds<=1048576:=z;obtain⟨A,h1,h2⟩:=qZ ds _ nQ p λd hd=>bp (pT hd) z2;have k:∀b∈A,b∈a::A:=λb hb=>bu _ hb;refine⟨a::A,cb ..,λb hb=>?_⟩;rcases bY.mp hb with e|m
  .rw[e];exact⟨vs,Et (by rw[kI nQ];exact bp (MQ ds) z2),λu hu=>(h1 u hu).mono k, .inr ho⟩
  .exact(h2 b m).mono k
 | .float _,_,_,p,_=>Bool.noConfusion (show false=true from p)
 | .dict _,_,_,p,_=>Bool.noConfusion (show false=true from p)
 | .bytearray _,_,_,p,_=>Bool.noConfusion (show false=true from p)
 | .set _,_,_,p,_=>Bool.noConfusion (show false=true from p)
 | .frozenset _,_,_,p,_=>Bool.noConfusion (show false=true from p)
 | .obj _ _,_,_,p,_=>Bool.noConfusion (show false=true from p)
theorem qZ:∀(ds:List WData)(vs:List Value),WellAll P h vs ds->um ds=true->(∀d∈ds,d.weight<=1048576)->∃A:List Addr,(∀u∈vs,FN A u)/\ ∀a∈A,nh h A a
 |[],_,x,_,_=>by cases x;exact⟨[],λu m=>absurd m (by simp),λa m=>absurd m (by simp)⟩
 |d::ds,_,x,p,z=>by
  obtain⟨v,vs,rfl,x1,x2⟩:=x6 x;have q:Es d=true/\ um ds=true:=Bool.and_eq_true_iff.mp p;obtain⟨A,a1,a2⟩:=HW d v x1 q.1 (z d (cb ..));obtain⟨B,b1,b2⟩:=qZ ds vs x2 q.2 λe he=>z e (bu _ he);have kA:∀b∈A,b∈A++B:=λb hb=>dY.mpr (.inl hb);have kB:∀b∈B,b∈A++B:=λb hb=>dY.mpr (.inr hb);refine⟨A++B,λu hu=>?_,λb hb=>?_⟩
  .rcases bY.mp hu with e|m
   .rw[e];exact a1.mono kA
   .exact(b1 u m).mono kB
  .rcases dY.mp hb with m|m
   .exact(a2 b m).mono kA
   .exact(b2 b m).mono kB
end
end
def K9(o:Obj):Option HO:=match o.data with
 | .seq vs _=>if(o.cls==Value.type "list")=true then some (.jO o (.lst (vs.toList.map toV))) else some (.jO o (.tup (vs.toList.map toV)))
 |_=>none
def k9(K:Frag)(h:Heap)(A:List Addr):Hp:=λb=>if b∈A then(if(K.lookup b).isNone=true then(h.get? b).bind K9 else none) else none
def Nc(H:Hp):Prop:=∀b,H b=none\/ ∃o u,H b=some (.jO o u)
theorem AJ(vs:List Value):K9 {cls:= .type "list",data:= .seq vs.toArray}=some (.jO {cls:= .type "list",data:= .seq vs.toArray} (.lst (vs.map toV))):=by show(if(Value.type "list"==Value.type "list")=true then some (HO.jO {cls:= .type "list",data:= .seq vs.toArray} (.lst (vs.toArray.toList.map toV))) else some (HO.jO {cls:= .type "list",data:= .seq vs.toArray} (.tup (vs.toArray.toList.map toV))))=_;rw[aq (beq_self_eq_true _)]
theorem AK(vs:List Value):K9 {cls:= .type "tuple",data:= .seq vs.toArray}=some (.jO {cls:= .type "tuple",data:= .seq vs.toArray} (.tup (vs.map toV))):=by show(if(Value.type "tuple"==Value.type "list")=true then some (HO.jO {cls:= .type "tuple",data:= .seq vs.toArray} (.lst (vs.toArray.toList.map toV))) else some (HO.jO {cls:= .type "tuple",data:= .seq vs.toArray} (.tup (vs.toArray.toList.map toV))))=_;rw[ak (by decide)]
section
variable{P:Program}{w:World}{K:Frag}{h:Heap}{A:List Addr}
theorem uF{o:Obj}(hb:b∈A)(hk:K.lookup b=none)(e:h.get? b=some o):k9 K h A b=K9 o:=by unfold k9;rw[aq hb,hk,aq (show(none:Option Obj).isNone=true from rfl),e]<;>rfl
theorem K_(q:k9 K h A b=some u):b∈A/\ K.lookup b=none:=by
 unfold k9 at q;by_cases hb:b∈A
 .rw[aq hb] at q;cases hk:K.lookup b with
  |none=>exact⟨hb,rfl⟩
  |some o=>rw[hk,ak (by simp)] at q;cases q
 .rw[ak hb] at q;cases q
theorem q0(ar:∀a∈A,nh h A a)(q:k9 K h A b=some u):K.lookup b=none/\ ∃vs:List Value,vs.length<=sizeLine/\ (∀u∈vs,FN A u)/\
 ((h.get? b=some {cls:= .type "list",data:= .seq vs.toArray}/\ u= .jO {cls:= .type "list",data:= .seq vs.toArray} (.lst (vs.map toV)))\/
  (h.get? b=some {cls:= .type "tuple",data:= .seq vs.toArray}/\ u= .jO {cls:= .type "tuple",data:= .seq vs.toArray} (.tup (vs.map toV)))):=by
 obtain⟨hb,hk⟩:=K_ q;obtain⟨vs,h1,h2,h3⟩:=ar b hb;refine⟨hk,vs,h1,h2,?_⟩;rcases h3 with e|e
 .rw[uF hb hk e,AJ] at q;exact .inl ⟨e,(di q).symm⟩
 .rw[uF hb hk e,AK] at q;exact .inr ⟨e,(di q).symm⟩
theorem FO(ar:∀a∈A,nh h A a):Nc (k9 K h A):=λb=>by
 cases q:k9 K h A b with
 |none=>exact .inl rfl
 |some u=>
  obtain⟨_,vs,_,_,⟨_,e⟩|⟨_,e⟩⟩:=q0 ar q
  .exact .inr ⟨_,_,by rw[e]⟩
  .exact .inr ⟨_,_,by rw[e]⟩
theorem K'(ar:∀a∈A,nh h A a):nu P w (k9 K h A) h:=λb u q=>by
 obtain⟨_,vs,h1,h2,⟨e,rfl⟩|⟨e,rfl⟩⟩:=q0 ar q
 .exact⟨e,by rw[aS];exact h1,vs,_,lN h2,e⟩
 .exact⟨e,by rw[aS];exact h1,vs,lN h2,_,e,rfl,_,rfl⟩
theorem uG{c c':Value}(e:(some {cls:=c,data:= .seq vs.toArray}:Option Obj)=some {cls:=c',data:= .seq us.toArray}):c=c'/\ vs=us:=by have e1:=di e;have e2:c=c':=c_ Obj.cls e1;have e3:Data.seq vs.toArray=Data.seq us.toArray:=c_ Obj.data e1;injection e3 with e4;refine⟨e2,?_⟩;have e5:=c_ Array.toList e4;simpa using e5
theorem Wl(KX:K.In h)(ar:∀a∈A,nh h A a)(ha:a∈A)(e:h.get? a=some {cls:= .type "list",data:= .seq vs.toArray}):(∀u∈vs,FN A u)/\ bf K (k9 K h A) a (vs.map toV):=by
 obtain⟨us,h1,h2,h3⟩:=ar a ha;have hu:us=vs:=by
  rcases h3 with q|q
  .rw[e] at q;exact(uG q).2.symm
  .rw[e] at q;exact absurd (xI (uG q).1) (by decide)
 subst hu;refine⟨h2,?_⟩;cases hk:K.lookup a with
 |none=>exact .inl (.inr ⟨_,by rw[uF ha hk e,AJ]⟩)
 |some o=>have e2:=KX a o hk;rw[e] at e2;obtain rfl:=di e2;exact .inr ⟨_,us.toArray,_,hk,rfl,rfl,rfl,by rw[dZ];exact h1,by simpa using lN h2⟩
theorem Wm(KX:K.In h)(ar:∀a∈A,nh h A a)(ha:a∈A)(e:h.get? a=some {cls:= .type "tuple",data:= .seq vs.toArray}):(∀u∈vs,FN A u)/\ i_ K (k9 K h A) a (vs.map toV):=by
 obtain⟨us,h1,h2,h3⟩:=ar a ha;have hu:us=vs:=by
  rcases h3 with q|q
  .rw[e] at q;exact absurd (xI (uG q).1) (by decide)
  .rw[e] at q;exact(uG q).2.symm
 subst hu;refine⟨h2,?_⟩;cases hk:K.lookup a with
 |none=>exact .inl (.inr ⟨_,by rw[uF ha hk e,AK]⟩)
 |some o=>have e2:=KX a o hk;rw[e] at e2;obtain rfl:=di e2;exact .inr ⟨_,us.toArray,_,hk,rfl,rfl,by rw[dZ];exact h1,by simpa using lN h2⟩
mutual
theorem Pq {Pm:Params} (KX:K.In h) (ar:∀a∈A,nh h A a):∀(d:WData)(v:Value),Well Pm h v d->Es d=true->FN A v->Dw K (k9 K h A) (toV v) d
 | .none,_,x,_,_=>by cases x;exact .eQ
 | .bool b,_,x,_,_=>by cases x;exact .bl b
 | .int i,_,x,_,_=>by cases x;exact .int i
 | .str s,_,x,_,_=>by cases x;exact .str s
 | .bytes b,_,x,_,_=>by cases x;have z:=Dw.B7 (K:=K) (H:=k9 K h A) b.toArray;exact z
 | .list ds,_,x,p,hu=>by obtain⟨a,vs,rfl,ho,nQ⟩:=x5 x;obtain⟨h2,hs⟩:=Wl KX ar hu ho;exact .lst hs (yY KX ar ds _ nQ p h2)
 | .tuple ds,_,x,p,hu=>by obtain⟨a,vs,rfl,ho,nQ⟩:=vy x;obtain⟨h2,hs⟩:=Wm KX ar hu ho;exact .tup hs (yY KX ar ds _ nQ p h2)
 | .float _,_,_,p,_=>Bool.noConfusion (show false=true from p)
 | .dict _,_,_,p,_=>Bool.noConfusion (show false=true from p)
 | .bytearray _,_,_,p,_=>Bool.noConfusion (show false=true from p)
 | .set _,_,_,p,_=>Bool.noConfusion (show false=true from p)
 | .frozenset _,_,_,p,_=>Bool.noConfusion (show false=true from p)
 | .obj _ _,_,_,p,_=>Bool.noConfusion (show false=true from p)
theorem yY {Pm:Params} (KX:K.In h) (ar:∀a∈A,nh h A a):∀(ds:List WData)(vs:List Value),WellAll Pm h vs ds->um ds=true->(∀u∈vs,FN A u)->nc K (k9 K h A) (vs.map toV) ds
 |[],_,x,_,_=>by cases x;exact .nil
 |d::ds,_,x,p,hu=>by obtain⟨v,vs,rfl,x1,x2⟩:=x6 x;have q:Es d=true/\ um ds=true:=Bool.and_eq_true_iff.mp p;exact .cons (Pq KX ar d v x1 q.1 (hu _ (cb ..))) (yY KX ar ds vs x2 q.2 λu m=>hu u (bu _ m))
end
end
theorem vz(h:WData.layableAll ds=true):∀d∈ds,d.weight<=1048576:=λd hd=>(PySem.W.layableW_iff.mp (yN.mp h d hd)).2.2
theorem vA:∀(cs:List Codec)(a:Codec.denoteAll cs),(Codec.encAll cs a).length=cs.length
 |[],_=>rfl
 |c::cs,a=>by show(Codec.encAll cs a.2).length+1=cs.length+1;rw[vA cs a.2]
end L2
end
namespace Ob
open Vanbkn (State partAt)
abbrev O:=List Node
def nums(o:O):List Nat:=o.map λx=>x.number
def dflt:Node:=⟨0,0,false,false,[]⟩
def nd(o:O)(i:Nat):Node:=o.getD i dflt
def c9(o:O)(z:Int):Option Nat:=o.findIdx? λx=>decide ((x.number:Int)=z)
def aO(o:O)(i:Nat):Nat:=i+1+(inside (nd o i).depth (o.drop (i+1))).length
def lim(x:Node):Nat:=if x.cell=true then x.depth else x.depth+1
def cG:Nat->O->Prop
 |_,[]=>True
 |m,x::r=>1<=x.depth/\ x.depth<=m/\ cG (lim x) r
def jb:Nat->O->Nat
 |m,[]=>m
 |_,x::r=>jb (lim x) r
def hd(o:O):Nat:=match o with
 |[]=>0
 |x::_=>x.depth
structure Good(x:Node):Prop where
 num:1<=x.number/\ x.number<=999
 sec:x.cell=false->x.depth<=6
 txt:x.text.length<=60/\ ∀c∈x.text,32<=c/\ c<=126
 cf:x.cell=true->x.folded=false
structure lO(o:O):Prop where
 len:o.length<=60
 nd:(nums o).Nodup
 dep:cG 1 o
 good:∀x∈o,Good x
theorem lO.num{o:O}(W:lO o):∀x∈o,1<=x.number/\ x.number<=999:=λx h=>(W.good x h).num
structure Wf(s:State):Prop where
 n:lO s.nodes
 lt:∀x∈s.nodes,x.number<s.next
 nx:1<=s.next/\ s.next<=1000
theorem a5:∀(a b:O)(m:Nat),cG m (a++b)↔cG m a/\ cG (jb m a) b
 |[],b,m=>by simp[cG,jb]
 |x::a,b,m=>by simp only[iT,cG,jb,a5 a b (lim x)];exact⟨λ⟨h1,h2,h3,h4⟩=>⟨⟨h1,h2,h3⟩,h4⟩,λ⟨⟨h1,h2,h3⟩,h4⟩=>⟨h1,h2,h3,h4⟩⟩
theorem gL:∀(a b:O)(m:Nat),jb m (a++b)=jb (jb m a) b
 |[],b,m=>rfl
 |x::a,b,m=>gL a b (lim x)
variable{m m':Nat}
theorem sk(h:m<=m'):∀{o:O},cG m o->cG m' o
 |[],_=>trivial
 |_::_,⟨h1,h2,h3⟩=>⟨h1,bp h2 h,h3⟩
theorem kJ:∀{o:O},cG m o->hd o<=m'->cG m' o
 |[],_,_=>trivial
 |_::_,⟨h1,_,h3⟩,h=>⟨h1,h,h3⟩
theorem vB:∀{o:O},cG m o->hd o<=m
 |[],_=>a8 _
 |_::_,h=>h.2.1
theorem lP:∀{o:O}{m:Nat},cG m o->∀x∈o,1<=x.depth
 |_::_,_,h,x,hx=>by
  cases hx with
  |head=>exact h.1
  |tail _ hx=>exact lP h.2.2 x hx
theorem o4{d:Nat}:∀{o:O}{m:Nat},d<=m->(∀x∈o,d<=x.depth)->d<=jb m o
 |[],_,h,_=>h
 |x::r,m,_,h=>by refine o4 (o:=r) ?_ λy hy=>h y (bu _ hy);have:=h x (cb ..);unfold lim;split<;>lia
theorem HX(x:Node):x.depth<=lim x:=by unfold lim;split<;>lia
theorem HY(x:Node):lim x<=x.depth+1:=by unfold lim;split<;>lia
theorem vC{f:Node->Node}{c:Nat}(hf:∀x,(f x).depth=x.depth+c/\ (f x).cell=x.cell):∀{o:O}{m:Nat},cG m o->cG (m+c) (o.map f)
 |[],_,_=>trivial
 |x::r,m,⟨h1,h2,h3⟩=>by
  refine⟨by rw[(hf x).1];lia,by rw[(hf x).1];lia,?_⟩;have e:lim (f x)=lim x+c:=by unfold lim;rw[(hf x).1,(hf x).2];split<;>lia
  rw[e];exact vC hf h3
theorem mh{f:Node->Node}{fr to:Nat}(h1:1<=to):∀{o:O}{m:Nat},(∀x∈o,fr<=x.depth)->(∀x∈o,(f x).depth=x.depth - fr+to/\ (f x).cell=x.cell)->fr<=m->cG m o->cG (m - fr+to) (o.map f)
 |[],_,_,_,_,_=>trivial
 |x::r,m,kK,hf,hm,⟨g1,g2,g3⟩=>by
  have hx:=hf x (cb ..);have gx:=kK x (cb ..);refine⟨by rw[hx.1];lia,by rw[hx.1];lia,?_⟩;have l1:=HX x;have e:lim (f x)=lim x - fr+to:=by unfold lim;rw[hx.1,hx.2];split<;>lia
  rw[e];exact mh h1 (λy hy=>kK y (bu _ hy)) (λy hy=>hf y (bu _ hy)) (by lia) g3
theorem bP(d:Nat)(l:O):inside d l++outside d l=l:=MN
theorem cg{d:Nat}:∀{l:O},∀x∈inside d l,d<x.depth
 |[],x,hx=>by cases hx
 |y::l,x,hx=>by
  unfold inside at hx;rw[mZ] at hx;split at hx
  .rename_i h;cases hx with
   |head=>simpa using h
   |tail _ hx=>exact cg (l:=l) x hx
  .cases hx
theorem b_(d:Nat):∀l:O,hd (outside d l)<=d
 |[]=>a8 _
 |x::r=>by
  unfold outside;rw[List.dropWhile_cons];split
  .exact b_ d r
  .rename_i h;simp at h;exact h
variable{d:Nat}
theorem eE{t l:O}(h:∀x∈t,d<x.depth)(hl:hd l<=d):inside d (t++l)=t:=by
 unfold inside;rw[tH (by intro x hx;simpa using h x hx)];cases l with
 |nil=>simp
 |cons y r=>rw[DR (by have h2:y.depth<=d:=hl;simpa using h2),pz]
theorem g9{t l:O}(h:∀x∈t,d<x.depth)(hl:hd l<=d):outside d (t++l)=l:=by
 unfold outside;rw[Kx (by intro x hx;simpa using h x hx)];cases l with
 |nil=>rfl
 |cons y r=>rw[N_ (by have h2:y.depth<=d:=hl;simpa using h2)]
variable{a:O}{x:Node}
theorem fN{r:O}:nd (a++x::r) a.length=x:=by unfold nd;rw[uh,k3 (aQ _)];simp
theorem jV{r:O}:(a++x::r).drop (a.length+1)=r:=by rw[List.drop_append];simp
theorem fO{r:O}:(a++r).take a.length=a:=by simp
theorem jW{r:O}:aO (a++x::r) a.length=a.length+1+(inside x.depth r).length:=by unfold aO;rw[fN,jV]
theorem x8{n:Nat}:∀{o:O},partAt n o=none↔∀y∈o,y.number≠n
 |[]=>by simp[partAt]
 |y::o=>by
  unfold partAt;split
  .rename_i e;constructor
   .intro h;cases h
   .intro h;exact absurd e (h y (cb ..))
  .rename_i e;rw[Option.map_eq_none_iff,x8 (o:=o)];constructor
   .intro h z hz;cases hz with
    |head=>exact e
    |tail _ hz=>exact h z hz
   .intro h z hz;exact h z (bu _ hz)
theorem part_of{n:Nat}:∀{a r:O}{x:Node},x.number=n->(∀y∈a,y.number≠n)->partAt n (a++x::r)=some (a,x,r)
 |[],r,x,h,_=>by show partAt n (x::r)=_;unfold partAt;rw[aq h]
 |y::a,r,x,h,h2=>by show partAt n (y::(a++x::r))=_;unfold partAt;rw[ak (h2 y (cb ..)),part_of h (λz hz=>h2 z (bu _ hz))];rfl
theorem gr{r:O}(h:(nums (a++x::r)).Nodup):(∀y∈a,y.number≠x.number)/\ ∀y∈r,y.number≠x.number:=by
 unfold nums at h;rw[cV,cy,xD] at h;obtain⟨_,h2,h3⟩:=h;constructor
 .intro y hy;exact h3 _ (zR hy) _ (cb ..)
 .intro y hy e;rw[tG] at h2;exact h2.1 (e▸zR hy)
theorem du{r:O}(h:(nums (a++x::r)).Nodup):partAt x.number (a++x::r)=some (a,x,r):=part_of rfl (gr h).1
theorem lQ(o:O)(n:Nat):Vanbkn.find o n=(partAt n o).map λy=>y.2.1:=by
 unfold Vanbkn.find;induction o with
 |nil=>rfl
 |cons y r ih=>
  rw[rW];unfold partAt;by_cases e:y.number=n
  .simp[e]
  .rw[ak e,Option.map_map];simp only[nA.mpr e];rw[ih];rfl
variable{y:Node}
theorem nR{o:O}(h:(nums o).Nodup)(hx:x∈o)(hy:y∈o)(e:x.number=y.number):x=y:=by
 obtain⟨a,r,rfl⟩:=Kw hx;obtain⟨h1,h2⟩:=gr h;rcases dY.mp hy with hy|hy
 .exact absurd e.symm (h1 y hy)
 .cases hy with
  |head=>rfl
  |tail _ hy=>exact absurd e.symm (h2 y hy)
variable{z:Int}{i:Nat}
theorem vD{o:O}(h:c9 o z=some i):∃a x r,o=a++x::r/\ a.length=i/\ (x.number:Int)=z/\ ∀y∈a,(y.number:Int)≠z:=by
 unfold c9 at h;rw[Od] at h;obtain⟨hi,h1,h2⟩:=h;refine⟨o.take i,o[i],o.drop (i+1),?_,?_,by simpa using h1,?_⟩
 .simp
 .rw[bg];lia
 .intro y hy;obtain⟨j,hj,e⟩:=List.mem_take_iff_getElem.mp hy;have:=h2 j (by lia);subst e;simpa using this
theorem pos_none{o:O}(h:c9 o z=none):∀y∈o,(y.number:Int)≠z:=by unfold c9 at h;rw[G3] at h;intro y hy;simpa using h y hy
theorem Pr{r:O}(e:(x.number:Int)=z)(h:∀y∈a,(y.number:Int)≠z):c9 (a++x::r) z=some a.length:=by unfold c9;rw[List.findIdx?_append,G3.mpr (by intro y hy;simpa using h y hy),List.findIdx?_cons];simp[e]
theorem sr{o:O}(W:lO o)(hx:x∈o)(z:Int):x.number=nodeNo z↔(x.number:Int)=z:=by have:=W.num x hx;unfold nodeNo;split<;>lia
theorem q_{o:O}(W:lO o)(z:Int):(∃a x r,o=a++x::r/\ c9 o z=some a.length/\ (x.number:Int)=z/\ x.number=nodeNo z/\ partAt (nodeNo z) o=some (a,x,r))\/ (c9 o z=none/\ partAt (nodeNo z) o=none/\ ∀y∈o,(y.number:Int)≠z):=by
 cases h:c9 o z with
 |none=>refine .inr ⟨rfl,x8.mpr λy hy e=>pos_none h y hy ((sr W hy z).mp e),pos_none h⟩
 |some i=>
  obtain⟨a,x,r,e,hl,hz,fo⟩:=vD h;have hx:x∈o:=by rw[e];simp
  have hn:=(sr W hx z).mpr hz;refine .inl ⟨a,x,r,e,by rw[hl],hz,hn,?_⟩;rw[e,<-hn];exact du (by rw[<-e];exact W.nd)
theorem o5:nodeNo z=0↔z=0:=by unfold nodeNo;split<;>lia
open Vanbkn (State partAt spot children parentOf isSection tree without putTree tooDeep)
def runM(o:O)(p:Int):Option (Nat×Nat×Nat):=
 if p=0 then some (0,o.length,1) else match c9 o p with
  |none=>none
  |some i=>if(nd o i).cell=true then none else some (i+1,aO o i,(nd o i).depth+1)
def ff(o:O)(p a:Int):Option (Nat×Nat):=match runM o p with
 |none=>none
 |some (st,en,d)=>if a=0 then some (st,d) else match c9 o a with
  |none=>none
  |some j=>if j<st\/ en<=j\/ (nd o j).depth≠d then none else some (aO o j,d)
structure Spot(o pre post:O)(d:Nat):Prop where
 eq:o=pre++post
 pos:1<=d
 le:d<=jb 1 pre
 hd:hd post<=d
theorem cX{r:O}:(a++x::r)[a.length]?=some x:=by rw[k3 (aQ _)];simp
variable{j:Nat}
theorem yZ{o:O}(h:(nums o).Nodup)(hi:o[i]?=some x)(hj:o[j]?=some x):i=j:=by
 obtain⟨h1,e1⟩:=dm.mp hi;obtain⟨h2,e2⟩:=dm.mp hj;have g1:(nums o)[i]'(by unfold nums;rw[aS];exact h1)=x.number:=by unfold nums;rw[G4,e1]
 have g2:(nums o)[j]'(by unfold nums;rw[aS];exact h2)=x.number:=by unfold nums;rw[G4,e2]
 exact(KG h).mp (g1.trans g2.symm)
variable{b q:O}
theorem mem_range(h:(nums (b++y::q)).Nodup)(m k:Nat):y∈((b++y::q).drop m).take k↔m<=b.length/\ b.length<m+k:=by
 constructor
 .intro hy;obtain⟨i,hi,e⟩:=G8.mp hy;rw[bg] at hi;have e2:(b++y::q)[m+i]?=some y:=by rw[List.getElem_take,List.getElem_drop] at e;exact dm.mpr ⟨_,e⟩
  have:=yZ h e2 cX
  lia
 .rintro⟨h1,h2⟩;rw[List.mem_iff_getElem?];refine⟨b.length - m,?_⟩;rw[Rt (by lia),xl,show m+(b.length - m)=b.length by lia];exact cX
theorem nS(d:Nat)(l:O):inside d l=l.take (inside d l).length:=by have h:=c_ (List.take (inside d l).length) (bP d l);rw[List.take_append_of_le_length (aQ _),fq] at h;exact h
theorem gv{r:O}(h:cG m (a++x::r)):cG m a/\ 1<=x.depth/\ x.depth<=jb m a/\ cG (lim x) r:=by rw[a5] at h;exact⟨h.1,h.2.1,h.2.2.1,h.2.2.2⟩
theorem Spot.behind(h:cG 1 (b++y::q)):Spot (b++y::q) (b++y::inside y.depth q) (outside y.depth q) y.depth:=by
 obtain⟨h1,h2,h3,h4⟩:=gv h;refine⟨?_,h2,?_,b_ _ _⟩
 .rw[dQ,iT,bP]
 .rw[gL];show _<=jb (lim y) (inside y.depth q);exact o4 (HX y) λx hx=>eX (cg x hx)
theorem Spot.first{r:O}(h:cG 1 (a++x::r))(hc:x.cell=false):Spot (a++x::r) (a++[x]) r (x.depth+1):=by
 obtain⟨h1,h2,h3,h4⟩:=gv h;have e:lim x=x.depth+1:=by unfold lim;rw[hc];rfl
 refine⟨by simp,by lia,?_,?_⟩
 .rw[gL];show _<=lim x;lia
 .rw[<-e];exact vB h4
theorem Spot.top{o:O}(h:cG 1 o):Spot o [] o 1:=⟨rfl,aQ _,aQ _,vB h⟩
theorem g_(o:O)(n:Nat):isSection o n=match partAt n o with
 |some (_,x,_)=> !x.cell
 |none=>false:=by
 unfold isSection;rw[lQ];cases partAt n o with
 |none=>rfl
 |some q=>rfl
variable{l:List Node}
theorem mi{n:Nat}:(l.any λx=>x.number==n)=true↔∃x∈l,x.number=n:=by simp
def Ya(o:O)(A:Option (Nat×Nat))(B:Option (O×O×Nat)):Prop:=(A=none/\ B=none)\/ ∃pre post d,A=some (pre.length,d)/\ B=some (pre,post,d)/\ Spot o pre post d
theorem x9{o:O}(W:lO o){p a:Int}{st en:Nat}(hr:runM o p=some (st,en,d))(hs:¬(nodeNo p≠0/\ isSection o (nodeNo p)=false))(ha:a≠0)(hk:∀b y q,o=b++y::q->y.number=nodeNo a->(((children o (nodeNo p)).any λx=>x.number==nodeNo a)=true↔(st<=b.length/\ b.length<en)/\ y.depth=d)):Ya o (ff o p a) (spot o (nodeNo p) (nodeNo a)):=by
 have eP:ff o p a=match c9 o a with
  |none=>none
  |some j=>if j<st\/ en<=j\/ (nd o j).depth≠d then none else some (aO o j,d):=by
  unfold ff;rw[hr];exact ak ha
 have eS:spot o (nodeNo p) (nodeNo a)=_:=(ak hs).trans (ak λe=>ha (o5.mp e));rw[eP,eS];rcases q_ W a with⟨b,y,q,e,h1,h2,h3,h4⟩|⟨h1,h2,h3⟩
 .have hk:=hk b y q e h3;have hn:nd o b.length=y:=by rw[e];exact fN
  rw[h1,h4];by_cases hd:(st<=b.length/\ b.length<en)/\ y.depth=d
  .have S:=Spot.behind (b:=b) (q:=q) (y:=y) (by rw[<-e];exact W.dep);rw[<-e] at S;refine .inr ⟨_,_,_,(ak ?_).trans ?_,aq (hk.mpr hd),S⟩
   .rw[hn];lia
   .rw[e,jW,a_,cj,hd.2,Nat.add_right_comm];rfl
  .refine .inl ⟨aq ?_,ak λh=>hd (hk.mp h)⟩;rw[hn];lia
 .rw[h1,h2];exact .inl ⟨rfl,ite_self _⟩
theorem fP{o:O}(W:lO o)(p a:Int):Ya o (ff o p a) (spot o (nodeNo p) (nodeNo a)):=by
 by_cases hp:p=0
 .subst hp;have e0:nodeNo 0=0:=o5.mpr rfl;have er:runM o 0=some (0,o.length,1):=aq rfl;by_cases ha:a=0
  .subst ha;rw[e0];refine .inr ⟨[],o,1,?_,rfl,Spot.top W.dep⟩;unfold ff;rw[er];rfl
  .refine x9 W er (λh=>h.1 e0) ha λb y q e h3=>?_;rw[mi,e0];unfold children;rw[aq rfl];constructor
   .rintro⟨x,hx,hn⟩;obtain⟨hx,hd⟩:=gX.mp hx;have:x=y:=nR W.nd hx (by rw[e];simp) (by rw[hn,h3]);subst this;exact⟨⟨a8 _,by rw[e];simp⟩,kx.mp hd⟩
   .intro hd;exact⟨y,gX.mpr ⟨by rw[e];simp,kx.mpr hd.2⟩,h3⟩
 .have ep:nodeNo p≠0:=λe=>hp (o5.mp e);have er:runM o p=match c9 o p with
   |none=>none
   |some i=>if(nd o i).cell=true then none else some (i+1,aO o i,(nd o i).depth+1):=ak hp
  have es:=g_ o (nodeNo p);rcases q_ W p with⟨c,x,r,e,h1,h2,h3,h4⟩|⟨h1,h2,h3⟩
  .have hn:nd o c.length=x:=by rw[e];exact fN
   rw[h4] at es;have es:isSection o (nodeNo p)= !x.cell:=es;rw[h1] at er;simp only[hn] at er;rcases Bool.eq_false_or_eq_true x.cell with hc|hc
   .rw[aq hc] at er;refine .inl ⟨?_,aq ⟨ep,es.trans (by rw[hc];rfl)⟩⟩;unfold ff;rw[er]
   .have ht:aO o c.length=c.length+1+(inside x.depth r).length:=by rw[e];exact jW
    rw[hc] at es er;rw[ak uT,ht] at er;have hs:¬(nodeNo p≠0/\ isSection o (nodeNo p)=false):=λh=>by rw[es] at h;exact nomatch h.2
    by_cases ha:a=0
    .subst ha;have S:=Spot.first (a:=c) (r:=r) (x:=x) (by rw[<-e];exact W.dep) hc
     rw[<-e] at S;refine .inr ⟨c++[x],r,x.depth+1,?_,(ak hs).trans ((aq (o5.mpr rfl)).trans ((ak ep).trans ?_)),S⟩
     .unfold ff;rw[er,a_];rfl
     .rw[h4];rfl
    .refine x9 W er hs ha λb y q e' g3=>?_;have y0:o.drop (c.length+1)=r:=by rw[e];exact jV
     have hm:=mem_range (b:=b) (q:=q) (y:=y) (by rw[<-e'];exact W.nd) (c.length+1) (inside x.depth r).length;rw[<-e',y0,<-nS] at hm;rw[mi,<-hm];unfold children;rw[ak ep,h4];constructor
     .rintro⟨z,hz,ZN⟩;obtain⟨hz,hd⟩:=gX.mp hz;have ZO:z∈o:=by rw[e];exact eK _ (bu _ (by rw[<-bP x.depth r];exact dz _ hz))
      have:z=y:=nR W.nd ZO (by rw[e'];simp) (by rw[ZN,g3]);subst this;exact⟨hz,kx.mp hd⟩
     .rintro⟨hy,hd⟩;exact⟨y,gX.mpr ⟨hy,kx.mpr hd⟩,g3⟩
  .rw[h2] at es;rw[h1] at er;refine .inl ⟨?_,aq ⟨ep,es⟩⟩;unfold ff;rw[er]
open Vanbkn (State partAt spot children parentOf isSection tree without putTree tooDeep ancestors)
theorem Eu:∀(l:O)(d:Nat),(upFrom d l).head?=l.find? λx=>decide (x.depth<d)
 |[],_=>rfl
 |x::r,d=>by
  unfold upFrom;rw[rW];by_cases h:x.depth<d
  .rw[aq h,aR h];rfl
  .rw[ak h,cP h];exact Eu r d
theorem lR{r:O}(h:(nums (a++x::r)).Nodup):ancestors (a++x::r) x.number=(upFrom x.depth a.reverse).reverse:=by unfold ancestors;rw[du h]
theorem fg{r:O}(h:(nums (a++x::r)).Nodup):parentOf (a++x::r) x.number=match a.reverse.find? (λy=>decide (y.depth<x.depth)) with
 |some q=>q.number
 |none=>0:=by
 unfold parentOf;rw[lR h,List.getLast?_reverse,Eu];cases List.find? (λy=>decide (y.depth<x.depth)) (List.reverse a)<;>rfl
theorem o6:(∃b q c,a=b++q::c/\ q.depth<d/\ (∀y∈c,d<=y.depth)/\ a.reverse.find? (λy=>decide (y.depth<d))=some q)\/ ((∀y∈a,d<=y.depth)/\ a.reverse.find? (λy=>decide (y.depth<d))=none):=by
 cases h:a.reverse.find? (λy=>decide (y.depth<d)) with
 |none=>refine .inr ⟨λy hy=>?_,rfl⟩;have:=G2.mp h y (uY.mpr hy);simpa using this
 |some q=>
  obtain⟨h1,as,bs,h2,h3⟩:=List.find?_eq_some_iff_append.mp h;refine .inl ⟨bs.reverse,q,as.reverse,?_,by simpa using h1,λy hy=>?_,rfl⟩
  .have:=c_ List.reverse h2;simpa using this
  .have:=h3 y (uY.mp hy);simpa using this
theorem FP{c r:O}{q:Node}(h:cG m (b++q::c++x::r))(hq:q.depth<x.depth)(hc:∀y∈c,x.depth<=y.depth):q.cell=false/\ x.depth=q.depth+1:=by
 rw[dQ,iT,a5] at h;obtain⟨_,_,_,h4⟩:=h;have hl:=HY q;have key:x.depth<=lim q:=by
  cases c with
  |nil=>exact h4.2.1
  |cons z c=>exact bp (hc z (cb ..)) h4.2.1
 refine⟨?_,by lia⟩;cases e:q.cell with
 |false=>rfl
 |true=>
  unfold lim at key;rw[aq e] at key
  lia
theorem La{r:O}(h:cG 1 (a++x::r))(ha:∀y∈a,x.depth<=y.depth):x.depth=1:=by
 obtain⟨h1,h2,h3,_⟩:=gv h;cases a with
 |nil=>
  have:x.depth<=1:=h3
  lia
 |cons y a=>
  have g1:=ha y (cb ..);have g2:y.depth<=1:=h1.2.1
  lia
theorem mj{r:O}(W:lO (a++x::r)):∃pre c r',a=pre++c/\ (∀y∈c,x.depth<=y.depth)/\ children (a++x::r) (parentOf (a++x::r) x.number)=c.filter (λy=>y.depth==x.depth)++x::r'.filter (λy=>y.depth==x.depth)/\
 r'=r.takeWhile (λy=>decide (x.depth<=y.depth))/\ ((pre=[]/\ x.depth=1/\ parentOf (a++x::r) x.number=0)\/ ∃b q,pre=b++[q]/\ q.cell=false/\ x.depth=q.depth+1/\ parentOf (a++x::r) x.number=q.number):=by
 have e:=fg W.nd;rcases o6 (a:=a) (d:=x.depth) with⟨b,q,c,rfl,hq,hc,hf⟩|⟨ha,hf⟩
 .obtain⟨h1,h2⟩:=FP W.dep hq hc;rw[hf] at e;simp only at e;refine⟨b++[q],c,_,by simp,hc,?_,rfl, .inr ⟨b,q,rfl,h1,h2,e⟩⟩;have Ki:q.number≠0:=by
   have:=W.num q (by simp)
   lia
  rw[e];unfold children;rw[ak Ki];have hp:partAt q.number (b++q::c++x::r)=some (b,q,c++x::r):=by rw[dQ,iT];refine du ?_;have:=W.nd;rw[dQ,iT] at this;exact this
  rw[hp];simp only;have uH:inside q.depth (c++x::r)=c++x::r.takeWhile (λy=>decide (x.depth<=y.depth)):=by
   unfold inside;rw[tH (by intro y hy;have:=hc y hy;simp;lia),DS (by simp;lia)];congr 3;funext y;have:(q.depth<y.depth)=(x.depth<=y.depth):=by rw[h2];rfl
   simp only[this]
  rw[uH,<-h2,qM,xk (by simp)]
 .have h1:=La W.dep ha;rw[hf] at e;simp only at e;refine⟨[],a,_,rfl,ha,?_,rfl, .inl ⟨rfl,h1,e⟩⟩;rw[e];unfold children;rw[aq rfl,qM,xk (by simp[h1]),h1];congr 2;have:r.takeWhile (λy=>decide (1<=y.depth))=r:=by
   have:=tH (p:=λy:Node=>decide (1<=y.depth)) (l₁:=r) (l₂:=[]) (by intro y hy;have:=lP W.dep y (by simp[hy]);simpa using this)
   simpa using this
  rw[this]
theorem AL(W:lO (b++y::q)):spot (b++y::q) (parentOf (b++y::q) y.number) y.number=some (b++y::inside y.depth q,outside y.depth q,y.depth):=by
 obtain⟨pre,c,r',h1,h2,h3,h4,h5⟩:=mj W;have Sx:y.number≠0:=by
  have:=W.num y (by simp)
  lia
 unfold spot;rw[h3];have hs:¬(parentOf (b++y::q) y.number≠0/\ isSection (b++y::q) (parentOf (b++y::q) y.number)=false):=by
  rcases h5 with⟨_,_,e⟩|⟨b',p,e1,e2,e3,e4⟩
  .rw[e];simp
  .rw[e4];intro⟨_,hh⟩;have hp:partAt p.number (b++y::q)=some (b',p,c++y::q):=by
    have e:b++y::q=b'++p::(c++y::q):=by rw[h1,e1];simp
    rw[e];exact du (by rw[<-e];exact W.nd)
   rw[g_,hp] at hh;simp[e2] at hh
 rw[ak hs,ak Sx,aq (by simp),du W.nd];rfl
theorem o7{r:O}(W:lO (a++x::r)):(∃b y c,a=b++y::c/\ y.depth=x.depth/\ (∀z∈c,x.depth<z.depth)/\ sibling (a++x::r) x.number=some y)\/
 (sibling (a++x::r) x.number=none/\ ((∀z∈a,x.depth<z.depth)\/ ∃b y c,a=b++y::c/\ y.depth<x.depth/\ ∀z∈c,x.depth<z.depth)):=by
 obtain⟨pre,c,r',h1,h2,h3,h4,h5⟩:=mj W;have fo:∀y∈c,y.number≠x.number:=λy hy=>(gr W.nd).1 y (by rw[h1];exact eK _ hy);have e:sibling (a++x::r) x.number=(c.filter λy=>y.depth==x.depth).getLast?:=by unfold sibling;rw[h3,tH (by intro y hy;have:=fo y (gX.mp hy).1;simpa using this),DR (by simp),pz]
 rw[e];cases hl:(c.filter λy=>y.depth==x.depth).getLast? with
 |none=>
  refine .inr ⟨rfl,?_⟩;rw[Ru,uW] at hl;have hc:∀z∈c,x.depth<z.depth:=λz hz=>by
   have g1:=h2 z hz;have g2:=hl z hz;simp at g2
   lia
  rcases h5 with⟨rfl,_,_⟩|⟨b,q,rfl,_,g,_⟩
  .exact .inl (by rw[h1];exact hc)
  .exact .inr ⟨b,q,c,by rw[h1];simp,by lia,hc⟩
 |some y=>
  rw[Rw] at hl;obtain⟨ys,hl⟩:=hl;have:=Ro.mp hl;obtain⟨l1,l2,e1,e2,e3⟩:=this;obtain⟨l3,l4,e4,e5,e6,e7⟩:=Rp.mp e3;refine .inl ⟨pre++l1++l3,y,l4,?_,by simpa using e6,?_,rfl⟩
  .rw[h1,e1,e4];simp
  .intro z hz;have g1:=h2 z (by rw[e1,e4];simp[hz]);rw[uW] at e7;have g2:=e7 z hz;simp at g2
   lia
theorem HZ{d:Nat}{o suf:O}(vE:(nums o).Nodup)(hs:hd suf<=d):∀(n:Nat)(pre seg:O),seg.length<=n->o=pre++seg++suf->(∀z∈seg,d<=z.depth)->hd seg<=d->
 (seg.filter λy=>y.depth==d).flatMap (λy=>tree o y.number)=seg
 |_,_,[],_,_,_,_=>rfl
 |n+1,pre,z::rest,hn,e,kK,hh=>by
  have hz:z.depth=d:=by
   have g1:=kK z (cb ..);have g2:z.depth<=d:=hh
   lia
  rw[xk (by simp[hz]),ny];have e2:o=pre++z::(rest++suf):=by rw[e];simp
  have ht:tree o z.number=z::inside d (rest++suf):=by
   unfold tree;have:partAt z.number o=some (pre,z,rest++suf):=by rw[e2];exact du (by rw[<-e2];exact vE)
   rw[this];show z::inside z.depth _=_;rw[hz]
  have hi:inside d (rest++suf)=inside d rest:=by
   conv=>lhs;rw[<-bP d rest,dQ]
   refine eE (λx hx=>cg x hx) ?_;cases ho:outside d rest with
   |nil=>exact hs
   |cons y l=>exact(show hd (y::l)<=d by rw[<-ho];exact b_ d rest)
  rw[ht,hi];have hf:rest.filter (λy=>y.depth==d)=(outside d rest).filter λy=>y.depth==d:=by
   conv=>lhs;rw[<-bP d rest,qM]
   rw[uW.mpr (by intro y hy;have:=cg y hy;simp;lia),uZ]
  have hlen:(outside d rest).length<=n:=by
   have:=c_ List.length (bP d rest);rw[a_] at this;simp at hn
   lia
  rw[hf,HZ vE hs n (pre++z::inside d rest) (outside d rest) hlen (by rw[e];simp[bP]) (λy hy=>kK y (bu _ (by rw[<-bP d rest];exact eK _ hy))) (b_ d rest),iT,bP]
open Vanbkn (State partAt spot children parentOf isSection tree without putTree tooDeep ancestors first doMove doPromote doDemote doRaise moved)
def cp(t:O)(fr to:Nat):Bool:=t.any λx=> !x.cell&&decide (6<x.depth - fr+to)
theorem cR{o:O}(h:∀x∈o,Good x):tooDeep o=false:=by
 unfold tooDeep;rw[Fi];intro x hx;have:=(h x hx).sec;cases hc:x.cell with
 |true=>simp
 |false=>
  have g:=this hc;have g2:¬DEEP<x.depth:=by show¬6<x.depth;lia
  simp[g2]
theorem bQ(a b:O):tooDeep (a++b)=(tooDeep a||tooDeep b):=List.any_append
theorem jc(t:O)(fr to:Nat):tooDeep (shifted t fr to)=cp t fr to:=by unfold tooDeep shifted cp;rw[Cd];rfl
variable{s:State}
theorem bx{f:Node->State×Answer}(W:lO s.nodes)(h:c9 s.nodes z=none):withNode s z f=refused s (-1):=by
 unfold withNode;rw[lQ];rcases q_ W z with⟨a,x,r,e,h1,_⟩|⟨_,h2,_⟩
 .rw[h] at h1;cases h1
 .rw[h2];rfl
theorem aN{f:Node->State×Answer}{r:O}(W:lO s.nodes)(e:s.nodes=a++x::r)(hz:(x.number:Int)=z):withNode s z f=f x:=by
 unfold withNode;have hx:x∈s.nodes:=by rw[e];simp
 rw[lQ,<-(sr W hx z).mpr hz,e,du (by rw[<-e];exact W.nd)];rfl
theorem aX{o:O}(z:Int):c9 o z=none\/ ∃a x r,o=a++x::r/\ c9 o z=some a.length/\ (x.number:Int)=z:=by
 cases h:c9 o z with
 |none=>exact .inl rfl
 |some i=>obtain⟨a,x,r,e,hl,hz,_⟩:=vD h;exact .inr ⟨a,x,r,e,by rw[hl],hz⟩
theorem ir{r:O}(h:(nums (a++x::r)).Nodup):tree (a++x::r) x.number=x::inside x.depth r:=by unfold tree;rw[du h]
theorem k_{r:O}(h:(nums (a++x::r)).Nodup):without (a++x::r) x.number=a++outside x.depth r:=by unfold without;rw[du h]
variable{post:O}
theorem Ew{o pre T:O}(S:Spot o pre post d)(h:cG 1 o)(hT:cG d T)(kK:∀y∈T,d<=y.depth):cG 1 (pre++T++post):=by rw[S.eq,a5] at h;rw[dQ,a5,a5];refine⟨h.1,sk S.le hT,kJ h.2 (bp S.hd (o4 S.le kK))⟩
theorem AM{r:O}(h:cG m (a++x::r)):cG x.depth (x::inside x.depth r):=by obtain⟨_,h2,_,h4⟩:=gv h;rw[<-bP x.depth r,a5] at h4;exact⟨h2,aQ _,h4.1⟩
theorem hZ{r:O}:∀y∈x::inside x.depth r,x.depth<=y.depth:=λy hy=>by
 cases hy with
 |head=>exact aQ _
 |tail _ hy=>exact eX (cg y hy)
theorem AO{r:O}(h:cG 1 (a++x::r)):cG 1 (a++outside x.depth r):=by obtain⟨h1,h2,h3,h4⟩:=gv h;rw[a5];rw[<-bP x.depth r,a5] at h4;exact⟨h1,kJ h4.2 (bp (b_ _ _) h3)⟩
theorem i0(a r:O)(x:Node):(a++outside x.depth r).Sublist (a++x::r):=by refine List.Sublist.append (NX _) (List.Sublist.cons _ ?_);exact(G1 _)
theorem lS(h:a.Sublist b)(hn:(nums b).Nodup):(nums a).Nodup:=List.Nodup.sublist (h.map _) hn
theorem lO.without{r:O}(W:lO (a++x::r)):lO (a++outside x.depth r) where
 len:=bp (i0 a r x).length_le W.len
 nd:=lS (i0 a r x) W.nd
 dep:=AO W.dep
 good:=λy hy=>W.good y ((i0 a r x).subset hy)
theorem AR{t:O}(h1:1<=d)(h:cG x.depth (x::t))(kK:∀y∈x::t,x.depth<=y.depth):cG d (shifted (x::t) x.depth d):=by have:=mh (f:=λy:Node=>{y with depth:=y.depth - x.depth+d}) (fr:=x.depth) (to:=d) h1 kK (λy _=>⟨rfl,rfl⟩) (aQ _) h;rw[tK,Nat.zero_add] at this;exact this
variable{to:Nat}
theorem CD{t:O}{fr:Nat}:∀y∈shifted t fr to,to<=y.depth:=λy hy=>by obtain⟨z,_,rfl⟩:=fc.mp hy;exact Nat.le_add_left _ _
theorem y8{t:O}{fr:Nat}(h:∀y∈t,Good y)(hd:cp t fr to=false):∀y∈shifted t fr to,Good y:=λy hy=>by
 obtain⟨z,hz,rfl⟩:=fc.mp hy;have g:=h z hz;refine⟨g.num,λhc=>?_,g.txt,g.cf⟩;have:=Fi.mp hd z hz;have xM:z.cell=false:=hc;simp[xM] at this;show z.depth - fr+to<=6
 lia
theorem y9(t:O)(fr to:Nat):nums (shifted t fr to)=nums t:=by unfold nums shifted;rw[ip];rfl
theorem cY(a b:O):nums (a++b)=nums a++nums b:=cV
theorem x_{pre T:O}(h:(nums T++nums (pre++post)).Nodup):(nums (pre++T++post)).Nodup:=by refine List.Perm.nodup ?_ h;rw[cY,cY,cY,dQ];refine(ML _ _ _)
theorem H_{o pre t:O}(W:lO o)(S:Spot o pre post d)(h:cG x.depth (x::t))(kK:∀y∈x::t,x.depth<=y.depth)(hg:∀y∈x::t,Good y)(hd:cp (x::t) x.depth d=false)(hn:(nums (x::t)++nums o).Nodup)(hl:o.length+(x::t).length<=60):lO (pre++shifted (x::t) x.depth d++post) where
 len:=by
  rw[S.eq,a_] at hl;rw[a_,a_];unfold shifted;rw[aS]
  lia
 nd:=x_ (by rw[y9,<-S.eq];exact hn)
 dep:=Ew S W.dep (AR S.pos h kK) CD
 good:=λy hy=>by
  rw[dQ] at hy;rcases dY.mp hy with hy|hy
  .exact W.good y (by rw[S.eq];exact dz _ hy)
  .rcases dY.mp hy with hy|hy
   .exact y8 hg hd y hy
   .exact W.good y (by rw[S.eq];exact eK _ hy)
theorem gA(a r:O)(x:Node):(a++x::r).Perm ((x::inside x.depth r)++(a++outside x.depth r)):=by
 have:a++x::r=a++((x::inside x.depth r)++outside x.depth r):=by rw[iT,bP]
 rw[this];exact ML _ _ _
theorem Lb{r pre:O}(W:lO (a++x::r))(S:Spot (a++outside x.depth r) pre post d)(hd:cp (x::inside x.depth r) x.depth d=false):lO (pre++shifted (x::inside x.depth r) x.depth d++post):=by
 have p:=gA a r x;refine H_ W.without S (AM W.dep) hZ (λy hy=>W.good y (p.mem_iff.mpr (dz _ hy))) hd ?_ ?_
 .have:=(p.map λy:Node=>y.number).nodup W.nd;rw[cV] at this;exact this
 .have:=p.length_eq;rw[a_ (as:=x::inside x.depth r)] at this;have:=W.len
  lia
theorem vF{t:List Int}:isText t=true↔t.length<=60/\ ∀c∈t,32<=c/\ c<=126:=by unfold isText;rw[uA,yN,dN];simp only[dN];exact Iff.rfl
theorem nU{t:List Int}(h:isText t=true):(textOf t).length<=60/\ ∀c∈textOf t,32<=c/\ c<=126:=by
 obtain⟨h1,h2⟩:=vF.mp h;unfold textOf;refine⟨by rw[aS];exact h1,λc hc=>?_⟩;obtain⟨z,hz,rfl⟩:=fc.mp hc;have:=h2 z hz;rw[aq (by lia)]
 lia
theorem kL{t:List Int}(h:isText t=true):(textOf t).map (λc:Nat=>(c:Int))=t:=by
 obtain⟨_,h2⟩:=vF.mp h;unfold textOf;rw[ip]
 conv=>rhs;rw[<-uX t]
 refine iU λc hc=>?_;have:=h2 c hc;show(((if 0<=c/\ c<=255 then c.toNat else 256:Nat)):Int)=c;rw[aq (by lia)]
 lia
theorem rf:full s=true↔60<=s.nodes.length:=by unfold full;exact dN
theorem ml:usedUp s=true↔999<s.next:=by unfold usedUp;exact dN
def Ia(s:State)(p a:Int)(cell:Bool)(t:List Int):State×Answer:=match ff s.nodes p a with
 |none=>refused s (-2)
 |some (i,d)=>if isText t=false then refused s (-3) else if 60<=s.nodes.length then refused s (-4) else if cell=false/\ 6<d then refused s (-5) else if 999<s.next then refused s (-6)
  else(⟨s.nodes.take i++⟨s.next,d,cell,false,textOf t⟩::s.nodes.drop i,s.next+1⟩,⟨s.next,[]⟩)
theorem CF(W:Wf s)(p a:Int)(cell:Bool)(t:List Int):doNew s p a cell t=Ia s p a cell t:=by
 unfold doNew Ia;rcases fP W.n p a with⟨h1,h2⟩|⟨pre,post,d,h1,h2,S⟩
 .rw[h1,h2];simp[checked,first]
 .rw[h1,h2];have e:putTree (pre,post,d) [⟨s.next,1,cell,false,textOf t⟩]=pre++⟨s.next,d,cell,false,textOf t⟩::post:=by simp[putTree,shifted]
  have ht:tooDeep (pre++⟨s.next,d,cell,false,textOf t⟩::post)=true↔cell=false/\ 6<d:=by have g1:tooDeep pre=false:=cR λy hy=>W.n.good y (by rw[S.eq];exact dz _ hy);have g2:tooDeep post=false:=cR λy hy=>W.n.good y (by rw[S.eq];exact eK _ hy);have e3:pre++(⟨s.next,d,cell,false,textOf t⟩:Node)::post=pre++([⟨s.next,d,cell,false,textOf t⟩]++post):=rfl;rw[e3,bQ,bQ,g1,g2,QI,zN];unfold tooDeep;rw[uU,List.any_nil,zN,uA,dN];simp only[Bool.not_eq_true'];exact Iff.rfl
  have et:s.nodes.take pre.length=pre:=by rw[S.eq];exact fO
  have ed:s.nodes.drop pre.length=post:=by rw[S.eq];simp
  simp only[u7,e,DZ];rw[et,ed];unfold checked first
  simp only[Kd,m7];unfold first
  by_cases c1:isText t=false
  .simp[c1]
  .have Wn:isText t=true:=by simpa using c1
   rw[ak (by simp[Wn]),ak c1];unfold first
   by_cases c2:60<=s.nodes.length
   .rw[aq (by rw[rf];exact c2),aq c2]
   .rw[ak (by rw[rf];exact c2),ak c2];unfold first
    by_cases c3:cell=false/\ 6<d
    .rw[aq (ht.mpr c3),aq c3]
    .rw[ak (λh=>c3 (ht.mp h)),ak c3];unfold first
     by_cases c4:999<s.next
     .rw[aq (by rw[ml];exact c4),aq c4]
     .rw[ak (by rw[ml];exact c4),ak c4];rfl
theorem Ib(W:Wf s)(p a:Int)(cell:Bool)(t:List Int):Wf (Ia s p a cell t).1:=by
 unfold Ia;rcases fP W.n p a with⟨h1,h2⟩|⟨pre,post,d,h1,h2,S⟩
 .rw[h1];exact W
 .rw[h1];simp only;split
  .exact W
  .rename_i c1;split
   .exact W
   .rename_i c2;split
    .exact W
    .rename_i c3;split
     .exact W
     .rename_i c4;have et:s.nodes.take pre.length=pre:=by rw[S.eq];exact fO
      have ed:s.nodes.drop pre.length=post:=by rw[S.eq];simp
      simp only[et,ed];have hx:cG d [(⟨s.next,d,cell,false,textOf t⟩:Node)]:=⟨S.pos,aQ _,trivial⟩;have hW:=W.n;refine⟨⟨?_,?_,?_,?_⟩,?_,by have:=W.nx;show 1<=s.next+1/\ s.next+1<=1000;lia⟩
      .have:=c_ List.length S.eq;rw[a_] at this;show(pre++_::post).length<=60;rw[a_,cj];lia
      .have e3:pre++(⟨s.next,d,cell,false,textOf t⟩:Node)::post=pre++[⟨s.next,d,cell,false,textOf t⟩]++post:=by simp
       show(nums (pre++_::post)).Nodup;rw[e3];refine x_ ?_;rw[<-S.eq];show(s.next::nums s.nodes).Nodup;refine tG.mpr ⟨λh=>?_,hW.nd⟩;obtain⟨y,hy,e⟩:=fc.mp h;have:=W.lt y hy
       lia
      .have e3:pre++(⟨s.next,d,cell,false,textOf t⟩:Node)::post=pre++[⟨s.next,d,cell,false,textOf t⟩]++post:=by simp
       show cG 1 (pre++_::post);rw[e3];exact Ew S hW.dep hx (by intro y hy;simp at hy;rw[hy];exact aQ _)
      .intro y hy;rcases dY.mp hy with hy|hy
       .exact hW.good y (by rw[S.eq];exact dz _ hy)
       .cases hy with
        |head=>
         have:=W.nx;refine⟨by show 1<=s.next/\ s.next<=999;lia,λhc=>?_,nU (by simpa using c1),λ_=>rfl⟩;show d<=6;have xM:cell=false:=hc;have:¬6<d:=λh=>c3 ⟨xM,h⟩
         lia
        |tail _ hy=>exact hW.good y (by rw[S.eq];exact eK _ hy)
      .intro y hy;show y.number<s.next+1;rcases dY.mp hy with hy|hy
       .exact tJ (W.lt y (by rw[S.eq];exact dz _ hy))
       .cases hy with
        |head=>exact m4 _
        |tail _ hy=>exact tJ (W.lt y (by rw[S.eq];exact eK _ hy))
open Vanbkn (State partAt spot children parentOf isSection tree without putTree tooDeep ancestors first doMove doPromote doDemote doRaise moved changed1 lastChild step)
theorem CG{o:O}{f:Node->Node}(W:lO o)(h:∀x∈o,(f x).number=x.number/\ (f x).depth=x.depth/\ (f x).cell=x.cell/\ Good (f x)):lO (o.map f) where
 len:=by rw[aS];exact W.len
 nd:=by
  have:nums (o.map f)=nums o:=by unfold nums;rw[ip];exact iU λx hx=>(h x hx).1
  rw[this];exact W.nd
 dep:=by
  have:∀(l:O)(m:Nat),(∀x∈l,(f x).depth=x.depth/\ (f x).cell=x.cell)->cG m l->cG m (l.map f):=by
   intro l;induction l with
   |nil=>intro m _ _;trivial
   |cons x r ih=>
    intro m hl ⟨g1,g2,g3⟩;obtain⟨e1,e2⟩:=hl x (cb ..);refine⟨by rw[e1];exact g1,by rw[e1];exact g2,?_⟩;have:lim (f x)=lim x:=by unfold lim;rw[e1,e2]
    rw[this];exact ih _ (λy hy=>hl y (bu _ hy)) g3
  exact this o 1 (λx hx=>⟨(h x hx).2.1,(h x hx).2.2.1⟩) W.dep
 good:=λy hy=>by obtain⟨x,hx,rfl⟩:=fc.mp hy;exact(h x hx).2.2.2
theorem pH{r:O}(h:(nums (a++x::r)).Nodup)(f:Node->Node):changed1 (a++x::r) x.number f=a++f x::r:=by
 obtain⟨h1,h2⟩:=gr h;unfold changed1;rw[cV,cy,aq rfl];congr 1
 .conv=>rhs;rw[<-uX a]
  exact iU λy hy=>ak (h1 y hy)
 .congr 1
  conv=>rhs;rw[<-uX r]
  exact iU λy hy=>ak (h2 y hy)
theorem mm{o:O}(W:Wf s)(h:∀y∈o,∃x∈s.nodes,y.number=x.number):∀y∈o,y.number<s.next:=λy hy=>by obtain⟨x,hx,e⟩:=h y hy;rw[e];exact W.lt x hx
theorem vG{n:Nat}{f:Node->Node}(W:Wf s)(h:∀x∈s.nodes,x.number=n->(f x).number=x.number/\ (f x).depth=x.depth/\ (f x).cell=x.cell/\ Good (f x)):Wf ⟨changed1 s.nodes n f,s.next⟩:=by
 have hh:∀x∈s.nodes,((λx=>if x.number=n then f x else x) x).number=x.number/\ ((λx=>if x.number=n then f x else x) x).depth=x.depth/\ ((λx=>if x.number=n then f x else x) x).cell=x.cell/\ Good ((λx=>if x.number=n then f x else x) x):=λx hx=>by
  by_cases e:x.number=n
  .simp only[aq e];exact h x hx e
  .simp only[ak e];exact⟨trivial,trivial,trivial,W.n.good x hx⟩
 refine⟨CG W.n hh,?_,W.nx⟩;refine mm (s:=s) W λy hy=>?_;obtain⟨x,hx,rfl⟩:=fc.mp hy;exact⟨x,hx,(hh x hx).1⟩
section
variable{s:State}{a r:O}{x:Node}{z:Int}
theorem Ic(W:Wf s)(e:s.nodes=a++x::r)(hz:(x.number:Int)=z)(t:List Int):step s (.write z t)=if isText t=false then refused s (-3) else(⟨a++{x with text:=textOf t}::r,s.next⟩,⟨0,[]⟩):=by
 show withNode s z _=_;rw[aN W.n e hz,e,pH (by rw[<-e];exact W.n.nd)];unfold checked first
 cases isText t<;>rfl
theorem Ie(W:Wf s)(z:Int)(t:List Int):Wf (step s (.write z t)).1:=by
 rcases aX (o:=s.nodes) z with h|⟨a,x,r,e,h,hz⟩
 .show Wf (withNode s z _).1;rw[bx W.n h];exact W
 .show Wf (withNode s z _).1;rw[aN W.n e hz];unfold checked first
  cases ht:isText t with
  |false=>exact W
  |true=>exact vG W λy hy _=>⟨rfl,rfl,rfl,⟨(W.n.good y hy).num,(W.n.good y hy).sec,nU ht,(W.n.good y hy).cf⟩⟩
theorem fold_eq(W:Wf s)(e:s.nodes=a++x::r)(hz:(x.number:Int)=z)(m:Int):step s (.fold z m)=if x.cell=true then refused s (-7) else if¬(m=0\/ m=1) then refused s (-11) else(⟨a++{x with folded:=m==1}::r,s.next⟩,⟨0,[]⟩):=by
 show withNode s z _=_;rw[aN W.n e hz,e,pH (by rw[<-e];exact W.n.nd)];unfold checked first
 by_cases hc:x.cell=true
 .rw[aq hc,aq hc]
 .rw[ak hc,ak hc];unfold first
  by_cases hm:m=0\/ m=1
  .rw[ak (by rcases hm with rfl|rfl<;>decide),ak (λh=>h hm)];rfl
  .have:(m==0||m==1)=false:=by rw[MK];exact⟨nA.mpr λh=>hm (.inl h),nA.mpr λh=>hm (.inr h)⟩
   rw[this,aq hm];rfl
theorem Lc(W:Wf s)(z m:Int):Wf (step s (.fold z m)).1:=by
 rcases aX (o:=s.nodes) z with h|⟨a,x,r,e,h,hz⟩
 .show Wf (withNode s z _).1;rw[bx W.n h];exact W
 .show Wf (withNode s z _).1;rw[aN W.n e hz];unfold checked first
  cases hc:x.cell with
  |true=>exact W
  |false=>
   rw[ak (by decide)];unfold first
   split
   .rename_i k heq;exact W
   .refine vG W λy hy ZP=>?_;have:y=x:=nR W.n.nd hy (by rw[e];simp) ZP;subst this;refine⟨rfl,rfl,rfl,(W.n.good y hy).num,(W.n.good y hy).sec,(W.n.good y hy).txt,λh=>?_⟩;have h':y.cell=true:=h;rw[hc] at h';cases h'
def uo(d:Int)(x:Node):Node:=if x.cell=true then x else{x with folded:=decide (d<=(x.depth:Int))}
theorem foldFrom_eq(d:Int):step s (.foldFrom d)=if¬(1<=d/\ d<=7) then refused s (-12) else(⟨s.nodes.map (uo d),s.next⟩,⟨((s.nodes.map (uo d)).filter λx=>x.folded).length,[]⟩):=by
 show checked s _ _ _ _=_;unfold checked first
 by_cases h:1<=d/\ d<=7
 .have:depthIn d=true:=by unfold depthIn;exact aR h
  rw[this,ak (by decide),ak (λg=>g h)];rfl
 .have:depthIn d=false:=by unfold depthIn;exact cP h
  rw[this,aq h];rfl
theorem AU(W:Wf s)(d:Int):Wf (step s (.foldFrom d)).1:=by
 rw[foldFrom_eq];split
 .exact W
 .have hh:∀x∈s.nodes,(uo d x).number=x.number/\ (uo d x).depth=x.depth/\ (uo d x).cell=x.cell/\ Good (uo d x):=λx hx=>by
   unfold uo;have g:=W.n.good x hx;split
   .exact⟨rfl,rfl,rfl,g⟩
   .rename_i hc;exact⟨rfl,rfl,rfl,g.num,g.sec,g.txt,λh=>absurd h hc⟩
  refine⟨CG W.n hh,?_,W.nx⟩;refine mm (s:=s) W λy hy=>?_;obtain⟨x,hx,rfl⟩:=fc.mp hy;exact⟨x,hx,(hh x hx).1⟩
def pI(P:Node->Bool)(y:Node):Node:=if P y=true then{y with folded:=false} else y
theorem FQ(W:Wf s)(P:Node->Bool):Wf ⟨s.nodes.map (pI P),s.next⟩:=by
 have hh:∀y∈s.nodes,(pI P y).number=y.number/\ (pI P y).depth=y.depth/\ (pI P y).cell=y.cell/\ Good (pI P y):=λy hy=>by
  have g:=W.n.good y hy;unfold pI;by_cases hP:P y=true
  .rw[aq hP];exact⟨rfl,rfl,rfl,g.num,g.sec,g.txt,λ_=>rfl⟩
  .rw[ak hP];exact⟨rfl,rfl,rfl,g⟩
 refine⟨CG W.n hh,?_,W.nx⟩;refine mm (s:=s) W λy hy=>?_;obtain⟨x,hx,rfl⟩:=fc.mp hy;exact⟨x,hx,(hh x hx).1⟩
theorem FR(W:Wf s)(z:Int):Wf (step s (.reveal z)).1:=by
 rcases aX (o:=s.nodes) z with h|⟨a,x,r,e,h,hz⟩
 .show Wf (withNode s z _).1;rw[bx W.n h];exact W
 .show Wf (withNode s z _).1;rw[aN W.n e hz];exact FQ W λy=>((ancestors s.nodes x.number).map λy=>y.number).contains y.number
theorem drop_eq(W:Wf s)(e:s.nodes=a++x::r)(hz:(x.number:Int)=z):step s (.drop z)=(⟨a++outside x.depth r,s.next⟩,⟨((1+(inside x.depth r).length:Nat):Int),[]⟩):=by show withNode s z _=_;rw[aN W.n e hz,e,k_ (by rw[<-e];exact W.n.nd),ir (by rw[<-e];exact W.n.nd),cj,DW];rfl
theorem Ld(W:Wf s)(z:Int):Wf (step s (.drop z)).1:=by
 rcases aX (o:=s.nodes) z with h|⟨a,x,r,e,h,hz⟩
 .show Wf (withNode s z _).1;rw[bx W.n h];exact W
 .rw[drop_eq W e hz];have W':=W.n;rw[e] at W';exact⟨W'.without,λy hy=>W.lt y (by rw[e];exact(i0 a r x).subset hy),W.nx⟩
def AV(y:Node):Node:={y with depth:=y.depth - 1}
theorem tR(W:Wf s)(e:s.nodes=a++x::r)(hz:(x.number:Int)=z):step s (.dissolve z)=if x.cell=true then refused s (-7) else(⟨a++(inside x.depth r).map AV++outside x.depth r,s.next⟩,⟨(((inside x.depth r).filter λy=>y.depth==x.depth+1).length:Nat),[]⟩):=by
 have hp:partAt x.number (a++x::r)=some (a,x,r):=du (by rw[<-e];exact W.n.nd);have QT:x.number≠0:=by
  have:=W.n.num x (by rw[e];simp)
  lia
 show withNode s z _=_;rw[aN W.n e hz,e];unfold checked first Vanbkn.dissolved children
 rw[hp,ak QT];by_cases hc:x.cell=true
 .rw[aq hc,aq hc]
 .rw[ak hc,ak hc];rfl
theorem y_(h:cG 1 (a++x::r))(hc:x.cell=false):cG 1 (a++(inside x.depth r).map AV++outside x.depth r):=by
 obtain⟨h1,h2,h3,h4⟩:=gv h;have el:lim x=x.depth+1:=by unfold lim;rw[hc];rfl
 rw[<-bP x.depth r,a5,el] at h4;have Pt:∀y∈inside x.depth r,x.depth<y.depth:=cg;have key:cG x.depth ((inside x.depth r).map AV):=by have:=mh (f:=AV) (fr:=x.depth+1) (to:=x.depth) h2 (λy hy=>Pt y hy) (λy hy=>⟨by have:=Pt y hy;show y.depth - 1=_;lia,rfl⟩) (aQ _) h4.1;rw[tK,Nat.zero_add] at this;exact this
 rw[dQ,a5,a5];refine⟨h1,sk h3 key,kJ h4.2 ?_⟩;refine bp (b_ _ _) (o4 h3 λy hy=>?_);obtain⟨w,hw,rfl⟩:=fc.mp hy;have:=Pt w hw;show x.depth<=w.depth - 1
 lia
theorem AW(W:Wf s)(z:Int):Wf (step s (.dissolve z)).1:=by
 rcases aX (o:=s.nodes) z with h|⟨a,x,r,e,h,hz⟩
 .show Wf (withNode s z _).1;rw[bx W.n h];exact W
 .rw[tR W e hz];split
  .exact W
  .rename_i hc;have W':=W.n;rw[e] at W';have hm:∀y∈a++(inside x.depth r).map AV++outside x.depth r,∃w∈s.nodes,y.number=w.number/\ Good y:=λy hy=>by
    rw[dQ] at hy;rcases dY.mp hy with hy|hy
    .exact⟨y,by rw[e];simp[hy],rfl,W'.good y (by simp[hy])⟩
    .rcases dY.mp hy with hy|hy
     .obtain⟨w,hw,rfl⟩:=fc.mp hy;have Sy:w∈r:=by rw[<-bP x.depth r];exact dz _ hw
      have g:=W'.good w (by simp[Sy]);exact⟨w,by rw[e];simp[Sy],rfl,g.num,λMW=>bp (Nat.sub_le _ _) (g.sec MW),g.txt,g.cf⟩
     .have Sy:y∈r:=by rw[<-bP x.depth r];exact eK _ hy
      exact⟨y,by rw[e];simp[Sy],rfl,W'.good y (by simp[Sy])⟩
   have en:nums (a++(inside x.depth r).map AV++outside x.depth r)=nums (a++r):=by
    conv=>rhs;rw[<-bP x.depth r]
    unfold nums;simp only[cV,ip,dQ];rfl
   refine⟨⟨?_,?_,y_ W'.dep (by simpa using hc),λy hy=>(hm y hy).choose_spec.2.2⟩,λy hy=>?_,W.nx⟩
   .have:=c_ List.length en;unfold nums at this;rw[aS,aS] at this;rw[this];have:=W'.len;simp at this⊢
    lia
   .rw[en];exact lS (List.Sublist.append (NX _) (List.sublist_cons_self _ _)) W'.nd
   .obtain⟨w,hw,e1,_⟩:=hm y hy;show y.number<s.next;rw[e1];exact W.lt w hw
theorem Ex(W:Wf s)(e:s.nodes=a++x::r)(hz:(x.number:Int)=z)(p af:Int):step s (.move z p af)=
 if c9 (x::inside x.depth r) p≠none then refused s (-8) else match ff (a++outside x.depth r) p af with
  |none=>refused s (-2)
  |some (k,d)=>if cp (x::inside x.depth r) x.depth d=true then refused s (-5) else(⟨(a++outside x.depth r).take k++shifted (x::inside x.depth r) x.depth d++(a++outside x.depth r).drop k,s.next⟩,⟨0,[]⟩):=by
 have W':=W.n;rw[e] at W';show withNode s z _=_;rw[aN W.n e hz,e];unfold moved;rw[k_ W'.nd,ir W'.nd];have hb:((x::inside x.depth r).any λy=>y.number==nodeNo p)=true↔c9 (x::inside x.depth r) p≠none:=by
  rw[mi];have gR:∀y∈x::inside x.depth r,y∈a++x::r:=λy hy=>(gA a r x).mem_iff.mpr (dz _ hy);constructor
  .rintro⟨y,hy,hn⟩ hh;exact pos_none hh y hy ((sr W' (gR y hy) p).mp hn)
  .intro hh;rcases aX (o:=x::inside x.depth r) p with h|⟨a',y,r',e',h,hy⟩
   .exact absurd h hh
   .have:y∈x::inside x.depth r:=by rw[e'];simp
    exact⟨y,this,(sr W' (gR y this) p).mpr hy⟩
 dsimp only;unfold checked first
 by_cases c1:c9 (x::inside x.depth r) p≠none
 .rw[aq (hb.mpr c1),aq c1]
 .rw[ak (λh=>c1 (hb.mp h)),ak c1];unfold first
  rcases fP W'.without p af with⟨h1,h2⟩|⟨pre,post,d,h1,h2,S⟩
  .rw[h1,h2];rfl
  .rw[h1,h2];have et:(a++outside x.depth r).take pre.length=pre:=by rw[S.eq];exact fO
   have ed:(a++outside x.depth r).drop pre.length=post:=by rw[S.eq];simp
   simp only[tL,DZ,u7,et,ed];rw[ak (by decide)];unfold first
   have hd:tooDeep (putTree (pre,post,d) (x::inside x.depth r))=cp (x::inside x.depth r) x.depth d:=by show tooDeep (pre++shifted (x::inside x.depth r) x.depth d++post)=_;have g1:tooDeep pre=false:=cR λy hy=>W'.without.good y (by rw[S.eq];exact dz _ hy);have g2:tooDeep post=false:=cR λy hy=>W'.without.good y (by rw[S.eq];exact eK _ hy);rw[bQ,bQ,g1,g2,QI,zN,jc]
   rw[hd];by_cases c2:cp (x::inside x.depth r) x.depth d=true
   .rw[aq c2,aq c2]
   .rw[ak c2,ak c2];rfl
theorem rg(W:Wf s)(e:s.nodes=a++x::r){pre:O}(S:Spot (a++outside x.depth r) pre post d)(hd:cp (x::inside x.depth r) x.depth d=false):Wf ⟨pre++shifted (x::inside x.depth r) x.depth d++post,s.next⟩:=by
 have W':=W.n;rw[e] at W';refine⟨Lb W' S hd,?_,W.nx⟩;refine mm (s:=s) W λy hy=>?_;rw[dQ] at hy;have sub:∀w∈a++outside x.depth r,w∈s.nodes:=λw hw=>by rw[e];exact(i0 a r x).subset hw
 rcases dY.mp hy with hy|hy
 .exact⟨y,sub y (by rw[S.eq];exact dz _ hy),rfl⟩
 .rcases dY.mp hy with hy|hy
  .obtain⟨w,hw,rfl⟩:=fc.mp hy;exact⟨w,by rw[e];exact(gA a r x).mem_iff.mpr (dz _ hw),rfl⟩
  .exact⟨y,sub y (by rw[S.eq];exact eK _ hy),rfl⟩
theorem za(W:Wf s)(z p af:Int):Wf (step s (.move z p af)).1:=by
 rcases aX (o:=s.nodes) z with h|⟨a,x,r,e,h,hz⟩
 .show Wf (withNode s z _).1;rw[bx W.n h];exact W
 .rw[Ex W e hz];have W':=W.n;rw[e] at W';split
  .exact W
  .rcases fP W'.without p af with⟨h1,h2⟩|⟨pre,post,d,h1,h2,S⟩
   .rw[h1];exact W
   .rw[h1];have et:(a++outside x.depth r).take pre.length=pre:=by rw[S.eq];exact fO
    have ed:(a++outside x.depth r).drop pre.length=post:=by rw[S.eq];simp
    simp only[et,ed];split
    .exact W
    .rename_i hd;exact rg W e S (by simpa using hd)
end
theorem mq{c l:O}(h:∀y∈c,d<y.depth):inside d (c++l)=c++inside d l:=by unfold inside;exact tH (by intro x hx;simpa using h x hx)
theorem CI{e:Nat}(h:d<=e)(l:O):inside d l=inside e l++inside d (outside e l):=by
 conv=>lhs;rw[<-bP e l]
 exact mq λy hy=>u5 h (cg y hy)
theorem cJ{n:Int}{l:List (Bool×Int)}{o:O}{nx:Nat}{a:Int}{c:Bool}(h:c=true):checked s ((c,n)::l) o nx a=refused s n:=by rw[h];rfl
theorem cx{n:Int}{l:List (Bool×Int)}{o:O}{nx:Nat}{a:Int}{c:Bool}(h:c=false):checked s ((c,n)::l) o nx a=checked s l o nx a:=by rw[h];rfl
theorem kM{o:O}{nx:Nat}{a:Int}:checked s [] o nx a=(⟨o,nx⟩,⟨a,[]⟩):=rfl
theorem rh{t:O}(h:∀y∈t,d<=y.depth):shifted t d d=t:=by
 unfold shifted
 conv=>rhs;rw[<-uX t]
 refine iU λy hy=>?_;have:=h y hy;show({y with depth:=y.depth - d+d}:Node)=y;rw[Nat.sub_add_cancel this]
theorem vH{t:O}{fr:Nat}(h:∀y∈t,Good y)(hd:to<=fr)(kK:∀y∈t,fr<=y.depth):cp t fr to=false:=by
 unfold cp;rw[Fi];intro y hy;have g1:=(h y hy).sec;have g2:=kK y hy;cases hc:y.cell with
 |true=>simp
 |false=>
  have:=g1 hc;simp
  lia
section
variable{s:State}{a r:O}{x:Node}{z:Int}
theorem nV{o a r:O}{x:Node}(e:o=a++x::r)(h:(nums (a++x::r)).Nodup)(p af:Nat):moved o x.number p af=(spot (a++outside x.depth r) p af).map λs=>putTree s (x::inside x.depth r):=by unfold moved;rw[e,k_ h,ir h]
theorem rj(W:Wf s)(e:s.nodes=a++x::r)(hz:(x.number:Int)=z)(h:∀y∈a,x.depth<=y.depth):step s (.promote z)=refused s (-9):=by
 show withNode s z _=_;rw[aN W.n e hz];have hp:parentOf s.nodes x.number=0:=by
  rw[e,fg (by rw[<-e];exact W.n.nd)];rcases o6 (a:=a) (d:=x.depth) with⟨b,q,c,rfl,hq,hc,hf⟩|⟨ha,hf⟩
  .have:=h q (by simp)
   lia
  .rw[hf]
 dsimp only;rw[hp];exact cJ rfl
theorem rk{c:O}{q:Node}(W:Wf s)(e:s.nodes=a++x::r)(hz:(x.number:Int)=z)(ea:a=b++q::c)(hq:q.depth<x.depth)(hc:∀y∈c,x.depth<=y.depth):
 ∃pre post,Spot (a++outside x.depth r) pre post q.depth/\ pre.length+(1+(inside x.depth r).length)=aO s.nodes b.length/\ step s (.promote z)=(⟨pre++shifted (x::inside x.depth r) x.depth q.depth++post,s.next⟩,⟨0,[]⟩):=by
 have W':=W.n;rw[e] at W';have ew:a++outside x.depth r=b++q::(c++outside x.depth r):=by rw[ea];simp
 have eo:s.nodes=b++q::(c++x::r):=by rw[e,ea];simp
 have Ww:=W'.without;rw[ew] at Ww;have Ki:q.number≠0:=by
  have:=W.n.num q (by rw[eo];simp)
  lia
 have hp:parentOf s.nodes x.number=q.number:=by
  rw[e,fg W'.nd];rcases o6 (a:=a) (d:=x.depth) with⟨b',q',c',e',B9,xM,hf⟩|⟨ha,hf⟩
  .rw[hf];have:q'=q:=by
    rw[ea] at e';rcases G0.mp e' with⟨l,e1,e2⟩|⟨l,e1,e2⟩
    .cases l with
     |nil=>simp at e2;exact e2.1.symm
     |cons w l=>
      simp at e2;have:q'∈c:=by rw[e2.2];simp
      have:=hc q' this
      lia
    .cases l with
     |nil=>simp at e2;exact e2.1
     |cons w l=>
      simp at e2;have:q∈c':=by rw[e2.2];simp
      have:=xM q this
      lia
   rw[this]
  .have:=ha q (by rw[ea];simp)
   lia
 have QU:parentOf s.nodes q.number=parentOf (b++q::(c++outside x.depth r)) q.number:=by rw[eo,fg (by rw[<-eo];exact W.n.nd),fg Ww.nd]
 have B_:=AL Ww;have S:=Spot.behind Ww.dep;rw[<-ew] at S;refine⟨_,_,S,?_,?_⟩
 .rw[eo,jW,a_,cj];rw[mq (λy hy=>by have:=hc y hy;lia),mq (λy hy=>by have:=hc y hy;lia)];have h2:inside q.depth (x::r)=x::inside q.depth r:=DS (by simpa using hq);rw[h2,CI (eX hq) r];simp only[a_,cj]
  lia
 .show withNode s z _=_;rw[aN W.n e hz];dsimp only;rw[hp,cx (nA.mpr Ki),kM,QU,nV e W'.nd,ew,B_];rfl
theorem CJ(W:Wf s)(z:Int):Wf (step s (.promote z)).1:=by
 rcases aX (o:=s.nodes) z with h|⟨a,x,r,e,h,hz⟩
 .show Wf (withNode s z _).1;rw[bx W.n h];exact W
 .rcases o6 (a:=a) (d:=x.depth) with⟨b,q,c,ea,hq,hc,_⟩|⟨ha,_⟩
  .obtain⟨pre,post,S,_,hs⟩:=rk W e hz ea hq hc;rw[hs];refine rg W e S (vH (λy hy=>W.n.good y ?_) (eX hq) hZ);rw[e];exact(gA a r x).mem_iff.mpr (dz _ hy)
  .rw[rj W e hz ha];exact W
theorem tS(W:Wf s)(e:s.nodes=a++x::r)(hz:(x.number:Int)=z)(h:sibling s.nodes x.number=none):step s (.demote z)=refused s (-9):=by show withNode s z _=_;rw[aN W.n e hz,h]
theorem tT{c:O}(W:Wf s)(e:s.nodes=a++x::r)(hz:(x.number:Int)=z)(h:sibling s.nodes x.number=some y)(ea:a=b++y::c)(hy:y.depth=x.depth)(hc:∀w∈c,x.depth<w.depth):
 (y.cell=false->Spot (a++outside x.depth r) a (outside x.depth r) (x.depth+1))/\ step s (.demote z)=if y.cell=true then refused s (-9) else if cp (x::inside x.depth r) x.depth (x.depth+1)=true then refused s (-5) else(⟨a++shifted (x::inside x.depth r) x.depth (x.depth+1)++outside x.depth r,s.next⟩,⟨0,[]⟩):=by
 have W':=W.n;rw[e] at W';have ew:a++outside x.depth r=b++y::(c++outside x.depth r):=by rw[ea];simp
 have eo:s.nodes=b++y::(c++x::r):=by rw[e,ea];simp
 have Wo:=W.n;rw[eo] at Wo;have Ww:=W'.without;have UE:=Ww;rw[ew] at UE;have Sx:y.number≠0:=by
  have:=W.n.num y (by rw[eo];simp)
  lia
 have Nf:∀w∈c,y.depth<w.depth:=λw hw=>by have:=hc w hw;lia
 have Sz:=b_ x.depth r;have key:y.cell=false->Spot (a++outside x.depth r) a (outside x.depth r) (x.depth+1)/\ spot (a++outside x.depth r) y.number (lastChild s.nodes y.number)=some (a,outside x.depth r,x.depth+1):=by
  intro bR;have ZQ:lastChild s.nodes y.number=match (c.filter λw=>w.depth==y.depth+1).getLast? with
   |some w=>w.number
   |none=>0:=by
   unfold lastChild children;rw[ak Sx,eo,du Wo.nd];simp only;rw[eE Nf (show hd (x::r)<=y.depth by show x.depth<=_;lia)];cases(c.filter λw=>w.depth==y.depth+1).getLast?<;>rfl
  have FT:¬(y.number≠0/\ isSection (a++outside x.depth r) y.number=false):=by rintro⟨_,hh⟩;rw[g_,ew,du UE.nd] at hh;simp[bR] at hh
  rw[ZQ];unfold spot;rw[ak FT];cases hl:(c.filter λw=>w.depth==y.depth+1).getLast? with
  |none=>
   have ZR:c=[]:=by
    rw[Ru,uW] at hl;cases c with
    |nil=>rfl
    |cons w c=>
     have g1:=hl w (cb ..);have g2:=Nf w (cb ..);have g3:w.depth<=lim y:=(gv Wo.dep).2.2.2.2.1;have g4:=HY y;simp at g1
     lia
   subst ZR;have S:=Spot.first (a:=b) (r:=outside x.depth r) (x:=y) (by rw[ew] at Ww;exact Ww.dep) bR
   simp only[m8];rw[ak Sx,ew,du UE.nd];rw[hy] at S;rw[ea];exact⟨by simpa using S,by simp[hy]⟩
  |some w=>
   obtain⟨ys,hl⟩:=Rw.mp hl;obtain⟨l1,l2,e1,e2,e3⟩:=Ro.mp hl;obtain⟨l3,l4,e4,e5,e6,e7⟩:=Rp.mp e3;have Wq:w.depth=y.depth+1:=by simpa using e6
   have UG:∀v∈l4,w.depth<v.depth:=λv hv=>by
    rw[uW] at e7;have g1:=e7 v hv;have g2:=Nf v (by rw[e1,e4];simp[hv]);simp at g1
    lia
   have Yb:a++outside x.depth r=(b++y::(l1++l3))++w::(l4++outside x.depth r):=by rw[ew,e1,e4];simp
   have UH:=Ww;rw[Yb] at UH;have ZS:w.number≠0:=by
    have:=UH.num w (by simp)
    lia
   have UI:hd (outside x.depth r)<=w.depth:=by lia
   have hk:((children (a++outside x.depth r) y.number).any λv=>v.number==w.number)=true:=by rw[mi];unfold children;rw[ak Sx,ew,du UE.nd];refine⟨w,gX.mpr ⟨?_,by simp[Wq]⟩,rfl⟩;rw[mq Nf];exact dz _ (by rw[e1,e4];simp)
   simp only;rw[ak ZS,aq hk,Yb,du UH.nd];have S:=Spot.behind UH.dep;rw[eE UG UI,g9 UG UI] at S;have Yc:b++y::(l1++l3)++w::l4=a:=by rw[ea,e1,e4];simp
   rw[Yc,Wq,hy] at S;refine⟨S,?_⟩;simp only[tL];rw[eE UG UI,g9 UG UI,Yc,Wq,hy]
 refine⟨λh=>(key h).1,?_⟩;show withNode s z _=_;rw[aN W.n e hz,h];dsimp only;by_cases bR:y.cell=true
 .rw[cJ bR,aq bR]
 .have Ig:y.cell=false:=by simpa using bR
  obtain⟨S,B_⟩:=key Ig;rw[cx Ig,ak bR,nV e W'.nd,B_];simp only[tL,u7];have hd:tooDeep (putTree (a,outside x.depth r,x.depth+1) (x::inside x.depth r))=cp (x::inside x.depth r) x.depth (x.depth+1):=by show tooDeep (a++shifted (x::inside x.depth r) x.depth (x.depth+1)++outside x.depth r)=_;have g1:tooDeep a=false:=cR λy hy=>W'.good y (dz _ hy);have g2:tooDeep (outside x.depth r)=false:=cR λy hy=>W'.without.good y (eK _ hy);rw[bQ,bQ,g1,g2,QI,zN,jc]
  rw[hd];by_cases c2:cp (x::inside x.depth r) x.depth (x.depth+1)=true
  .rw[cJ c2,aq c2]
  .rw[cx (by simpa using c2),ak c2];rfl
theorem FU(W:Wf s)(z:Int):Wf (step s (.demote z)).1:=by
 rcases aX (o:=s.nodes) z with h|⟨a,x,r,e,h,hz⟩
 .show Wf (withNode s z _).1;rw[bx W.n h];exact W
 .have W':=W.n;rw[e] at W';rcases o7 W' with⟨b,y,c,ea,hy,hc,hs⟩|⟨hs,_⟩
  .rw[<-e] at hs;obtain⟨S,m9⟩:=tT W e hz hs ea hy hc;rw[m9];split
   .exact W
   .rename_i bR;split
    .exact W
    .rename_i hd;exact rg W e (S (by simpa using bR)) (by simpa using hd)
  .rw[<-e] at hs;rw[tS W e hz hs];exact W
theorem vI(W:Wf s)(e:s.nodes=a++x::r)(hz:(x.number:Int)=z)(h:sibling s.nodes x.number=none):step s (.raise z)=refused s (-9):=by show withNode s z _=_;rw[aN W.n e hz,h]
theorem vJ{c:O}(W:Wf s)(e:s.nodes=a++x::r)(hz:(x.number:Int)=z)(h:sibling s.nodes x.number=some y)(ea:a=b++y::c)(hy:y.depth=x.depth)(hc:∀w∈c,x.depth<w.depth):
 step s (.raise z)=(⟨b++(x::inside x.depth r)++(y::c++outside x.depth r),s.next⟩,⟨0,[]⟩):=by
 have eo:s.nodes=b++y::(c++x::r):=by rw[e,ea];simp
 have Wo:=W.n;rw[eo] at Wo;have Nf:∀w∈c,y.depth<w.depth:=λw hw=>by have:=hc w hw;lia
 have hx:hd (x::r)<=y.depth:=by show x.depth<=_;lia
 have Wy:=Wo.without;rw[g9 Nf hx] at Wy;have QU:parentOf s.nodes x.number=parentOf (b++x::r) x.number:=by
  rw[e,fg (by rw[<-e];exact W.n.nd),fg Wy.nd,ea];have:(b++y::c).reverse.find? (λw=>decide (w.depth<x.depth))=b.reverse.find? (λw=>decide (w.depth<x.depth)):=by
   rw[zV,Oc,u0,Oc];have h1:c.reverse.find? (λw=>decide (w.depth<x.depth))=none:=by
    rw[G2];intro w hw;have:=hc w (uY.mp hw)
    simp;lia
   have h2:[y].find? (λw=>decide (w.depth<x.depth))=none:=by
    rw[G2];intro w hw;simp at hw;subst hw
    simp;lia
   rw[h1,h2];rfl
  rw[this]
 show withNode s z _=_;rw[aN W.n e hz,h];dsimp only;rw[nV eo Wo.nd,g9 Nf hx,eE Nf hx,QU,AL Wy];simp only[tL,u7];show((⟨(b++x::inside x.depth r)++shifted (y::c) y.depth x.depth++outside x.depth r,s.next⟩:State),_)=_;rw[hy,rh (by intro w hw;cases hw with|head=>lia|tail _ hw=>have:=hc w hw;lia)];simp
theorem Ih(W:Wf s)(z:Int):Wf (step s (.raise z)).1:=by
 rcases aX (o:=s.nodes) z with h|⟨a,x,r,e,h,hz⟩
 .show Wf (withNode s z _).1;rw[bx W.n h];exact W
 .have W':=W.n;rw[e] at W';rcases o7 W' with⟨b,y,c,ea,hy,hc,hs⟩|⟨hs,_⟩
  .rw[<-e] at hs;rw[vJ W e hz hs ea hy hc];have ew:a++outside x.depth r=b++(y::c++outside x.depth r):=by rw[ea];simp
   have Ww:=W'.without;have S:Spot (a++outside x.depth r) b (y::c++outside x.depth r) x.depth:=by have hd:=Ww.dep;rw[ew] at hd;have g:=gv (a:=b) (x:=y) (r:=c++outside x.depth r) hd;refine⟨ew,by lia,by have:=g.2.2.1;lia,by show y.depth<=x.depth;lia⟩
   have:=rg W e S (vH (λw hw=>W.n.good w (by rw[e];exact(gA a r x).mem_iff.mpr (dz _ hw))) (aQ _) hZ);rw[rh hZ] at this;exact this
  .rw[<-e] at hs;rw[vI W e hz hs];exact W
end
open Vanbkn (State partAt spot children parentOf isSection tree without putTree tooDeep first step doWrap)
def inc(y:Node):Node:={y with depth:=y.depth+1}
variable{a2 r2:O}
theorem vK{o r:O}(h:(nums o).Nodup)(e:o=a++x::r)(e2:o=a2++x::r2):a=a2/\ r=r2:=by
 have h1:o[a.length]?=some x:=by rw[e];exact cX
 have h2:o[a2.length]?=some x:=by rw[e2];exact cX
 have hl:=yZ h h1 h2;have h3:=e.symm.trans e2;obtain⟨h4,h5⟩:=List.append_inj h3 hl;cases h5;exact⟨h4,rfl⟩
structure Ey(a r a2 r2:O)(x y:Node)(mid:O):Prop where
 ea:a2=a++mid
 er:x::r=mid++y::r2
 ge:∀w∈mid,x.depth<=w.depth
 dy:y.depth=x.depth
theorem ya{o r:O}(h:(nums o).Nodup)(e:o=a++x::r)(e2:o=a2++y::r2):
 (∃mid,Ey a r a2 r2 x y mid)\/ ¬(a.length<=a2.length/\ y.depth=x.depth/\ ∀w∈(o.drop a.length).take (a2.length - a.length),x.depth<=w.depth):=by
 by_cases hc:a.length<=a2.length/\ y.depth=x.depth/\ ∀w∈(o.drop a.length).take (a2.length - a.length),x.depth<=w.depth
 .obtain⟨h1,h2,h3⟩:=hc;have h4:=e.symm.trans e2;have h5:∃mid,a2=a++mid/\ x::r=mid++y::r2:=by
   rcases G0.mp h4 with⟨l,e3,e4⟩|⟨l,e3,e4⟩
   .exact⟨l,e3,e4⟩
   .have:l=[]:=by have:=c_ List.length e3;rw[a_] at this;exact zQ (by lia)
    subst this;exact⟨[],by simpa using e3.symm,by simpa using e4.symm⟩
  obtain⟨mid,e3,e4⟩:=h5;refine .inl ⟨mid,e3,e4,λw hw=>h3 w ?_,h2⟩;rw[e,ug,e4,e3,a_,xF,tI];exact hw
 .exact .inr hc
variable{mid:O}
theorem Ey.cond{o r:O}(M:Ey a r a2 r2 x y mid)(e:o=a++x::r):a.length<=a2.length/\ y.depth=x.depth/\ ∀w∈(o.drop a.length).take (a2.length - a.length),x.depth<=w.depth:=by refine⟨by rw[M.ea,a_];lia,M.dy,λw hw=>M.ge w ?_⟩;rw[e,ug,M.er,M.ea,a_,xF,tI] at hw;exact hw
theorem Ey.Ii{r:O}(M:Ey a r a2 r2 x y mid):hd (mid++y::inside y.depth r2)<=x.depth:=by
 cases hm:mid with
 |nil=>show y.depth<=_;rw[M.dy];exact aQ _
 |cons w l=>have:=M.er;rw[hm] at this;simp at this;show w.depth<=_;rw[this.1];exact aQ _
theorem Ey.Ij{r:O}(M:Ey a r a2 r2 x y mid):∀w∈mid++y::inside y.depth r2,x.depth<=w.depth:=λw hw=>by
 rcases dY.mp hw with hw|hw
 .exact M.ge w hw
 .cases hw with
  |head=>rw[M.dy];exact aQ _
  |tail _ hw=>have:=cg w hw;have:=M.dy;lia
theorem Ey.zb{r:O}(M:Ey a r a2 r2 x y mid):x::r=(mid++y::inside y.depth r2)++outside y.depth r2:=by rw[dQ,iT,bP,M.er]
theorem Le{o r:O}(W:lO o)(e:o=a++x::r)(M:Ey a r a2 r2 x y mid):Vanbkn.run o x.number y.number=some ((mid++y::inside y.depth r2).filter λw=>w.depth==x.depth):=by
 have W':=W;rw[e] at W';obtain⟨pre,c,r',h1,h2,h3,h4,h5⟩:=mj W';rw[<-e] at h3;obtain⟨n1,n2⟩:=gr W'.nd;have hc:∀w∈c.filter (λy=>y.depth==x.depth),(w.number !=x.number)=true:=λw hw=>by have:=n1 w (by rw[h1];exact eK _ (gX.mp hw).1);simpa using this
 have hl:(children o (parentOf o x.number)).dropWhile (λw=>w.number !=x.number)=x::r'.filter λy=>y.depth==x.depth:=by rw[h3,Kx hc,N_ (by simp)]
 have ZT:(inside y.depth r2).filter (λw=>w.depth==x.depth)=[]:=by
  rw[uW];intro w hw;have:=cg w hw;have:=M.dy
  simp;lia
 have zc:(mid++y::inside y.depth r2).filter (λw=>w.depth==x.depth)=mid.filter (λw=>w.depth==x.depth)++[y]:=by rw[qM,xk (by simp[M.dy]),ZT]
 have hx:∃more,(x::r'.filter λy=>y.depth==x.depth)=mid.filter (λw=>w.depth==x.depth)++y::more/\ (∀w∈mid.filter (λw=>w.depth==x.depth),w.number≠y.number)/\ ∀w∈more,w.number≠y.number:=by
  have hy:(nums (a2++y::r2)).Nodup:=by
   have:a2++y::r2=a++x::r:=by rw[M.ea,M.er,dQ]
   rw[this];exact W'.nd
  obtain⟨m1,m2⟩:=gr hy;cases hm:mid with
  |nil=>have e3:=M.er;rw[hm] at e3;simp at e3;obtain⟨rfl,rfl⟩:=e3;refine⟨_,rfl,λw hw=>absurd hw zT,λw hw=>?_⟩;have:=(gX.mp hw).1;rw[h4] at this;exact m2 w ((pB _).subset this)
  |cons v l=>
   have e3:=M.er;rw[hm] at e3;simp at e3;obtain⟨rfl,rfl⟩:=e3;have kK:∀w∈l,x.depth<=w.depth:=λw hw=>M.ge w (by rw[hm];exact bu _ hw);rw[h4,tH (by intro w hw;simpa using kK w hw),DS (by have:=M.dy;simp;lia),qM,xk (by simp[M.dy])];refine⟨_,by rw[xk (by simp)];rfl,λw hw=>?_,λw hw=>?_⟩
   .exact m1 w (by rw[M.ea,hm];exact eK _ (gX.mp hw).1)
   .exact m2 w ((pB _).subset (gX.mp hw).1)
 obtain⟨more,hx,GW,Ak⟩:=hx;unfold Vanbkn.run;dsimp only;rw[hl,hx,aq (by simp),zc];congr 1;rw[tH (by intro w hw;simpa using GW w hw),DR (by simp),pz];congr 1;rw[qM,uW.mpr (by intro w hw;simpa using GW w hw),uZ,xk (by simp),uW.mpr (by intro w hw;simpa using Ak w hw)]
theorem Ik{o r:O}(W:lO o)(e:o=a++x::r)(e2:o=a2++y::r2)(h:¬(a.length<=a2.length/\ y.depth=x.depth/\ ∀w∈(o.drop a.length).take (a2.length - a.length),x.depth<=w.depth)):Vanbkn.run o x.number y.number=none:=by
 have W':=W;rw[e] at W';obtain⟨pre,c,r',h1,h2,h3,h4,h5⟩:=mj W';rw[<-e] at h3;obtain⟨n1,n2⟩:=gr W'.nd;have hc:∀w∈c.filter (λy=>y.depth==x.depth),(w.number !=x.number)=true:=λw hw=>by have:=n1 w (by rw[h1];exact eK _ (gX.mp hw).1);simpa using this
 have hl:(children o (parentOf o x.number)).dropWhile (λw=>w.number !=x.number)=x::r'.filter λy=>y.depth==x.depth:=by rw[h3,Kx hc,N_ (by simp)]
 unfold Vanbkn.run;dsimp only;rw[hl,ak];intro hh;obtain⟨w,hw,ZU⟩:=mi.mp hh;have ZV:y∈o:=by rw[e2];simp
 have ZW:∀v∈r',v∈r:=λv hv=>by rw[h4] at hv;exact(pB _).subset hv
 have ZX:w∈o:=by
  rw[e];cases hw with
  |head=>simp
  |tail _ hw=>exact eK _ (bu _ (ZW w (gX.mp hw).1))
 have ZY:w=y:=nR W.nd ZX ZV ZU;subst ZY;apply h;cases hw with
 |head=>obtain⟨ea,er⟩:=vK W.nd e e2;have M:Ey a r a2 r2 x x []:=⟨by simp[ea],by rw[er];rfl,λw hw=>absurd hw zT,rfl⟩;exact M.cond e
 |tail _ hw=>
  obtain⟨hw,hd⟩:=gX.mp hw;rw[h4] at hw;obtain⟨l1,l2,e3⟩:=Kw hw;have e4:r=l1++w::(l2++r.dropWhile (λy=>decide (x.depth<=y.depth))):=by
   conv=>lhs;rw[<-MN (p:=λy:Node=>decide (x.depth<=y.depth)) (l:=r),e3]
   simp
  have kK:∀v∈l1,x.depth<=v.depth:=λv hv=>by
   have ZZ:v∈r.takeWhile (λy=>decide (x.depth<=y.depth)):=by rw[e3];exact dz _ hv
   have nQ:∀(l:O),∀v∈l.takeWhile (λy=>decide (x.depth<=y.depth)),x.depth<=v.depth:=by
    intro l;induction l with
    |nil=>intro v hv;cases hv
    |cons u l ih=>
     intro v hv;rw[mZ] at hv;split at hv
     .rename_i hu;cases hv with
      |head=>simpa using hu
      |tail _ hv=>exact ih v hv
     .cases hv
   exact nQ r v ZZ
  have e5:o=(a++x::l1)++w::(l2++r.dropWhile (λy=>decide (x.depth<=y.depth))):=by
   rw[e]
   conv=>lhs;rw[e4]
   simp
  obtain⟨ea,er⟩:=vK W.nd e2 e5;have M:Ey a r a2 r2 x w (x::l1):=⟨ea,by rw[er];exact c_ (List.cons x) e4,λv hv=>by cases hv with|head=>exact aQ _|tail _ hv=>exact kK v hv,by simpa using hd⟩;exact M.cond e
section
variable{s:State}
theorem AX{r:O}(W:lO s.nodes)(e:s.nodes=a++x::r)(M:Ey a r a2 r2 x y mid)(new:Nat)(title:Text):
 wrapped s.nodes x.number ((mid++y::inside y.depth r2).filter λw=>w.depth==x.depth) new title=a++⟨new,x.depth,false,false,title⟩::(mid++y::inside y.depth r2).map inc++outside y.depth r2:=by
 have hf:=HZ (d:=x.depth) (o:=s.nodes) (suf:=outside y.depth r2) W.nd (by rw[<-M.dy];exact b_ _ _) _ a (mid++y::inside y.depth r2) (aQ _) (by rw[e,M.zb];simp) M.Ij M.Ii;unfold wrapped;have hp:partAt x.number s.nodes=some (a,x,r):=by rw[e];exact du (by rw[<-e];exact W.nd)
 rw[hp];dsimp only;rw[hf,M.zb,ug];rfl
def Ez(s:State)(a a2 seg post:O)(x y:Node)(t:List Int):State×Answer:=
 if isText t=false then refused s (-3) else if 60<=s.nodes.length then refused s (-4) else if 6<x.depth\/ cp seg 0 1=true then refused s (-5) else if 999<s.next then refused s (-6)
  else(⟨a++⟨s.next,x.depth,false,false,textOf t⟩::seg.map inc++post,s.next+1⟩,⟨s.next,[]⟩)
theorem yb{r:O}{w:Int}(W:Wf s)(e:s.nodes=a++x::r)(hz:(x.number:Int)=z)(e2:s.nodes=a2++y::r2)(hw:(y.number:Int)=w)(t:List Int)(h:¬(a.length<=a2.length/\ y.depth=x.depth/\ ∀w∈(s.nodes.drop a.length).take (a2.length - a.length),x.depth<=w.depth)):step s (.wrap z w t)=refused s (-10):=by show withNode s z _=_;rw[aN W.n e hz,aN W.n e2 hw];dsimp only;rw[Ik W.n e e2 h];exact cJ rfl
theorem yc{r:O}{w:Int}(W:Wf s)(e:s.nodes=a++x::r)(hz:(x.number:Int)=z)(e2:s.nodes=a2++y::r2)(hw:(y.number:Int)=w)(t:List Int)(M:Ey a r a2 r2 x y mid):
 step s (.wrap z w t)=Ez s a a2 (mid++y::inside y.depth r2) (outside y.depth r2) x y t:=by
 show withNode s z _=_;rw[aN W.n e hz,aN W.n e2 hw];dsimp only;rw[Le W.n e M,u7,AX W.n e M,DZ,cx rfl];unfold Ez;by_cases c1:isText t=false
 .rw[cJ (by rw[c1];rfl),aq c1]
 .have Wn:isText t=true:=by simpa using c1
  rw[cx (by rw[Wn];rfl),ak c1];by_cases c2:60<=s.nodes.length
  .rw[cJ (rf.mpr c2),aq c2]
  .rw[cx (by rw[Uh];intro h;exact c2 (rf.mp h)),ak c2];have hd:tooDeep (a++(⟨s.next,x.depth,false,false,textOf t⟩:Node)::(mid++y::inside y.depth r2).map inc++outside y.depth r2)=true↔6<x.depth\/ cp (mid++y::inside y.depth r2) 0 1=true:=by
    have g1:tooDeep a=false:=cR λv hv=>W.n.good v (by rw[e];exact dz _ hv);have g2:tooDeep (outside y.depth r2)=false:=cR λv hv=>W.n.good v (by rw[e2,<-bP y.depth r2];simp[hv]);have e3:a++(⟨s.next,x.depth,false,false,textOf t⟩:Node)::(mid++y::inside y.depth r2).map inc=a++([⟨s.next,x.depth,false,false,textOf t⟩]++(mid++y::inside y.depth r2).map inc):=rfl;rw[bQ,e3,bQ,bQ,g1,g2,QI,zN,rR];refine or_congr ?_ ?_
    .unfold tooDeep;rw[uU,List.any_nil,zN,uA,dN];exact⟨λh=>h.2,λh=>⟨rfl,h⟩⟩
    .have:tooDeep ((mid++y::inside y.depth r2).map inc)=cp (mid++y::inside y.depth r2) 0 1:=by unfold tooDeep cp;rw[Cd];rfl
     rw[this]
   by_cases c3:6<x.depth\/ cp (mid++y::inside y.depth r2) 0 1=true
   .rw[cJ (hd.mpr c3),aq c3]
   .rw[cx (by rw[Uh];intro h;exact c3 (hd.mp h)),ak c3];by_cases c4:999<s.next
    .rw[cJ (ml.mpr c4),aq c4]
    .rw[cx (by rw[Uh];intro h;exact c4 (ml.mp h)),ak c4,kM];rfl
theorem Lf(W:Wf s)(z w:Int)(t:List Int):Wf (step s (.wrap z w t)).1:=by
 rcases aX (o:=s.nodes) z with h|⟨a,x,r,e,h,hz⟩
 .show Wf (withNode s z _).1;rw[bx W.n h];exact W
 .rcases aX (o:=s.nodes) w with h'|⟨a2,y,r2,e2,h',hw⟩
  .show Wf (withNode s z _).1;rw[aN W.n e hz,bx W.n h'];exact W
  .rcases ya W.n.nd e e2 with⟨mid,M⟩|h3
   .rw[yc W e hz e2 hw t M];unfold Ez;split
    .exact W
    .rename_i c1;split
     .exact W
     .rename_i c2;split
      .exact W
      .rename_i c3;split
       .exact W
       .rename_i c4;have W':=W.n;rw[e] at W';have xh:=W.nx;obtain⟨d1,d2,d3,d4⟩:=gv W'.dep;have eo:s.nodes=a++((mid++y::inside y.depth r2)++outside y.depth r2):=by rw[e,M.zb]
        have ho:hd (outside y.depth r2)<=x.depth:=by rw[<-M.dy];exact b_ _ _
        have gR:∀v∈a++(⟨s.next,x.depth,false,false,textOf t⟩:Node)::(mid++y::inside y.depth r2).map inc++outside y.depth r2,(v=⟨s.next,x.depth,false,false,textOf t⟩)\/ ∃u∈s.nodes,v.number=u.number/\ Good v:=λv hv=>by
         rw[dQ,iT] at hv;rcases dY.mp hv with hv|hv
         .exact .inr ⟨v,by rw[eo];exact dz _ hv,rfl,W.n.good v (by rw[eo];exact dz _ hv)⟩
         .cases hv with
          |head=>exact .inl rfl
          |tail _ hv=>
           rcases dY.mp hv with hv|hv
           .obtain⟨u,hu,rfl⟩:=fc.mp hv;have OV:u∈s.nodes:=by rw[eo];exact eK _ (dz _ hu)
            have g:=W.n.good u OV;refine .inr ⟨u,OV,rfl,g.num,λhc=>?_,g.txt,g.cf⟩;have Z0:u.cell=false:=hc;have:¬cp (mid++y::inside y.depth r2) 0 1=true:=λh=>c3 (.inr h);unfold cp at this;rw[Bool.not_eq_true,Fi] at this;have:=this u hu;simp[Z0] at this;show u.depth+1<=6
            lia
           .have OV:v∈s.nodes:=by rw[eo];exact eK _ (eK _ hv)
            exact .inr ⟨v,OV,rfl,W.n.good v OV⟩
        refine⟨⟨?_,?_,?_,?_⟩,?_,by show 1<=s.next+1/\ s.next+1<=1000;lia⟩
        .have:=c_ List.length eo;simp only[a_,cj,aS] at this⊢
         lia
        .have p:nums (a++(⟨s.next,x.depth,false,false,textOf t⟩:Node)::(mid++y::inside y.depth r2).map inc++outside y.depth r2)=nums a++s.next::nums ((mid++y::inside y.depth r2)++outside y.depth r2):=by unfold nums;simp only[cV,cy,ip,dQ,iT];rfl
         rw[p];refine List.Perm.nodup (List.perm_middle.symm) ?_;rw[<-cY,<-eo];refine tG.mpr ⟨λh=>?_,W.n.nd⟩;obtain⟨v,hv,e3⟩:=fc.mp h;have:=W.lt v hv
         lia
        .have hs:cG x.depth (mid++y::inside y.depth r2)/\ cG x.depth (outside y.depth r2):=by have:=W.n.dep;rw[eo,a5,a5] at this;exact⟨kJ this.2.1 M.Ii,kJ this.2.2 ho⟩
         rw[dQ,iT,a5];refine⟨d1,d2,d3,?_⟩;show cG (x.depth+1) _;rw[a5];refine⟨vC (f:=inc) (c:=1) (λv=>⟨rfl,rfl⟩) hs.1,kJ hs.2 (bp ho (o4 (zZ _) λv hv=>?_))⟩;obtain⟨u,hu,rfl⟩:=fc.mp hv;have:=M.Ij u hu;show x.depth<=u.depth+1
         lia
        .intro v hv;rcases gR v hv with rfl|⟨u,_,_,g⟩
         .refine⟨by show 1<=s.next/\ s.next<=999;lia,λ_=>?_,nU (by simpa using c1),λh=>by cases h⟩;have:¬6<x.depth:=λh=>c3 (.inl h);show x.depth<=6
          lia
         .exact g
        .intro v hv;show v.number<s.next+1;rcases gR v hv with rfl|⟨u,hu,e3,_⟩
         .exact m4 _
         .rw[e3];exact tJ (W.lt u hu)
   .rw[yb W e hz e2 hw t h3];exact W
end
open Vanbkn (State partAt spot children parentOf isSection tree without first step doSort sortedNodes placesChanged)
def gB:Nat->O->List O
 |0,_=>[]
 |_,[]=>[]
 |n+1,x::r=>(x::inside x.depth r)::gB n (outside x.depth r)
def trees(o:O):List O:=gB o.length o
def kn(t:O):Node:=t.headD dflt
def iN(t:O):List O->List O
 |[]=>[t]
 |u::r=>if lessText (kn u).text (kn t).text=true then u::iN t r else t::u::r
def cz(l:List O):List O:=l.foldr iN []
def chg(l m:List O):Nat:=((l.zip m).filter λp=>(kn p.1).number !=(kn p.2).number).length
def IsT(d:Nat)(t:O):Prop:=∃x r,t=x::r/\ x.depth=d/\ ∀y∈r,d<y.depth
theorem IsT.ge{t:O}(h:IsT d t):∀y∈t,d<=y.depth:=by
 obtain⟨x,r,rfl,h1,h2⟩:=h;intro y hy;cases hy with
 |head=>lia
 |tail _ hy=>exact eX (h2 y hy)
theorem kN{l:O}:(outside d l).length<=l.length:=(G1 _).length_le
theorem su{d:Nat}:∀(n:Nat)(seg:O),seg.length<=n->(∀z∈seg,d<=z.depth)->hd seg<=d->(gB n seg).flatten=seg/\ (gB n seg).map kn=seg.filter (λy=>y.depth==d)/\ ∀t∈gB n seg,IsT d t
 |0,seg,hl,_,_=>by have:seg=[]:=zQ (by lia);subst this;exact⟨rfl,rfl,λt ht=>absurd ht zT⟩
 |n+1,[],_,_,_=>⟨rfl,rfl,λt ht=>absurd ht zT⟩
 |n+1,x::r,hl,kK,hh=>by
  have hx:x.depth=d:=by
   have g1:=kK x (cb ..);have g2:x.depth<=d:=hh
   lia
  have hlen:(outside x.depth r).length<=n:=by
   have:=kN (d:=x.depth) (l:=r);simp at hl
   lia
  have gR:∀z∈outside x.depth r,z∈r:=λz hz=>(G1 _).subset hz;obtain⟨i1,i2,i3⟩:=su (d:=d) n (outside x.depth r) hlen (λz hz=>kK z (bu _ (gR z hz))) (by rw[<-hx];exact b_ _ _);refine⟨?_,?_,?_⟩
  .show((x::inside x.depth r)::gB n (outside x.depth r)).flatten=_;rw[Cf,i1,iT,bP]
  .show((x::inside x.depth r)::gB n (outside x.depth r)).map kn=_;rw[cy,i2,xk (by simp[hx])];congr 1
   conv=>rhs;rw[<-bP x.depth r,qM]
   have hn:(inside x.depth r).filter (λy=>y.depth==d)=[]:=uW.mpr (by intro y hy;have:=cg y hy;simp;lia);rw[hn,uZ]
  .intro t ht;cases ht with
   |head=>exact⟨x,_,rfl,hx,λy hy=>by have:=cg y hy;lia⟩
   |tail _ ht=>exact i3 t ht
theorem tU:∀(t:O)(l:List O),(iN t l).map kn=Vanbkn.insert (kn t) (l.map kn)
 |t,[]=>rfl
 |t,u::r=>by
  unfold iN;rw[cy];unfold Vanbkn.insert;split
  .rw[cy,tU t r]
  .rfl
theorem lT:∀l:List O,(cz l).map kn=sortedNodes (l.map kn)
 |[]=>rfl
 |t::l=>by show(iN t (cz l)).map kn=Vanbkn.insert (kn t) (sortedNodes (l.map kn));rw[tU,lT l]
theorem rm:∀(t:O)(l:List O),(iN t l).Perm (t::l)
 |t,[]=>Fh _
 |t,u::r=>by
  unfold iN;split
  .exact((rm t r).cons u).trans (List.Perm.swap ..)
  .exact Fh _
theorem pU:∀l:List O,(cz l).Perm l
 |[]=>Fh _
 |t::l=>(rm t (cz l)).trans ((pU l).cons t)
theorem EA{o suf:O}{d:Nat}(vE:(nums o).Nodup)(hs:hd suf<=d):∀(ts:List O)(pre:O),(∀t∈ts,IsT d t)->o=pre++ts.flatten++suf->∀t∈ts,tree o (kn t).number=t
 |[],_,_,_,t,ht=>absurd ht zT
 |u::ts,pre,hT,e,t,ht=>by
  cases ht with
  |head=>
   obtain⟨x,r,rfl,h1,h2⟩:=hT u (cb ..);have e2:o=pre++x::(r++(ts.flatten++suf)):=by rw[e];simp
   have hh:hd (ts.flatten++suf)<=d:=by
    cases Il:ts with
    |nil=>exact hs
    |cons v l=>
     obtain⟨y,q,rfl,h3,_⟩:=hT v (by rw[Il];simp);show y.depth<=d
     lia
   show tree o x.number=x::r;rw[e2,ir (by rw[<-e2];exact vE),h1,eE h2 hh]
  |tail _ ht=>exact EA vE hs ts (pre++u) (λv hv=>hT v (bu _ hv)) (by rw[e];simp) t ht
theorem nW{d:Nat}:∀(ts:List O),(∀t∈ts,IsT d t)->ts.flatten.filter (λy=>y.depth==d)=ts.map kn
 |[],_=>rfl
 |u::ts,hT=>by obtain⟨x,r,rfl,h1,h2⟩:=hT u (cb ..);rw[Cf,qM,cy,nW ts λv hv=>hT v (bu _ hv),xk (by simp[h1]),uW.mpr (by intro y hy;have:=h2 y hy;simp;lia)];rfl
theorem xw{o:O}{us:List O}(h:∀t∈us,tree o (kn t).number=t):(us.map kn).flatMap (λy=>tree o y.number)=us.flatten:=by
 rw[List.flatMap_map];show(us.map λt=>tree o (kn t).number).flatten=_;congr 1
 conv=>rhs;rw[<-uX us]
 exact iU λt ht=>h t ht
theorem rn{d:Nat}:∀(ts:List O)(m:Nat),d<=m->(∀t∈ts,IsT d t/\ cG d t)->cG m ts.flatten/\ d<=jb m ts.flatten
 |[],m,h,_=>⟨trivial,h⟩
 |u::ts,m,h,hT=>by obtain⟨h1,h2⟩:=hT u (cb ..);have he:d<=jb m u:=o4 h h1.ge;obtain⟨i1,i2⟩:=rn ts (jb m u) he λv hv=>hT v (bu _ hv);rw[Cf,a5,gL];exact⟨⟨sk h h2,i1⟩,i2⟩
theorem ni{d:Nat}:∀(ts:List O)(m:Nat),cG m ts.flatten->(∀t∈ts,IsT d t)->∀t∈ts,cG d t
 |u::ts,m,h,hT,t,ht=>by
  rw[Cf,a5] at h;cases ht with
  |head=>obtain⟨x,r,rfl,h1,h2⟩:=hT u (cb ..);exact kJ h.1 (by show x.depth<=d;lia)
  |tail _ ht=>exact ni ts _ h.2 (λv hv=>hT v (bu _ hv)) t ht
theorem EB(l m:List O):chg l m=placesChanged (l.map kn) (m.map kn):=by unfold chg placesChanged;rw[List.zip_map,List.filter_map,aS];rfl
theorem vL{o pre seg suf:O}(W:lO o)(e:o=pre++seg++suf)(kK:∀z∈seg,d<=z.depth)(hh:hd seg<=d)(hs:hd suf<=d)(hm:d<=jb 1 pre):
 (sortedNodes (seg.filter λy=>y.depth==d)).flatMap (λy=>tree o y.number)=(cz (trees seg)).flatten/\ lO (pre++(cz (trees seg)).flatten++suf)/\ (∀y∈(cz (trees seg)).flatten,d<=y.depth)/\
  (cz (trees seg)).flatten.filter (λy=>y.depth==d)=sortedNodes (seg.filter λy=>y.depth==d)/\ hd (cz (trees seg)).flatten<=d/\ (pre++(cz (trees seg)).flatten++suf).Perm o:=by
 obtain⟨t1,t2,t3⟩:=su (d:=d) seg.length seg (aQ _) kK hh;have hp:=pU (trees seg);have hT:∀t∈cz (trees seg),IsT d t:=λt ht=>t3 t (hp.mem_iff.mp ht);have Yd:∀t∈cz (trees seg),tree o (kn t).number=t:=λt ht=>EA W.nd hs (trees seg) pre t3 (by rw[e];show _=pre++(gB seg.length seg).flatten++suf;rw[t1]) t (hp.mem_iff.mp ht);have Ng:(cz (trees seg)).flatten.Perm seg:=by have:=List.Perm.flatten hp;show List.Perm _ seg;have h2:(trees seg).flatten=seg:=t1;rw[h2] at this;exact this
 have hP:(pre++(cz (trees seg)).flatten++suf).Perm o:=by rw[e];exact(Ng.append_left pre).append_right suf
 have Pu:cG 1 pre/\ cG (jb 1 pre) seg/\ cG (jb (jb 1 pre) seg) suf:=by have:=W.dep;rw[e,dQ,a5,a5] at this;exact this
 have Kh:∀t∈trees seg,cG d t:=ni (trees seg) (jb 1 pre) (by show cG _ (gB seg.length seg).flatten;rw[t1];exact Pu.2.1) t3;obtain⟨f1,f2⟩:=rn (d:=d) (cz (trees seg)) (jb 1 pre) hm λt ht=>⟨hT t ht,Kh t (hp.mem_iff.mp ht)⟩;refine⟨?_,⟨?_,?_,?_,?_⟩,?_,?_,?_,hP⟩
 .have:seg.filter (λy=>y.depth==d)=(trees seg).map kn:=t2.symm;rw[this,<-lT,xw Yd]
 .rw[hP.length_eq];exact W.len
 .exact(hP.map λy:Node=>y.number).symm.nodup W.nd
 .rw[dQ,a5,a5];exact⟨Pu.1,f1,kJ Pu.2.2 (bp hs f2)⟩
 .exactλy hy=>W.good y (hP.mem_iff.mp hy)
 .exactλy hy=>kK y (Ng.mem_iff.mp hy)
 .rw[nW _ hT,lT];have:(trees seg).map kn=seg.filter (λy=>y.depth==d):=t2;rw[this]
 .cases hu:cz (trees seg) with
  |nil=>exact a8 _
  |cons t l=>
   obtain⟨x,r,rfl,h1,_⟩:=hT t (by rw[hu];simp);show x.depth<=d
   lia
theorem nX{seg:O}(kK:∀z∈seg,d<=z.depth)(hh:hd seg<=d):(trees seg).map kn=seg.filter (λy=>y.depth==d)/\ (trees seg).flatten=seg/\ ∀t∈trees seg,IsT d t:=by obtain⟨t1,t2,t3⟩:=su (d:=d) seg.length seg (aQ _) kK hh;exact⟨t2,t1,t3⟩
section
variable{s:State}{a r:O}{x:Node}{z:Int}
theorem AY(W:Wf s):step s (.sort 0)=(⟨(cz (trees s.nodes)).flatten,s.next⟩,⟨(chg (trees s.nodes) (cz (trees s.nodes)):Nat),[]⟩)/\ Wf (step s (.sort 0)).1:=by
 have kK:∀y∈s.nodes,1<=y.depth:=λy hy=>lP W.n.dep y hy;have hh:hd s.nodes<=1:=vB W.n.dep;obtain⟨g1,g2,g3,g4,g5,g6⟩:=vL (pre:=[]) (seg:=s.nodes) (suf:=[]) (d:=1) W.n (by simp) kK hh (a8 _) (aQ _);rw[uZ,pz] at g2 g6;have hc:∀o:O,children o 0=o.filter λy=>y.depth==1:=λo=>aq rfl;have e:step s (.sort 0)=(⟨(cz (trees s.nodes)).flatten,s.next⟩,⟨(chg (trees s.nodes) (cz (trees s.nodes)):Nat),[]⟩):=by show doSort s 0=_;have e0:nodeNo 0=0:=o5.mpr rfl;unfold doSort Vanbkn.sorted;dsimp only;rw[e0,aq rfl,hc,hc,g1,cx (by rfl),cx (by rfl),kM,g4,EB,lT,(nX kK hh).1];rfl
 refine⟨e,?_⟩;rw[e];exact⟨g2,λy hy=>W.lt y (g6.mem_iff.mp hy),W.nx⟩
theorem sv(W:Wf s)(h0:z≠0)(h:c9 s.nodes z=none):step s (.sort z)=refused s (-1):=by
 have hk:nodeNo z≠0:=λe=>h0 (o5.mp e);have hb:Vanbkn.has s.nodes (nodeNo z)=false:=by
  unfold Vanbkn.has;rw[lQ];rcases q_ W.n z with⟨a,x,r,e,h1,_⟩|⟨_,h2,_⟩
  .rw[h] at h1;cases h1
  .rw[h2];rfl
 show doSort s z=_;unfold doSort;dsimp only;exact cJ (by rw[hb];simpa using hk)
theorem yd(W:Wf s)(e:s.nodes=a++x::r)(hz:(x.number:Int)=z):step s (.sort z)=if x.cell=true then refused s (-7) else
 (⟨a++x::(cz (trees (inside x.depth r))).flatten++outside x.depth r,s.next⟩,⟨(chg (trees (inside x.depth r)) (cz (trees (inside x.depth r))):Nat),[]⟩):=by
 have hx:x∈s.nodes:=by rw[e];simp
 have hn:nodeNo z=x.number:=((sr W.n hx z).mpr hz).symm;have QT:x.number≠0:=by
  have:=W.n.num x hx
  lia
 have W':=W.n;rw[e] at W';have hp:partAt x.number s.nodes=some (a,x,r):=by rw[e];exact du W'.nd
 have hb:Vanbkn.has s.nodes x.number=true:=by unfold Vanbkn.has;rw[lQ,hp];rfl
 have FT:isSection s.nodes x.number= !x.cell:=by rw[g_,hp]
 show doSort s z=_;unfold doSort;dsimp only;rw[hn,hb,FT,cx (by simp)];by_cases hc:x.cell=true
 .rw[cJ (by simp[hc,QT]),aq hc]
 .have xM:x.cell=false:=by simpa using hc
  rw[cx (by simp[xM]),ak hc,kM];have el:lim x=x.depth+1:=by unfold lim;rw[xM];rfl
  have uH:hd (inside x.depth r)<=x.depth+1:=by have:=(gv W'.dep).2.2.2;rw[<-bP x.depth r,a5,el] at this;exact vB this.1
  have Pw:s.nodes=(a++[x])++inside x.depth r++outside x.depth r:=by
   conv=>lhs;rw[e,<-bP x.depth r]
   simp
  obtain⟨g1,g2,g3,g4,g5,g6⟩:=vL (d:=x.depth+1) W.n Pw (λy hy=>cg y hy) uH (u4 (b_ _ _)) (by rw[gL];show _<=lim x;lia);have hk:children s.nodes x.number=(inside x.depth r).filter λy=>y.depth==x.depth+1:=by unfold children;rw[ak QT,hp]
  have Z1:Vanbkn.sorted s.nodes x.number=a++x::(cz (trees (inside x.depth r))).flatten++outside x.depth r:=by unfold Vanbkn.sorted;dsimp only;rw[ak QT,hp,hk,g1]
  have QV:a++x::(cz (trees (inside x.depth r))).flatten++outside x.depth r=a++x::((cz (trees (inside x.depth r))).flatten++outside x.depth r):=by simp
  have Z2:children (a++x::(cz (trees (inside x.depth r))).flatten++outside x.depth r) x.number=sortedNodes ((inside x.depth r).filter λy=>y.depth==x.depth+1):=by have Ye:=g2.nd;rw[show a++[x]++(cz (trees (inside x.depth r))).flatten++outside x.depth r=a++x::((cz (trees (inside x.depth r))).flatten++outside x.depth r) by simp] at Ye;unfold children;rw[ak QT,QV,du Ye];simp only;rw[eE (λy hy=>g3 y hy) (b_ _ _),g4]
  rw[Z1,hk,Z2,EB,lT,(nX (λy hy=>cg y hy) uH).1];rfl
theorem Lg(W:Wf s)(z:Int):Wf (step s (.sort z)).1:=by
 by_cases h0:z=0
 .subst h0;exact(AY W).2
 .rcases aX (o:=s.nodes) z with h|⟨a,x,r,e,h,hz⟩
  .rw[sv W h0 h];exact W
  .rw[yd W e hz];split
   .exact W
   .rename_i hc;have xM:x.cell=false:=by simpa using hc
    have W':=W.n;rw[e] at W';have el:lim x=x.depth+1:=by unfold lim;rw[xM];rfl
    have uH:hd (inside x.depth r)<=x.depth+1:=by have:=(gv W'.dep).2.2.2;rw[<-bP x.depth r,a5,el] at this;exact vB this.1
    have Pw:s.nodes=(a++[x])++inside x.depth r++outside x.depth r:=by
     conv=>lhs;rw[e,<-bP x.depth r]
     simp
    obtain⟨g1,g2,g3,g4,g5,g6⟩:=vL (d:=x.depth+1) W.n Pw (λy hy=>cg y hy) uH (u4 (b_ _ _)) (by rw[gL];show _<=lim x;lia);have QV:a++[x]++(cz (trees (inside x.depth r))).flatten++outside x.depth r=a++x::(cz (trees (inside x.depth r))).flatten++outside x.depth r:=by simp
    rw[QV] at g2 g6;exact⟨g2,λy hy=>W.lt y (g6.mem_iff.mp hy),W.nx⟩
end
open Vanbkn (State spot tree putTree tooDeep step piecesOf pieces refOf redirect copied doCopy)
def AE(n:Nat):List Nat:=(Nat.toDigits 10 n).map Char.toNat
theorem jX(n:Nat):decimal n=AE n:=by unfold decimal Vanbkn.b AE;show List.map _ (Nat.repr n).toList=_;unfold Nat.repr;simp
theorem pV:∀n<1000,AE n=if n<10 then[48+n] else if n<100 then[48+n / 10,48+n % 10] else[48+n / 100,48+n / 10 % 10,48+n % 10]:=by
 unfold AE
 decide+kernel
variable{c:Nat}
theorem dig(h:digit c=true):48<=c/\ c<=57:=by simpa[digit] using h
theorem Im(h:digit c=true):∃i:Fin 10,c=48+i.val:=⟨⟨c - 48,by have:=dig h;lia⟩,(Nat.add_sub_of_le (dig h).1).symm⟩
def Wr(n:Nat):List Nat:=if n<10 then[48+n] else if n<100 then[48+n / 10,48+n % 10] else[48+n / 100,48+n / 10 % 10,48+n % 10]
def Px(n:Text):Bool:=decide (natOf n<1000)&&(Wr (natOf n)==n)
theorem Px.of{n:Text}(h:Px n=true):AE (natOf n)=n:=by unfold Px at h;rw[uA,dN,kx] at h;exact(pV _ h.1).trans h.2
theorem Wt:∀i:Fin 10,Px [48+i.val]=true:=by decide+kernel
theorem Wu:∀i:Fin 10,1<=i.val->∀j:Fin 10,Px [48+i.val,48+j.val]=true:=by decide+kernel
theorem Wv:∀i:Fin 10,1<=i.val->∀j k:Fin 10,Px [48+i.val,48+j.val,48+k.val]=true:=by decide+kernel
theorem xx{n:Text}(h1:n≠[])(h3:n.length<=3)(hd:∀c∈n,digit c=true)(h0:∀c r,n=c::r->49<=c):decimal (natOf n)=n:=by
 rw[jX];refine Px.of ?_;cases n with
 |nil=>exact absurd rfl h1
 |cons a n=>
  obtain⟨i,rfl⟩:=Im (hd a cb);have hi:1<=i.val:=Nat.le_of_add_le_add_left (h0 _ _ rfl);cases n with
  |nil=>exact Wt i
  |cons b n=>
   obtain⟨j,rfl⟩:=Im (hd b (bu _ cb));cases n with
   |nil=>exact Wu i hi j
   |cons c n=>
    obtain⟨k,rfl⟩:=Im (hd c (bu _ (bu _ cb)));cases n with
    |nil=>exact Wv i hi j k
    |cons d n=>exact absurd h3 (Nat.not_le_of_lt (Nat.le_add_left 4 _))
theorem tV(n:Nat)(h:n<1000):∀c∈AE n,48<=c/\ c<=57:=by
 rw[pV n h];intro c hc;split at hc
 .simp at hc;lia
 .split at hc
  .simp at hc;lia
  .simp at hc;lia
def fW(d:Nat)(t:Text):Text:=((d::t).takeWhile digit).take 3
def scan:Nat->Nat->Text->List (Nat×Nat×Nat)
 |_,_,[]=>[]
 |0,_,_=>[]
 |k+1,i,c::r=>if c=64 then(match r with
  |64::t=>scan k (i+2) t
  |d::t=>if 49<=d/\ d<=57 then(i+1,i+1+(fW d t).length,natOf (fW d t))::scan k (i+1+(fW d t).length) ((d::t).drop (fW d t).length) else scan k (i+1) r
  |[]=>[])
  else scan k (i+1) r
theorem takeWhile_all{p:Nat->Bool}:∀(l:List Nat),∀c∈l.takeWhile p,p c=true
 |[],c,h=>by cases h
 |x::l,c,h=>by
  rw[mZ] at h;split at h
  .rename_i hx;cases h with
   |head=>exact hx
   |tail _ h=>exact takeWhile_all l c h
  .cases h
theorem vM{t:Text}(h:49<=d/\ d<=57):∃r,fW d t=d::r:=by unfold fW;rw[DS (by simp[digit];lia)];exact⟨_,rfl⟩
theorem Lh{t:Text}(h:49<=d/\ d<=57):decimal (natOf (fW d t))=fW d t:=by
 obtain⟨r,e⟩:=vM (t:=t) h;refine xx (by rw[e];simp) (by unfold fW;rw[bg];lia) (λc hc=>?_) (λc q e2=>?_)
 .exact takeWhile_all _ c (ku hc)
 .rw[e] at e2;cases e2;exact h.1
theorem zd(d:Nat)(t:Text):fW d t++(d::t).drop (fW d t).length=d::t:=by
 have h1:(fW d t).isPrefixOf (d::t)=true\/ True:= .inr trivial;have:fW d t=(d::t).take (fW d t).length:=by unfold fW;have hp:((d::t).takeWhile digit).take 3<+:d::t:=(List.take_prefix _ _).trans (Ha _);exact(zU.mp hp)
 conv=>lhs;arg 1;rw[this]
 exact DT _ _
theorem Li(d:Nat)(t:Text):(fW d t).length<=(d::t).length:=by
 have:=c_ List.length (zd d t);rw[a_] at this
 lia
theorem pW{k:Nat}{r:Text}(h:c≠64):scan (k+1) i (c::r)=scan k (i+1) r:=by
 conv=>lhs;unfold scan
 exact ak h
theorem vN{k:Nat}{t:Text}:scan (k+1) i (64::64::t)=scan k (i+2) t:=rfl
theorem Io{k:Nat}:scan (k+1) i [64]=[]:=rfl
theorem vO{k:Nat}{t:Text}(h:49<=d/\ d<=57):scan (k+1) i (64::d::t)=(i+1,i+1+(fW d t).length,natOf (fW d t))::scan k (i+1+(fW d t).length) ((d::t).drop (fW d t).length):=by
 have hd:d≠64:=by lia
 rw[scan,aq rfl,aq h]
 all_goals first|exact hd|rfl
theorem ze{k:Nat}{t:Text}(hd:d≠64)(h:¬(49<=d/\ d<=57)):scan (k+1) i (64::d::t)=scan k (i+1) (d::t):=by
 rw[scan,aq rfl,ak h]
 all_goals first|exact hd|rfl
theorem ro{k:Nat}{r:Text}(h:c≠64):piecesOf (k+1) (c::r)= .byte c::piecesOf k r:=by
 conv=>lhs;unfold piecesOf
 exact ak h
theorem vP{k:Nat}{t:Text}:piecesOf (k+1) (64::64::t)= .byte 64::piecesOf k t:=rfl
theorem CK{k:Nat}:piecesOf (k+1) [64]=[.byte 64]:=rfl
theorem vQ{k:Nat}{t:Text}(h:49<=d/\ d<=57):piecesOf (k+1) (64::d::t)= .ref (natOf (fW d t))::piecesOf k ((d::t).drop (fW d t).length):=by
 have hd:d≠64:=by lia
 rw[piecesOf,aq rfl,aq h]
 all_goals first|exact hd|rfl
theorem ye{k:Nat}{t:Text}(hd:d≠64)(h:¬(49<=d/\ d<=57)):piecesOf (k+1) (64::d::t)= .byte 64::piecesOf k (d::t):=by
 rw[piecesOf,aq rfl,ak h]
 all_goals first|exact hd|rfl
variable{f:Nat->Nat}
theorem vR{k:Nat}{r:Text}(h:c≠64):redirect f (k+1) (c::r)=c::redirect f k r:=by
 conv=>lhs;unfold redirect
 exact ak h
theorem zf{k:Nat}{t:Text}:redirect f (k+1) (64::64::t)=64::64::redirect f k t:=rfl
theorem zg{k:Nat}{t:Text}(h:49<=d/\ d<=57):redirect f (k+1) (64::d::t)=64::decimal (f (natOf (fW d t)))++redirect f k ((d::t).drop (fW d t).length):=by
 have hd:d≠64:=by lia
 rw[redirect,aq rfl,aq h]
 all_goals first|exact hd|rfl
theorem AZ{k:Nat}{t:Text}(hd:d≠64)(h:¬(49<=d/\ d<=57)):redirect f (k+1) (64::d::t)=64::redirect f k (d::t):=by
 rw[redirect,aq rfl,ak h]
 all_goals first|exact hd|rfl
theorem lU:∀(k i:Nat)(t:Text),(scan k i t).map (λe=>e.2.2)=(piecesOf k t).filterMap refOf
 |0,i,[]=>rfl
 |0,i,c::r=>rfl
 |k+1,i,[]=>rfl
 |k+1,i,c::r=>by
  by_cases hc:c=64
  .subst hc
   match r with
   |[]=>rfl
   |d::t=>
    by_cases hd:d=64
    .subst hd;rw[vN,vP,lU k (i+2) t];rfl
    .by_cases hg:49<=d/\ d<=57
     .rw[vO hg,vQ hg,cy,lU k _ _];rfl
     .rw[ze hd hg,ye hd hg,lU k _ _];rfl
  .rw[pW hc,ro hc,lU k _ _];rfl
def sx(m:Nat->Option Nat):List (Nat×Nat×Nat)->Nat->Text->Text
 |[],taken,txt=>txt.drop taken
 |(st,en,n)::rs,taken,txt=>match m n with
  |some v=>(txt.take st).drop taken++decimal v++sx m rs en txt
  |none=>sx m rs taken txt
theorem sy{txt:Text}{taken:Nat}{l r:Text}(e:txt.drop i=l++r)(h:taken<=i):(txt.take (i+l.length)).drop taken=(txt.take i).drop taken++l:=by
 have e2:txt.take (i+l.length)=txt.take i++l:=by rw[List.take_add,e,tI]
 rw[e2,List.drop_append];by_cases hi:i<=txt.length
 .rw[bg,iV hi,Nat.sub_eq_zero_of_le h,zP]
 .have:txt.drop i=[]:=List.drop_eq_nil_of_le (by lia);rw[this] at e;have:l=[]:=(List.append_eq_nil_iff.mp e.symm).1;subst this;simp
theorem zh(m:Nat->Option Nat)(txt:Text):∀(k i taken:Nat),taken<=i->(txt.drop i).length<=k->sx m (scan k i (txt.drop i)) taken txt=(txt.take i).drop taken++redirect (λn=>(m n).getD n) k (txt.drop i):=by
 intro k;induction k with
 |zero=>intro i taken h hk;have e:txt.drop i=[]:=zQ (by lia);rw[e];show txt.drop taken=_++[];rw[pz,pC (Oa.mp e)]
 |succ k ih=>
  intro i taken h hk
  match e:txt.drop i with
  |[]=>show txt.drop taken=_++[];rw[pz,pC (Oa.mp e)]
  |c::r=>
   rw[e] at hk;have er:txt.drop (i+1)=r:=by rw[<-nt,e];rfl
   have et:(txt.take (i+1)).drop taken=(txt.take i).drop taken++[c]:=sy (l:=[c]) (r:=r) e h;have one:=ih (i+1) taken (by lia) (by rw[er];simp at hk;lia);rw[er,et] at one;by_cases hc:c=64
   .subst hc
    match r,er,et,one with
    |[],er,et,one=>show txt.drop taken=_++[64];rw[<-et,pC];exact Oa.mp er
    |d::t,er,et,one=>
     by_cases hd:d=64
     .subst hd;have e2:txt.drop (i+2)=t:=by rw[show i+2=i+1+1 from rfl,<-nt,er];rfl
      have two:=ih (i+2) taken (by lia) (by rw[e2];simp at hk;lia);have e3:(txt.take (i+2)).drop taken=(txt.take i).drop taken++[64,64]:=sy (l:=[64,64]) (r:=t) e h;rw[e2,e3] at two;rw[vN,zf,two];simp
     .by_cases QW:49<=d/\ d<=57
      .rw[vO QW,zg QW];have hp:=zd d t;have hl:=Li d t;have ed:txt.drop (i+1+(fW d t).length)=(d::t).drop (fW d t).length:=by rw[<-nt,er]
       have hlen:(txt.drop (i+1+(fW d t).length)).length<=k:=by
        rw[ed,dC];simp at hk hl⊢;obtain⟨q,eq⟩:=vM (t:=t) QW;rw[eq] at hl⊢;simp at hl⊢
        lia
       show(match m (natOf (fW d t)) with
        |some v=>(txt.take (i+1)).drop taken++decimal v++sx m (scan k (i+1+(fW d t).length) ((d::t).drop (fW d t).length)) (i+1+(fW d t).length) txt
        |none=>sx m (scan k (i+1+(fW d t).length) ((d::t).drop (fW d t).length)) taken txt)=_
       cases hm:m (natOf (fW d t)) with
       |some v=>simp only;have i3:=ih (i+1+(fW d t).length) (i+1+(fW d t).length) (aQ _) hlen;rw[ed] at i3;rw[i3,et];have:(txt.take (i+1+(fW d t).length)).drop (i+1+(fW d t).length)=[]:=List.drop_eq_nil_of_le (by rw[bg];lia);rw[this];simp
       |none=>
        simp only;have i3:=ih (i+1+(fW d t).length) taken (by lia) hlen;rw[ed] at i3;rw[i3];have e3:txt.drop (i+1)=fW d t++(d::t).drop (fW d t).length:=by rw[er,hp]
        rw[sy e3 (by lia),et,Hc,Lh QW];simp
      .rw[ze hd QW,AZ hd QW,one];simp
   .rw[pW hc,vR hc,one];simp
theorem Lj(m:Nat->Option Nat)(txt:Text):sx m (scan txt.length 0 txt) 0 txt=redirect (λn=>(m n).getD n) txt.length txt:=by have:=zh m txt txt.length 0 0 (aQ _) (by simp);rw[zP] at this;rw[this];simp
theorem fQ{f:Nat->Nat}(hf:∀n,n<1000->f n<1000):∀(k:Nat)(t:Text),(∀c∈t,32<=c/\ c<=126)->∀c∈redirect f k t,32<=c/\ c<=126
 |0,[],_,c,h=>by cases h
 |0,d::r,ht,c,h=>ht c h
 |k+1,[],_,c,h=>by cases h
 |k+1,d::r,ht,c,h=>by
  have hr:∀c∈r,32<=c/\ c<=126:=λc hc=>ht c (bu _ hc);unfold redirect at h;by_cases hd:d=64
  .rw[aq hd] at h;split at h
   .rename_i t;simp only[bY] at h;rcases h with rfl|rfl|h
    .lia
    .lia
    .exact fQ hf k t (λc hc=>hr c (bu _ hc)) c h
   .rename_i e t _;split at h
    .rename_i hg;rw[iT,bY] at h;rcases h with rfl|h
     .lia
     .rcases dY.mp h with h|h
      .rw[jX] at h;have hn:natOf (fW e t)<1000:=by
        have h3:(fW e t).length<=3:=by unfold fW;rw[bg];lia
        have Yf:∀c∈fW e t,digit c=true:=λc hc=>takeWhile_all _ c (ku hc);generalize fW e t=q at h3 Yf
        match q,h3,Yf with
        |[],_,_=>decide
        |[a],_,hd=>have:=dig (hd a (by simp));show 10*0+(a - 48)<1000;lia
        |[a,b],_,hd=>have:=dig (hd a (by simp));have:=dig (hd b (by simp));show 10*(10*0+(a - 48))+(b - 48)<1000;lia
        |[a,b,c],_,hd=>have:=dig (hd a (by simp));have:=dig (hd b (by simp));have:=dig (hd c (by simp));show 10*(10*(10*0+(a - 48))+(b - 48))+(c - 48)<1000;lia
        |_::_::_::_::_,h,_=>simp at h
       have:=tV _ (hf _ hn) c h
       lia
      .refine fQ hf k _ (λc hc=>hr c ?_) c h;exact zS hc
    .rw[bY] at h;rcases h with rfl|h
     .lia
     .exact fQ hf k _ hr c h
   .simp at h
    lia
  .rw[ak hd,bY] at h;rcases h with rfl|h
   .exact ht c (cb ..)
   .exact fQ hf k r hr c h
open Vanbkn (State spot tree putTree tooDeep step redirect copied doCopy ancestors)
def mN(t:O)(nx n:Nat):Option Nat:=((nums t).findIdx? λm=>m==n).map λi=>nx+i
def Ip(t:O)(nx:Nat)(x:Node):Node:={x with number:=(mN t nx x.number).getD x.number,text:=redirect (λn=>(mN t nx n).getD n) x.text.length x.text}
def sA(t:O)(nx:Nat):O:=t.map (Ip t nx)
theorem FV(t:O)(nx:Nat):copied t nx=sA t nx:=by
 unfold copied sA Ip mN nums;dsimp only;have h:∀n,(match (t.map λx=>x.number).findIdx? (λm=>m==n) with
  |some i=>nx+i
  |none=>n)=(Option.map (λi=>nx+i) ((t.map λx=>x.number).findIdx? λm=>m==n)).getD n:=by
  intro n;cases(t.map λx=>x.number).findIdx? (λm=>m==n)<;>rfl
 refine iU λx _=>?_;congr 1
 .exact h _
 .congr 1;funext n;exact h n
theorem Ir{t:O}{nx:Nat}(h:(nums t).Nodup)(hi:t[i]?=some x):mN t nx x.number=some (nx+i):=by
 unfold mN;have:(nums t).findIdx? (λm=>m==x.number)=some i:=by
  rw[Od];obtain⟨hl,e⟩:=dm.mp hi;have Ca:i<(nums t).length:=by unfold nums;rw[aS];exact hl
  have e2:(nums t)[i]=x.number:=by simp[nums,e]
  refine⟨Ca,by rw[e2];simp,λj hj=>?_⟩;intro hh;have e3:(nums t)[j]'(by lia)=(nums t)[i]:=by rw[e2];simpa using hh
  have:=(KG h).mp e3
  lia
 rw[this];rfl
theorem Nh{t:O}{nx n v:Nat}(h:mN t nx n=some v):nx<=v/\ v<nx+t.length:=by
 unfold mN at h;cases hi:(nums t).findIdx? (λm=>m==n) with
 |none=>rw[hi] at h;cases h
 |some i=>rw[hi] at h;cases h;obtain⟨hl,_⟩:=Od.mp hi;unfold nums at hl;rw[aS] at hl;exact⟨u1 _ _,Nat.add_lt_add_left hl _⟩
theorem EC{t:O}{nx:Nat}(h:(nums t).Nodup):nums (sA t nx)=List.range' nx t.length:=by
 have hl:(nums (sA t nx)).length=t.length:=by unfold nums sA;rw[aS,aS]
 refine List.ext_getElem (by rw[hl,List.length_range']) λi h1 h2=>?_;have hi:i<t.length:=by lia
 have e:(nums (sA t nx))[i]=(mN t nx t[i].number).getD t[i].number:=by simp[nums,sA,Ip]
 rw[e,Ir h (c8 hi),List.getElem_range'];simp
theorem A1{f:Node->Node}(hf:∀x,(f x).depth=x.depth/\ (f x).cell=x.cell):∀{l:O}{m:Nat},cG m l->cG m (l.map f)
 |[],_,_=>trivial
 |x::r,m,⟨h1,h2,h3⟩=>by
  refine⟨by rw[(hf x).1];exact h1,by rw[(hf x).1];exact h2,?_⟩;have:lim (f x)=lim x:=by unfold lim;rw[(hf x).1,(hf x).2]
  rw[this];exact A1 hf h3
theorem A2(t u:O)(nx fr to:Nat):cp (t.map (Ip u nx)) fr to=cp t fr to:=by unfold cp;rw[Cd];rfl
section
variable{s:State}{a r:O}{x:Node}{z:Int}
def A3(s:State)(x:Node)(t:O)(p af:Int):State×Answer:=match ff s.nodes p af with
 |none=>refused s (-2)
 |some (k,d)=>if 60<s.nodes.length+t.length then refused s (-4) else if cp t x.depth d=true then refused s (-5) else if 1000<s.next+t.length then refused s (-6)
  else if((sA t s.next).any λy=>decide (60<y.text.length))=true then refused s (-14) else(⟨s.nodes.take k++shifted (sA t s.next) x.depth d++s.nodes.drop k,s.next+t.length⟩,⟨s.next,[]⟩)
theorem copy_eq(W:Wf s)(e:s.nodes=a++x::r)(hz:(x.number:Int)=z)(p af:Int):step s (.copy z p af)=A3 s x (x::inside x.depth r) p af:=by
 show withNode s z _=_;have ht:tree s.nodes x.number=x::inside x.depth r:=by rw[e];exact ir (by rw[<-e];exact W.n.nd)
 rw[aN W.n e hz];dsimp only;rw[ht,FV];unfold A3;rcases fP W.n p af with⟨h1,h2⟩|⟨pre,post,d,h1,h2,S⟩
 .rw[h1,h2];exact cJ rfl
 .rw[h1,h2];have et:s.nodes.take pre.length=pre:=by rw[S.eq];exact fO
  have ed:s.nodes.drop pre.length=post:=by rw[S.eq];simp
  have ep:putTree (pre,post,d) (sA (x::inside x.depth r) s.next)=pre++shifted (sA (x::inside x.depth r) s.next) x.depth d++post:=rfl;simp only[u7,DZ,ep,et,ed];rw[cx rfl];by_cases c1:60<s.nodes.length+(x::inside x.depth r).length
  .rw[cJ (show decide (NODES<_)=true from aR c1),aq c1]
  .rw[cx (show decide (NODES<_)=false from cP c1),ak c1];have hd:tooDeep (pre++shifted (sA (x::inside x.depth r) s.next) x.depth d++post)=cp (x::inside x.depth r) x.depth d:=by have g1:tooDeep pre=false:=cR λy hy=>W.n.good y (by rw[S.eq];exact dz _ hy);have g2:tooDeep post=false:=cR λy hy=>W.n.good y (by rw[S.eq];exact eK _ hy);rw[bQ,bQ,g1,g2,QI,zN,jc];exact A2 _ _ _ _ _
   by_cases c2:cp (x::inside x.depth r) x.depth d=true
   .rw[cJ (by rw[hd];exact c2),aq c2]
   .rw[cx (by rw[hd];simpa using c2),ak c2];by_cases c3:1000<s.next+(x::inside x.depth r).length
    .rw[cJ (aR c3),aq c3]
    .rw[cx (cP c3),ak c3];by_cases c4:((sA (x::inside x.depth r) s.next).any λy=>decide (60<y.text.length))=true
     .rw[cJ (show((sA (x::inside x.depth r) s.next).any λy:Node=>decide (LONG<y.text.length))=true from c4),aq c4]
     .rw[cx (show((sA (x::inside x.depth r) s.next).any λy:Node=>decide (LONG<y.text.length))=false from Uh.mpr c4),ak c4];rfl
theorem Lk(W:Wf s)(z p af:Int):Wf (step s (.copy z p af)).1:=by
 rcases aX (o:=s.nodes) z with h|⟨a,x,r,e,h,hz⟩
 .show Wf (withNode s z _).1;rw[bx W.n h];exact W
 .rw[copy_eq W e hz];unfold A3;rcases fP W.n p af with⟨h1,h2⟩|⟨pre,post,d,h1,h2,S⟩
  .rw[h1];exact W
  .rw[h1];have et:s.nodes.take pre.length=pre:=by rw[S.eq];exact fO
   have ed:s.nodes.drop pre.length=post:=by rw[S.eq];simp
   simp only[et,ed];split
   .exact W
   .rename_i c1;split
    .exact W
    .rename_i c2;split
     .exact W
     .rename_i c3;split
      .exact W
      .rename_i c4;have W':=W.n;rw[e] at W';have xh:=W.nx;have Ll:∀y∈x::inside x.depth r,y∈s.nodes:=λy hy=>by rw[e];exact(gA a r x).mem_iff.mpr (dz _ hy)
       have SD:(nums (x::inside x.depth r)).Nodup:=by refine lS ?_ W'.nd;exact(List.Sublist.cons_cons x (pB _)).trans (MM _ _)
       have hl:(x::inside x.depth r).length=(sA (x::inside x.depth r) s.next).length:=by unfold sA;rw[aS]
       have gR:∀y∈sA (x::inside x.depth r) s.next,∃w∈x::inside x.depth r,y=Ip (x::inside x.depth r) s.next w:=λy hy=>by obtain⟨w,hw,rfl⟩:=fc.mp hy;exact⟨w,hw,rfl⟩
       have Iu:∀y∈sA (x::inside x.depth r) s.next,s.next<=y.number/\ y.number<s.next+(x::inside x.depth r).length:=λy hy=>by have:y.number∈nums (sA (x::inside x.depth r) s.next):=zR hy;rw[EC SD,G9] at this;exact this
       have Iv:∀y∈sA (x::inside x.depth r) s.next,Good y:=λy hy=>by
        obtain⟨w,hw,rfl⟩:=gR y hy;have g:=W.n.good w (Ll w hw);have hr:=Iu _ hy;refine⟨⟨by lia,by lia⟩,g.sec,⟨?_,?_⟩,g.cf⟩
        .rw[Bool.not_eq_true,Fi] at c4;have:=c4 _ hy;simpa using this
        .refine fQ (λn hn=>?_) _ _ g.txt.2;cases hm:mN (x::inside x.depth r) s.next n with
         |none=>exact hn
         |some v=>
          have:=Nh hm;show v<1000
          lia
       have QX:sA (x::inside x.depth r) s.next=Ip (x::inside x.depth r) s.next x::(inside x.depth r).map (Ip (x::inside x.depth r) s.next):=rfl;have key:=H_ (x:=Ip (x::inside x.depth r) s.next x) (t:=(inside x.depth r).map (Ip (x::inside x.depth r) s.next)) (d:=d) W.n S
        (by have:=A1 (f:=Ip (x::inside x.depth r) s.next) (λw=>⟨rfl,rfl⟩) (AM W'.dep);exact this)
        (λy hy=>by rw[<-QX] at hy;obtain⟨w,hw,rfl⟩:=gR y hy;exact hZ (x:=x) (r:=r) w hw)
        (λy hy=>Iv y (by rw[QX];exact hy))
        (by rw[<-QX];have:=A2 (x::inside x.depth r) (x::inside x.depth r) s.next x.depth d;exact this.trans (by simpa using c2))
        (by
         rw[<-QX,EC SD,xD];refine⟨List.nodup_range',W.n.nd,λn hn m hm=>?_⟩;rw[G9] at hn;obtain⟨w,hw,rfl⟩:=fc.mp hm;have:=W.lt w hw
         lia)
        (by rw[<-QX,<-hl];lia)
       rw[<-QX] at key;refine⟨key,?_,?_⟩
       .intro y hy;show y.number<s.next+(x::inside x.depth r).length;have hold:∀w∈s.nodes,w.number<s.next+(x::inside x.depth r).length:=λw hw=>dF (W.lt w hw) (u1 _ _);rcases dY.mp hy with hy|hy
        .rcases dY.mp hy with hy|hy
         .exact hold y (by rw[S.eq];exact dz _ hy)
         .obtain⟨w,hw,rfl⟩:=fc.mp hy;exact(Iu w hw).2
        .exact hold y (by rw[S.eq];exact eK _ hy)
       .show 1<=s.next+(x::inside x.depth r).length/\ s.next+(x::inside x.depth r).length<=1000
        lia
theorem ED{a c:O}{q:Node}(e:a=b++q::c)(hq:q.depth<d)(hc:∀y∈c,d<=y.depth):upFrom d a.reverse=q::upFrom q.depth b.reverse:=by
 have skip:∀(l m:O),(∀y∈l,d<=y.depth)->upFrom d (l++m)=upFrom d m:=by
  intro l;induction l with
  |nil=>intro m _;rfl
  |cons y l ih=>intro m h;have:=h y (cb ..);show upFrom d (y::(l++m))=_;rw[upFrom,ak (by lia)];exact ih m λw hw=>h w (bu _ hw)
 rw[e,zV,u0,dQ,skip c.reverse _ (λy hy=>hc y (uY.mp hy))];show upFrom d (q::b.reverse)=_;rw[upFrom,aq hq]
theorem EE{a:O}(h:∀y∈a,d<=y.depth):upFrom d a.reverse=[]:=by
 have:∀(l:O),(∀y∈l,d<=y.depth)->upFrom d l=[]:=by
  intro l;induction l with
  |nil=>intro _;rfl
  |cons y l ih=>intro h;have:=h y (cb ..);rw[upFrom,ak (by lia)];exact ih λw hw=>h w (bu _ hw)
 exact this _ λy hy=>h y (uY.mp hy)
theorem FW(W:Wf s)(e:s.nodes=a++x::r)(hz:(x.number:Int)=z):step s (.reveal z)=
 (⟨s.nodes.map (pI λy=>(nums (upFrom x.depth a.reverse)).contains y.number),s.next⟩,⟨(((upFrom x.depth a.reverse).filter λy=>y.folded).length:Nat),[]⟩):=by
 show withNode s z _=_;have ha:ancestors s.nodes x.number=(upFrom x.depth a.reverse).reverse:=by rw[e];exact lR (by rw[<-e];exact W.n.nd)
 rw[aN W.n e hz];dsimp only;rw[ha];have h1:((upFrom x.depth a.reverse).reverse.filter λy=>y.folded).length=((upFrom x.depth a.reverse).filter λy=>y.folded).length:=by rw[List.filter_reverse,tE]
 rw[h1];have h2:(s.nodes.map λy=>if(((upFrom x.depth a.reverse).reverse.map λy=>y.number).contains y.number)=true then{y with folded:=false} else y)=s.nodes.map (pI λy=>(nums (upFrom x.depth a.reverse)).contains y.number):=by
  refine iU λy _=>?_;unfold pI nums;have:((upFrom x.depth a.reverse).reverse.map λy=>y.number).contains y.number=((upFrom x.depth a.reverse).map λy=>y.number).contains y.number:=by rw[DO,GP];simp
  rw[this]
 rw[h2];rfl
end
open Vanbkn (State)
def jA(p:Nat->Bool):Nat->Option Nat
 |0=>none
 |n+1=>if p n=true then jA p n else some n
theorem vS{p:Nat->Bool}:∀{i j:Nat},jA p i=some j->j<i/\ p j=false/\ ∀k,j<k->k<i->p k=true
 |0,j,h=>by cases h
 |n+1,j,h=>by
  unfold jA at h;by_cases hp:p n=true
  .rw[aq hp] at h;obtain⟨h1,h2,h3⟩:=vS h;refine⟨by lia,h2,λk hk hn=>?_⟩;by_cases e:k=n
   .rw[e];exact hp
   .exact h3 k hk (by lia)
  .rw[ak hp] at h;cases h;exact⟨by lia,by simpa using hp,λk hk hn=>by lia⟩
theorem vT{p:Nat->Bool}:∀{i:Nat},jA p i=none->∀k,k<i->p k=true
 |0,_,k,hk=>by lia
 |n+1,h,k,hk=>by
  unfold jA at h;by_cases hp:p n=true
  .rw[aq hp] at h;by_cases e:k=n
   .rw[e];exact hp
   .exact vT h k (by lia)
  .rw[ak hp] at h;cases h
def nv(o:O)(i:Nat):Option Nat:=jA (λj=>decide ((nd o i).depth<=(nd o j).depth)) i
def Py(o:O)(i:Nat):Option Nat:=jA (λj=>decide ((nd o i).depth<(nd o j).depth)) i
def xy(o:O)(i:Nat):Option Nat:=match Py o i with
 |none=>none
 |some j=>if(nd o j).depth<(nd o i).depth then none else some j
theorem vU{o:O}(h:o[i]?=some x):nd o i=x:=by unfold nd;rw[uh,h];rfl
theorem zi{r:O}(h:j<a.length):nd (a++r) j=a[j]:=by refine vU ?_;rw[nz h,c8 h]
theorem Iy(h:j<a.length):a=a.take j++a[j]::a.drop (j+1):=by simp
theorem vV{r:O}{p:Node->Bool}(hi:i=a.length):
 (∃b q c,a=b++q::c/\ p q=false/\ (∀y∈c,p y=true)/\ jA (λj=>p (nd (a++x::r) j)) i=some b.length)\/ ((∀y∈a,p y=true)/\ jA (λj=>p (nd (a++x::r) j)) i=none):=by
 cases h:jA (λj=>p (nd (a++x::r) j)) i with
 |none=>refine .inr ⟨λy hy=>?_,rfl⟩;obtain⟨k,hk,e⟩:=G8.mp hy;have:=vT h k (by lia);rw[zi hk,e] at this;exact this
 |some j=>
  obtain⟨h1,h2,h3⟩:=vS h;have hj:j<a.length:=by lia
  rw[zi hj] at h2;refine .inl ⟨a.take j,a[j],a.drop (j+1),Iy hj,h2,λy hy=>?_,?_⟩
  .obtain⟨k,hk,e⟩:=G8.mp hy;rw[dC] at hk;rw[List.getElem_drop] at e;have:=h3 (j+1+k) (by lia) (by lia);rw[zi (by lia),e] at this;exact this
  .rw[bg,iV (eX hj)]
theorem o8{o r:O}(e:o=a++x::r):(∃b q c,a=b++q::c/\ q.depth<x.depth/\ (∀y∈c,x.depth<=y.depth)/\ nv o a.length=some b.length)\/ ((∀y∈a,x.depth<=y.depth)/\ nv o a.length=none):=by
 subst e;unfold nv;rw[fN];rcases vV (a:=a) (r:=r) (x:=x) (p:=λy=>decide (x.depth<=y.depth)) rfl with⟨b,q,c,h1,h2,h3,h4⟩|⟨h1,h2⟩
 .exact .inl ⟨b,q,c,h1,by simpa using h2,λy hy=>by simpa using h3 y hy,h4⟩
 .exact .inr ⟨λy hy=>by simpa using h1 y hy,h2⟩
theorem CM{o r:O}(e:o=a++x::r):(∃b y c,a=b++y::c/\ y.depth=x.depth/\ (∀z∈c,x.depth<z.depth)/\ xy o a.length=some b.length)\/
 (xy o a.length=none/\ ((∀z∈a,x.depth<z.depth)\/ ∃b y c,a=b++y::c/\ y.depth<x.depth/\ ∀z∈c,x.depth<z.depth)):=by
 subst e;unfold xy Py;rw[fN];rcases vV (a:=a) (r:=r) (x:=x) (p:=λy=>decide (x.depth<y.depth)) rfl with⟨b,q,c,h1,h2,h3,h4⟩|⟨h1,h2⟩
 .rw[h4];have hq:nd (a++x::r) b.length=q:=by rw[h1,dQ];exact fN
  have Ni:q.depth<=x.depth:=by simpa using h2
  have Yg:∀z∈c,x.depth<z.depth:=λy hy=>by simpa using h3 y hy
  simp only[hq];by_cases hd:q.depth<x.depth
  .rw[aq hd];exact .inr ⟨rfl, .inr ⟨b,q,c,h1,hd,Yg⟩⟩
  .rw[ak hd];exact .inl ⟨b,q,c,h1,by lia,Yg,rfl⟩
 .rw[h2];exact .inr ⟨rfl, .inl λy hy=>by simpa using h1 y hy⟩
theorem A4{o r:O}(W:lO o)(e:o=a++x::r):(∃b y c,a=b++y::c/\ y.depth=x.depth/\ (∀z∈c,x.depth<z.depth)/\ sibling o x.number=some y/\ xy o a.length=some b.length)\/
 (sibling o x.number=none/\ xy o a.length=none):=by
 have W':=W;rw[e] at W';rcases CM e with⟨b,y,c,h1,h2,h3,h4⟩|⟨h1,h2⟩
 .rcases o7 W' with⟨b',y',c',g1,g2,g3,g4⟩|⟨g1,g2⟩
  .rw[<-e] at g4;have hb:b=b'/\ y=y'/\ c=c':=by
    rw[h1] at g1;rcases G0.mp g1 with⟨l,e1,e2⟩|⟨l,e1,e2⟩
    .cases l with
     |nil=>simp at e1 e2;exact⟨e1.symm,e2.1,e2.2⟩
     |cons w l=>
      simp at e2;have:=h3 y' (by rw[e2.2];simp)
      lia
    .cases l with
     |nil=>simp at e1 e2;exact⟨e1,e2.1.symm,e2.2.symm⟩
     |cons w l=>
      simp at e2;have:=g3 y (by rw[e2.2];simp)
      lia
   obtain⟨rfl,rfl,rfl⟩:=hb;exact .inl ⟨b,y,c,h1,h2,h3,g4,h4⟩
  .exfalso;rcases g2 with g2|⟨b',y',c',g3,g4,g5⟩
   .have:=g2 y (by rw[h1];simp)
    lia
   .rw[h1] at g3;rcases G0.mp g3 with⟨l,e1,e2⟩|⟨l,e1,e2⟩
    .cases l with
     |nil=>simp at e1 e2;rw[e2.1] at h2;lia
     |cons w l=>
      simp at e2;have:=h3 y' (by rw[e2.2];simp)
      lia
    .cases l with
     |nil=>simp at e1 e2;rw[<-e2.1] at h2;lia
     |cons w l=>
      simp at e2;have:=g5 y (by rw[e2.2];simp)
      lia
 .rcases o7 W' with⟨b',y',c',g1,g2,g3,g4⟩|⟨g1,g2⟩
  .exfalso;rcases h2 with h2|⟨b,y,c,h3,h4,h5⟩
   .have:=h2 y' (by rw[g1];simp)
    lia
   .rw[g1] at h3;rcases G0.mp h3 with⟨l,e1,e2⟩|⟨l,e1,e2⟩
    .cases l with
     |nil=>simp at e1 e2;rw[e2.1] at g2;lia
     |cons w l=>
      simp at e2;have:=g3 y (by rw[e2.2];simp)
      lia
    .cases l with
     |nil=>simp at e1 e2;rw[<-e2.1] at g2;lia
     |cons w l=>
      simp at e2;have:=h5 y' (by rw[e2.2];simp)
      lia
  .rw[<-e] at g1;exact .inr ⟨g1,h1⟩
theorem rp{α:Type}{p:α->Bool}:∀{l:List α}{j:Nat},j<=(l.takeWhile p).length->((∃y,l[j]?=some y/\ p y=true)↔j<(l.takeWhile p).length)
 |[],j,h=>by simp
 |x::l,0,h=>by
  rw[mZ];by_cases hx:p x=true
  .rw[aq hx];simp[hx]
  .rw[ak hx];simp[hx]
 |x::l,j+1,h=>by
  rw[mZ] at h⊢;by_cases hx:p x=true
  .rw[aq hx] at h⊢;simp at h;have:=rp (p:=p) (l:=l) (j:=j) h;simp only[cj,Nat.add_lt_add_iff_right,<-this];simp
  .rw[ak hx] at h;simp at h
theorem FX{o:O}(hj:j<=(inside (nd o i).depth (o.drop (i+1))).length):(i+1+j<o.length/\ (nd o i).depth<(nd o (i+1+j)).depth)↔i+1+j<aO o i:=by
 unfold aO;have:=rp (p:=λx:Node=>decide ((nd o i).depth<x.depth)) (l:=o.drop (i+1)) (j:=j) hj;have e:(i+1+j<i+1+(inside (nd o i).depth (o.drop (i+1))).length)↔j<((o.drop (i+1)).takeWhile λx:Node=>decide ((nd o i).depth<x.depth)).length:=by unfold inside;lia
 rw[e,<-this];rw[xl];constructor
 .rintro⟨h1,h2⟩;refine⟨o[i+1+j],c8 h1,?_⟩;rw[vU (c8 h1)] at h2;simpa using h2
 .rintro⟨y,h1,h2⟩;refine⟨(dm.mp h1).1,?_⟩;rw[vU h1];simpa using h2
theorem jG{o:O}(h:i<o.length):aO o i<=o.length:=by
 unfold aO;have h1:(inside (nd o i).depth (o.drop (i+1))).length<=(o.drop (i+1)).length:=(pB _).length_le;rw[dC] at h1
 lia
open Vanbkn (State piecesOf pieces Piece refOf)
def bU(l:Text):Nat:=if l.head?=some 48 then 0 else((l.takeWhile digit).take 3).length
def bI(l:Text):Nat×Nat:=
 if l.head?=some 64/\ (l.drop 1).head?=some 64 then(2,0)
 else if l.head?=some 64 then(1+bU (l.drop 1),natOf ((l.drop 1).take (bU (l.drop 1))))
 else(1,0)
def bJ:Nat->Nat->Text->List (Nat×Nat×Nat)
 |_,_,[]=>[]
 |0,_,_=>[]
 |k+1,i,c::r=>(i,i+(bI (c::r)).1,(bI (c::r)).2)::bJ k (i+(bI (c::r)).1) ((c::r).drop (bI (c::r)).1)
theorem eG{k:Nat}{r:Text}:bJ (k+1) i (c::r)=(i,i+(bI (c::r)).1,(bI (c::r)).2)::bJ k (i+(bI (c::r)).1) ((c::r).drop (bI (c::r)).1):=rfl
theorem parts_nil{k:Nat}:bJ k i []=[]:=by cases k<;>rfl
theorem vW{r:Text}(h:c≠64):bI (c::r)=(1,0):=by unfold bI;rw[ak (by simp[h]),ak (by simp[h])]
theorem A5{t:Text}:bI (64::64::t)=(2,0):=by unfold bI;rw[aq (by simp)]
theorem A6:bI [64]=(1,0):=by decide
theorem CN{t:Text}(h:49<=d/\ d<=57):bU (d::t)=(fW d t).length:=by unfold bU;rw[ak (by simp;lia)];rfl
theorem Iz(d:Nat)(t:Text):(d::t).take (fW d t).length=fW d t:=by
 conv=>lhs;rw[<-zd d t]
 simp
theorem A7{t:Text}(h:49<=d/\ d<=57):bI (64::d::t)=(1+(fW d t).length,natOf (fW d t)):=by unfold bI;rw[ak (by simp;lia),aq (by simp)];show(1+bU (d::t),natOf ((d::t).take (bU (d::t))))=_;rw[CN h,Iz]
theorem FY{t:Text}(h:¬(49<=d/\ d<=57)):bU (d::t)=0:=by
 unfold bU;by_cases h8:d=48
 .rw[aq (by simp[h8])]
 .rw[ak (by simp[h8])];have:digit d=false:=by unfold digit;rw[cP (by lia)]
  rw[mZ,this];rfl
theorem EF{t:Text}(hd:d≠64)(h:¬(49<=d/\ d<=57)):bI (64::d::t)=(1,0):=by unfold bI;rw[ak (by simp[hd]),aq (by simp)];show(1+bU (d::t),natOf ((d::t).take (bU (d::t))))=_;rw[FY h];rfl
theorem A8:∀(l:Text)(n:Nat),n<=l.foldl (λn c=>10*n+(c - 48)) n
 |[],n=>aQ _
 |c::l,n=>by rw[Oe];exact bp (by lia) (A8 l _)
theorem yf{t:Text}(h:49<=d/\ d<=57):natOf (fW d t)≠0:=by
 obtain⟨r,e⟩:=vM (t:=t) h;rw[e];unfold natOf;rw[Oe];have:=A8 r (10*0+(d - 48))
 lia
theorem FZ(l:Text):bU l<=l.length:=by
 unfold bU;split
 .exact a8 _
 .rw[bg];exact bp (z_ _ _) (pB _).length_le
theorem step_pos(l:Text):1<=(bI l).1:=by
 unfold bI;split
 .decide
 .split
  .exact u1 _ _
  .decide
theorem zj{r:Text}:(bI (c::r)).1<=(c::r).length:=by
 unfold bI;split
 .next h=>
  cases r with
  |nil=>simp at h
  |cons d t=>simp
 .split
  .have:=FZ ((c::r).drop 1);simp at this⊢
   lia
  .simp
def sC(p:Nat×Nat×Nat):Option (Nat×Nat×Nat):=if p.2.2=0 then none else some (p.1+1,p.2.1,p.2.2)
theorem fh:∀(k i:Nat)(t:Text),(bJ k i t).filterMap sC=scan k i t
 |k,i,[]=>by rw[parts_nil];cases k<;>rfl
 |0,i,c::r=>rfl
 |k+1,i,c::r=>by
  rw[eG];by_cases hc:c=64
  .subst hc;cases r with
   |nil=>rw[A6,Io];show List.filterMap sC ((i,i+1,0)::bJ k (i+1) [])=[];rw[parts_nil];rfl
   |cons d t=>
    by_cases hd:d=64
    .subst hd;rw[A5,vN,rT];exact fh k (i+2) t
    .by_cases h:49<=d/\ d<=57
     .rw[A7 h,vO h,rT];have e:sC (i,i+(1+(fW d t).length),natOf (fW d t))=some (i+1,i+1+(fW d t).length,natOf (fW d t)):=by unfold sC;rw[ak (yf h)];show some (i+1,i+(1+(fW d t).length),_)=_;rw[zY]
      rw[e];show _::List.filterMap sC (bJ k (i+(1+(fW d t).length)) ((64::d::t).drop (1+(fW d t).length)))=_;rw[fh,<-zY,show(64::d::t).drop (1+(fW d t).length)=(d::t).drop (fW d t).length by rw[DW];rfl]
     .rw[EF hd h,ze hd h,rT];exact fh k (i+1) (d::t)
  .rw[vW hc,pW hc,rT];exact fh k (i+1) r
theorem vX(t:Text):((bJ t.length 0 t).filterMap sC).map (λp=>p.2.2)=refs t:=by rw[fh,lU];rfl
def dO(l:List (Nat×Text))(txt:Text)(p:Nat×Nat×Nat):Text:=if p.2.2=0 then(txt.drop p.1).take 1 else(labelIn l p.2.2).getD [63]
def SE(l:List (Nat×Text))(p:Piece):Text:=match p with
 | .byte c=>[c]
 | .ref n=>(labelIn l n).getD [63]
theorem i4(l:List (Nat×Text))(txt:Text):∀(k i:Nat),(txt.drop i).length<=k->(bJ k i (txt.drop i)).flatMap (dO l txt)=(piecesOf k (txt.drop i)).flatMap (SE l)
 |k,i,hk=>by
  cases e:txt.drop i with
  |nil=>rw[parts_nil];cases k<;>rfl
  |cons c r=>
   cases k with
   |zero=>rw[e] at hk;simp at hk
   |succ k=>
    rw[e] at hk;have one:∀(m n:Nat),n=0->dO l txt (i,m,n)=[c]:=λm n hn=>by unfold dO;rw[aq hn,e];rfl
    have dr:∀m,(c::r).drop m=txt.drop (i+m):=λm=>by rw[<-e,nt]
    have hl:∀m,1<=m->(txt.drop (i+m)).length<=k:=λm hm=>by
     rw[<-dr,dC]
     lia
    rw[eG];by_cases hc:c=64
    .subst hc;cases r with
     |nil=>rw[A6,CK];show List.flatMap (dO l txt) ((i,i+1,0)::bJ k (i+1) [])=_;rw[parts_nil,ny,one _ _ rfl];rfl
     |cons d t=>
      by_cases hd:d=64
      .subst hd;rw[A5,vP,ny,ny,one _ _ rfl];show _++List.flatMap (dO l txt) (bJ k (i+2) ((64::64::t).drop 2))=_;rw[dr 2,i4 l txt k (i+2) (hl 2 (by decide)),<-dr 2];rfl
      .by_cases h:49<=d/\ d<=57
       .rw[A7 h,vQ h,ny,ny];have e1:dO l txt (i,i+(1+(fW d t).length),natOf (fW d t))=(labelIn l (natOf (fW d t))).getD [63]:=by unfold dO;rw[ak (yf h)]
        show dO l txt (i,i+(1+(fW d t).length),natOf (fW d t))++List.flatMap (dO l txt) (bJ k (i+(1+(fW d t).length)) ((64::d::t).drop (1+(fW d t).length)))=_;rw[e1,dr,i4 l txt k _ (hl _ (by lia)),<-dr,show(64::d::t).drop (1+(fW d t).length)=(d::t).drop (fW d t).length by rw[DW];rfl];rfl
       .rw[EF hd h,ye hd h,ny,ny,one _ _ rfl];show _++List.flatMap (dO l txt) (bJ k (i+1) ((64::d::t).drop 1))=_;rw[dr 1,i4 l txt k (i+1) (hl 1 (by decide)),<-dr 1];rfl
    .rw[vW hc,ro hc,ny,ny,one _ _ rfl];show _++List.flatMap (dO l txt) (bJ k (i+1) ((c::r).drop 1))=_;rw[dr 1,i4 l txt k (i+1) (hl 1 (by decide)),<-dr 1];rfl
theorem kO(l:List (Nat×Text))(t:Text):(bJ t.length 0 t).flatMap (dO l t)=shownWith l t:=by have:=i4 l t t.length 0 (by simp);rw[zP] at this;rw[this];unfold shownWith Vanbkn.pieces;rfl
open Vanbkn (State partAt ancestors tree parentOf children)
theorem uI:∀(l:O){d d':Nat},d<=d'->∀y∈upFrom d l,y∈upFrom d' l
 |[],_,_,_,y,h=>by cases h
 |x::r,d,d',hd,y,h=>by
  unfold upFrom at h⊢;by_cases h1:x.depth<d
  .rw[aq h1] at h;rw[aq (by lia)];exact h
  .rw[ak h1] at h;by_cases h2:x.depth<d'
   .rw[aq h2];exact bu _ (uI r (by lia) y h)
   .rw[ak h2];exact uI r hd y h
theorem EG:∀{t:O}{l:O}{d:Nat},(∀y∈t,d<=y.depth)->upFrom d (t++l)=upFrom d l
 |[],l,d,h=>rfl
 |x::t,l,d,h=>by have h1:=h x (by simp);show(if x.depth<d then x::upFrom x.depth (t++l) else upFrom d (t++l))=_;rw[ak (by lia)];exact EG λy hy=>h y (bu _ hy)
theorem CP:∀{t:O}{l:O}{x:Node}{d:Nat},(∀y∈t,x.depth<y.depth)->x.depth<d->x∈upFrom d (t++x::l)
 |[],l,x,d,_,h=>by show x∈upFrom d (x::l);unfold upFrom;rw[aq h];simp
 |y::t,l,x,d,ht,h=>by
  show x∈upFrom d (y::(t++x::l));unfold upFrom;have h1:=ht y (by simp);split
  .exact bu _ (CP (λz hz=>ht z (bu _ hz)) h1)
  .exact CP (λz hz=>ht z (bu _ hz)) h
def UJ(d:Nat)(a:O):Prop:=∀y∈upFrom d a.reverse,y.folded=false
def vY(o:O)(x:Node):Bool:=(ancestors o x.number).all λy=> !y.folded
theorem yg{r:O}(h:(nums (a++x::r)).Nodup):vY (a++x::r) x=true↔UJ x.depth a:=by unfold vY UJ;rw[lR h,yN];simp
def pX(o:O):Nat->Nat->List Nat
 |0,_=>[]
 |k+1,i=>if i<o.length then i::pX o k (if(nd o i).folded=true then aO o i else i+1) else[]
def gU(o:O):List Nat:=pX o o.length 0
theorem sD{o:O}(hn:(nums o).Nodup):∀(k:Nat)(a r:O),o=a++r->r.length<=k->(∀d,d<=hd r->UJ d a)->((pX o k a.length).map (nd o))=r.filter (vY o)/\ ∀i∈pX o k a.length,i<o.length
 |0,a,r,e,hk,_=>by have:r=[]:=DM.mp (by lia);subst this;exact⟨rfl,by simp[pX]⟩
 |k+1,a,[],e,hk,_=>by
  have hl:¬a.length<o.length:=by rw[e];simp
  unfold pX;rw[ak hl];exact⟨rfl,by simp⟩
 |k+1,a,x::r,e,hk,VT=>by
  subst e;have hl:a.length<(a++x::r).length:=by simp
  have QY:UJ x.depth a:=VT x.depth (aQ _);have h1:vY (a++x::r) x=true:=(yg hn).mpr QY;unfold pX;rw[aq hl,fN];by_cases hf:x.folded=true
  .rw[aq hf];have et:aO (a++x::r) a.length=(a++x::inside x.depth r).length:=by rw[jW];simp;lia
   have eo:a++x::r=(a++x::inside x.depth r)++outside x.depth r:=by rw[dQ,iT,bP]
   have uH:∀y∈inside x.depth r,vY (a++x::r) y=false:=λy hy=>by
    obtain⟨b,c,QZ⟩:=Kw hy;have Pt:=cg (d:=x.depth) (l:=r);have QV:a++x::r=(a++x::b)++y::(c++outside x.depth r):=by rw[eo,QZ];simp
    have rQ:¬vY (a++x::r) y=true:=by
     rw[QV];rw[yg (by rw[<-QV];exact hn)];intro hO;have hx:x∈upFrom y.depth (a++x::b).reverse:=by rw[zV,u0,dQ];refine CP (λz hz=>Pt z ?_) (Pt y hy);rw[QZ];exact dz _ (uY.mp hz)
     have:=hO x hx;rw[hf] at this;cases this
    simpa using rQ
   have ih:=sD hn k (a++x::inside x.depth r) (outside x.depth r) eo (by
    have:=(G1 (λz:Node=>decide (x.depth<z.depth)) (l:=r)).length_le;unfold outside;simp at hk⊢
    lia) (λd MS=>by
     have Wx:d<=x.depth:=bp MS (b_ _ _);intro y hy;rw[zV,u0,dQ,EG (λz hz=>by
      have:=cg z (uY.mp hz)
      lia)] at hy
     have hy:y∈upFrom d (x::a.reverse):=hy;unfold upFrom at hy;rw[ak (by lia)] at hy;exact QY y (uI _ Wx y hy))
   rw[et];constructor
   .rw[cy,fN,ih.1,rV,aq h1]
    conv=>rhs;rw[<-bP x.depth r]
    rw[qM];have:(inside x.depth r).filter (vY (a++x::r))=[]:=by
     rw[uW];intro y hy;rw[uH y hy]
     decide
    rw[bP,this];rfl
   .intro i hi;rcases bY.mp hi with rfl|hi
    .exact hl
    .exact ih.2 i hi
  .rw[ak hf];have hf:x.folded=false:=by simpa using hf
   have eo:a++x::r=(a++[x])++r:=by simp
   have ih:=sD hn k (a++[x]) r eo (by simp at hk;lia) (λd MS=>by
    intro y hy;rw[zV] at hy;have hy:y∈upFrom d (x::a.reverse):=hy;unfold upFrom at hy;by_cases h:x.depth<d
    .rw[aq h] at hy;rcases bY.mp hy with rfl|hy
     .exact hf
     .exact QY y hy
    .rw[ak h] at hy;exact QY y (uI _ (by lia) y hy))
   rw[show(a++[x]).length=a.length+1 by simp] at ih;constructor
   .rw[cy,fN,ih.1,rV,aq h1]
   .intro i hi;rcases bY.mp hi with rfl|hi
    .exact hl
    .exact ih.2 i hi
theorem lb{o:O}(hn:(nums o).Nodup):(gU o).map (nd o)=visible o/\ ∀i∈gU o,i<o.length:=by have:=sD hn o.length [] o rfl (aQ _) (λd _ y hy=>by cases hy);exact this
theorem EH(o:O):∀(k i:Nat),(pX o k i).Pairwise (·<·)/\ ∀j∈pX o k i,i<=j
 |0,i=>⟨List.Pairwise.nil,by simp[pX]⟩
 |k+1,i=>by
  unfold pX;split
  .have hn:i+1<=(if(nd o i).folded=true then aO o i else i+1):=by
    split
    .unfold aO;lia
    .exact aQ _
   obtain⟨h1,h2⟩:=EH o k (if(nd o i).folded=true then aO o i else i+1);refine⟨xE.mpr ⟨λj hj=>?_,h1⟩,λj hj=>?_⟩
   .have:=h2 j hj
    lia
   .rcases bY.mp hj with rfl|hj
    .exact aQ _
    .have:=h2 j hj
     lia
  .exact⟨List.Pairwise.nil,by simp⟩
open Vanbkn (State)
def jd(way:List Nat)(d:Nat):List Nat:=way.take (d - 1)++[(way[d - 1]?).getD 0+1]
variable{way:List Nat}
theorem IA(h:(way.take d).length<d):jd way d=way.take d++[1]:=by
 rw[bg] at h;have hl:way.length<d:=by lia
 unfold jd;rw[KD (by lia),pC (by lia),pC (by lia)];rfl
theorem IB(h1:1<=d)(h:¬(way.take d).length<d):∃n,(way.take d)[d - 1]?=some n/\ jd way d=(way.take d).take (d - 1)++[n+1]/\ (way.take d).length=d:=by
 rw[bg] at h;have hl:d<=way.length:=by lia
 have hd:d - 1<way.length:=by lia
 refine⟨way[d - 1],?_,?_,by rw[bg];lia⟩
 .rw[Fj,aq (by lia),c8 hd]
 .unfold jd;rw[List.take_take,iV (by lia),c8 hd];rfl
theorem i5{k:Nat}{r:O}(h:x.cell=true):labelsFrom way k (x::r)=(x.number,35::decimal (k+1))::labelsFrom way (k+1) r:=by show(if x.cell=true then _ else _)=_;rw[aq h]
theorem jY{k:Nat}{r:O}(h:x.cell=false):labelsFrom way k (x::r)=(x.number,dotted (jd way x.depth))::labelsFrom (jd way x.depth) k r:=by show(if x.cell=true then _ else _)=_;rw[ak (by rw[h];decide)];rfl
theorem i6:∀(o:O)(way:List Nat)(k:Nat),(labelsFrom way k o).map (·.1)=nums o
 |[],_,_=>rfl
 |x::r,way,k=>by
  cases h:x.cell with
  |true=>rw[i5 h,cy,i6 r];rfl
  |false=>rw[jY h,cy,i6 r];rfl
def bS:List Nat->Nat->O->List Nat×Nat
 |way,k,[]=>(way,k)
 |way,k,x::r=>if x.cell=true then bS way (k+1) r else bS (jd way x.depth) k r
theorem iO:∀(a b:O)(way:List Nat)(k:Nat),labelsFrom way k (a++b)=labelsFrom way k a++labelsFrom (bS way k a).1 (bS way k a).2 b
 |[],_,_,_=>rfl
 |x::r,b,way,k=>by
  cases h:x.cell with
  |true=>rw[iT,i5 h,i5 h,iO r b,iT];simp[bS,h]
  |false=>rw[iT,jY h,jY h,iO r b,iT];simp[bS,h]
theorem jH:∀(a b:O)(way:List Nat)(k:Nat),bS way k (a++b)=bS (bS way k a).1 (bS way k a).2 b
 |[],_,_,_=>rfl
 |x::r,b,way,k=>by
  rw[iT];cases h:x.cell with
  |true=>simp[bS,h];exact jH r b _ _
  |false=>simp[bS,h];exact jH r b _ _
structure EI(m:Nat)(w:List Nat×Nat):Prop where
 le:∀n∈w.1,n<=m
 len:w.1.length<=6
 k:w.2<=m
theorem zk(h:∀n∈way,n<=m)(hl:way.length<=6)(hd:1<=d/\ d<=6):(∀n∈jd way d,n<=m+1)/\ (jd way d).length<=6:=by
 unfold jd;constructor
 .intro n hn;rcases dY.mp hn with hn|hn
  .have:=h n (ku hn)
   lia
  .simp at hn;subst hn;cases e:way[d - 1]? with
   |none=>simp
   |some v=>have:=h v (cI e);simp;exact this
 .rw[a_,bg];simp
  lia
theorem CQ:∀(o:O)(m:Nat)(w:List Nat×Nat),EI m w->(∀x∈o,x.cell=false->1<=x.depth/\ x.depth<=6)->EI (m+o.length) (bS w.1 w.2 o)
 |[],m,w,h,_=>h
 |x::r,m,w,h,hx=>by
  have hr:∀y∈r,y.cell=false->1<=y.depth/\ y.depth<=6:=λy hy=>hx y (bu _ hy);rw[cj,show m+(r.length+1)=(m+1)+r.length by lia];cases hc:x.cell with
  |true=>rw[show bS w.1 w.2 (x::r)=bS w.1 (w.2+1) r by simp[bS,hc]];exact CQ r (m+1) (w.1,w.2+1) ⟨λn hn=>u4 (h.le n hn),h.len,Ac h.k⟩ hr
  |false=>rw[show bS w.1 w.2 (x::r)=bS (jd w.1 x.depth) w.2 r by simp[bS,hc]];have:=zk h.le h.len (hx x (by simp) hc);exact CQ r (m+1) (jd w.1 x.depth,w.2) ⟨this.1,this.2,u4 h.k⟩ hr
theorem iP{n:Nat}(h:n<1000):(decimal n).length<=3:=by
 rw[jX,pV n h];split
 .simp
 .split<;>simp
theorem sE{n:Nat}(h:n<1000):∀c∈decimal n,48<=c/\ c<=57:=by rw[jX];exact tV n h
theorem tW{n:Nat}{r:List Nat}:dotted (n::m::r)=decimal n++46::dotted (m::r):=rfl
theorem sF:∀(w:List Nat),(∀n∈w,n<1000)->(dotted w).length<=4*w.length/\ ∀c∈dotted w,46<=c/\ c<=57
 |[],_=>⟨by simp[dotted],by simp[dotted]⟩
 |[n],h=>by
  have h1:=h n (by simp);have:=iP h1;refine⟨by show(decimal n).length<=4;lia,λc hc=>?_⟩;have:=sE h1 c hc
  lia
 |n::m::r,h=>by
  have h1:=h n (by simp);have h2:=iP h1;obtain⟨h3,h4⟩:=sF (m::r) λx hx=>h x (bu _ hx);rw[tW];constructor
  .rw[a_,cj];simp at h3⊢
   lia
  .intro c hc;rcases dY.mp hc with hc|hc
   .have:=sE h1 c hc
    lia
   .rcases bY.mp hc with rfl|hc
    .lia
    .exact h4 c hc
theorem CS:∀(o:O)(m:Nat)(w:List Nat×Nat),EI m w->m+o.length<999->(∀x∈o,x.cell=false->1<=x.depth/\ x.depth<=6)->∀q∈labelsFrom w.1 w.2 o,q.2.length<=24/\ ∀c∈q.2,35<=c/\ c<=57
 |[],m,w,_,_,_,q,hq=>by cases hq
 |x::r,m,w,h,hm,hx,q,hq=>by
  have hr:∀y∈r,y.cell=false->1<=y.depth/\ y.depth<=6:=λy hy=>hx y (bu _ hy);rw[cj] at hm;cases hc:x.cell with
  |true=>
   rw[i5 hc] at hq;rcases bY.mp hq with rfl|hq
   .have hk:=h.k;have h1:w.2+1<1000:=by lia
    have:=iP h1;refine⟨by rw[cj];lia,λc hc=>?_⟩;rcases bY.mp hc with rfl|hc
    .lia
    .have:=sE h1 c hc
     lia
   .exact CS r (m+1) (w.1,w.2+1) ⟨λn hn=>u4 (h.le n hn),h.len,Ac h.k⟩ (by lia) hr q hq
  |false=>
   rw[jY hc] at hq;have hs:=zk h.le h.len (hx x (by simp) hc);rcases bY.mp hq with rfl|hq
   .obtain⟨h3,h4⟩:=sF (jd w.1 x.depth) λn hn=>by
     have:=hs.1 n hn
     lia
    refine⟨by have:=hs.2;show(dotted (jd w.1 x.depth)).length<=24;lia,λc hc=>?_⟩;have:=h4 c hc
    lia
   .exact CS r (m+1) (jd w.1 x.depth,w.2) ⟨hs.1,hs.2,u4 h.k⟩ (by lia) hr q hq
theorem lO.Pz{o:O}(W:lO o):∀x∈o,x.cell=false->1<=x.depth/\ x.depth<=6:=λx hx hc=>⟨lP W.dep x hx,(W.good x hx).sec hc⟩
theorem fZ{o:O}(W:lO o):∀q∈labels o,q.2.length<=24/\ ∀c∈q.2,35<=c/\ c<=57:=
 CS o 0 ([],0) ⟨by simp,by simp,aQ _⟩ (by have:=W.len;lia) W.Pz
def IC(c:Int):Nat:=if 0<=c/\ c<=255 then c.toNat else 256
theorem dH(t:List Int):textOf t=t.map IC:=rfl
theorem vZ{c:Int}{n:Nat}(h:n<=255):IC c=n↔c=(n:Int):=by unfold IC;split<;>lia
theorem iu:∀{l:List Nat}{t:List Int},(∀c∈l,c<=255)->(l=textOf t↔l.map (λc:Nat=>(c:Int))=t)
 |[],[],_=>by simp[textOf]
 |[],c::t,_=>by simp[textOf]
 |a::l,[],_=>by simp[textOf]
 |a::l,c::t,h=>by
  have ih:=iu (l:=l) (t:=t) λx hx=>h x (bu _ hx);have h1:=vZ (c:=c) (h a (by simp));rw[dH,cy,cy,List.cons.injEq,List.cons.injEq,<-dH,ih];constructor
  .rintro⟨e1,e2⟩;exact⟨(h1.mp e1.symm).symm,e2⟩
  .rintro⟨e1,e2⟩;exact⟨(h1.mpr e1.symm).symm,e2⟩
theorem v9:∀{l:List (Nat×Text)}{i:Nat}{q:Nat×Text},(l.map (·.1)).Nodup->l[i]?=some q->labelIn l q.1=some q.2
 |[],i,q,_,h=>by simp at h
 |p::l,0,q,_,h=>by
  have e:p=q:=by simpa using h
  subst e;simp[labelIn]
 |p::l,i+1,q,hn,h=>by
  rw[cy,tG] at hn;have h:l[i]?=some q:=by simpa using h
  have fo:p.1≠q.1:=λe=>hn.1 (by rw[e];exact zR (cI h));have ih:=v9 hn.2 h;unfold labelIn at ih⊢;rw[rW,show(p.1==q.1)=false from by simpa using fo];exact ih
theorem holds_iff:∀(x y:Text),holds x y=true↔∃i,i<=y.length/\ (y.drop i).take x.length=x
 |x,[]=>by
  unfold holds;rw[Ol];constructor
  .intro e;subst e;exact⟨0,aQ _,rfl⟩
  .rintro⟨i,_,h⟩;simpa using h.symm
 |x,c::r=>by
  unfold holds;rw[rR,holds_iff x r,Ry,zU];constructor
  .rintro(h|⟨i,h1,h2⟩)
   .exact⟨0,a8 _,h.symm⟩
   .exact⟨i+1,by simpa using h1,by simpa using h2⟩
  .rintro⟨i,h1,h2⟩;cases i with
   |zero=>exact .inl h2.symm
   |succ i=>exact .inr ⟨i,by simpa using h1,by simpa using h2⟩
open Vanbkn (State linesOf takeNumber load b)
def bb:List Int->List (List Int)
 |[]=>[[]]
 |c::r=>if c=10 then[]::bb r else match bb r with
  |l::m=>(c::l)::m
  |[]=>[[c]]
theorem f7(t:List Int):∃l m,bb t=l::m:=by
 cases t with
 |nil=>exact⟨_,_,rfl⟩
 |cons c r=>
  unfold bb;split
  .exact⟨_,_,rfl⟩
  .split<;>exact⟨_,_,rfl⟩
theorem v_:∀t:List Int,(bb t).map textOf=linesOf (textOf t)
 |[]=>rfl
 |c::r=>by
  have ih:=v_ r;obtain⟨l,m,e⟩:=f7 r;rw[e] at ih;have ht:textOf (c::r)=IC c::textOf r:=rfl;rw[ht];unfold bb Vanbkn.linesOf;by_cases h:c=10
  .rw[aq h,aq ((vZ (by decide)).mpr h),cy,e,ih];rfl
  .rw[ak h,ak (λq=>h ((vZ (n:=10) (by decide)).mp q)),e,<-ih];rfl
theorem nY:∀(a:List Int)(t:List Int),bb (a++t)=(match bb t with
 |l::m=>(bb a).dropLast++((bb a).getLastD []++l)::m
 |[]=>[])
 |[],t=>by obtain⟨l,m,e⟩:=f7 t;rw[uZ,e];rfl
 |c::r,t=>by
  obtain⟨l,m,e⟩:=f7 t;obtain⟨l',m',e'⟩:=f7 r;have ih:=nY r t;rw[e] at ih⊢;rw[iT];show(if c=10 then[]::bb (r++t) else match bb (r++t) with
   |l::m=>(c::l)::m
   |[]=>[[c]])=List.dropLast (if c=10 then[]::bb r else match bb r with
   |l::m=>(c::l)::m
   |[]=>[[c]])++((List.getLastD (if c=10 then[]::bb r else match bb r with
   |l::m=>(c::l)::m
   |[]=>[[c]]) [])++l)::m
  rw[ih,e'];by_cases h:c=10
  .rw[aq h,aq h];simp
  .rw[ak h,ak h];cases m' with
   |nil=>simp
   |cons p q=>simp
def uq(l:Text):Option (Nat×Nat):=let d:=l.takeWhile digit
 if d.length<1\/ 4<d.length\/ (1<d.length/\ l.head?=some 48) then none else some (natOf d,d.length)
theorem A9(l:Text):takeNumber l=(uq l).map λx=>(x.1,l.drop x.2):=by
 unfold Vanbkn.takeNumber uq;have e:(l.takeWhile digit).isEmpty=true↔(l.takeWhile digit).length<1:=by
  rw[Ol,<-DM]
  lia
 have e2:1<(l.takeWhile digit).length->(l.takeWhile digit).head?=l.head?:=by
  intro h;cases l with
  |nil=>rfl
  |cons c r=>
   rw[mZ] at h⊢;split
   .rfl
   .next hc=>rw[ak hc] at h;simp at h
 by_cases h:(l.takeWhile digit).length<1\/ 4<(l.takeWhile digit).length\/ (1<(l.takeWhile digit).length/\ l.head?=some 48)
 .rw[aq h,aq]
  .rfl
  .rcases h with h|h|⟨h1,h2⟩
   .exact .inl (e.mpr h)
   .exact .inr (.inl h)
   .exact .inr (.inr ⟨h1,by rw[e2 h1];exact h2⟩)
 .rw[ak h,ak]
  .rfl
  .rintro(g|g|⟨g1,g2⟩)
   .exact h (.inl (e.mp g))
   .exact h (.inr (.inl g))
   .exact h (.inr (.inr ⟨g1,by rw[<-e2 g1];exact g2⟩))
def signOf(l:Text):Nat:=if l.head?=some 61 then 61 else 35
def sG(l:Text)(c:Nat):Nat:=(l.takeWhile λx=>x==c).length
def nZ(cell:Bool)(k n:Nat)(r:Text):Option Node:=
 if cell=true then(if r.take 1=[32]/\ goodText (r.drop 1)=true then some ⟨n,k,true,false,r.drop 1⟩ else none)
 else if r.take 3=[32,43,32]/\ goodText (r.drop 3)=true then some ⟨n,k,false,false,r.drop 3⟩
 else if r.take 3=[32,45,32]/\ goodText (r.drop 3)=true then some ⟨n,k,false,true,r.drop 3⟩
 else none
def n9(l:Text):Option Node:=
 let k:=sG l (signOf l)
 if k<1\/ 7<k\/ (l.drop k).take 1≠[32] then none
 else match uq (l.drop (k+1)) with
  |none=>none
  |some x=>nZ (decide (signOf l=61)) k x.1 (l.drop (k+1+x.2))
theorem take1{l:Text}:l.take 1=[32]↔∃r,l=32::r:=by
 cases l with
 |nil=>simp
 |cons c r=>simp
theorem F0(k n:Nat)(r:Text):(match r with
 |32::t=>if goodText t=true then some (⟨n,k,true,false,t⟩:Node) else none
 |_=>none)=nZ true k n r:=by
 unfold nZ;rw[aq rfl];split
 .next t=>simp
 .next h=>
  rw[ak];rintro⟨h1,_⟩;obtain⟨t,e⟩:=take1.mp h1;exact h t e
theorem ID(k n:Nat)(r:Text):(match r with
 |32::t=>(match t with
  |m::32::u=>if(m=43\/ m=45)/\ goodText u=true then some (⟨n,k,false,m==45,u⟩:Node) else none
  |_=>none)
 |_=>none)=nZ false k n r:=by
 unfold nZ;rw[ak (by decide)];split
 .next t=>
  split
  .next m u=>
   by_cases h3:m=43
   .subst h3;simp
   .by_cases h5:m=45
    .subst h5;simp
    .simp[h3,h5]
  .next h=>
   rw[ak,ak]
   .rintro⟨h1,_⟩;cases t with
    |nil=>simp at h1
    |cons m t2=>
     cases t2 with
     |nil=>simp at h1
     |cons s u=>simp at h1;exact h m u (by rw[h1.2])
   .rintro⟨h1,_⟩;cases t with
    |nil=>simp at h1
    |cons m t2=>
     cases t2 with
     |nil=>simp at h1
     |cons s u=>simp at h1;exact h m u (by rw[h1.2])
 .next h=>
  have hn:∀m s,r.take 3≠[32,m,s]:=λm s e=>by
   cases r with
   |nil=>simp at e
   |cons c t=>simp at e;exact h t (by rw[e.1])
  rw[ak (λq=>hn _ _ q.1),ak (λq=>hn _ _ q.1)]
theorem yh(l:Text):readNode l=n9 l:=by
 cases l with
 |nil=>rfl
 |cons c r=>
  by_cases hc:c≠35/\ c≠61
  .have h1:readNode (c::r)=none:=by unfold readNode;simp only;rw[aq (Or.inl hc)]
   have h2:sG (c::r) (signOf (c::r))=0:=by unfold sG signOf;rw[ak (by simp;exact hc.2),mZ,ak (by simp;exact hc.1)];rfl
   rw[h1];unfold n9;rw[h2];rfl
  .have hs:signOf (c::r)=c:=by
    unfold signOf;by_cases h:c=61
    .rw[aq (by simp[h]),h]
    .rw[ak (by simp[h])]
     lia
   have hk:1<=sG (c::r) c:=by unfold sG;rw[mZ,aq (by simp)];simp
   unfold readNode n9;simp only[hs];show(if(c≠35/\ c≠61)\/ 7<sG (c::r) c then none else _)=_;by_cases h7:7<sG (c::r) c
   .rw[aq (Or.inr h7),aq (Or.inr (Or.inl h7))]
   .rw[ak (by rintro(h|h);exact hc h;exact h7 h)];show(match (c::r).drop (sG (c::r) c) with
     |32::q=>_
     |_=>none)=_
    by_cases PB:((c::r).drop (sG (c::r) c)).take 1=[32]
    .obtain⟨q,eq⟩:=take1.mp PB;rw[ak (by rintro(h|h|h);lia;lia;exact h PB),eq];have eq2:(c::r).drop (sG (c::r) c+1)=q:=by rw[<-nt,eq];rfl
     rw[eq2];show((takeNumber q).bind λx=>_)=_;rw[A9];cases hn:uq q with
     |none=>rfl
     |some x=>
      have e3:(c::r).drop (sG (c::r) c+1+x.2)=q.drop x.2:=by rw[<-nt,eq2]
      show(match q.drop x.2 with
       |32::t=>if c=61 then(if goodText t=true then some (⟨x.1,sG (c::r) c,true,false,t⟩:Node) else none) else(match t with
        |m::32::u=>if(m=43\/ m=45)/\ goodText u=true then some ⟨x.1,sG (c::r) c,false,m==45,u⟩ else none
        |_=>none)
       |_=>none)=nZ (decide (c=61)) (sG (c::r) c) x.1 ((c::r).drop (sG (c::r) c+1+x.2))
      rw[e3];by_cases UK:c=61
      .rw[aR UK,<-F0];generalize q.drop x.2=z;split
       .rw[aq UK];rfl
       .next h=>
        split
        .next t=>exact(h t rfl).elim
        .rfl
      .rw[cP UK,<-ID];generalize q.drop x.2=z;split
       .rw[ak UK];rfl
       .next h=>
        split
        .next t=>exact(h t rfl).elim
        .rfl
    .rw[aq (Or.inr (Or.inr PB))];split
     .next q e=>rw[e] at PB;simp at PB
     .rfl
theorem CT{l:Text}(h:n9 l=some x):1<=x.depth/\ x.text.length<=60/\ (∀c∈x.text,32<=c/\ c<=126)/\ (x.cell=true->x.folded=false):=by
 have gt:∀{t:Text},goodText t=true->t.length<=60/\ ∀c∈t,32<=c/\ c<=126:=λ{t} h=>by unfold goodText at h;rw[uA,yN] at h;refine⟨iY h.1,λc hc=>?_⟩;have:=h.2 c hc;unfold textByte at this;exact iY this
 unfold n9 at h;simp only at h;split at h
 .cases h
 .next hk=>
  split at h
  .cases h
  .next x' hx=>
   unfold nZ at h;have h1:1<=sG l (signOf l):=by lia
   split at h
   .split at h
    .next g=>cases h;exact⟨h1,(gt g.2).1,(gt g.2).2,λ_=>rfl⟩
    .cases h
   .split at h
    .next g=>cases h;exact⟨h1,(gt g.2).1,(gt g.2).2,λ_=>rfl⟩
    .split at h
     .next g=>cases h;exact⟨h1,(gt g.2).1,(gt g.2).2,λe=>by cases e⟩
     .cases h
theorem sH:∀(o:O)(m:Nat),jb m o=(match o.getLast? with
 |none=>m
 |some y=>lim y)
 |[],m=>rfl
 |[x],m=>rfl
 |x::y::r,m=>by
  show jb (lim x) (y::r)=_;rw[sH (y::r) (lim x),List.getLast?_cons_cons];cases h:(y::r).getLast? with
  |none=>simp at h
  |some z=>rfl
theorem mr(n:Nat)(o:O)(x:Node):nodeFault n o x=if x.number=0\/ 999<x.number\/ n<=x.number\/ (o.any λy=>y.number==x.number)=true\/ (x.cell=false/\ 6<x.depth) then 3
 else if jb 1 o<x.depth then 4 else if 60<=o.length then 5 else 0:=by
 unfold nodeFault;rw[sH];cases o.getLast?<;>rfl
theorem IE{n:Nat}{o:O}(W:lO o)(fH:∀y∈o,y.number<n)(hx:1<=x.depth/\ x.text.length<=60/\ (∀c∈x.text,32<=c/\ c<=126)/\ (x.cell=true->x.folded=false))(h:nodeFault n o x=0):
 lO (o++[x])/\ ∀y∈o++[x],y.number<n:=by
 rw[mr] at h;split at h
 .cases h
 .next h3=>
  split at h
  .cases h
  .next h4=>
   split at h
   .cases h
   .next h5=>
    have hg:Good x:=⟨⟨by lia,by lia⟩,λhc=>by
     by_cases hd:x.depth<=6
     .exact hd
     .exact absurd (Or.inr (Or.inr (Or.inr (Or.inr ⟨hc,by lia⟩)))) h3,⟨hx.2.1,hx.2.2.1⟩,hx.2.2.2⟩
    have rQ:∀y∈o,y.number≠x.number:=λy hy e=>h3 (Or.inr (Or.inr (Or.inr (Or.inl (mi.mpr ⟨y,hy,e⟩)))));refine⟨⟨by rw[a_];simp;lia,?_,?_,λy hy=>?_⟩,λy hy=>?_⟩
    .unfold nums;rw[cV,xD];refine⟨W.nd,by simp,λa ha b hb=>?_⟩;obtain⟨y,hy,rfl⟩:=fc.mp ha;simp at hb;subst hb;exact rQ y hy
    .rw[a5];refine⟨W.dep,?_⟩;exact⟨hx.1,by lia,trivial⟩
    .rcases dY.mp hy with hy|hy
     .exact W.good y hy
     .simp at hy;subst hy;exact hg
    .rcases dY.mp hy with hy|hy
     .exact fH y hy
     .simp at hy;subst hy
      lia
theorem rq{n:Nat}:∀(ls:List Text)(k:Nat)(o r:O),lO o->(∀y∈o,y.number<n)->readNodes n k o ls= .ok r->lO r/\ ∀y∈r,y.number<n
 |[],k,o,r,W,fH,h=>by unfold readNodes at h;cases h;exact⟨W,fH⟩
 |[l],k,o,r,W,fH,h=>by
  unfold readNodes at h;split at h
  .cases h;exact⟨W,fH⟩
  .cases h
 |l::m::ls,k,o,r,W,fH,h=>by
  unfold readNodes at h;split at h
  .cases h
  .next x hx=>
   dsimp only at h;split at h
   .cases h
   .next hf=>
    rw[yh] at hx;have hf:nodeFault n o x=0:=by
     by_cases e:nodeFault n o x=0
     .exact e
     .exact absurd e hf
    obtain⟨W2,Wz⟩:=IE W fH (CT hx) hf;exact rq (m::ls) (k+1) (o++[x]) r W2 Wz h
theorem Lm(W:Wf s)(t:List Int):Wf (Vanbkn.step s (.load t)).1:=by
 show Wf (match load (textOf t) with
  | .ok u=>(u,(⟨0,[]⟩:Answer))
  | .error f=>(s,⟨ofNat f.1,[ofNat f.2]⟩)).1
 cases e:load (textOf t) with
 |error f=>exact W
 |ok u=>
  unfold Vanbkn.load at e;split at e
  .split at e
   .cases e
   .next n hn=>
    split at e
    .cases e
    .next hr=>
     split at e
     .next o ho=>
      cases e;obtain⟨W2,h2⟩:=rq _ 1 [] o ⟨by simp,by simp[nums],trivial,by simp⟩ (by simp) ho;exact⟨W2,h2,by show 1<=n/\ n<=1000;lia⟩
     .cases e
  .cases e
open Vanbkn (State)
theorem wa(t:Text):∀(k i:Nat),i<=t.length->∀q∈bJ k i (t.drop i),q.1<t.length/\ q.2.1<=t.length
 |0,i,hi,q,hq=>by
  cases e:t.drop i with
  |nil=>rw[e,parts_nil] at hq;cases hq
  |cons c r=>rw[e] at hq;cases hq
 |k+1,i,hi,q,hq=>by
  cases e:t.drop i with
  |nil=>rw[e,parts_nil] at hq;cases hq
  |cons c r=>
   rw[e,eG] at hq;have hl:(c::r).length=t.length - i:=by rw[<-e,dC]
   have h1:=zj (c:=c) (r:=r);have h2:=step_pos (c::r);have h3:1<=(c::r).length:=by simp
   rcases bY.mp hq with rfl|hq
   .exact⟨by show i<t.length;lia,by show i+(bI (c::r)).1<=t.length;lia⟩
   .rw[<-e,nt] at hq;rw[e] at hq;exact wa t k (i+(bI (c::r)).1) (by lia) q hq
theorem Ln(t:Text):∀q∈scan t.length 0 t,q.1<=t.length/\ q.2.1<=t.length:=λq hq=>by
 rw[<-fh] at hq;obtain⟨p,hp,e⟩:=G7.mp hq;have:=wa t t.length 0 (a8 _) p (by rw[zP];exact hp);unfold sC at e;split at e
 .cases e
 .cases e;exact⟨this.1,this.2⟩
theorem scan_len(t:Text):(scan t.length 0 t).length<=t.length:=by
 rw[<-fh];refine bp (DN _ _) ?_;have:∀(k i:Nat)(t:List Nat),(bJ k i t).length<=k:=by
  intro k;induction k with
  |zero=>intro i t;cases t<;>exact aQ _
  |succ k ih=>
   intro i t;cases t with
   |nil=>exact a8 _
   |cons c r=>rw[eG,cj];exact Ac (ih _ _)
 exact this _ _ _
theorem o9(l:List (Nat×Text))(t:Text)(p:Nat×Nat×Nat)(hl:∀q∈l,q.2.length<=24):(dO l t p).length<=24:=by
 unfold dO;split
 .rw[bg];lia
 .cases e:labelIn l p.2.2 with
  |none=>simp
  |some v=>
   unfold labelIn at e;cases f:l.find? (λx=>x.1==p.2.2) with
   |none=>rw[f] at e;cases e
   |some q=>rw[f] at e;cases e;exact hl q (xC f)
theorem wb{α:Type}(f:α->List Nat)(m:Nat):∀(l:List α),(∀x∈l,(f x).length<=m)->(l.flatMap f).length<=m*l.length
 |[],_=>by simp
 |x::l,h=>by
  rw[ny,a_,cj,Aa];have h1:=h x (by simp);have h2:=wb f m l λy hy=>h y (bu _ hy)
  lia
theorem o_{l:List (Nat×Text)}(hl:∀q∈l,q.2.length<=24)(t:Text)(h:t.length<=60):(shownWith l t).length<=1440:=by
 rw[<-kO];refine bp (wb _ 24 _ λp _=>o9 l t p hl) ?_;have:∀(k i:Nat)(t:List Nat),(bJ k i t).length<=k:=by
  intro k;induction k with
  |zero=>intro i t;cases t<;>exact aQ _
  |succ k ih=>
   intro i t;cases t with
   |nil=>exact a8 _
   |cons c r=>rw[eG,cj];exact Ac (ih _ _)
 have:=this t.length 0 t
 lia
open Vanbkn (State partAt ancestors tree parentOf children step told)
theorem A_{o r:O}(hn:(nums o).Nodup)(e:o=a++x::r):(tree o x.number).length=1+(inside x.depth r).length:=by subst e;rw[ir hn,cj,DW]
theorem Lo{o r:O}(hn:(nums o).Nodup)(h0:x.number≠0)(e:o=a++x::r):children o x.number=(inside x.depth r).filter λy=>y.depth==x.depth+1:=by subst e;unfold Vanbkn.children;rw[ak h0,du hn]
theorem F1{o r:O}(hn:(nums o).Nodup)(e:o=a++x::r):parentOf o x.number=match upFrom x.depth a.reverse with
 |[]=>0
 |q::_=>q.number:=by
 subst e;unfold Vanbkn.parentOf;rw[lR hn,List.getLast?_reverse];cases upFrom x.depth a.reverse<;>rfl
theorem Lp{o:O}(h:i<o.length):o=o.take i++nd o i::o.drop (i+1)/\ (o.take i).length=i:=by refine⟨?_,by rw[bg];lia⟩;have:nd o i=o[i]:=vU (c8 h);rw[this];simp
theorem pY{p:Nat}(hn:(nums l).Nodup)(h:l[p]?=some x):(l.takeWhile λy=>y.number !=x.number)=l.take p/\ (l.dropWhile λy=>y.number !=x.number)=x::l.drop (p+1):=by
 obtain⟨hp,hx⟩:=dm.mp h;have e:l=l.take p++x::l.drop (p+1):=by rw[<-hx];simp
 have fo:∀y∈l.take p,(y.number !=x.number)=true:=λy hy=>by rw[e] at hn;have:=(gr hn).1 y hy;simpa using this
 constructor
 .conv=>lhs;rw[e]
  rw[tH fo,mZ,ak (by simp),pz]
 .conv=>lhs;rw[e]
  rw[Kx fo,List.dropWhile_cons,ak (by simp)]
theorem A'{p:Nat}(hn:(nums l).Nodup)(h:l[p]?=some x):stepFrom l x.number true=match l[p+1]? with
 |some y=>y.number
 |none=>0:=by
 unfold stepFrom;rw[aq rfl,(pY hn h).2,List.drop_succ_cons,zP];have:l[p+1]?=(l.drop (p+1)).head?:=by rw[Fl]
 rw[this];cases l.drop (p+1)<;>rfl
theorem CU(hn:(nums l).Nodup)(h:l[0]?=some x):stepFrom l x.number false=0:=by unfold stepFrom;rw[ak (by decide),(pY hn h).1];rfl
theorem CV{q:Nat}(hn:(nums l).Nodup)(h:l[q+1]?=some x)(hy:l[q]?=some y):stepFrom l x.number false=y.number:=by unfold stepFrom;rw[ak (by decide),(pY hn h).1,Hb,hy];simp
theorem F2{o:O}(hn:(nums o).Nodup):(nums (visible o)).Nodup:=lS (List.filter_sublist ..) hn
theorem CW{o:O}(hn:(nums o).Nodup){p:Nat}(h:(gU o)[p]?=some i):(visible o)[p]?=some (nd o i):=by rw[<-(lb hn).1,gW,h];rfl
theorem Lq{o:O}(hn:(nums o).Nodup){r:O}(e:o=a++x::r):((visible o).any λy=>y.number==x.number)=decide (a.length∈gU o):=by
 rw[GP,mi,dN];constructor
 .rintro⟨y,hy,WA⟩;rw[<-(lb hn).1] at hy;obtain⟨j,hj,rfl⟩:=fc.mp hy;have Cr:=(lb hn).2 j hj;have h1:o[j]?=some (nd o j):=by rw[c8 Cr,vU (c8 Cr)]
  have h2:o[a.length]?=some x:=by rw[e];exact cX
  have:nd o j=x:=nR hn (cI h1) (cI h2) WA;rw[this] at h1;have:=yZ hn h1 h2;rw[<-this];exact hj
 .intro h;refine⟨x,?_,rfl⟩;rw[<-(lb hn).1];refine fc.mpr ⟨a.length,h,?_⟩;rw[e];exact fN
open Vanbkn (State has)
theorem Ba{r:Text}(h:(bI (c::r)).2≠0):2<=(bI (c::r)).1:=by
 unfold bI at h⊢;split
 .exact aQ _
 .next h1=>
  rw[ak h1] at h;split
  .next h2=>
   rw[aq h2] at h;show 2<=1+bU ((c::r).drop 1);cases e:bU ((c::r).drop 1) with
   |zero=>exfalso;apply h;show natOf (((c::r).drop 1).take (bU ((c::r).drop 1)))=0;rw[e];rfl
   |succ n=>lia
  .next h2=>rw[ak h2] at h;exact absurd rfl h
theorem tX(l:List (Nat×Text))(txt:Text)(hl:∀q∈l,q.2.length<=24):∀(k i:Nat)(t:Text),((bJ k i t).flatMap (dO l txt)).length<=12*t.length
 |k,i,[]=>by rw[parts_nil];simp
 |0,i,c::r=>by show([]:List Nat).length<=_;simp
 |k+1,i,c::r=>by
  rw[eG,ny,a_];have ih:=tX l txt hl k (i+(bI (c::r)).1) ((c::r).drop (bI (c::r)).1);rw[dC] at ih;have h1:=zj (c:=c) (r:=r);have h2:=step_pos (c::r);have h3:(dO l txt (i,i+(bI (c::r)).1,(bI (c::r)).2)).length<=12*(bI (c::r)).1:=by
   by_cases h0:(bI (c::r)).2=0
   .unfold dO;rw[aq h0,bg]
    lia
   .have:=Ba h0;have:=o9 l txt (i,i+(bI (c::r)).1,(bI (c::r)).2) hl
    lia
  lia
theorem Bb{l:List (Nat×Text)}(hl:∀q∈l,q.2.length<=24)(t:Text):(shownWith l t).length<=12*t.length:=by rw[<-kO];exact tX l t hl t.length 0 t
theorem Bc{l:List (Nat×Text)}(hl:∀q∈l,∀c∈q.2,35<=c/\ c<=57)(t:Text)(ht:∀c∈t,32<=c/\ c<=126):∀c∈shownWith l t,c<=255:=λc hc=>by
 rw[<-kO] at hc;obtain⟨p,hp,hc⟩:=List.mem_flatMap.mp hc;unfold dO at hc;split at hc
 .have:=ht c (zS (ku hc))
  lia
 .cases e:labelIn l p.2.2 with
  |none=>rw[e] at hc;simp at hc;lia
  |some v=>
   rw[e] at hc;unfold labelIn at e;cases f:l.find? (λx=>x.1==p.2.2) with
   |none=>rw[f] at e;cases e
   |some q=>
    rw[f] at e;cases e;have:=hl q (xC f) c hc
    lia
theorem uJ(o:O)(k:Nat):has o k=(c9 o (k:Int)).isSome:=by
 unfold Vanbkn.has Vanbkn.find c9;rw[List.il k]
 where
 List.il (k:Nat):(o.find? λx=>x.number==k).isSome=(o.findIdx? λx=>decide ((x.number:Int)=(k:Int))).isSome:=by
  rw[GP,List.find?_isSome,List.findIdx?_isSome,NY];constructor
  .rintro⟨x,hx,h⟩;have:x.number=k:=by simpa using h
   exact⟨x,hx,aR (by lia)⟩
  .rintro⟨x,hx,h⟩;have:=iY h;exact⟨x,hx,by simp;lia⟩
theorem wc{t:List Int}{y:Text}(hy:∀c∈y,c<=255):holds (textOf t) y=true↔∃i,i+t.length<=y.length/\ ((y.drop i).take t.length).map (λc:Nat=>(c:Int))=t:=by
 rw[holds_iff];have hl:(textOf t).length=t.length:=aS _;have hs:∀i,∀c∈(y.drop i).take t.length,c<=255:=λi c hc=>hy c (zS (ku hc));constructor
 .rintro⟨i,h1,h2⟩;rw[hl] at h2;refine⟨i,?_,(iu (hs i)).mp h2⟩;have:=c_ List.length h2;rw[bg,dC,hl] at this
  lia
 .rintro⟨i,h1,h2⟩;refine⟨i,by lia,?_⟩;rw[hl];exact(iu (hs i)).mpr h2
end Ob
namespace Ob
open PySem PySem.W PyProof.Rows
variable{i j:Nat}
variable{m:Nat}
variable{Q:Nat×Array Nat->Prop}
section
variable{n:Nat}{lt:Nat->Nat->Bool}
def qL(n:Nat)(lt:Nat->Nat->Bool){α:Type}:KasT α->(α->Prop)->Prop
 | .ret a,Q=>Q a
 | .ask i j k,Q=>i<n/\ j<n/\ qL n lt (k (lt i j)) Q
theorem qL.bind{α β:Type}{f:α->KasT β}{Q:β->Prop}:∀{t:KasT α},qL n lt t (λa=>qL n lt (f a) Q)->qL n lt (t.bind f) Q
 | .ret _,h=>h
 | .ask _ _ k,h=>⟨h.1,h.2.1,qL.bind (t:=k _) h.2.2⟩
structure xi(lt:Nat->Nat->Bool):Prop where
 Z3:∀i,lt i i=false
 tr:∀i j k,lt i j=true->lt j k=true->lt i k=true
 ng:∀i j k,lt i k=true->lt i j=true\/ lt j k=true
def Bf(lt:Nat->Nat->Bool)(i j:Nat):Prop:=lt i j=true\/ (lt i j=false/\ lt j i=false/\ i<j)
theorem xi.WB(S:xi lt)(h:lt i j=true):lt j i=false:=by
 cases e:lt j i with
 |false=>rfl
 |true=>have:=S.tr _ _ _ h e;rw[S.Z3] at this;cases this
theorem Bf.no(S:xi lt)(h:Bf lt i j):lt j i=false:=by
 rcases h with h|h
 .exact S.WB h
 .exact h.2.1
theorem Bf.trans(S:xi lt){k:Nat}(h:Bf lt i j)(h2:Bf lt j k):Bf lt i k:=by
 rcases h with h|⟨h,h',hl⟩
 .rcases h2 with g|⟨g,g',_⟩
  .exact .inl (S.tr _ _ _ h g)
  .rcases S.ng i k j h with q|q
   .exact .inl q
   .rw[g'] at q;cases q
 .rcases h2 with g|⟨g,g',gl⟩
  .rcases S.ng j i k g with q|q
   .rw[h'] at q;cases q
   .exact .inl q
  .refine .inr ⟨?_,?_,by lia⟩
   .cases e:lt i k with
    |false=>rfl
    |true=>
     rcases S.ng i j k e with q|q
     .rw[h] at q;cases q
     .rw[g] at q;cases q
   .cases e:lt k i with
    |false=>rfl
    |true=>
     rcases S.ng k j i e with q|q
     .rw[g'] at q;cases q
     .rw[h'] at q;cases q
theorem IF(S:xi lt)(h:lt j i=false)(hl:i<j):Bf lt i j:=by
 cases e:lt i j with
 |true=>exact .inl e
 |false=>exact .inr ⟨e,h,hl⟩
abbrev Gp(p:Array Nat)(i:Nat):Nat:=p.getD i 0
theorem yi{p:Array Nat}(h:i<p.size):p[i]?=some (Gp p i):=by simp[Gp,Array.getD,h]
theorem Bd{p:Array Nat}{v:Nat}(h:p[i]?=some v):Gp p i=v:=by have hl:i<p.size:=(Array.getElem?_eq_some_iff.mp h).1;rw[yi hl] at h;exact di h
theorem je{p:Array Nat}{k:Nat}(hj:j<=p.size)(hk:k<p.size):Gp (kas_rev p i j) k=if i<=k/\ k<j then Gp p (i+j - 1 - k) else Gp p k:=by
 apply Bd;unfold kas_rev;rw[getElem?_mirror_all hj];by_cases h:i<=k/\ k<j
 .rw[aq h,aq h];exact yi (by lia)
 .rw[ak h,ak h];exact yi hk
theorem zl{p:Array Nat}{k l:Nat}(hk:k<p.size)(hl:l<=k)(hi:i<p.size):Gp (bubble p k (k - l)) i=if i=l then Gp p k else if l<i/\ i<=k then Gp p (i - 1) else Gp p i:=by
 apply Bd;rw[getElem?_bubble hk (k - l) (by lia),show k - (k - l)=l by lia];by_cases h:i=l
 .rw[aq h,aq h];exact yi hk
 .rw[ak h,ak h];by_cases h2:l<i/\ i<=k
  .rw[aq h2,aq h2];exact yi (by lia)
  .rw[ak h2,ak h2];exact yi hi
def Up(lt:Nat->Nat->Bool)(p:Array Nat)(m:Nat):Prop:=∀i j,i<j->j<m->Bf lt (Gp p i) (Gp p j)
structure wd(p:Array Nat)(n m:Nat):Prop where
 sz:p.size=n
 mn:m<=n
 hi:∀j,m<=j->j<n->Gp p j=j
 lo:∀j,j<m->Gp p j<m
theorem wd.below{p:Array Nat}(R:wd p n m)(h:j<n):Gp p j<n:=by
 by_cases e:j<m
 .have:=R.lo j e;have:=R.mn
  lia
 .rw[R.hi j (by lia) h];exact h
theorem wd.up{p:Array Nat}{m':Nat}(R:wd p n m)(h:m<=m')(h2:m'<=n):wd p n m':=⟨R.sz,h2,λj hj hn=>R.hi j (by lia) hn,λj hj=>by
 by_cases e:j<m
 .have:=R.lo j e;lia
 .rw[R.hi j (by lia) (by lia)];exact hj⟩
theorem wd.rev{p:Array Nat}(R:wd p n m)(ur:i<=j)(hj:j<=m):wd (kas_rev p i j) n m:=by
 have hs:=R.sz;have hm:=R.mn;refine⟨by unfold kas_rev;rw[mirror_size];exact hs,hm,λk hk hn=>?_,λk hk=>?_⟩
 .rw[je (by lia) (by lia),ak (by lia)];exact R.hi k hk hn
 .rw[je (by lia) (by lia)];split
  .exact R.lo _ (by lia)
  .exact R.lo k hk
theorem CY(S:xi lt){p:Array Nat}{m0:Nat}(R:wd p n m0):∀(f k:Nat){Q:Nat->Prop},1<=k->m0<=k->k+f<=n->Up lt p k->(∀m,k<=m->m<=k+f->Up lt p m->(m<k+f->lt (Gp p m) (Gp p (m - 1))=true)->Q m)->qL n lt (kas_asc p f k) Q
 |0,k,Q,h1,h0,hn,hU,hQ=>hQ k (aQ _) (aQ _) hU λh=>by lia
 |f+1,k,Q,h1,h0,hn,hU,hQ=>by
  show _<n/\ _<n/\ qL n lt (if lt (Gp p k) (Gp p (k - 1))=true then .ret k else kas_asc p f (k+1)) Q;refine⟨R.below (by lia),R.below (by lia),?_⟩;cases e:lt (Gp p k) (Gp p (k - 1)) with
  |true=>rw[aq rfl];exact hQ k (aQ _) (by lia) hU λ_=>e
  |false=>
   rw[ak (by decide)];have hk:Bf lt (Gp p (k - 1)) (Gp p k):=by refine IF S e ?_;rw[R.hi k h0 (by lia)];have:=(R.up h0 (by lia)).lo (k - 1) (by lia);exact this
   have zm:Up lt p (k+1):=λi j ur hj=>by
    by_cases SF:j<k
    .exact hU i j ur SF
    .have:j=k:=by lia
     subst this;by_cases hi:i=j - 1
     .rw[hi];exact hk
     .exact(hU i (j - 1) (by lia) (by lia)).trans S hk
   exact CY S R f (k+1) (by lia) (by lia) (by lia) zm λm UM Yd Z4 m9=>hQ m (by lia) (by lia) Z4 λh=>m9 (by lia)
structure Dn(lt:Nat->Nat->Bool)(p:Array Nat)(k q:Nat):Prop where
 qk:q+1<=k
 d1:∀i j,i<j->j<k - (q+1)->Bf lt (Gp p j) (Gp p i)
 d2:∀i j,i<k - (q+1)->k - (q+1)<=j->j<k->lt (Gp p j) (Gp p i)=true
 d3:∀i j,k - (q+1)<=i->i<j->j<k->lt (Gp p i) (Gp p j)=false/\ lt (Gp p j) (Gp p i)=false/\ Gp p i<Gp p j
def Down(lt:Nat->Nat->Bool)(p:Array Nat)(k:Nat):Prop:=∀i j,i<j->j<k->Bf lt (Gp p j) (Gp p i)
theorem Dn.zero{p:Array Nat}{k:Nat}(D:Dn lt p k 0):Down lt p k:=λi j ur hj=>by
 by_cases h:j<k - 1
 .exact D.d1 i j ur h
 .exact .inl (D.d2 i j (by lia) (by lia) hj)
theorem Dn.turn{p:Array Nat}{k q:Nat}(D:Dn lt p k q)(R:wd p n k):Down lt (kas_rev p (k - (q+1)) k) k:=λi j ur hj=>by
 have hs:=R.sz;have hm:=R.mn;have hq:=D.qk;rw[je (by lia) (by lia),je (by lia) (by lia)];by_cases WC:k - (q+1)<=j
 .rw[aq ⟨WC,hj⟩];by_cases Z5:k - (q+1)<=i
  .rw[aq ⟨Z5,by lia⟩];have:=D.d3 (k - (q+1)+k - 1 - j) (k - (q+1)+k - 1 - i) (by lia) (by lia) (by lia);exact .inr this
  .rw[ak (by lia)];exact .inl (D.d2 i _ (by lia) (by lia) (by lia))
 .rw[ak (by lia),ak (by lia)];exact D.d1 i j ur (by lia)
theorem uK(S:xi lt):∀(f:Nat)(p:Array Nat)(k q:Nat){Q:Array Nat×Nat×Nat->Prop},wd p n k->k+f<=n->Dn lt p k q->(∀p' k' q',wd p' n k'->Dn lt p' k' q'->k<=k'->k'<=k+f->p'.Perm p->Q (p',k',q'))->qL n lt (kas_desc f p k q) Q
 |0,p,k,q,Q,R,hn,D,hQ=>hQ p k q R D (aQ _) (aQ _) (QH _)
 |f+1,p,k,q,Q,R,hn,D,hQ=>by
  have hs:=R.sz;have hq:=D.qk;have Q0:Gp p k=k:=R.hi k (aQ _) (by lia);have R1:wd p n (k+1):=R.up (by lia) (by lia);show _<n/\ _<n/\ qL n lt (if lt (Gp p k) (Gp p (k - 1))=true then(if q>0 then kas_desc f (kas_rev p (k - (q+1)) k) (k+1) 0 else kas_desc f p (k+1) 0)
   else .ask (p.getD (k - 1) 0) (p.getD k 0) λd=>if d=true then .ret (p,k,q) else kas_desc f p (k+1) (q+1)) Q
  refine⟨R.below (by lia),R.below (by lia),?_⟩;have fresh:∀p':Array Nat,wd p' n (k+1)->Down lt p' k->(∀i,i<k->∃i',i'<k/\ Gp p' i=Gp p i')->Gp p' k=Gp p k->lt (Gp p k) (Gp p (k - 1))=true->Dn lt p' (k+1) 0:=λp' R' hD hg Z6 fH=>by
   refine⟨by lia,λi j ur hj=>hD i j ur (by lia),λi j hi Yh SG=>?_,λi j h1 h2 h3=>by lia⟩;have ej:j=k:=by lia
   subst ej;obtain⟨i',Kj,e⟩:=hg i (by lia);rw[e,Z6];by_cases h:i'<j - (q+1)
   .exact S.tr _ _ _ fH (D.d2 i' (j - 1) h (by lia) (by lia))
   .by_cases h2:i'=j - 1
    .rw[h2];exact fH
    .obtain⟨g1,g2,_⟩:=D.d3 i' (j - 1) (by lia) (by lia) (by lia);rcases S.ng _ (Gp p i') _ fH with z|z
     .exact z
     .rw[g1] at z;cases z
  cases e:lt (Gp p k) (Gp p (k - 1)) with
  |true=>
   rw[aq rfl];by_cases Ki:q>0
   .rw[aq Ki];have R2:=(R.rev (i:=k - (q+1)) (j:=k) (by lia) (aQ _)).up (show k<=k+1 by lia) (by lia);refine uK S f _ (k+1) 0 R2 (by lia) (fresh _ R2 (D.turn R) (λi hi=>?_) ?_ e) λp' k' q' a b c d pm=>hQ p' k' q' a b (by lia) (by lia) (pm.trans (mirror_perm _ _ _ _))
    .rw[je (by lia) (by lia)];split
     .exact⟨_,by lia,rfl⟩
     .exact⟨i,hi,rfl⟩
    .rw[je (by lia) (by lia),ak (by lia)]
   .rw[ak Ki];have:q=0:=by lia
    subst this;exact uK S f p (k+1) 0 R1 (by lia) (fresh p R1 D.zero (λi hi=>⟨i,hi,rfl⟩) rfl e) λp' k' q' a b c d pm=>hQ p' k' q' a b (by lia) (by lia) pm
  |false=>
   rw[ak (by decide)];show _<n/\ _<n/\ qL n lt (if lt (Gp p (k - 1)) (Gp p k)=true then .ret (p,k,q) else kas_desc f p (k+1) (q+1)) Q;refine⟨R.below (by lia),R.below (by lia),?_⟩;cases e2:lt (Gp p (k - 1)) (Gp p k) with
   |true=>rw[aq rfl];exact hQ p k q R D (aQ _) (by lia) (QH _)
   |false=>
    rw[ak (by decide)];refine uK S f p (k+1) (q+1) R1 (by lia) ⟨by lia,λi j ur hj=>D.d1 i j ur (by lia),λi j hi Yh SG=>?_,λi j h1 h2 h3=>?_⟩ λp' k' q' a b c d pm=>hQ p' k' q' a b (by lia) (by lia) pm
    .by_cases SF:j<k
     .exact D.d2 i j (by lia) (by lia) SF
     .have:j=k:=by lia
      subst this;have:=D.d2 i (j - 1) (by lia) (by lia) (by lia);rcases S.ng _ (Gp p j) _ this with z|z
      .rw[e2] at z;cases z
      .exact z
    .by_cases SF:j<k
     .exact D.d3 i j (by lia) h2 SF
     .have:j=k:=by lia
      subst this;by_cases hi:i=j - 1
      .subst hi;exact⟨e2,e,by rw[Q0];exact R.lo _ (by lia)⟩
      .obtain⟨g1,g2,g3⟩:=D.d3 i (j - 1) (by lia) (by lia) (by lia);refine⟨?_,?_,by rw[Q0];exact R.lo _ (by lia)⟩
       .cases z:lt (Gp p i) (Gp p j) with
        |false=>rfl
        |true=>
         rcases S.ng _ (Gp p (j - 1)) _ z with z|z
         .rw[g1] at z;cases z
         .rw[e2] at z;cases z
       .cases z:lt (Gp p j) (Gp p i) with
        |false=>rfl
        |true=>
         rcases S.ng _ (Gp p (j - 1)) _ z with z|z
         .rw[e] at z;cases z
         .rw[g2] at z;cases z
theorem Be(S:xi lt){p:Array Nat}{k:Nat}(R:wd p n k)(h1:1<=k)(D:Down lt p k)(hQ:∀m p',wd p' n m->Up lt p' m->p'.Perm p->1<=m->Q (m,p')):qL n lt (kas_tail3 k n p) Q:=by
 have hs:=R.sz;have hm:=R.mn;unfold kas_tail3;refine qL.bind ?_;have R2:=R.rev (i:=0) (j:=k) (a8 _) (aQ _);have U2:Up lt (kas_rev p 0 k) k:=λi j ur hj=>by rw[je (by lia) (by lia),je (by lia) (by lia),aq ⟨a8 _,by lia⟩,aq ⟨a8 _,hj⟩];exact D _ _ (by lia) (by lia)
 exact CY S R2 (n - k) k h1 (aQ _) (by lia) U2 λm a b c d=>hQ m _ (R2.up a (by lia)) c (mirror_perm _ _ _ _) (by lia)
theorem tY(S:xi lt){p:Array Nat}{k:Nat}(R:wd p n k)(h1:1<=k)(hk:k+1<=n)(D:Down lt p k)(fH:∀i,i<k->lt (Gp p k) (Gp p i)=true)(hQ:∀m p',wd p' n m->Up lt p' m->p'.Perm p->1<=m->Q (m,p')):qL n lt (kas_descPart k n p) Q:=by
 unfold kas_descPart;refine qL.bind ?_;refine uK S (n - (k+1)) p (k+1) 0 (R.up (by lia) hk) (by lia) ⟨by lia,λi j ur hj=>D i j ur (by lia),λi j hi Yh SG=>?_,λi j a b c=>by lia⟩ λp' k' q' R' D' c1 c2 pm=>?_
 .have:j=k:=by lia
  subst this;exact fH i (by lia)
 .show qL n lt (if q'>0 then kas_tail3 k' n (kas_rev p' (k' - (q'+1)) k') else kas_tail3 k' n p') Q;have hq:=D'.qk;by_cases Ki:q'>0
  .rw[aq Ki];exact Be S (R'.rev (by lia) (aQ _)) (by lia) (D'.turn R') λm p2 a b c d=>hQ m p2 a b (c.trans ((mirror_perm _ _ _ _).trans pm)) d
  .rw[ak Ki];have:q'=0:=by lia
   subst this;exact Be S R' (by lia) D'.zero λm p2 a b c d=>hQ m p2 a b (c.trans pm) d
theorem IG(S:xi lt)(h1:1<=n)(hQ:∀m p',wd p' n m->Up lt p' m->p'.Perm (List.range n).toArray->1<=m->Q (m,p')):qL n lt (kas_count n (List.range n).toArray) Q:=by
 have hg:∀j,j<n->Gp (List.range n).toArray j=j:=λj hj=>Bd (by simp[hj]);have R:wd (List.range n).toArray n 1:=⟨by simp,h1,λj _ hj=>hg j hj,λj hj=>by rw[hg j (by lia)];exact hj⟩;unfold kas_count;refine qL.bind ?_;refine CY S R (n - 1) 1 (aQ _) (aQ _) (by lia) (λi j ur hj=>by lia) λm a b U st=>?_;show qL n lt (if(m==n)=true then _ else _) Q;have Rm:=R.up a (by lia);by_cases hm:m=n
 .rw[aq (by simpa using hm)];exact hQ m _ Rm U (QH _) a
 .rw[ak (by simpa using hm)];have m9:=st (by lia);by_cases UM:m>1
  .rw[aq UM];show _<n/\ _<n/\ qL n lt (if lt (Gp (List.range n).toArray 0) (Gp (List.range n).toArray (m - 1))=true then _ else _) Q;refine⟨R.below (by lia),R.below (by lia),?_⟩;cases e:lt (Gp (List.range n).toArray 0) (Gp (List.range n).toArray (m - 1)) with
   |true=>rw[aq rfl];exact hQ m _ Rm U (QH _) a
   |false=>
    rw[ak (by decide)];have heq:∀i,i<m->lt (Gp (List.range n).toArray i) (Gp (List.range n).toArray (m - 1))=false:=λi hi=>by
     cases z:lt (Gp (List.range n).toArray i) (Gp (List.range n).toArray (m - 1)) with
     |false=>rfl
     |true=>
      by_cases Z7:i=0
      .rw[Z7,e] at z;cases z
      .have b0:=U 0 i (by lia) hi;rcases b0 with b0|⟨b0,b1,_⟩
       .have:=S.tr _ _ _ b0 z;rw[e] at this;cases this
       .rcases S.ng _ (Gp (List.range n).toArray 0) _ z with q|q
        .rw[b1] at q;cases q
        .rw[e] at q;cases q
    have hsz:(List.range n).toArray.size=n:=by simp
    have Rr:=Rm.rev (i:=0) (j:=m) (a8 _) (aQ _);refine tY S Rr a (by lia) (λi j ur hj=>?_) (λi hi=>?_) λm2 p2 r1 r2 r3 r4=>hQ m2 p2 r1 r2 (r3.trans (mirror_perm _ _ _ _)) r4
    .rw[je (by lia) (by lia),je (by lia) (by lia),aq ⟨a8 _,hj⟩,aq ⟨a8 _,by lia⟩];exact U _ _ (by lia) (by lia)
    .rw[je (by lia) (by lia),je (by lia) (by lia),ak (by lia),aq ⟨a8 _,hi⟩];rcases S.ng _ (Gp (List.range n).toArray (0+m - 1 - i)) _ m9 with q|q
     .exact q
     .rw[heq _ (by lia)] at q;cases q
  .rw[ak UM];have:m=1:=by lia
   subst this;exact tY S R (aQ _) (by lia) (λi j ur hj=>by lia) (λi hi=>by
    have:i=0:=by lia
    subst this;exact m9) hQ
theorem we(S:xi lt){p:Array Nat}{k:Nat}(R:wd p n k)(hk:k<n)(U:Up lt p k):∀(f l r:Nat){Q:Nat->Prop},l<=r->r<=k->r - l<=f->(∀i,i<l->lt (Gp p k) (Gp p i)=false)->(∀i,r<=i->i<k->lt (Gp p k) (Gp p i)=true)->
 (∀m,m<=k->(∀i,i<m->lt (Gp p k) (Gp p i)=false)->(∀i,m<=i->i<k->lt (Gp p k) (Gp p i)=true)->Q m)->qL n lt (kas_place p k f l r) Q
 |0,l,r,Q,h1,h2,h3,a,b,hQ=>by
  have:l=r:=by lia
  subst this;exact hQ l h2 a b
 |f+1,l,r,Q,h1,h2,h3,a,b,hQ=>by
  show qL n lt (if l>=r then .ret l else .ask (p.getD k 0) (p.getD ((l+r) / 2) 0) λc=>if c=true then kas_place p k f l ((l+r) / 2) else kas_place p k f ((l+r) / 2+1) r) Q;by_cases h:l>=r
  .rw[aq h];have:l=r:=by lia
   subst this;exact hQ l h2 a b
  .rw[ak h];show _<n/\ _<n/\ qL n lt (if lt (Gp p k) (Gp p ((l+r) / 2))=true then kas_place p k f l ((l+r) / 2) else kas_place p k f ((l+r) / 2+1) r) Q;refine⟨R.below hk,R.below (by lia),?_⟩;cases e:lt (Gp p k) (Gp p ((l+r) / 2)) with
   |true=>
    rw[aq rfl];refine we S R hk U f l ((l+r) / 2) (by lia) (by lia) (by lia) a (λi hi Z8=>?_) hQ;by_cases IH:i=(l+r) / 2
    .rw[IH];exact e
    .have:=(U ((l+r) / 2) i (by lia) Z8).no S;rcases S.ng _ (Gp p i) _ e with q|q
     .exact q
     .rw[this] at q;cases q
   |false=>
    rw[ak (by decide)];refine we S R hk U f ((l+r) / 2+1) r (by lia) h2 (by lia) (λi hi=>?_) b hQ;by_cases IH:i=(l+r) / 2
    .rw[IH];exact e
    .have:=(U i ((l+r) / 2) (by lia) (by lia)).no S;cases z:lt (Gp p k) (Gp p i) with
     |false=>rfl
     |true=>
      rcases S.ng _ (Gp p ((l+r) / 2)) _ z with q|q
      .rw[e] at q;cases q
      .rw[this] at q;cases q
theorem II(S:xi lt):∀(f:Nat)(p:Array Nat)(k:Nat){Q:Array Nat->Prop},wd p n k->k+f<=n->Up lt p k->(∀p',p'.size=n->Up lt p' (k+f)->p'.Perm p->Q p')->qL n lt (kas_bin f p k) Q
 |0,p,k,Q,R,hn,U,hQ=>hQ p R.sz U (QH _)
 |f+1,p,k,Q,R,hn,U,hQ=>by
  have hs:=R.sz;have Q0:Gp p k=k:=R.hi k (aQ _) (by lia);show qL n lt ((kas_place p k k 0 k).bind λl=>kas_bin f (bubble p k (k - l)) (k+1)) Q;refine qL.bind ?_;refine we S R (by lia) U k 0 k (a8 _) (aQ _) (by lia) (λi hi=>by lia) (λi h1 h2=>by lia) λl hl a b=>?_;have R2:wd (bubble p k (k - l)) n (k+1):=by
   refine⟨by rw[bubble_size];exact hs,by lia,λj h1 h2=>?_,λj hj=>?_⟩
   .rw[zl (by lia) hl (by lia),ak (by lia),ak (by lia)];exact R.hi j (by lia) h2
   .rw[zl (by lia) hl (by lia)];split
    .lia
    .split
     .have:=R.lo (j - 1) (by lia);lia
     .have:=R.lo j (by lia);lia
  refine II S f _ (k+1) R2 (by lia) (λi j ur hj=>?_) λp' c1 c2 c3=>hQ p' c1 (by rw[show k+(f+1)=k+1+f by lia];exact c2) (c3.trans (bubble_perm _ _ _));rw[zl (by lia) hl (by lia),zl (by lia) hl (by lia)];by_cases m_:i=l
  .rw[aq m_,ak (by lia),aq (by lia)];exact .inl (b _ (by lia) (by lia))
  .rw[ak m_];by_cases Cr:j=l
   .rw[aq Cr,ak (by lia)];refine IF S (a i (by lia)) ?_;rw[Q0];exact R.lo i (by lia)
   .rw[ak Cr];by_cases IH:l<i/\ i<=k
    .rw[aq IH,aq (by lia)];exact U _ _ (by lia) (by lia)
    .rw[ak IH];by_cases SG:l<j/\ j<=k
     .rw[aq SG];exact U _ _ (by lia) (by lia)
     .rw[ak SG];exact U _ _ ur (by lia)
theorem Lr(S:xi lt)(h1:1<=n){Q:Array Nat->Prop}(hQ:∀p',p'.size=n->Up lt p' n->p'.Perm (List.range n).toArray->Q p'):qL n lt (kas_sort n) Q:=by
 unfold kas_sort;refine qL.bind ?_;refine IG S h1 λm p R U pm hm=>?_;show qL n lt (if m<n then kas_bin (n - max m 1) p (max m 1) else .ret p) Q;have e:max m 1=m:=by lia
 by_cases h:m<n
 .rw[aq h,e];exact II S (n - m) p m R (by lia) U λp' a b c=>hQ p' a (by rw[show m+(n - m)=n by lia] at b;exact b) (c.trans pm)
 .rw[ak h];have:=R.mn;have:m=n:=by lia
  subst this;exact hQ p R.sz U pm
end
end Ob
namespace Ob
section
variable{lt:Nat->Nat->Bool}
def insI(lt:Nat->Nat->Bool)(i:Nat):List Nat->List Nat
 |[]=>[i]
 |j::r=>if lt j i=true then j::insI lt i r else i::j::r
theorem insI_perm(i:Nat):∀l:List Nat,(insI lt i l).Perm (i::l)
 |[]=>Fh _
 |j::r=>by
  unfold insI;split
  .exact((insI_perm i r).cons j).trans (List.Perm.swap i j r)
  .exact Fh _
theorem Bg(S:xi lt){i:Nat}:∀{l:List Nat},(∀j∈l,i<j)->l.Pairwise (Bf lt)->(insI lt i l).Pairwise (Bf lt)
 |[],_,_=>List.pairwise_singleton ..
 |j::r,hi,h=>by
  have h':=xE.mp h;unfold insI;cases e:lt j i with
  |true=>
   rw[aq rfl];refine xE.mpr ⟨λk hk=>?_,Bg S (λk hk=>hi k (bu _ hk)) h'.2⟩;rcases bY.mp ((insI_perm i r).mem_iff.mp hk) with rfl|hk
   .exact .inl e
   .exact h'.1 k hk
  |false=>
   rw[ak (by decide)];have b:Bf lt i j:=IF S e (hi j (cb ..));refine xE.mpr ⟨λk hk=>?_,h⟩;rcases bY.mp hk with rfl|hk
   .exact b
   .exact b.trans S (h'.1 k hk)
theorem pZ:∀l:List Nat,(l.foldr (insI lt) []).Perm l
 |[]=>Fh _
 |i::r=>(insI_perm i _).trans ((pZ r).cons i)
theorem yj(S:xi lt):∀(k s:Nat),((List.range' s k).foldr (insI lt) []).Pairwise (Bf lt)
 |0,s=>List.Pairwise.nil
 |k+1,s=>by
  rw[List.range'_succ];refine Bg S (λj hj=>?_) (yj S k (s+1));have:=(pZ (lt:=lt) (List.range' (s+1) k)).mem_iff.mp hj;rw[G9] at this
  lia
theorem EJ(S:xi lt):∀{l m:List Nat},l.Perm m->l.Pairwise (Bf lt)->m.Pairwise (Bf lt)->l=m
 |[],m,p,_,_=>p.nil_eq
 |a::l,[],p,_,_=>by have:=p.length_eq;cases this
 |a::l,b::m,p,h,g=>by
  have h':=xE.mp h;have g':=xE.mp g;have e:a=b:=by
   apply Rl;intro ne;have ha:a∈m:=by
    rcases bY.mp (p.mem_iff.mp (cb ..)) with q|q
    .exact absurd q ne
    .exact q
   have hb:b∈l:=by
    rcases bY.mp (p.mem_iff.mpr (cb ..)) with q|q
    .exact absurd q.symm ne
    .exact q
   have b1:=h'.1 b hb;have b2:=g'.1 a ha;have n1:=b1.no S;have n2:=b2.no S;rcases b1 with b1|⟨_,_,b1⟩
   .rw[n2] at b1;cases b1
   .rcases b2 with b2|⟨_,_,b2⟩
    .rw[n1] at b2;cases b2
    .lia
  subst e;rw[EJ S ((List.perm_cons a).mp p) h'.2 g'.2]
theorem Ls{p:Array Nat}{n:Nat}(hs:p.size=n)(U:Up lt p n):p.toList.Pairwise (Bf lt):=by
 rw[DQ];intro i j hi hj ur;have Kj:i<p.size:=by simpa using hi
 have SH:j<p.size:=by simpa using hj
 have:=U i j ur (by lia);have e1:Gp p i=p.toList[i]:=Bd (by simp[Kj]);have e2:Gp p j=p.toList[j]:=Bd (by simp[SH]);rw[e1,e2] at this;exact this
section
variable{α:Type}(less:α->α->Bool)(d:α)
def jI(t:α):List α->List α
 |[]=>[t]
 |u::r=>if less u t=true then u::jI t r else t::u::r
theorem ins_map(g:Nat->α)(hl:∀i j,lt i j=less (g i) (g j))(i:Nat):∀l:List Nat,(insI lt i l).map g=jI less (g i) (l.map g)
 |[]=>rfl
 |j::r=>by
  unfold insI;show _=if less (g j) (g i)=true then g j::jI less (g i) (r.map g) else g i::g j::r.map g;rw[hl];split
  .rw[cy,ins_map g hl i r]
  .rfl
theorem yk(ts:List α)(hl:∀i j,lt i j=less (ts.getD i d) (ts.getD j d)):∀(k s:Nat),s+k=ts.length->((List.range' s k).foldr (insI lt) []).map (λi=>ts.getD i d)=(ts.drop s).foldr (jI less) []
 |0,s,h=>by rw[uV (by lia)];rfl
 |k+1,s,h=>by
  have hs:s<ts.length:=by lia
  rw[List.range'_succ,List.foldr_cons,ins_map less (λi=>ts.getD i d) hl,yk ts hl k (s+1) (by lia),rS hs,List.foldr_cons];congr 1;show ts.getD s d=ts[s];rw[uh,c8 hs];rfl
theorem F3(ts:List α)(hl:∀i j,lt i j=less (ts.getD i d) (ts.getD j d))(S:xi lt){p:Array Nat}(hs:p.size=ts.length)(U:Up lt p ts.length)(pm:p.Perm (List.range ts.length).toArray):p.toList.map (λi=>ts.getD i d)=ts.foldr (jI less) []:=by
 have e:p.toList=(List.range' 0 ts.length).foldr (insI lt) []:=by refine EJ S ?_ (Ls hs U) (yj S _ 0);have:=pm.toList;rw[zX,List.range_eq_range'] at this;exact this.trans (pZ _).symm
 rw[e,yk less d ts hl ts.length 0 (by lia),zP]
end
end
end Ob
namespace Ob
open PySem PySem.Spec PyProof.Rows L2
open PySem.Builtin PySem.Builtin.Str
open AutoSeq1 (wpAny_loadPart')
theorem PD(l:Addr)(its:Array Value)(n:Nat)(WD:Option Addr)(sl:Array (Option Value)):
 Meets (Builtin.«enumerate.__new__» ⟨[.type "enumerate", .ref l],[]⟩) λ_ R s=>s.heap.get? l=some {cls:= .type "tuple",dict:=WD,data:= .seq its n,slots:=sl}/\
  R (.ok (.ret (.ref (s.heap.push {cls:= .type "tuple_iterator",data:= .fields #[.ref l, .int 0 0]}).objs.size)))
   {s with heap:=(s.heap.push {cls:= .type "tuple_iterator",data:= .fields #[.ref l, .int 0 0]}).push {cls:= .type "enumerate",data:= .fields #[.none, .bool false, .ref s.heap.objs.size,rawInt 0, .none, .none]}}:=
 .of_wp λprog w A R s h=>by
  obtain⟨hp,g,d,tk,os⟩:=s;obtain⟨hl,h⟩:=h;have Ll:=sub_enumerate;have hT:Heap.IsTuple (Shared.heap ⟨hp,g,d,tk,os⟩) l its:=⟨_,hl,rfl,n,rfl⟩
  wp_walk using jT hl
  refine wpAny_stack_any λst=>cW ?_;split
  .rename_i c _ _ _ _ _;cases(c==Value.type "enumerate")<;>(wp_walk using jT hl,wpAny_pyIter_tuple hT;exact⟨_,rfl,h⟩)
  .wp_walk using jT hl,wpAny_pyIter_tuple hT
   exact⟨_,rfl,h⟩
variable{l:Addr}{its:Array Value}{Q:Value->Shared->Prop}
variable{it:Addr}{i:Nat}
section
variable{prog:Program}{w:World}{A:Around}{E:Value->Shared->Prop}{s:Shared}
theorem Lu(hT:s.heap.IsTuple l its)(h:∀h',IsEnum h' (s.heap.objs.size+1) s.heap.objs.size 0 .none->h'.IsTupleIter s.heap.objs.size l 0->h'.objs.size=s.heap.objs.size+2->(∀b o,s.heap.get? b=some o->h'.get? b=some o)->Q (.ref (s.heap.objs.size+1)) {s with heap:=h'}):
 wpAny (model prog w) A (call (.type "enumerate") [.ref l]) Q E s:=by
 obtain⟨⟨c,WD,dt,sl⟩,hl,hc,n,hd⟩:=hT;have hc:c= .type "tuple":=hc;have hd:dt= .seq its n:=hd;subst hc hd;refine callType_new F.called_enumerate (by decide) (F.typeCall_enumerate_1 _) (F.newCall_enumerate_1 _) (λobj=>F.args_object_init_2 obj _) F.entry_enumerate_new (PD l its n WD sl) ⟨hl,?_⟩;generalize eh:s.heap.push {cls:= .type "tuple_iterator",data:= .fields #[.ref l, .int 0 0]}=h1;have hz:h1.objs.size=s.heap.objs.size+1:=by rw[<-eh];exact pO ..
 have hi:h1.IsTupleIter s.heap.objs.size l 0:=by rw[<-eh];exact⟨_,jD _ rfl,rfl,rfl⟩
 have hk:∀b o,s.heap.get? b=some o->h1.get? b=some o:=λb o x=>by rw[<-eh];exact gq _ x
 show _/\ _;rw[hz];have he:IsEnum (h1.push {cls:= .type "enumerate",data:= .fields #[.none, .bool false, .ref s.heap.objs.size,rawInt 0, .none, .none]}) (s.heap.objs.size+1) s.heap.objs.size 0 .none:=by have:=jD h1 (o:={cls:= .type "enumerate",data:= .fields #[.none, .bool false, .ref s.heap.objs.size,rawInt 0, .none, .none]}) rfl;rw[hz] at this;exact this
 obtain⟨io,i1,i2,i3⟩:=hi;exact⟨⟨_,he,rfl⟩,h _ he ⟨io,gq _ i1,i2,i3⟩ (by rw[pO,hz]) λb o x=>gq _ (hk b o x)⟩
theorem Lv{x:Value}(hit:s.heap.IsTupleIter it l i)(hl:s.heap.IsTuple l its)(hx:its[i]?=some x)(hQ:∀h',h'.IsTupleIter it l (i+1)->Heap.SameBut it s.heap h'->Q x {s with heap:=h'}):wpAny (model prog w) A (Builtin.SmallTypes.nextOf (.ref it)) Q E s:=by obtain⟨o,ho,hc,hd⟩:=id hit;obtain⟨ol,WE,_,nl,Kk⟩:=hl;unfold Builtin.SmallTypes.nextOf;refine aY (wpAny_callSpecial?_slot (name:=Str.ofString "__next__") hit.typeIs Kt (wpAny_call_entry Kt hit.typeIs F.entry_tuple_iterator_next ?_ (F.args_tuple_iterator_next_1 _)));show wpAny _ _ (field (.ref it) 0>>=_) _ _ s;refine aY (wpAny_field ho hd (x:= .ref l) rfl ?_);show wpAny _ _ (if(Value.ref l==Value.none)=true then _ else _) _ _ s;rw[ak (by intro q;cases q)];show wpAny _ _ (field (.ref it) 1>>=_) _ _ s;refine aY (wpAny_field ho hd (x:= .int i 0) rfl ?_);show wpAny _ _ (seqItems? (.ref l)>>=_) _ _ s;refine aY (wpAny_seqItems WE Kk ?_);simp only[zO,hx];refine aY (wpAny_setField ho hd (by simp) (cW ⟨x,rfl,cW (hQ _ ⟨_,Heap.get?_update_self _ ho (Obj.isFreed_of_fields (Obj.data_mapFields hd _)),(Obj.cls_mapFields ..).trans hc,?_⟩ (Fg ..))⟩));rw[Obj.data_mapFields hd];simp[rawInt]
theorem PF(hh:A.handled=none)(hit:s.heap.IsTupleIter it l i)(hl:s.heap.IsTuple l its)(hx:its[i]?=none)(hE:∀h' e,Heap.ExtBut it s.heap h'->(∃o,h'.get? e=some o/\ o.cls= .type "StopIteration")->E (.ref e) {s with heap:=h'}):wpAny (model prog w) A (Builtin.SmallTypes.nextOf (.ref it)) Q E s:=by
 obtain⟨o,ho,hc,hd⟩:=id hit;obtain⟨ol,WE,_,nl,Kk⟩:=hl;unfold Builtin.SmallTypes.nextOf;refine aY (wpAny_callSpecial?_slot (name:=Str.ofString "__next__") hit.typeIs Kt (wpAny_call_entry Kt hit.typeIs F.entry_tuple_iterator_next ?_ (F.args_tuple_iterator_next_1 _)));show wpAny _ _ (field (.ref it) 0>>=_) _ _ s;refine aY (wpAny_field ho hd (x:= .ref l) rfl ?_);show wpAny _ _ (if(Value.ref l==Value.none)=true then _ else _) _ _ s;rw[ak (by intro q;cases q)];show wpAny _ _ (field (.ref it) 1>>=_) _ _ s;refine aY (wpAny_field ho hd (x:= .int i 0) rfl ?_);show wpAny _ _ (seqItems? (.ref l)>>=_) _ _ s;refine aY (wpAny_seqItems WE Kk ?_);simp only[zO,hx];refine aY (wpAny_rule (aY (wpAny_setField ho hd (by simp) ?_)));show wpAny _ _ (newExc (.type "StopIteration") []>>=_) _ _ _;refine aY ?_;simp only[newExc,newTuple];refine aY (Hf (aY (m:=firstArgMember _ _) (wpAny_of_eq (a:=Value.none) (by first|rfl|(simp only[firstArgMember];rfl)) (Hf ?_ (by size_fits)))) (by size_fits))
 simp only[raiseNew];refine aY (wpAny_handled ?_)
 first|rw[show A.in1.handled=none from hh]|rw[hh]
 exact aY (cW (wpAny_throw (hE _ _ (((Fg ..).extBut.push _).push _) ⟨_,jD _ rfl,rfl⟩)))
end
theorem Bh{prog:Program}{w:World}{A:Around}(hh:A.handled=none)(it l:Addr)(fo:l≠it)(its:Array Value):Draws prog w A it [it,l] its.size (λi v=>its[i]?=some v) (λi h=>h.IsTupleIter it l i/\ h.IsTuple l its) where
 live:=λ_ _ st=>let ⟨o,ho,_⟩:=st.1;⟨o,ho⟩
 frame:=λ_ _ _ st hk=>⟨let ⟨o,e,r⟩:=st.1;⟨o,hk it (by simp) o e,r⟩,let ⟨o,e,r⟩:=st.2;⟨o,hk l (by simp) o e,r⟩⟩
 item:=λi s Q E hi st hQ=>Lv st.1 st.2 (x:=its[i]) (by simp[hi]) λh' HR Yi=>hQ _ h' s.toks (by simp[hi]) ⟨HR,st.2.extBut Yi.extBut fo⟩ Yi
 done:=λs Q E st hE=>PF hh st.1 st.2 (by simp) hE
def SI(K:Frag)(a:Addr):It:=
 ⟨λi H=>∃(xs:List V)(x:V),i_ K H a xs/\ xs[i]?=some x,λi H v H'=>∃T x,v= .ref T/\ H T=none/\ H'=upd H T (.tup [.int (i:Nat),x])/\ ∀xs,i_ K H a xs->xs[i]?=some x,λi H=>∃xs:List V,i_ K H a xs/\ xs.length=i⟩
variable{K:Frag}{elts:List Expr}{kk:Nat}{vn:Pos}
theorem CZ{P:Program}{w:World}(a e it:Addr):
 Turn P w K (.Tuple elts kk vn) (SI K a) [e,it] e (λi h=>(∃old,IsEnum h e it ((i:Nat):Int) old)/\ h.IsTupleIter it a i/\ e≠it/\ a≠it/\ a≠e) where
 mem:=by simp
 obj:=λi h st b hb=>by
  obtain⟨⟨old,he⟩,⟨o,ho,hc,hd⟩,_⟩:=st;rcases(by simpa using hb:b=e\/ b=it) with z|z
  .exact⟨_,z▸he,λv q=>by have q:Data.fields _=Data.cell v:=q;cases q⟩
  .exact⟨o,z▸ho,λv q=>by rw[hd] at q;cases q⟩
 keep:=λi h h' st k=>let ⟨⟨old,he⟩,⟨o,ho,r⟩,fo⟩:=st;⟨⟨old,k e (by simp) _ he⟩,⟨o,k it (by simp) o ho,r⟩,fo⟩
 item:=by
  intro X hP hw hK hc i ao s σ H E I hf st hg;subst hP hw hK;obtain⟨⟨old,he⟩,hit,fo,UN,WG⟩:=st;obtain⟨xs,x,hq,hx⟩:=hg;obtain⟨its,rv,p,hz⟩:=I.tuple hq;have p:s.heap.IsTuple a its.toArray:=p;obtain⟨u,hu,ru⟩:=rv.get hx;have Su:e<s.heap.objs.size:=dh he;have m_:it<s.heap.objs.size:=by obtain⟨_,q,_⟩:=hit;exact dh q
  have fH:i<its.toArray.size:=by have:=(dm.mp hu).1;simpa using this
  refine wpAny_pyNext_enum_itemD (Bh (A:=X.A.in1) (I.ok.hd hc) it a UN its.toArray) he ⟨hit,p⟩ fH fo (by simp;exact⟨fo,λq=>WG q.symm⟩) λy h' tk hy ho WH hT hsz hk=>?_;have Z9:y=u:=by
   have hy:its.toArray[i]?=some y:=hy;have:its[i]?=some y:=by simpa using hy
   rw[hu] at this;exact(di this).symm
  subst Z9;have HR:=WH.1;refine⟨_,rfl,wpAny_letOwnedTupleGo_enum (s:={s with heap:=h',toks:=tk+1}) ho λh2 Sr sb=>?_⟩;have Pk:h2.get? s.heap.objs.size=some {cls:= .type "tuple",data:= .seq #[.int i tk,y]}:=(sb.2 _ (u6 Su)).trans hT;have new:dj X.prog X.w (upd H s.heap.objs.size (.tup [.int (i:Nat),x])) h2 s.heap.objs.size (.tup [.int (i:Nat),x]):=
   ⟨(by show 2<=sizeLine;decide),[.int i tk,y], .cons ⟨_,rfl⟩ (.cons ru .nil),⟨_,Pk,rfl,_,rfl⟩⟩
  have I1:Inv X ao σ (upd H s.heap.objs.size (.tup [.int (i:Nat),x])) {s with heap:=h2,toks:=tk+1}:=
   I.sg (ch:=[e,it]) (λb ob hb q=>(sb.2 b (λz=>hb (by simp[z]))).trans (hk b ob (λz=>hb (by simp[z])) (λz=>hb (by simp[z])) q)) hf (aQ _) new
  refine⟨.ref s.heap.objs.size,_,I1,rfl,⟨_,x,rfl,I.cu.fresh (aQ _),rfl,λys WJ=>by rw[I.Fs WJ hq];exact hx⟩,⟨⟨y,?_⟩,(let ⟨o,q,r⟩:=HR;⟨o,(sb.2 it (m5 fo)).trans q,r⟩),fo,UN,WG⟩,λb hb=>?_⟩
  .rw[show((i+1:Nat):Int)=(i:Int)+1 by lia];exact Sr
  .have Pn:b<s.heap.objs.size:=by
    rcases(by simpa using hb:b=e\/ b=it) with z|z
    .exact z▸Su
    .exact z▸m_
   rw[az (cB Pn)];exact(hf b hb).1
 done:=by
  intro X hP hw hK hc i ao s σ H E I hf st hg;subst hP hw hK;obtain⟨⟨old,he⟩,hit,fo,UN,WG⟩:=st;obtain⟨xs,hq,hx⟩:=hg;obtain⟨its,rv,p,hz⟩:=I.tuple hq;have p:s.heap.IsTuple a its.toArray:=p;obtain⟨f0,f1,f2,f3,f4,f5⟩:=hf it (by simp);have hl:=rv.length;have hi:its.toArray.size=i:=by simp;lia
  refine wpAny_pyNext_enum_endD (Bh (A:=X.A.in1) (I.ok.hd hc) it a UN its.toArray) he ⟨by rw[hi];exact hit,p⟩ λh' eb=>⟨rfl,I.turned (t':=s.toks) (λb o hb q=>eb b o hb q) f0 f1 f3 f4 f5⟩
 self:=λA i s Q E st h=>let ⟨⟨_,he⟩,_⟩:=st;D4 he h
def PH(K:Frag)(ta:TA):TI:=λσ H R=>ta σ H λvs H1=>∃a xs,vs=[.ref a]/\ i_ K H1 a xs/\ R (SI K a) H1
theorem IK{X:Cx}{e:Expr}{ta:TA}{p pos:Pos}(hg:Gl X "enumerate")(hm:X.mg "enumerate"=none)(ha:PA X [e] ta)(hs:starEach [e] X.env=[(false,eval e X.env)]:=by rfl):
 PI X (.Tuple elts kk vn) (.Call (.Name "enumerate" p) [e] [] pos) (PH X.K ta):=by
 intro ao s σ H R I h;refine Call_ (nD I hg hm boot_enumerate (xH (rP (ha pos ao s σ H _ I h) λus s1 ⟨vs,H1,I1,r1,q1⟩=>?_) hs rfl));obtain⟨a,xs,ex,hq,q⟩:=q1;subst ex;cases r1 with
 |cons r rr=>
  cases rr;cases r;obtain⟨its,rv,p',hz⟩:=I1.tuple hq;have p':s1.heap.IsTuple a its.toArray:=p';have F4:a<s1.heap.objs.size:=by obtain⟨_,q,_⟩:=p';exact dh q
  refine Lu p' λh' he hit hsz hk=>D4 he ?_;have I2:Inv X ao σ H1 {s1 with heap:=h'}:=I1.kept (t':=s1.toks) hk;refine⟨s1.heap.objs.size+1,[s1.heap.objs.size+1,s1.heap.objs.size],_,_,H1,rfl,I2,CZ a (s1.heap.objs.size+1) s1.heap.objs.size,⟨⟨.none,he⟩,hit,Nat.succ_ne_self _,cB F4,cB (tJ F4)⟩,λb hb=>?_,q⟩;have hle:s1.heap.objs.size<=b:=by
   rcases(by simpa using hb:b=s1.heap.objs.size+1\/ b=s1.heap.objs.size) with z|z
   .rw[z];exact u1 _ _
   .rw[z];exact aQ _
  exact I1.Ft hle (I1.cu.fresh hle)
theorem F5{a:Addr}{xs:List V}{g:TG}{tb:TS}{D:Ends}{σ:L2.St}{H:Hp}(Pv:Nat->L2.St->Hp->Prop)(h0:Pv 0 σ H)(hl:∀i σ H,i<=xs.length->Pv i σ H->i_ K H a xs)(hs:∀i x σ H T,xs[i]?=some x->Pv i σ H->H T=none->g (.ref T) σ (upd H T (.tup [.int (i:Nat),x])) λσ2 H2=>tb {D with nx:=Pv (i+1),ct:=Pv (i+1),bk:=D.nx} σ2 H2)(hd:∀σ H,Pv xs.length σ H->D.nx σ H):
 ∃W:Nat->Nat->L2.St->Hp->Prop,(∃m,W 0 m σ H)/\ ∀i m σ H,W i m σ H->
  ((SI K a).stop i H/\ D.nx σ H)\/ ((SI K a).go i H/\ ∃N:L2.St->Hp->Prop,(∀σ' H',N σ' H'->∃m',m'<m/\ W (i+1) m' σ' H')/\ ∀x H',(SI K a).GR i H x H'->g x σ H' λσ2 H2=>tb {D with nx:=N,ct:=N,bk:=D.nx} σ2 H2):=by
 refine⟨λi m σ H=>m=xs.length - i/\ i<=xs.length/\ Pv i σ H,⟨xs.length,by simp,a8 _,h0⟩,?_⟩;rintro i m σ H ⟨rfl,hi,p⟩;have q:=hl i σ H hi p;by_cases fH:i<xs.length
 .refine .inr ⟨⟨xs,xs[i],q,by simp[fH]⟩,Pv (i+1),λσ' H' p'=>⟨xs.length - (i+1),by lia,rfl,fH,p'⟩,λx H' y=>?_⟩;obtain⟨T,z,rfl,hT,rfl,y⟩:=y;exact hs i z σ _ T (y xs q) p hT
 .have e:i=xs.length:=by lia
  subst e;exact .inl ⟨⟨xs,q,rfl⟩,hd σ H p⟩
end Ob
namespace Ob
open PySem PySem.Spec PyProof.Rows L2
open TL (tl CB uE x3 fD dq Cz)
def Bi(x:Str)(n:Nat):Str:=⟨((List.replicate n (tl x)).flatten).toArray⟩
theorem uL(x:Str)(n:Nat):tl (Bi x n)=(List.replicate n (tl x)).flatten:=rfl
theorem Bj(a:Array Nat):∀(n:Nat)(b:Array Nat),((List.replicate n a).foldl (·++·) b).toList=b.toList++(List.replicate n a.toList).flatten
 |0,b=>by simp
 |n+1,b=>by rw[G',Oe,Bj a n,G',Cf,Ug,dQ]
theorem Lw{X:Cx}:qI X (binaryOp .Mult) (λx y H Q=>∃(i:Str)(k:Nat),x= .str i/\ y= .int ((k:Nat):Int)/\ 1<=k/\ k<=1000/\ i.length<=1000/\ Q (.str (Bi i k)) H):=by
 intro ao s σ H x y v u Q I rx ry h;obtain⟨i,k,rfl,rfl,h1,h2,hz,q⟩:=h;obtain⟨t,rfl⟩:=rx;obtain⟨t',rfl⟩:=ry;have hm:i.length*k<=1000*1000:=Nat.mul_le_mul hz h2;refine P.mul_str (n:=(k:Int)) ?_ ?_ ?_ ?_
 .rw[cP (by lia),cP (by lia)];rfl
 .intro _ hk Pt;have:(2 ^ 63 - 1:Int) / (k:Int)>=1000:=by
   apply Int.le_ediv_of_mul_le (by lia)
   lia
  lia
 .intro _ _;have e:((k:Nat):Int).toNat=k:=zO k;rw[e];exact cP (λh=>Nat.not_le_of_gt h (bp hm (by decide)))
 .have fH:¬((k:Nat):Int)<1:=by lia
  rw[ak fH];have e:((k:Nat):Int).toNat=k:=zO k;by_cases hc:(((k:Nat):Int)==1||i.length==0)=true
  .rw[aq hc];have er:Bi i k=i:=by
    apply Cz;rw[uL];rw[rR,kx,kx] at hc;rcases hc with hc|hc
    .have:k=1:=by lia
     subst this;simp
    .rw[dq] at hc;rw[zQ hc];simp
   rw[er] at q;exact⟨.str i,H,I,⟨_,rfl⟩,q⟩
  .rw[ak hc,e];have er:(⟨(List.replicate k i.cps).foldl (·++·) #[]⟩:Str)=Bi i k:=by apply Cz;show((List.replicate k i.cps).foldl (·++·) #[]).toList=_;rw[Bj];rfl
   rw[er];have hlen:(Bi i k).length<=sizeLine:=by rw[dq,uL,List.length_flatten,List.map_replicate,List.sum_replicate_nat,<-dq,Nat.mul_comm];exact bp hm (by decide)
   refine⟨?_,⟨.str (Bi i k),H,I.tok _,⟨_,rfl⟩,q⟩⟩;exact hlen
end Ob
namespace Ob
open PySem PySem.Spec PyProof.Rows L2
theorem Lx:typeLookup (.type "list_reverseiterator") "__len__"=pure none:=by rw[typeLookup_type,builtinLookup_eq_fast];kernel_rfl
theorem IL:typeLookup (.type "list_reverseiterator") "__length_hint__"=pure (some (.builtin "list_reverseiterator.__length_hint__")):=by rw[typeLookup_type,builtinLookup_eq_fast];kernel_rfl
variable{it:Addr}
section
variable{prog:Program}{w:World}{A:Around}{E:Value->Shared->Prop}{s:Shared}
theorem Ly{Q:Bool->Shared->Prop}(hT:s.TypeIs (.ref it) "list_reverseiterator")(h:Q false s):wpAny (model prog w) A (Builtin.List.listLengthHint (.ref it)) Q E s:=by
 unfold Builtin.List.listLengthHint;refine aY (wpAny_specialOf hT Lx ?_);show wpAny _ _ (specialOf (Value.ref it) (Str.ofString "__length_hint__")>>=_) _ _ _;refine aY (wpAny_specialOf hT IL ?_);generalize UO:("list_reverseiterator.__length_hint__":String)=Z_
 wp_delta
 rw[show splitId Z_=some ("list_reverseiterator","__length_hint__") from by subst UO;decide+kernel];subst UO;refine aY (wpAny_isInstance (T:="list_reverseiterator") (b:=true) hT (by rw[isSubtype_type];kernel_rfl) ?_);refine D3 (λPJ=>absurd PJ (by decide)) (λ_=>?_);refine D3 (λ_=>?_) (λPJ=>absurd rfl PJ);refine D3 (λPJ=>absurd PJ (by decide+kernel)) (λ_=>cW h)
end
variable{l:Addr}{its:Array Value}
section
variable{prog:Program}{w:World}{A:Around}{E:Value->Shared->Prop}{s:Shared}{R:Result->Shared->Prop}
theorem F6(hh:A.handled=none)(hit:s.heap.IsRevIter it l ((its.size:Int) - 1))(hl:s.heap.IsList l its)(hz:its.size<=sizeLine)(S:Addr)(res:Value)(c₀:Nat)(Yj:S≠it)(Z':S≠l)(SJ:l≠it)(hS:s.heap.get? S=some {cls:= .type "list",data:= .seq #[] c₀})(hR:∀h' tk acc c,(∀b o,b≠S->b≠it->s.heap.get? b=some o->h'.get? b=some o)->h'.get? S=some {cls:= .type "list",dict:=none,data:= .seq acc c,slots:=#[]}->ItemsOf (λi v=>its[its.size - 1 - i]?=some v) acc its.size->R (.ok (.ret res)) {s with heap:=h',toks:=tk}):
 wpAny (model prog w) A.in1 (Builtin.List.listExtendWith (.ref S) (.ref it) res) (λfin s'=>match fin with| .done f=>R (.ok f) s'| .again c'=>c'.quiet=true/\ codeAny (model prog w) A c' R s') (λe s'=>R (.error e) s') s:=by
 have hT:=hit.typeIs;have W:=(Walks.listRev (prog:=prog) (w:=w) (A:=A.in1) hh it l SJ its).toS;have hSf:S∉[it,l]:=λhm=>by
  rcases bY.mp hm with h|h
  .exact Yj h
  .exact Z' (G_.mp h)
 unfold Builtin.List.listExtendWith;refine aY (wpAny_typeOf hT ?_);have h1:Builtin.List.listSameRef (.ref S) (.ref it)=false:=by simp[Builtin.List.listSameRef,Yj]
 have h2:(Value.type "list_reverseiterator"==Value.type "list")=false:=by decide
 have h3:(Value.type "list_reverseiterator"==Value.type "tuple")=false:=by decide
 simp only[h1,h2,h3,zN,Kd,m7];refine aY (wpAny_pyIter_revIter hit ?_);refine aY (wpAny_holding (Ly hT ?_));refine D3 (λPJ=>absurd PJ (by decide+kernel)) (λ_=>?_);refine cW ⟨plainId_quiet F.plain_extend_loop _,codeAny_extend_loopS W hz S hSf res its.size 0 _ #[] c₀ rfl (a8 _) ⟨a8 _,?_,hl⟩ hS (ItemsOf.nil _) λs' acc c hm WK C0=>?_⟩
 .rw[show(its.size:Int) - 1 - ((0:Nat):Int)=(its.size:Int) - 1 by lia];exact hit
 .rw[Moved.eq_with hm];refine hR s'.heap s'.toks acc c (λb o hb PK e=>hm.heap b o (λgR=>?_) e) WK C0;rcases bY.mp gR with e'|gR
  .exact hb e'
  .exact PK (G_.mp gR)
end
section
variable{prog:Program}{w:World}{A:Around}{E:Value->Shared->Prop}{s:Shared}
theorem Lz{Q:Value->Shared->Prop}(hh:A.handled=none)(hit:s.heap.IsRevIter it l ((its.size:Int) - 1))(hl:s.heap.IsList l its)(hz:its.size<=sizeLine)(SJ:l≠it)(hQ:∀h' tk acc c,(∀b o,b≠it->s.heap.get? b=some o->h'.get? b=some o)->h'.get? s.heap.objs.size=some {cls:= .type "list",dict:=none,data:= .seq acc c,slots:=#[]}->ItemsOf (λi v=>its[its.size - 1 - i]?=some v) acc its.size->Q (.ref s.heap.objs.size) {s with heap:=h',toks:=tk}):
 wpAny (model prog w) A (call (.type "list") [.ref it]) Q E s:=by
 have m_:it<s.heap.objs.size:=by obtain⟨o,q,_⟩:=hit;exact dh q
 have PL:l<s.heap.objs.size:=by obtain⟨o,q,_⟩:=hl;exact dh q
 refine callType_codes (Q₁:=λobj s₁=>obj= .ref s.heap.objs.size/\ s₁={s with heap:=s.heap.push {cls:= .type "list",data:= .seq #[]}}) F.called_list (F.typeCall_list_1 _) F.entry_list_init (code_list_new _ ⟨rfl,rfl⟩) λobj s₁ h₁=>?_;obtain⟨rfl,rfl⟩:=h₁;generalize eh:s.heap.push {cls:= .type "list",data:= .seq #[]}=h1;have hS:h1.get? s.heap.objs.size=some {cls:= .type "list",data:= .seq #[]}:=by rw[<-eh];exact jD _ rfl
 have hk:∀b o,s.heap.get? b=some o->h1.get? b=some o:=λb o e=>by rw[<-eh];exact gq _ e
 refine⟨⟨_,hS,rfl⟩,F.args_list_init_2 _ _,?_⟩;show wpAny _ _ (do let old<-Builtin.List.listItems (.ref s.heap.objs.size);Builtin.List.listUpdate (.ref s.heap.objs.size) (λ_=>#[]);letGo old.toList.reverse;Builtin.List.listExtendWith (.ref s.heap.objs.size) (.ref it) .none) _ _ _;refine aY ?_;unfold Builtin.List.listItems;refine aY (wpAny_seqItems hS rfl (cW ?_));show wpAny _ _ (updateSeq s.heap.objs.size (λ_=>#[])>>=λ_=>letGo (#[]:Array Value).toList.reverse>>=λ_=>Builtin.List.listExtendWith (.ref s.heap.objs.size) (.ref it) .none) _ _ _;refine aY (wpAny_updateSeq hS rfl ?_);have hS2:=Heap.get?_update_self (Obj.mapSeq (λ_=>(#[]:Array Value))) hS rfl;have WL:∀b o,b≠s.heap.objs.size->s.heap.get? b=some o->(h1.update s.heap.objs.size (Obj.mapSeq (λ_=>(#[]:Array Value)))).get? b=some o:=λb o hb e=>(Heap.get?_update_other _ _ (m5 hb)).trans (hk b o e);refine aY (wpAny_letGo ?_);refine F6 (A:=A.in1) hh ?_ ?_ hz _ .none _ (m5 (cB m_)) (m5 (cB PL)) SJ hS2 λh' tk acc c kp WK C0=>?_
 .obtain⟨o,q,r⟩:=hit;exact⟨o,WL it o (cB m_) q,r⟩
 .obtain⟨o,q,r⟩:=hl;exact⟨o,WL l o (cB PL) q,r⟩
 .exact⟨rfl,hQ h' tk acc c (λb o hb e=>kp b o (cB (dh e)) hb (WL b o (cB (dh e)) e)) WK C0⟩
end
def SK(K:Frag)(ta:TA):TE:=λσ H Q=>ta σ H λvs H1=>∃(a:Addr)(xs:List V),vs=[.ref a]/\ bf K H1 a xs/\ ∀l,H1 l=none->Q (.ref l) (upd H1 l (.lst xs.reverse))
theorem LA{X:Cx}{e:Expr}{ta:TA}{p p2 pos LB:Pos}(hc:X.calm=true)(hgl:Gl X "list")(pG:X.mg "list"=none)(hgr:Gl X "reversed")(hmr:X.mg "reversed"=none)(ha:PA X [e] ta)(hs:starEach [e] X.env=[(false,eval e X.env)]:=by rfl)(RY:starEach [.Call (.Name "reversed" p2) [e] [] LB] X.env=[(false,eval (.Call (.Name "reversed" p2) [e] [] LB) X.env)]:=by rfl):
 PE X (.Call (.Name "list" p) [.Call (.Name "reversed" p2) [e] [] LB] [] pos) (SK X.K ta):=by
 intro ao s σ H Q I h;refine u_ (nD I hgl pG (by decide+kernel:bootBuiltins "list"=some (.type "list")) ?_);refine xH ?_ RY rfl;rw[RY];refine GZ ?_;refine Call_ (nD I hgr hmr vx (xH (rP (ha LB ao s σ H _ I h) λus s1 ⟨vs,H1,I1,r1,q1⟩=>?_) hs rfl));obtain⟨a,xs,ex,hq,q⟩:=q1;subst ex;cases r1 with
 |cons r rr=>
  cases rr;cases r;obtain⟨its,rv,p',hz⟩:=I1.list hq;have hl:=rv.length;have F4:a<s1.heap.objs.size:=by obtain⟨o,q',_⟩:=p'.isList;exact dh q'
  refine call_reversed_list p'.isList ?_;refine Ks ?_;refine Lz (its:=its.toArray) (I1.ok.hd hc) ⟨_,jD _ rfl,rfl,rfl⟩ ?_ (by rw[dZ];lia) (cB F4) λh' tk acc c kp hS C0=>?_
  .obtain⟨o,q',r'⟩:=p'.isList;exact⟨o,gq _ q',r'⟩
  .have SM:acc=its.reverse.toArray:=by
    obtain⟨h1,h2⟩:=C0;apply Array.ext
    .rw[h1];simp
    .intro i h3 h4;have h5:=h2 i acc[i] (Array.getElem?_eq_getElem h3);have h6:i<its.length:=by simpa using h4
     rw[dZ,List.getElem?_toArray,<-List.getElem?_reverse h6] at h5;have h7:its.reverse[i]?=some (its.reverse[i]'(by simpa using h6)):=c8 _;rw[h7] at h5;have:=di h5;simpa using this.symm
   rw[SM] at hS;have hle:s1.heap.objs.size<=(s1.heap.push (revObj a ((its.toArray.size:Int) - 1))).objs.size:=by rw[pO];exact zZ _
   have new:dj X.prog X.w (upd H1 (s1.heap.push (revObj a ((its.toArray.size:Int) - 1))).objs.size (.lst xs.reverse)) h' (s1.heap.push (revObj a ((its.toArray.size:Int) - 1))).objs.size (.lst xs.reverse):=
    ⟨by rw[tE];exact hz,its.reverse,c,rv.reverse,hS⟩
   exact⟨.ref _,_,I1.laid (t':=tk) (λb u e=>kp b u (cB (dh e)) (gq _ e)) hle new,rfl,q _ (I1.cu.fresh hle)⟩
end Ob
namespace Ob
open PySem PySem.Spec PyProof.Rows
open AutoSeq1 (wpAny_loadPart')
open MeetsSeq
def fR:List Int->List Int->Bool
 |[],[]=>false
 |[],_::_=>true
 |_::_,[]=>false
 |x::xs,y::ys=>if x=y then fR xs ys else decide (x<y)
variable{xs ys:List Int}
theorem yl{i:Nat}(h1:i<=xs.length)(h2:i<=ys.length)(h:xs.length<=i\/ ys.length<=i):fR (xs.drop i) (ys.drop i)=decide (xs.length<ys.length):=by
 by_cases hx:xs.length<=i
 .rw[uV hx];by_cases hy:ys.length<=i
  .rw[uV hy,cP (by lia)];rfl
  .rw[rS (by lia),aR (by lia)];rfl
 .have hy:ys.length<=i:=by lia
  rw[uV hy,rS (by lia),cP (by lia)];rfl
theorem zo{vs:List Value}{ns:List Int}(h:IntsAre vs ns):∀{i:Nat}{z:Int},ns[i]?=some z->∃t,vs[i]?=some (.int z t):=by
 induction h with
 |nil=>intro i z e;simp at e
 |cons n t h ih=>
  intro i z e;cases i with
  |zero=>have e:n=z:=di e;exact⟨t,by rw[e];rfl⟩
  |succ i=>exact ih e
theorem LC(l b:Addr)(its ja:Array Value)(n n2:Nat)(xs ys:List Int)(h1:IntsAre its.toList xs)(h2:IntsAre ja.toList ys):∀(k i:Nat),xs.length - i=k->i<=xs.length->i<=ys.length->
 Meets (Builtin.«list.__eq__.loop» ⟨[.ref l, .ref b,rawInt i,rawInt 0],[]⟩) λ_ R s=>s.heap.get? l=some {cls:= .type "list",dict:=none,data:= .seq its n,slots:=#[]}/\ s.heap.get? b=some {cls:= .type "list",dict:=none,data:= .seq ja n2,slots:=#[]}/\
  R (.ok (.ret (.bool (fR (xs.drop i) (ys.drop i))))) s:=by
 have z1:its.size=xs.length:=by rw[<-h1.length];simp
 have z2:ja.size=ys.length:=by rw[<-h2.length];simp
 intro k;induction k with
 |zero=>
  intro i hk WM IH prog w A R s h;obtain⟨hp,g,d,tk,os⟩:=s;obtain⟨hl,hb,h⟩:=h
  wp_walk using jT hl,jT hb
  have e1:its[((i:Nat):Int).toNat]?=none:=by simp;lia
  rw[yl WM IH (.inl (by lia))] at h;rw[e1]
  wp_walk using jT hl,jT hb
  show R (.ok (.ret (.bool (decide (its.size<ja.size))))) _;rw[z1,z2];exact h
 |succ k ih=>
  intro i hk WM IH prog w A R s h;obtain⟨hp,g,d,tk,os⟩:=s;obtain⟨hl,hb,h⟩:=h
  wp_walk using jT hl,jT hb
  by_cases hy:i<ys.length
  .have hx:i<xs.length:=by lia
   obtain⟨t,ex⟩:∃t,its[i]?=some (.int xs[i] t):=by obtain⟨t,e⟩:=zo h1 (c8 hx);exact⟨t,by simpa using e⟩
   obtain⟨u,ey⟩:∃u,ja[i]?=some (.int ys[i] u):=by obtain⟨u,e⟩:=zo h2 (c8 hy);exact⟨u,by simpa using e⟩
   have e1:its[((i:Nat):Int).toNat]?=some (.int xs[i] t):=by rw[zO];exact ex
   have e2:ja[((i:Nat):Int).toNat]?=some (.int ys[i] u):=by rw[zO];exact ey
   rw[rS hx,rS hy] at h;have h:R (.ok (.ret (.bool (if xs[i]=ys[i] then fR (xs.drop (i+1)) (ys.drop (i+1)) else decide (xs[i]<ys[i]))))) _:=h;rw[e1,e2];refine aY (EqGives.int _ _ t u prog w _ _ _ _ ?_);by_cases he:xs[i]=ys[i]
   .rw[aq he] at h;have Pn:(xs[i]==ys[i])=true:=by simpa using he
    rw[Pn]
    wp_walk
    rw[show((i:Int)+1)=((i+1:Nat):Int) by lia];refine⟨plainId_quiet DV _,codeAny_builtin MeetsSeq3.entry_eq_loop ?_⟩;rw[Around.under_plainId DV _];exact ih (i+1) (by lia) (by lia) (by lia) prog w A R _ ⟨hl,hb,h⟩
   .rw[ak he] at h;have Pn:(xs[i]==ys[i])=false:=by simpa using he
    rw[Pn]
    wp_walk using jT hl,jT hb
    rw[e1,e2];refine aY (show wpAny _ _ (compareOp .Lt (.int xs[i] t) (.int ys[i] u)) _ _ _ from lt_int ?_)
    wp_walk
    exact h
  .have e2:ja[((i:Nat):Int).toNat]?=none:=by simp;lia
   obtain⟨t,ex⟩:=zo h1 (c8 (show i<xs.length by lia));have e1:its[((i:Nat):Int).toNat]?=some (.int xs[i] t):=by rw[zO];simpa using ex
   rw[yl WM IH (.inr (by lia))] at h;rw[e1,e2]
   wp_walk using jT hl,jT hb
   show R (.ok (.ret (.bool (decide (its.size<ja.size))))) _;rw[z1,z2];exact h
theorem SN(l b:Addr)(its ja:Array Value)(n n2:Nat)(xs ys:List Int)(h1:IntsAre its.toList xs)(h2:IntsAre ja.toList ys):
 Meets (Builtin.«list.__lt__» ⟨[.ref l, .ref b],[]⟩) λ_ R s=>s.heap.get? l=some {cls:= .type "list",dict:=none,data:= .seq its n,slots:=#[]}/\ s.heap.get? b=some {cls:= .type "list",dict:=none,data:= .seq ja n2,slots:=#[]}/\
  R (.ok (.ret (.bool (fR xs ys)))) s:=by
 intro prog w A R s h;obtain⟨hp,g,d,tk,os⟩:=s;obtain⟨hl,hb,h⟩:=h;have f3:=AutoSeq1.sub_list_list
 wp_walk using jT hl,jT hb
 refine⟨plainId_quiet DV _,codeAny_builtin MeetsSeq3.entry_eq_loop ?_⟩;rw[Around.under_plainId DV _];exact LC l b its ja n n2 xs ys h1 h2 _ 0 rfl (a8 _) (a8 _) prog w A R _ ⟨hl,hb,h⟩
section
variable{prog:Program}{w:World}{A:Around}{E:Value->Shared->Prop}{s:Shared}{Q:Bool->Shared->Prop}
theorem PM{l b:Addr}{its ja:Array Value}{n n2:Nat}(h1:IntsAre its.toList xs)(h2:IntsAre ja.toList ys)(hu:A.units<cLine)(hl:s.heap.get? l=some {cls:= .type "list",dict:=none,data:= .seq its n,slots:=#[]})(hb:s.heap.get? b=some {cls:= .type "list",dict:=none,data:= .seq ja n2,slots:=#[]})(h:Q (fR xs ys) s):wpAny (model prog w) A (keyLt' oneType' (.ref l) (.ref b)) Q E s:=by rw[keyLt'_oneType,oneLt'_eq];simp only[m8];refine aY (wpAny_cRoomFor hu ?_);refine aY (wpAny_callSpecialIfBound?_slot (T:="list") (name:=Str.ofString "__lt__") ⟨_,hl,rfl⟩ F.slot_list_lt (Ae F.slot_list_lt ⟨_,hl,rfl⟩ F.entry_list_lt (F.args_list_lt_2 _ _) (SN l b its ja n n2 xs ys h1 h2) ⟨hl,hb,?_⟩));exact pE h
end
end Ob
namespace Ob
open PySem PySem.Spec PyProof.Rows PySem.W PySem.Calls
structure PN(N0:Nat)(J:Shared->Prop):Prop where
 turn:∀(s:Shared)(it:Addr)(h':Heap)(tk:Nat),J s->N0<=it->(∀b o,b≠it->s.heap.get? b=some o->h'.get? b=some o)->J {s with heap:=h',toks:=tk}
 kept:∀(s:Shared)(h':Heap)(tk:Nat),J s->(∀b o,s.heap.get? b=some o->h'.get? b=some o)->J {s with heap:=h',toks:=tk}
variable{N0 e e1:Nat}{J:Shared->Prop}{kS a:Addr}{s:Shared}{ks:List Value}{P:PySem.Fin->Shared->Prop}
variable{vs:List Value}
variable{f:Value}
section
variable{prog:Program}{w:World}{A:Around}{E:Value->Shared->Prop}
theorem EK{N0:Nat}{J:Shared->Prop}(JJ:PN N0 J){f:Value}{kS:Addr}(IM:N0<=kS){ks:List Value}{vs:List Value}(wg:ks.length=vs.length)(zp:vs.length<64)(C:∀(i:Nat)(v:Value)(s':Shared)(Q':Value->Shared->Prop),J s'->vs[i]?=some v->(∀xt k,J xt->(∀b o,N0<=b->s'.heap.get? b=some o->xt.heap.get? b=some o)->ks[i]?=some k->Q' k xt)->wpAny (model prog w) A (call f [v]) Q' (λ_ _=>False) s'){body:Value->PUnit->Sem (ForInStep PUnit)}(hb:∀(x:Value)(s:Shared)(R:ForInStep PUnit->Shared->Prop),wpAny (model prog w) A (call f [x]) (λk s'=>wpAny (model prog w) A (Builtin.List.listUpdate (.ref kS) (·.push k)) (λ_ xt=>R (.yield ⟨⟩) xt) E s') (λ_ _=>False) s->wpAny (model prog w) A (body x ⟨⟩) R E s){Q:PUnit->Shared->Prop}:∀(r:List Value)(i e:Nat)(s:Shared),vs.drop i=r->J s->s.heap.get? kS=some (seqObj "list" (List.toArray (ks.take i)) e)->
  (∀s' e',J s'->s'.heap.get? kS=some (seqObj "list" (List.toArray ks) e')->(∀b o,N0<=b->b≠kS->s.heap.get? b=some o->s'.heap.get? b=some o)->Q ⟨⟩ s')->wpAny (model prog w) A (forIn r PUnit.unit body) Q E s
 |[],i,e,s,hd,hJ,hk,hQ=>by
  rw[Of];have hi:vs.length<=i:=by
   have:=c_ List.length hd;rw[dC] at this;have:vs.length - i=0:=this
   lia
  rw[pC (by lia)] at hk;exact cW (hQ s e hJ hk λb o _ _ q=>q)
 |x::r,i,e,s,hd,hJ,hk,hQ=>by
  have hi:i<vs.length:=by apply Rl;intro h;rw[uV (by lia)] at hd;cases hd
  have hx:vs[i]?=some x:=by rw[<-Fl,hd];rfl
  have hd2:vs.drop (i+1)=r:=by rw[<-nt,hd];rfl
  rw[List.forIn_cons];refine aY (hb x s _ (C i x s _ hJ hx λs1 k PQ kp hki=>?_));have Nj:=kp _ _ IM hk;have ea:(List.toArray (ks.take i)).push k=List.toArray (ks.take (i+1)):=by rw[Hb,hki];simp
  refine listUpdate_at Nj rfl ?_ (by rw[dZ,bg,nB];lia) (bp (xG (Array.size_push ..)) (by rw[dZ,bg,nB];lia));have SO:=Fg s1.heap kS (Obj.mapSeq (·.push k));obtain⟨c2,zq⟩:∃c2,(s1.heap.update kS (Obj.mapSeq (·.push k))).get? kS=some (seqObj "list" (List.toArray (ks.take (i+1))) c2):=⟨_,by rw[<-ea];exact get?_update_seq Nj (·.push k)⟩;have WN:=JJ.turn s1 kS (s1.heap.update kS (Obj.mapSeq (·.push k))) s1.toks PQ IM λb o hb q=>SO.extBut b o hb q;exact EK JJ IM wg zp C hb r (i+1) c2 _ hd2 WN zq λs' e' a b c=>hQ s' e' a b λb' o h1 h2 q=>c b' o h1 h2 (SO.extBut b' o h2 (kp b' o h1 q))
theorem EL(JJ:PN N0 J)(IM:N0<=kS)(ha:N0<=a)(fo:a≠kS){st:SortSt}{out:List Value}(hJ:J s)(hk:s.heap.get? kS=some (seqObj "list" (List.toArray ks) e))(hA:s.heap.get? a=some (seqObj "list" #[] e1))(Sz:(arrOf st).map (·.2)=List.toArray out)(hf:failedOf st=none)(hz:out.length<64)(hkz:ks.length<64)(h:∀s' c,J s'->s'.heap.get? a=some (seqObj "list" (List.toArray out) c)->P (.done (.ret .none)) s'):wpAny (model prog w) A (ksk_tail a false e1 (.ref kS) st) P E s:=by have s1:=Fg s.heap kS (Obj.mapSeq λ_=>(#[]:Array Value));have WQ:=s1.extBut a _ fo hA;have PQ:=JJ.turn s kS _ s.toks hJ IM λb o hb q=>s1.extBut b o hb q;have s2:=Fg (s.heap.update kS (Obj.mapSeq λ_=>(#[]:Array Value))) a (Obj.mapSeq λ_=>List.toArray out);obtain⟨c2,zq⟩:∃c2,((s.heap.update kS (Obj.mapSeq λ_=>(#[]:Array Value))).update a (Obj.mapSeq λ_=>List.toArray out)).get? a=some (seqObj "list" (List.toArray out) c2):=⟨_,get?_update_seq WQ λ_=>List.toArray out⟩;have WN:=JJ.turn _ a ((s.heap.update kS (Obj.mapSeq λ_=>(#[]:Array Value))).update a (Obj.mapSeq λ_=>List.toArray out)) s.toks PQ ha λb o hb q=>s2.extBut b o hb q;unfold ksk_tail;dsimp only;rw[Sz];simp only[Kd,m7];refine aY (listUpdate_at hk rfl ?_ (by rw[dZ,nB];lia) (a8 _));refine aY (wpAny_letGo ?_);refine aY (seqEpoch_at WQ rfl ?_);refine aY (listUpdate_at WQ rfl ?_ (a8 _) (bp (xG (dZ ..)) (by rw[nB];lia)));rw[hf];simp only[bne_self_eq_false,Kd,m7];exact cW (h _ c2 WN zq)
theorem Nk{n:Nat}{lt:Nat->Nat->Bool}{cmp:Nat->Nat->(Bool->Shared->Prop)->Shared->Prop}{s:Shared}(hc:∀i j (C:Bool->Shared->Prop),i<n->j<n->C (lt i j) s->cmp i j C s){α:Type}{Q:α->Shared->Prop}:∀{t:KasT α},qL n lt t (λa=>Q a s)->t.kasWp cmp Q s
 | .ret _,h=>h
 | .ask i j k,h=>hc i j _ h.1 h.2.1 (Nk hc (t:=k _) h.2.2)
theorem PR(JJ:PN N0 J)(IM:N0<=kS)(ha:N0<=a)(fo:a≠kS){lt:Nat->Nat->Bool}(S:xi lt)(hJ:J s)(hk:s.heap.get? kS=some (seqObj "list" (List.toArray ks) e))(hA:s.heap.get? a=some (seqObj "list" #[] e1))(wg:ks.length=vs.length)(zp:vs.length<64)(kind:2<=vs.length->∀Q':SortKind->Shared->Prop,Q' oneType' s->wpAny (model prog w) A (keyKind' (List.toArray ks)) Q' (λ_ _=>False) s)(cmp:∀i j (Q':Bool->Shared->Prop),i<vs.length->j<vs.length->Q' (lt i j) s->wpAny (model prog w) A (keyLt' oneType' (ks.getD i Value.none) (ks.getD j Value.none)) Q' (λ_ _=>False) s)(h:∀s' c (p:Array Nat),J s'->p.size=vs.length->Up lt p vs.length->p.Perm (List.range vs.length).toArray->s'.heap.get? a=some (seqObj "list" (List.toArray (p.toList.map λi=>vs.getD i Value.none)) c)->P (.done (.ret .none)) s'):wpAny (model prog w) A (ksk_end a false vs.toArray e1 (.ref kS) (List.toArray ks)) P E s:=by
 unfold ksk_end;dsimp only;simp only[Kd,m7];by_cases h2:vs.toArray.size<2
 .have Ni:vs.length<2:=by simpa using h2
  rw[aq h2,aq h2];refine aY (cW ?_);rw[StateT.run_pure];refine aY (cW ?_);dsimp only;have UO:(arrOf (SortSt.mk' general' ((List.toArray ks).zip vs.toArray) #[] 7 none)).map (·.2)=List.toArray vs:=by show((List.toArray ks).zip vs.toArray).map (·.2)=_;apply Array.toList_inj.mp;rw[Array.toList_map,ksk_zip,zX,List.map_snd_zip (by rw[wg];exact aQ _)]
  refine EL JJ IM ha fo hJ hk hA UO rfl zp (by lia) λs' c PU WR=>h s' c (List.range vs.length).toArray PU (by simp) (λi j ur hj=>by lia) (QH _) ?_;rw[WR];congr 3
  match vs,Ni with
  |[],_=>rfl
  |[v],_=>rfl
 .have Ni:2<=vs.length:=by
   have:¬vs.length<2:=by simpa using h2
   lia
  rw[ak h2,ak h2];refine aY (iq (kind Ni (λκ s'=>κ=oneType'/\ s'=s) ⟨rfl,rfl⟩) (λκ s0 UA=>?_) λ_ _ x=>x.elim);obtain⟨rfl,rfl⟩:=UA;have hwp:(kas_sort vs.length).kasWp (kas_ask prog w A oneType' ks) (λp s'=>s'=s0/\ p.size=vs.length/\ Up lt p vs.length/\ p.Perm (List.range vs.length).toArray) s0:=
   Nk (lt:=lt) (λi j C hi hj hC=>by unfold kas_ask;exact cmp i j C hi hj hC) (Lr S (by lia) λp a b c=>⟨rfl,a,b,c⟩)
  refine aY (iq (kat_run (Q:=λFv s'=>∃p:Array Nat,s'=s0/\ p.size=vs.length/\ Up lt p vs.length/\ p.Perm (List.range vs.length).toArray/\ arrOf Fv=p.map (kas_item ((List.toArray ks).zip (List.toArray vs)))/\ failedOf Fv=none)
   wg Ni zp (λp' Fv s' a1 a2 a3 a4=>⟨p',a4.1,a4.2.1,a4.2.2.1,a4.2.2.2,a2,a3⟩) hwp) ?_ λ_ _ x=>x)
  rintro⟨⟨⟩,Fv⟩ s' ⟨p,rfl,hp,hU,Nl,har,hf⟩;dsimp only;exact EL JJ IM ha fo hJ hk hA (kat_snds wg har) hf (by rw[aS,Rk,hp];exact zp) (by lia) λs' c PU WR=>h s' c p PU hp hU Nl WR
theorem LF(JJ:PN N0 J)(IM:N0<=kS)(ha:N0<=a)(fo:a≠kS){lt:Nat->Nat->Bool}(S:xi lt)(hJ:J s)(hk:s.heap.get? kS=some (seqObj "list" #[] 0))(hA:s.heap.get? a=some (seqObj "list" #[] e1))(wg:ks.length=vs.length)(zp:vs.length<64)(C:∀(i:Nat)(v:Value)(s':Shared)(Q':Value->Shared->Prop),J s'->vs[i]?=some v->(∀xt k,J xt->(∀b o,N0<=b->s'.heap.get? b=some o->xt.heap.get? b=some o)->ks[i]?=some k->Q' k xt)->wpAny (model prog w) A (call f [v]) Q' (λ_ _=>False) s')(kind:2<=vs.length->∀(s':Shared)(Q':SortKind->Shared->Prop),J s'->Q' oneType' s'->wpAny (model prog w) A (keyKind' (List.toArray ks)) Q' (λ_ _=>False) s')(cmp:∀i j (s':Shared)(Q':Bool->Shared->Prop),J s'->i<vs.length->j<vs.length->Q' (lt i j) s'->wpAny (model prog w) A (keyLt' oneType' (ks.getD i Value.none) (ks.getD j Value.none)) Q' (λ_ _=>False) s')(h:∀s' c (p:Array Nat),J s'->p.size=vs.length->Up lt p vs.length->p.Perm (List.range vs.length).toArray->s'.heap.get? a=some (seqObj "list" (List.toArray (p.toList.map λi=>vs.getD i Value.none)) c)->P (.done (.ret .none)) s'):wpAny (model prog w) A (ksk_rest a f false vs.toArray e1 (.ref kS)) P E s:=by
 unfold ksk_rest;refine aY (wpAny_rule ?_)
 first
  |rw[List.forIn_toArray]
  |(rw[<-Array.forIn_toList];simp only[zX])
  |rw[<-Array.forIn_toList]
 refine aY (EK JJ IM wg zp C (λx s0 R hx=>?_) vs 0 0 s rfl hJ hk λs' e' PU QQ kp=>?_)
 .refine aY (wpAny_attempt (iq hx (λk s1 Nj=>?_) λ_ _ hF=>hF.elim));exact aY (iq Nj (λ_ s2 hr=>cW hr) λ_ _ q=>q)
 .refine aY (listItems_at QQ rfl ?_);exact PR JJ IM ha fo S PU QQ (kp a _ ha fo hA) wg zp (λh2 Q' hq=>kind h2 s' Q' PU hq) (λi j Q' hi hj hq=>cmp i j s' Q' PU hi hj hq) h
theorem LG(JJ:PN N0 J){n:Nat}(hs:N0<=s.heap.objs.size)(ha:N0<=a){lt:Nat->Nat->Bool}(S:xi lt)(hJ:J s)(ho:s.heap.get? a=some (seqObj "list" vs.toArray n))(wg:ks.length=vs.length)(zp:vs.length<64)(C:∀(i:Nat)(v:Value)(s':Shared)(Q':Value->Shared->Prop),J s'->vs[i]?=some v->(∀xt k,J xt->(∀b o,N0<=b->s'.heap.get? b=some o->xt.heap.get? b=some o)->ks[i]?=some k->Q' k xt)->wpAny (model prog w) A (call f [v]) Q' (λ_ _=>False) s')(kind:2<=vs.length->∀(s':Shared)(Q':SortKind->Shared->Prop),J s'->Q' oneType' s'->wpAny (model prog w) A (keyKind' (List.toArray ks)) Q' (λ_ _=>False) s')(cmp:∀i j (s':Shared)(Q':Bool->Shared->Prop),J s'->i<vs.length->j<vs.length->Q' (lt i j) s'->wpAny (model prog w) A (keyLt' oneType' (ks.getD i Value.none) (ks.getD j Value.none)) Q' (λ_ _=>False) s')(h:∀s' c (p:Array Nat),J s'->p.size=vs.length->Up lt p vs.length->p.Perm (List.range vs.length).toArray->s'.heap.get? a=some (seqObj "list" (List.toArray (p.toList.map λi=>vs.getD i Value.none)) c)->P (.done (.ret .none)) s'):wpAny (model prog w) A (ksk_tree a f false) P E s:=by
 have F4:a<s.heap.objs.size:=dh ho;have s1:=Fg s.heap a (Obj.mapSeq λ_=>(#[]:Array Value));obtain⟨e1,Yk⟩:∃e1,(s.heap.update a (Obj.mapSeq λ_=>(#[]:Array Value))).get? a=some (seqObj "list" #[] e1):=⟨_,get?_update_seq ho λ_=>#[]⟩;have PQ:=JJ.turn s a _ s.toks hJ ha λb o hb q=>s1.extBut b o hb q;unfold ksk_tree;refine aY (listItems_at ho rfl ?_);refine aY (listUpdate_at ho rfl ?_ (by rw[dZ,nB];lia) (a8 _));refine aY (seqEpoch_at Yk rfl ?_);refine aY (wpAny_newTuple ?_ (by show vs.length<=_;rw[nB];lia));refine aY (wpAny_newList ?_ (a8 _));refine wpAny_holding ?_;generalize eh:s.heap.update a (Obj.mapSeq λ_=>(#[]:Array Value))=h1 at*;have Yl:h1.objs.size=s.heap.objs.size:=by rw[<-eh,Heap.size_update]
 have WS:(h1.push (seqObj "tuple" vs.toArray 0)).objs.size=s.heap.objs.size+1:=by rw[size_push',Yl]
 have kp:∀b o,h1.get? b=some o->((h1.push (seqObj "tuple" vs.toArray 0)).push (seqObj "list" #[] 0)).get? b=some o:=λb o q=>gq _ (gq _ q);refine LF (s:={s with heap:=(h1.push (seqObj "tuple" vs.toArray 0)).push (seqObj "list" #[] 0)}) (kS:=(h1.push (seqObj "tuple" vs.toArray 0)).objs.size) JJ (by rw[WS];lia) ha (by rw[WS];exact cB (tJ F4)) S ?_ (jD _ rfl) (kp _ _ Yk) wg zp C kind cmp h;exact JJ.kept {s with heap:=h1} _ s.toks PQ kp
theorem F7(JJ:PN s.heap.objs.size J){l q:Addr}{lt:Nat->Nat->Bool}(S:xi lt){Q:Value->Shared->Prop}(hJ:J s)(hl:s.heap.IsList l vs.toArray)(wg:ks.length=vs.length)(zp:vs.length<64)(C:∀(i:Nat)(v:Value)(s':Shared)(Q':Value->Shared->Prop),J s'->vs[i]?=some v->(∀xt k,J xt->(∀b o,s.heap.objs.size<=b->s'.heap.get? b=some o->xt.heap.get? b=some o)->ks[i]?=some k->Q' k xt)->wpAny (model prog w) A.in1.in1 (call (.ref q) [v]) Q' (λ_ _=>False) s')(kind:2<=vs.length->∀(s':Shared)(Q':SortKind->Shared->Prop),J s'->Q' oneType' s'->wpAny (model prog w) A.in1.in1 (keyKind' (List.toArray ks)) Q' (λ_ _=>False) s')(cmp:∀i j (s':Shared)(Q':Bool->Shared->Prop),J s'->i<vs.length->j<vs.length->Q' (lt i j) s'->wpAny (model prog w) A.in1.in1 (keyLt' oneType' (ks.getD i Value.none) (ks.getD j Value.none)) Q' (λ_ _=>False) s')(h:∀s' D c (p:Array Nat),J s'->s.heap.objs.size<=D->p.size=vs.length->Up lt p vs.length->p.Perm (List.range vs.length).toArray->s'.heap.get? D=some (seqObj "list" (List.toArray (p.toList.map λi=>vs.getD i Value.none)) c)->Q (.ref D) s'):
 wpAny (model prog w) A (call (.builtin "sorted") [.ref l] [(Str.ofString "key", .ref q)]) Q E s:=by
 refine call_function_entry_kw kind_sorted plain_sorted entry_sorted (ksk_s1 _ _) ?_;unfold Builtin.«sorted»;refine aY (m:=checkCount "sorted" 1 1 _) (cW ?_);refine aY (collect_list hl ?_ (by rw[nB];lia));refine aY (wpAny_newList ?_ (by rw[nB];lia));generalize eh:(s.heap.push (seqObj "list" #[] 0)).update s.heap.objs.size (Obj.mapSeq (·++vs.toArray))=h1;have hsz:h1.objs.size=s.heap.objs.size+1:=by rw[<-eh,Heap.size_update,size_push']
 have Uq:(h1.push (seqObj "list" vs.toArray 0)).get? (s.heap.objs.size+1)=some (seqObj "list" vs.toArray 0):=by rw[<-hsz];exact jD _ rfl
 have keep:∀b o,s.heap.get? b=some o->(h1.push (seqObj "list" vs.toArray 0)).get? b=some o:=λb o q=>by have fH:b<s.heap.objs.size:=dh q;refine gq _ ?_;rw[<-eh,Heap.get?_update_ne _ _ _ _ (cB fH),Heap.get?_push_ne _ _ _ (cB fH)];exact q
 show wpAny _ _ _ _ _ {s with heap:=h1.push (seqObj "list" vs.toArray 0)};rw[hsz];refine aY (wpAny_holding (wpAny_call_entry_kw slot_list_sort ⟨_,Uq,rfl⟩ entry_list_sort ?body (ksk_l1 _ _)));show wpAny (model prog w) A.in1.in1 (Builtin.«list.sort» ⟨[.ref (s.heap.objs.size+1)],[(Str.ofString "key", .ref q)]⟩) _ _ _;rw[ksk_t1];have PQ:=JJ.kept s (h1.push (seqObj "list" vs.toArray 0)) s.toks hJ keep;refine LG (s:={s with heap:=h1.push (seqObj "list" vs.toArray 0)}) JJ (by show _<=(h1.push _).objs.size;rw[size_push',hsz];lia) (zZ _) S PQ Uq wg zp C kind cmp λs' c p a b c' d e=>⟨_,rfl,cW ⟨_,rfl,h s' _ c p a (zZ _) b c' d e⟩⟩
end
end Ob
namespace Ob
open PySem PySem.Spec PyProof.Rows L2
open Vanbkn (State)
abbrev Nd:=Node
def top(i:Nat):Stmt:=PySem.Challenge.pw_outlinebook_s01_answers.main.body.getD i (.Pass ⟨0,0,0,0⟩)
abbrev p0:Stmt:=inClass (top 2) 0
abbrev sI:=top 3
abbrev mv:=top 4
abbrev p8:Stmt:=inClass (top 10) 0
abbrev lg:Stmt:=inClass (top 11) 0
abbrev lh:=top 12
abbrev p_:=top 13
abbrev h_:=top 14
abbrev iw:=top 15
abbrev jZ:=top 16
abbrev iy:=top 17
abbrev qa:=top 18
abbrev qb:=top 19
abbrev wj:=top 20
abbrev qc:=top 21
abbrev sJ:=top 47
abbrev qd:=top 48
abbrev n_:=top 49
abbrev oa:=top 50
abbrev jf:=top 51
abbrev qe:=top 52
abbrev jg:=top 53
abbrev gC:=top 54
abbrev zr:=top 55
abbrev mw:=top 56
abbrev oe:=top 58
abbrev og:=top 59
abbrev j0:=top 61
abbrev oh:=top 62
abbrev lj:=top 63
abbrev gD:=top 65
abbrev j1:=top 66
abbrev qf:=top 67
abbrev gn:=top 68
abbrev jh:=top 69
abbrev mx:=top 70
abbrev oj:=top 71
abbrev gE:=top 72
abbrev my:=top 74
abbrev om:=top 75
abbrev j2:=top 76
abbrev ll:=top 77
abbrev mz:=top 78
abbrev ji:=top 79
abbrev fz:=top 80
abbrev qg:=top 82
abbrev gp:=top 83
abbrev sL:=top 84
abbrev sM:=top 85
abbrev sN:=top 86
abbrev oo:=top 87
abbrev qh:=top 88
abbrev sO:=top 103
abbrev j3:=top 104
abbrev qi:=top 105
abbrev wk:=top 106
abbrev oq:=top 107
abbrev iz:=top 108
abbrev qj:=top 109
abbrev ot:=top 110
abbrev sP:=top 111
abbrev iA:=top 112
abbrev mB:=top 113
abbrev ia:=top 114
abbrev iB:=top 115
abbrev j4:=top 116
abbrev iC:=top 118
abbrev ow:=top 119
abbrev ql:=top 121
abbrev mC:=top 122
abbrev sQ:=top 123
abbrev jj:=top 124
abbrev lp:=top 125
abbrev jk:=top 126
abbrev j5:=top 127
abbrev oy:=top 128
abbrev oz:=top 129
abbrev oA:=top 130
abbrev mD:=top 131
abbrev jl:=top 133
abbrev jm:=top 134
abbrev iD:=top 135
abbrev iE:=top 136
abbrev iF:=top 137
abbrev oB:=top 138
abbrev gM:=top 139
def bB(K:Frag)(mg:Str->Option Value)(x:Str)(st:Stmt)(ps:List Str):Prop:=∃f fd,HU K x x st f fd/\ mg x=some (.ref f)/\ Binds K fd ps []
def SQ(P:Program)(w:World)(K:Frag)(mg:Str->Option Value)(base:Heap)(k:Nat)(x:Str)(ps:List Str)(sp:Sp):Prop:=
 ∃f fd,k7 P w K mg base zL k f fd ps sp/\ mg x=some (.ref f)/\ keepIn K (.ref f)=true/\ Binds K fd ps []
variable{X:Cx}{x:Str}{ps:List Str}{sp:Sp}{e:Expr}{es:List Expr}
theorem IP{k:Nat}{t:TA}{p pos:Pos}(G:SQ X.prog X.w X.K X.mg X.base k x ps sp)(hr:fK k X.A)(hg:Gl X x)(ha:PA X (e::es) t)(Am:(x==("__debug__":Str))=false:=by decide)(he:starEach (e::es) X.env=(false,eval e X.env)::starEach es X.env:=by rfl)(hpl:(backTo pos (starEach es X.env)).any (·.1)=false:=by rfl):
 PE X (.Call (.Name x p) (e::es) [] pos) (pF sp [] E0 t):=by
 obtain⟨f,fd,F,hm,hk,hb⟩:=G;exact KY F hr hg hm hk hb .nil HS ha Am he hpl
theorem bB.ok{P:Program}{w:World}{K:Frag}{mg:Str->Option Value}{base:Heap}{x:Str}{st:Stmt}{N ps:List Str}{k:Nat}{sp:Sp}(F:bB K mg x st ps)(S:aG N ps (ay st))(len:∀vs H Q E,sp vs H Q E->vs.length=ps.length)(vq:∀(f:Addr)(l_:Value)(A:Around)(outer:List Env)(s:Shared)(H:Hp)(vs:List V)(Q:VK)(E:XK),fK k (A.deeper (envOfC x (ay st) s.heap.objs.size f l_))->sp vs H Q E->
  ∃t,B8 (vp zL P w K mg base N x (ay st) f l_ A outer s H E).MZ (da st) t/\ t {nx:=λ_ H'=>Q .eQ H',rt:=Q} (start N vs) H):SQ P w K mg base (k+1) x ps sp:=by
 obtain⟨f,fd,F,hm,hb⟩:=F;exact⟨f,fd,F.ok S len (vq f),hm,F.kp,hb⟩
def EM(P:Program)(w:World)(K:Frag)(mg:Str->Option Value)(base:Heap)(k:Nat)(x:Str)(C:Addr)(ps:List Str)(sp:Sp):Prop:=
 ∃f fd,Mk K C f/\ k7 P w K mg base zL k f fd ps sp/\ mg x=some (.ref C)/\ Binds K fd ps []
variable{C:Addr}
theorem EM.make{k:Nat}{t:TA}{p pos:Pos}(M:EM X.prog X.w X.K X.mg X.base k x C ps sp)(hr:fK (k+1) X.A)(hg:Gl X x)(ha:PA X (e::es) t)(Am:(x==("__debug__":Str))=false:=by decide)(he:starEach (e::es) X.env=(false,eval e X.env)::starEach es X.env:=by rfl)(hpl:(backTo pos (starEach es X.env)).any (·.1)=false:=by rfl):
 PE X (.Call (.Name x p) (e::es) [] pos) (Ed C sp [] E0 t):=by
 obtain⟨f,fd,M,F,hm,hb⟩:=M;exact KZ M F hr hg hm hb .nil HS ha Am he hpl
theorem EM.Nm{k:Nat}{p pos:Pos}(M:EM X.prog X.w X.K X.mg X.base k x C ps sp)(hr:fK (k+1) X.A)(hg:Gl X x)(Am:(x==("__debug__":Str))=false:=by decide):
 PE X (.Call (.Name x p) [] [] pos) (Ed C sp [] E0 k6):=by
 obtain⟨f,fd,M,F,hm,hb⟩:=M;exact Hx M F hr hg hm hb .nil HS Am
def GI(mg:Str->Option Value)(x:Str)(i:Int):Prop:=∃t,mg x=some (.int i t)
def GS(mg:Str->Option Value)(x:Str)(y:Str):Prop:=∃t,mg x=some (.str y t)
theorem SR{i:Int}{pos:Pos}(hg:Gl X x)(h:GI X.mg x i)(hd:(x==("__debug__":Str))=false:=by decide):PE X (.Name x pos) (tC (.int i)):=by obtain⟨t,e⟩:=h;exact yO hg e ⟨t,rfl⟩ hd
theorem kP{y:Str}{pos:Pos}(hg:Gl X x)(h:GS X.mg x y)(hd:(x==("__debug__":Str))=false:=by decide):PE X (.Name x pos) (tC (.str y)):=by obtain⟨t,e⟩:=h;exact yO hg e ⟨t,rfl⟩ hd
def IQ:List (Str×Int):=[(("MOST_NODES":Str),(60:Int)),(("DEEPEST_SECTION":Str),(6:Int)),(("DEEPEST_NODE":Str),(7:Int)),(("LAST_NUMBER":Str),(999:Int)),(("NO_NODE":Str),(-1:Int)),(("NO_PLACE":Str),(-2:Int)),(("NOT_A_TEXT":Str),(-3:Int)),(("TOO_MANY_NODES":Str),(-4:Int)),(("TOO_DEEP":Str),(-5:Int)),(("NUMBERS_USED_UP":Str),(-6:Int)),(("IS_A_CELL":Str),(-7:Int)),(("INTO_ITSELF":Str),(-8:Int)),(("NOTHING_TO_DO":Str),(-9:Int)),(("NOT_SIBLINGS":Str),(-10:Int)),(("NO_SUCH_MARK":Str),(-11:Int)),(("NO_SUCH_DEPTH":Str),(-12:Int)),(("NO_SUCH_LABEL":Str),(-13:Int)),(("TEXT_TOO_LONG":Str),(-14:Int)),(("NOT_VISIBLE":Str),(-15:Int)),(("NO_SUCH_DIRECTION":Str),(-16:Int)),(("MOST_BYTES":Str),(60:Int)),(("FIRST_BYTE":Str),(32:Int)),(("LAST_BYTE":Str),(126:Int)),(("AT_SIGN":Str),(64:Int)),(("QUESTION_MARK":Str),(63:Int)),(("ZERO":Str),(48:Int)),(("NINE":Str),(57:Int)),(("MOST_DIGITS":Str),(3:Int)),(("NOT_ENDED":Str),(1:Int)),(("NOT_WRITTEN_SO":Str),(2:Int)),(("OUT_OF_RANGE":Str),(3:Int)),(("DEPTH_DOES_NOT_FIT":Str),(4:Int)),(("SIXTY_BEFORE":Str),(5:Int)),(("LINE_END":Str),(10:Int)),(("MOST_NUMBER_DIGITS":Str),(4:Int))]
def Nn:List (Str×Str):=[(("FIRST_WORD":Str),("outline ":Str)),(("SECTION_SIGN":Str),("#":Str)),(("CELL_SIGN":Str),("=":Str)),(("BEFORE_UNFOLDED_TITLE":Str),(" + ":Str)),(("BEFORE_FOLDED_TITLE":Str),(" - ":Str)),(("BEFORE_CELL_TEXT":Str),(" ":Str))]
theorem C1:bootBuiltins "any"=some (.builtin "any"):=by decide+kernel
theorem IS:bootBuiltins "all"=some (.builtin "all"):=by decide+kernel
theorem PV:bootBuiltins "ord"=some (.builtin "ord"):=by decide+kernel
theorem F8:bootBuiltins "sorted"=some (.builtin "sorted"):=by decide+kernel
theorem wm:bootBuiltins "str"=some (.type "str"):=by decide+kernel
variable{K:Frag}{a:Addr}{xs:List V}{g:TG}{σ:L2.St}{H:Hp}
theorem wo{tb:TS}{D:Ends}(Pv:Nat->L2.St->Hp->Prop)(h0:Pv 0 σ H)(hl:∀i σ H,i<=xs.length->Pv i σ H->bf K H a xs)(hs:∀i x σ H T,xs[i]?=some x->Pv i σ H->H T=none->g (.ref T) σ (upd H T (.tup [.int (i:Nat),x])) λσ2 H2=>tb {D with nx:=Pv (i+1),ct:=Pv (i+1),bk:=D.nx} σ2 H2)(hd:∀σ H,Pv xs.length σ H->D.nx σ H):
 ∃W:Nat->Nat->L2.St->Hp->Prop,(∃m,W 0 m σ H)/\ ∀i m σ H,W i m σ H->
  ((Ss K a).stop i H/\ D.nx σ H)\/ ((Ss K a).go i H/\ ∃N:L2.St->Hp->Prop,(∀σ' H',N σ' H'->∃m',m'<m/\ W (i+1) m' σ' H')/\ ∀x H',(Ss K a).GR i H x H'->g x σ H' λσ2 H2=>tb {D with nx:=N,ct:=N,bk:=D.nx} σ2 H2):=by
 refine⟨λi m σ H=>m=xs.length - i/\ i<=xs.length/\ Pv i σ H,⟨xs.length,by simp,a8 _,h0⟩,?_⟩;rintro i m σ H ⟨rfl,hi,p⟩;have q:=hl i σ H hi p;by_cases fH:i<xs.length
 .refine .inr ⟨⟨xs,xs[i],q,by simp[fH]⟩,Pv (i+1),λσ' H' p'=>⟨xs.length - (i+1),by lia,rfl,fH,p'⟩,λx H' y=>?_⟩;obtain⟨T,z,rfl,hT,rfl,y⟩:=y;exact hs i z σ _ T (y xs q) p hT
 .have e:i=xs.length:=by lia
  subst e;exact .inl ⟨⟨xs,q,aQ _⟩,hd σ H p⟩
variable{u:HO}
theorem aE{p:Addr}(hp:H p=Option.none):aD H (upd H p u):=λb o e=>by rw[az (ba e hp)];exact e
variable{H':Hp}
theorem _root_.L2.aD.new(s:aD H H'){p:Addr}(hp:H' p=Option.none):aD H (upd H' p u):=s.trans (aE hp)
theorem _root_.L2.aD.put(s:aD H H'){p:Addr}(hp:H p=Option.none):aD H (upd H' p u):=λb o e=>by rw[az (ba e hp)];exact s b o e
theorem a7{p q:Addr}{o:HO}(h:H p=some o)(hq:H q=Option.none):upd H q u p=some o:=aE hq p o h
theorem dB{n:Nat}(h:n<=100000):n<=sizeLine:=bp h (by decide)
theorem eM{n:Nat}(h:n<100000):n<sizeLine:=dF h (by decide)
theorem aV:1<=sizeLine:=by decide
theorem aH{p:Prop}[Decidable p](h:decide p=true):p:=iY h
theorem cH{p:Prop}[Decidable p](h:¬decide p=true):¬p:=λq=>h (aR q)
variable{i:Nat}
theorem get_map{α β:Type}{f:α->β}{xs:List α}{y:β}(h:(xs.map f)[i]?=some y):∃x,xs[i]?=some x/\ y=f x:=by
 rw[gW] at h;cases e:xs[i]? with
 |none=>rw[e] at h;cases h
 |some x=>rw[e] at h;exact⟨x,rfl,(di h).symm⟩
theorem take_snoc{α:Type}{l:List α}{x:α}(h:l[i]?=some x):l.take (i+1)=l.take i++[x]:=by rw[Hb,h];rfl
def WT(t:TE):TE:=λσ H Q=>t σ H λx H1=>∃d u,x= .ref d/\ H1 d=some u/\ KH (some u)/\ ∀od,Q x (upd H1 d (.jO od u))
theorem PX{t:TE}(h:PE X e t):PE X e (WT t):=by intro ao s σ H Q I hw;refine rP (h ao s σ H _ I hw) λv s1 ⟨x,H1,I1,r,d,u,ex,hd,mu,q⟩=>?_;obtain⟨od,I2⟩:=I1.lock hd mu;exact⟨x,_,I2,r,q od⟩
variable{te:TE}{H1:Hp}
theorem f9{α:Type}{ys:List α}{v:α->V}{tt:TT}{vs:List Nat}{D:Addr}{Q:Hp->Prop}(f:α->Option V)(ha:bf K H1 a (ys.map v))(hD:H1 D=none)(hz:ys.length<sizeLine)(hs:∀(i:Nat)(x:α)(H:Hp),ys[i]?=some x->aD H1 H->∀(R:V->Hp->Prop)(R0:Hp->Prop),(∀y H',aD H H'->f x=some y->R y H')->(∀H',aD H H'->f x=none->R0 H')->
 g (v x) (wipe σ vs) H λσ2 H2=>wipe σ2 vs=wipe σ vs/\ tt σ2 H2 λb H3=>if b=true then te σ2 H3 R else R0 H3)(hd:∀H,aD H1 H->H D=some (.lst (ys.filterMap f))->Q H):
 ∃W:Nat->Nat->Hp->Prop,(∃m,W 0 m (upd H1 D (.lst [])))/\ ∀i m H,W i m H->
  ((Ho K a).stop i H/\ Q H)\/ ((Ho K a).go i H/\ ∃Nx:Hp->Prop,(∀H',Nx H'->∃m',m'<m/\ W (i+1) m' H')/\ ∀x H',(Ho K a).GR i H x H'->g x (wipe σ vs) H' λσ2 H2=>wipe σ2 vs=wipe σ vs/\ tt σ2 H2 λb H3=>if b=true then te σ2 H3 λy H4=>∃acc,H4 D=some (.lst acc)/\ acc.length<sizeLine/\ Nx (upd H4 D (.lst (acc++[y]))) else Nx H3):=by
 refine El (K:=K) (a:=a) (xs:=ys.map v) (λi H=>aD H1 H/\ H D=some (.lst ((ys.take i).filterMap f))) ⟨aE hD,ah⟩ (λi H _ ⟨s,_⟩=>s.seq ha) (λi x H hx ⟨s,hH⟩=>?_) (λH ⟨s,hH⟩=>hd H s (by rw[aS,fq] at hH;exact hH));obtain⟨y,hy,rfl⟩:=get_map hx;refine hs i y H hy s _ _ (λz H' s2 e=>⟨_,s2 _ _ hH,?_,(s.trans s2).put hD,?_⟩) (λH' s2 e=>⟨s.trans s2,?_⟩)
 .refine u5 (DN _ _) (u5 ?_ hz);rw[bg];exact z_ _ _
 .rw[ah,take_snoc hy,KA];simp[e]
 .rw[s2 _ _ hH,take_snoc hy,KA];simp[e]
theorem Bk{R:V->Hp->Prop}{R0:Hp->Prop}(h:te σ H R):Se σ H λb H3=>if b=true then te σ H3 R else R0 H3:=by show(if true=true then te σ H R else R0 H);exact eD h
variable{f:Str}
theorem d8{pos:Pos}{ta:TE}(hK:X.K=K)(he:PE X e ta)(hb:attributeBase e f X.env (eval e X.env)=eval e X.env):PE X (.Attribute e f pos) (xr K ta f):=by subst hK;exact aB he hb
theorem oC(hK:X.K=K):R6 X (FD K):=by subst hK;exact aJ
theorem xA(hK:X.K=K):qS X (.builtin "len") (K4 K):=by subst hK;exact qU
theorem C2(hK:X.K=K):qI X (compareOp .In) (Uy K false):=by subst hK;exact FF
theorem EN{k:Nat}{pos:Pos}{t:QL}{n:Nat}(hK:X.K=K)(hc:X.calm=true)(h:RL X es t)(hn:(assignEach es X.env).length=n:=by rfl)(m9:(assignEach es X.env).findIdx? (·.1)=none:=by rfl):PG X (.Tuple es k pos) (RN K n t):=by subst hK;exact nF hc h hn m9
def b2(b:Bool):Int:=if b=true then 1 else 0
def uu:Option Nat->V
 |none=> .eQ
 |some i=> .int (i:Nat)
def aT(t:List Int):List V:=t.map V.int
def aI(t:List Nat):List V:=t.map λc:Nat=>V.int (c:Int)
theorem gN(t:List Nat):aI t=aT (t.map λc:Nat=>(c:Int)):=by unfold aI aT;rw[ip];rfl
theorem aF(t:List Nat):(aI t).length=t.length:=aS _
theorem bA(t:List Int):(aT t).length=t.length:=aS _
def nf(x:Nd)(t:Addr):List (Str×V):=[("number", .int x.number),("cell", .int (b2 x.cell)),("depth", .int x.depth),("text", .ref t),("folded", .int (b2 x.folded))]
def bV(C:Addr)(H:Hp)(a:Addr)(x:Nd):Prop:=∃dx t,H a=some (.ins C dx (nf x t))/\ H t=some (.lst (aI x.text))
structure NL(C:Addr)(H:Hp)(l:Addr)(as:List Addr)(o:O):Prop where
 lst:H l=some (.lst (as.map V.ref))
 len:as.length=o.length
 sm:o.length<=1000
 at_:∀(i:Nat)(a:Addr)(x:Nd),as[i]?=some a->o[i]?=some x->bV C H a x
theorem bV.same{x:Nd}(h:bV C H a x)(s:aD H H'):bV C H' a x:=by obtain⟨dx,t,h1,h2⟩:=h;exact⟨dx,t,s _ _ h1,s _ _ h2⟩
theorem NL.same{C:Addr}{H H':Hp}{l:Addr}{as:List Addr}{o:O}(h:NL C H l as o)(s:aD H H'):NL C H' l as o:=
 ⟨s _ _ h.lst,h.len,h.sm,λi a x ha hx=>(h.at_ i a x ha hx).same s⟩
variable{l:Addr}
theorem NL.get{as:List Addr}{o:O}(h:NL C H l as o){x:Nd}(hx:o[i]?=some x):∃a,as[i]?=some a/\ (as.map V.ref)[i]?=some (.ref a)/\ bV C H a x:=by
 have hi:i<as.length:=by rw[h.len];exact(dm.mp hx).1
 refine⟨as[i],c8 hi,?_,h.at_ i _ x (c8 hi) hx⟩;rw[gW,c8 hi];rfl
theorem NL.item{as:List Addr}{o:O}(h:NL C H l as o){v:V}(hv:(as.map V.ref)[i]?=some v):∃a x,v= .ref a/\ as[i]?=some a/\ o[i]?=some x/\ bV C H a x:=by
 obtain⟨a,ha,rfl⟩:=get_map hv;have hi:i<o.length:=by rw[<-h.len];exact(dm.mp ha).1
 exact⟨a,o[i],rfl,ha,c8 hi,h.at_ i a _ ha (c8 hi)⟩
theorem NL.gV{as:List Addr}{o:O}(N:NL C H l as o):(as.map V.ref).length=o.length:=by rw[aS,N.len]
theorem NL.sz{as:List Addr}{o:O}(N:NL C H l as o):(as.map V.ref).length<sizeLine:=by rw[N.gV];exact eM (by have:=N.sm;lia)
theorem NL.sub{p:Addr}{as:List Addr}{o:O}(N:NL C H l as o)(s:aD H H')(m n:Nat)(hp:H' p=some (.lst (((as.drop m).take n).map V.ref))):NL C H' p ((as.drop m).take n) ((o.drop m).take n) where
 lst:=hp
 len:=by rw[bg,bg,dC,dC,N.len]
 sm:=by rw[bg,dC];have:=N.sm;lia
 at_:=λi a x ha hx=>by
  rw[Fj] at ha hx;by_cases h:i<n
  .rw[aq h,xl] at ha hx;exact(N.at_ _ a x ha hx).same s
  .rw[ak h] at ha;cases ha
theorem uM{β:Type}:∀{as:List Addr}{o:List β},as.length=o.length->as.map V.ref=(as.zip o).map λp=>V.ref p.1
 |[],[],_=>rfl
 |a::as,x::o,h=>by rw[cy,List.zip_cons_cons,cy,uM (by simpa using h)]
theorem uN{β:Type}:∀{as:List Addr}{o:List β},as.length=o.length->(as.zip o).map (·.2)=o
 |[],[],_=>rfl
 |a::as,x::o,h=>by rw[List.zip_cons_cons,cy,uN (by simpa using h)]
theorem C3{β:Type}{as:List Addr}{o:List β}(h:as.length=o.length)(f:β->Option V):(as.zip o).filterMap (λp=>f p.2)=o.filterMap f:=by
 conv=>rhs;rw[<-uN h]
 rw[List.filterMap_map];rfl
theorem qm{β:Type}{as:List Addr}{o:List β}{p:Addr×β}(h:(as.zip o)[i]?=some p):as[i]?=some p.1/\ o[i]?=some p.2:=by rw[Oi] at h;exact h
theorem NL.at2{as:List Addr}{o:O}(N:NL C H l as o){p:Addr×Nd}(h:(as.zip o)[i]?=some p):bV C H p.1 p.2:=N.at_ i _ _ (qm h).1 (qm h).2
theorem NL.zip{C:Addr}{H:Hp}{l:Addr}{as:List Addr}{o:O}(N:NL C H l as o){K:Frag}:bf K H l ((as.zip o).map λp=>V.ref p.1):=by rw[<-uM N.len];exact bf.of N.lst
theorem NL.LH{as:List Addr}{o:O}(N:NL C H l as o):(as.zip o).length<sizeLine:=by have:=N.sz;rw[uM N.len,aS] at this;exact this
theorem NL.filter{C:Addr}{H H':Hp}{l p:Addr}{as:List Addr}{o:O}(N:NL C H l as o)(s:aD H H')(c:Nd->Bool)(hp:H' p=some (.lst ((as.zip o).filterMap λp=>if c p.2=true then some (V.ref p.1) else none))):
 ∃ko,NL C H' p ko (o.filter c):=by
 have e1:∀(z:List (Addr×Nd)),(z.filterMap λp=>if c p.2=true then some (V.ref p.1) else none)=(((z.filter λp=>c p.2)).map (·.1)).map V.ref:=by
  intro z;induction z with
  |nil=>rfl
  |cons a z ih=>
   by_cases h:c a.2=true
   .rw[rT,rV,aq h,aq h,ih];rfl
   .rw[rT,rV,ak h,ak h,ih]
 have e2:((as.zip o).filter λp=>c p.2).map (·.2)=o.filter c:=by
  conv=>rhs;rw[<-uN N.len]
  rw[List.filter_map];rfl
 refine⟨((as.zip o).filter λp=>c p.2).map (·.1),by rw[hp,e1],?_,bp (lF _ _) N.sm,λi a x ha hx=>?_⟩
 .rw[<-e2,aS,aS]
 .rw[<-e2,gW] at hx;rw[gW] at ha;cases e:((as.zip o).filter λp=>c p.2)[i]? with
  |none=>rw[e] at ha;cases ha
  |some q=>rw[e] at ha hx;cases ha;cases hx;have hm:=(gX.mp (cI e)).1;obtain⟨j,hj⟩:=xm hm;exact(N.at2 hj).same s
theorem ym{as:List Addr}{o:O}(h:as.length=o.length)(c:Nd->Bool):((as.zip o).filterMap λp=>if c p.2=true then some (V.ref p.1) else none).length=(o.filter c).length:=by
 conv=>rhs;rw[<-uN h]
 generalize as.zip o=z;induction z with
 |nil=>rfl
 |cons a z ih=>
  by_cases hc:c a.2=true
  .rw[rT,cy,rV,aq hc,aq hc,cj,cj,ih]
  .rw[rT,cy,rV,ak hc,ak hc,ih]
structure Txt(K:Frag)(mg:Str->Option Value)(C CO CC:Addr):Prop where
 cl:FC K C
 zM:FC K CO
 Q1:FC K CC
 zt:eZ K C "number"
 Np:eZ K C "cell"
 C4:eZ K C "depth"
 EO:eZ K C "text"
 mE:eZ K C "folded"
 j6:eZ K CO "nodes"
 wq:eZ K CO "next_number"
 nName:eZ K CC "name"
 ER:eZ K CC "wholes"
 SS:eZ K CC "row"
 ne1:C≠CO
 ne2:CC≠C
 ne3:CC≠CO
 len:mg "len"=none
 enumerate:mg "enumerate"=none
 any:mg "any"=none
 all:mg "all"=none
 range:mg "range"=none
 sorted:mg "sorted"=none
 str:mg "str"=none
 ord:mg "ord"=none
 list:mg "list"=none
 reversed:mg "reversed"=none
 gi:∀{x:Str}{i:Int},IQ.lookup x=some i->GI mg x i
 gs:∀{x y:Str},Nn.lookup x=some y->GS mg x y
variable{z:Int}
variable{ob dx:Addr}{s:State}
section
variable{K:Frag}{mg:Str->Option Value}{C CO CC:Addr}{H:Hp}{R:V->Prop}{a:Addr}{x:Nd}
theorem wt{v:Nd->Addr->V}(T:Txt K mg C CO CC)(hn:eZ K C f)(hv:∀x t,(nf x t).lookup f=some (v x t))(n:bV C H a x)(q:∀t,H t=some (.lst (aI x.text))->R (v x t)):
 lH K f (V.ref a) H R:=by
 obtain⟨dx,t,h1,h2⟩:=n;exact⟨a,C,dx,_,_,rfl,h1,T.cl,hn,hv x t,q t h2⟩
theorem bW(T:Txt K mg C CO CC)(n:bV C H a x)(q:R (.int x.number)):lH K "number" (V.ref a) H R:=
 wt (v:=λx _=> .int x.number) T T.zt (λ_ _=>rfl) n λ_ _=>q
theorem fI(T:Txt K mg C CO CC)(n:bV C H a x)(q:R (.int (b2 x.cell))):lH K "cell" (V.ref a) H R:=
 wt (v:=λx _=> .int (b2 x.cell)) T T.Np (λ_ _=>rfl) n λ_ _=>q
theorem bj(T:Txt K mg C CO CC)(n:bV C H a x)(q:R (.int x.depth)):lH K "depth" (V.ref a) H R:=
 wt (v:=λx _=> .int x.depth) T T.C4 (λ_ _=>rfl) n λ_ _=>q
theorem iG(T:Txt K mg C CO CC)(n:bV C H a x)(q:R (.int (b2 x.folded))):lH K "folded" (V.ref a) H R:=
 wt (v:=λx _=> .int (b2 x.folded)) T T.mE (λ_ _=>rfl) n λ_ _=>q
theorem iQ(T:Txt K mg C CO CC)(n:bV C H a x)(q:∀t,H t=some (.lst (aI x.text))->R (.ref t)):lH K "text" (V.ref a) H R:=
 wt (v:=λx t=> .ref t) T T.EO (λ_ _=>rfl) n q
theorem C5{o:O}(h:i<o.length):o[i]?=some (nd o i):=by rw[c8 h,vU (c8 h)]
theorem cZ{as:List Addr}{o:O}(N:NL C H l as o)(hz:z=(i:Int))(hi:i<o.length)(q:∀a,as[i]?=some a->bV C H a (nd o i)->R (.ref a)):
 HB K (V.ref l) (V.int z) H R:=by
 obtain⟨a,h1,h2,h3⟩:=N.get (C5 hi);exact⟨l,_,z, .ref a,rfl,rfl,bf.of N.lst,at_of hz h2,q a h1 h3⟩
theorem bG{v:V}(h:H l=some (.lst xs))(hz:z=(i:Int))(hi:xs[i]?=some v)(q:R v):
 HB K (V.ref l) (V.int z) H R:=
 ⟨l,_,z,v,rfl,rfl,bf.of h,at_of hz hi,q⟩
def yn(n:Nat)(l:Addr):List (Str×V):=[("nodes", .ref l),("next_number", .int n)]
structure a9(C CO:Addr)(H:Hp)(ob dx l:Addr)(as:List Addr)(s:State):Prop where
 at_:H ob=some (.ins CO dx (yn s.next l))
 N:NL C H l as s.nodes
theorem a9.same{H':Hp}{ob dx l:Addr}{as:List Addr}{s:State}(h:a9 C CO H ob dx l as s)(e:aD H H'):a9 C CO H' ob dx l as s:=⟨e _ _ h.at_,h.N.same e⟩
theorem aU{as:List Addr}(T:Txt K mg C CO CC)(n:a9 C CO H ob dx l as s)(q:R (.ref l)):lH K "nodes" (V.ref ob) H R:=
 ⟨ob,CO,dx,_,_,rfl,n.at_,T.zM,T.j6,rfl,q⟩
theorem mF{as:List Addr}(T:Txt K mg C CO CC)(n:a9 C CO H ob dx l as s)(q:R (.int s.next)):lH K "next_number" (V.ref ob) H R:=
 ⟨ob,CO,dx,_,_,rfl,n.at_,T.zM,T.wq,rfl,q⟩
end
def dS:Pos:=⟨389,32,389,57⟩
def dv:Str:="sort_children.<locals>.<lambda>"
def sR(H:Hp)(P:Addr):Prop:=∃ps:Array Value,H P=some (.o2 ps)/\ TriplesOk ps.toList/\ (codeAmong dS ps.toList=none\/ ∃c:Addr,codeAmong dS ps.toList=some (.ref c)/\ H c=some (.ext λh=>h.CodeRec (.ref c) dv))
theorem sR.same{P:Addr}(t:sR H P)(s:aD H H'):sR H' P:=by
 obtain⟨ps,h1,h2,h3⟩:=t;refine⟨ps,s _ _ h1,h2,?_⟩;rcases h3 with h3|⟨c,h3,h4⟩
 .exact .inl h3
 .exact .inr ⟨c,h3,s _ _ h4⟩
structure Fr(C CO:Addr)(H H':Hp):Prop where
 keep:∀b o,H b=some o->(∀dx fs,o≠ .ins C dx fs)->(∀dx fs,o≠ .ins CO dx fs)->(∀ps,o≠ .o2 ps)->H' b=some o
 tab:∀P,sR H P->sR H' P
variable{CO:Addr}
theorem _root_.L2.aD.fr(s:aD H H'):Fr C CO H H':=⟨λb o e _ _ _=>s b o e,λP t=>t.same s⟩
variable{H2:Hp}
theorem Fr.trans(a:Fr C CO H H1)(b:Fr C CO H1 H2):Fr C CO H H2:=⟨λc o h n1 n2 n3=>b.keep c o (a.keep c o h n1 n2 n3) n1 n2 n3,λP t=>b.tab P (a.tab P t)⟩
theorem Fr.lst{C CO:Addr}{H H':Hp}(f:Fr C CO H H'){a:Addr}{xs:List V}(h:H a=some (.lst xs)):H' a=some (.lst xs):=f.keep _ _ h (λ_ _ e=>nomatch e) (λ_ _ e=>nomatch e) (λ_ e=>nomatch e)
def d_(C CO:Addr)(H:Hp)(ob:Addr)(r:State×Answer)(Q:VK):Prop:=
 ∀H' p dx l as,Fr C CO H H'->a9 C CO H' ob dx l as r.1->H' p=some (.lst (aT (encode r.2)))->Q (.ref p) H'
variable{Q:VK}
theorem d_.told{as:List Addr}{r:State×Answer}(k:d_ C CO H ob r Q)(hO:a9 C CO H ob dx l as s)(h1:r.1=s){p:Addr}(s2:aD H H2)(hp:H2 p=some (.lst xs))(e:xs=aT (encode r.2)):Q (.ref p) H2:=by refine k H2 p dx l as s2.fr ?_ (by rw[hp,e]);rw[h1];exact hO.same s2
theorem d_.refuse{as:List Addr}{r:State×Answer}{n:Int}(k:d_ C CO H ob r Q)(hO:a9 C CO H ob dx l as s)(e:r=refused s n){p:Addr}(s2:aD H H2)(hp:H2 p=none):Q (.ref p) (upd H2 p (.lst [.int n])):=by refine k.told hO (s:=s) (by rw[e];rfl) (s2.new hp) ah ?_;rw[e];rfl
end Ob
namespace Ob
open PySem PySem.Spec PyProof.Rows L2
open PySem.W (CodeHd kla_obj kla_fn kla_eval kla_makeFunction kla_makeFunctionHit kla_callFunE kla_codeExpr tabObj)
def wu:Arguments:={posonlyargs:=[],args:=[{arg:="tree",annotation:=none,pos:=⟨389,39,389,43⟩}],vararg:=none,kwonlyargs:=[],kw_defaults:=[],kwarg:=none,defaults:=[]}
def pb:Expr:= .Attribute (.Subscript (.Name "tree" ⟨389,45,389,49⟩) (.Constant (.int 0) 0 ⟨389,50,389,51⟩) ⟨389,45,389,52⟩) "text" ⟨389,45,389,57⟩
def fS:Scope:={kind:= .function,names:=[("tree", .local)],isGenerator:=false,isCoroutine:=false,more:=[]}
abbrev gF(pm:Value)(c:Addr)(ct:Value):Obj:=kla_obj "<lambda>" dv wu pb fS [] pm c ct
structure Nr(H:Hp)(f c:Addr)(pm ct:Value):Prop where
 fn:H f=some (.ext λh=>h.get? f=some (gF pm c ct))
 cd:H c=some (.ext λh=>h.CodeRec (.ref c) dv)
structure oE(TP:Addr)(H H':Hp):Prop where
 keep:∀b o,H b=some o->b≠TP->H' b=some o
 tab:sR H' TP
def xB(mg:Str->Option Value)(base:Heap):Prop:=∃bm ob,mg "__builtins__"=some (.ref bm)/\ bm≠builtinsNs/\ base.get? bm=some ob/\ ob.cls= .type "module"/\ ob.dict=some builtinsNs/\ ob.data= .plain
variable{P:Program}{H:Hp}{c:Addr}
theorem IT{w:World}{h:Heap}{q:Str}(hr:h.CodeRec (.ref c) q):dj P w H h c (.ext λh=>h.CodeRec (.ref c) q):=by
 refine⟨hr,?_,λh1 h2 a k=>?_⟩
 .obtain⟨c',o,vs,t,e,g,_⟩:=hr;cases e;exact⟨o,g⟩
 .obtain⟨c',o,vs,t,e,g,r⟩:=a;cases e;exact⟨_,o,vs,t,rfl,k o g,r⟩
variable{f:Addr}
theorem ES{w:World}{h:Heap}{o:Obj}(hg:h.get? f=some o):dj P w H h f (.ext λh=>h.get? f=some o):=⟨hg,⟨o,hg⟩,λh1 h2 a k=>k o a⟩
section
variable{X:Cx}{ao:List (Addr×Obj)}{σ:L2.St}{H:Hp}{s:Shared}
theorem IU{TP:Addr}{E:Value->Shared->Prop}{Q:Value->Shared->Prop}(I:Inv X ao σ H s)(T:sR H TP)(ET:X.env.code= .ref c)(CH:CodeHd X.base c TP)(hq:X.env.qual++Str.ofString "<lambda>"=dv)(B:xB X.mg X.base)(h:∀(s':Shared)(H':Hp)(f c':Addr)(pm ct:Value),Inv X ao σ H' s'->oE TP H H'->Nr H' f c' pm ct->Q (.ref f) s'):wpAny (model X.prog X.w) X.A (eval (.Lambda wu pb fS dS) X.env) Q E s:=by
 obtain⟨ps,hP,ht,SU⟩:=T;have UP:s.heap.get? TP=some (tabObj ps):=I.cu TP _ hP;have UQ:s.heap.Ns mainGlobals X.mg:=I.mod.glob.keeps I.bk;obtain⟨bm,ob,b1,b2,b3,b4,b5,b6⟩:=B;have hgP:mainGlobals≠TP:=λq=>by obtain⟨o,es,ep,e,hd,_⟩:=UQ;rw[q,UP] at e;cases e;cases hd
 have hbP:bm≠TP:=λq=>by have e:=I.bk _ _ b3;rw[q,UP] at e;cases e;cases b4
 have hbG:bm≠mainGlobals:=λq=>by obtain⟨o,es,ep,e,hd,_⟩:=UQ;have e2:=I.bk _ _ b3;rw[q,e] at e2;cases e2;rw[hd] at b6;cases b6
 have Ym:s.heap.BuiltinsAt X.mg TP:=⟨bm,ob,b1,b2,hbG,hbP,I.bk _ _ b3,b4,b5,b6⟩;refine kla_eval rfl ?_;rw[hq];rcases SU with hn|⟨c0,hf,IV⟩
 .refine kla_makeFunction (mg:=X.mg) (c:=c) (P:=TP) (ps:=ps) (clos:=[]) rfl I.ok.glob UQ ET (CH.keeps I.bk) UP ht hn hgP Ym λc' Bl h' tk hx kK fH IW htb=>?_;have PY:H c'=none:=I.cu.fresh kK;have SV:H h'.objs.size=none:=I.cu.fresh (bp kK (eX fH));have hcT:c'≠TP:=λq=>by rw[q,hP] at PY;cases PY
  have hfT:h'.objs.size≠TP:=λq=>by rw[q,hP] at SV;cases SV
  have hfc:h'.objs.size≠c':=u6 fH;generalize UR:h'.push (kla_obj (Str.ofString "<lambda>") dv wu pb fS [] ((X.mg (Str.ofString "__name__")).getD .none) c' Bl)=h3;have kp:∀b o,b≠TP->s.heap.get? b=some o->h3.get? b=some o:=λb o n e=>by rw[<-UR];exact gq _ (hx b o n e)
  have Kl:h3.get? TP=some (tabObj (ps++#[rawInt dS.line,rawInt dS.col, .ref c'])):=by rw[<-UR];exact gq _ htb
  have hf3:h3.get? h'.objs.size=some (gF ((X.mg (Str.ofString "__name__")).getD .none) c' Bl):=by rw[<-UR];exact jD _ rfl
  have hr3:h3.CodeRec (.ref c') dv:=by rw[<-UR];exact IW.push _
  have nT:∀b u,H b=some u->(∀qs,u≠ .o2 qs)->b≠TP:=λb u e n q=>by rw[q,hP] at e;exact n _ (di e).symm
  have e3:∀b u,H b=some u->b≠TP->(upd (upd (upd H c' (.ext λh=>h.CodeRec (.ref c') dv)) TP (.o2 (ps++#[rawInt dS.line,rawInt dS.col, .ref c']))) h'.objs.size (.ext λh=>h.get? h'.objs.size=some (gF ((X.mg (Str.ofString "__name__")).getD .none) c' Bl))) b=some u:=λb u e n=>by rw[az (ba e SV),az n,az (ba e PY)];exact e
  have n3:∀b o,s.heap.get? b=some o->H b=none->(upd (upd (upd H c' (.ext λh=>h.CodeRec (.ref c') dv)) TP (.o2 (ps++#[rawInt dS.line,rawInt dS.col, .ref c']))) h'.objs.size (.ext λh=>h.get? h'.objs.size=some (gF ((X.mg (Str.ofString "__name__")).getD .none) c' Bl))) b=none:=λb o e n=>by have hb:=dh e;rw[az (cB (dF hb (bp kK (eX fH)))),az (λq=>by rw[q,hP] at n;cases n),az (cB (dF hb kK))];exact n
  have eT:(upd (upd (upd H c' (.ext λh=>h.CodeRec (.ref c') dv)) TP (.o2 (ps++#[rawInt dS.line,rawInt dS.col, .ref c']))) h'.objs.size (.ext λh=>h.get? h'.objs.size=some (gF ((X.mg (Str.ofString "__name__")).getD .none) c' Bl))) TP=some (.o2 (ps++#[rawInt dS.line,rawInt dS.col, .ref c'])):=by rw[az hfT.symm,ah]
  have eC:(upd (upd (upd H c' (.ext λh=>h.CodeRec (.ref c') dv)) TP (.o2 (ps++#[rawInt dS.line,rawInt dS.col, .ref c']))) h'.objs.size (.ext λh=>h.get? h'.objs.size=some (gF ((X.mg (Str.ofString "__name__")).getD .none) c' Bl))) c'=some (.ext λh=>h.CodeRec (.ref c') dv):=by rw[az hfc.symm,az hcT,ah]
  have eF:(upd (upd (upd H c' (.ext λh=>h.CodeRec (.ref c') dv)) TP (.o2 (ps++#[rawInt dS.line,rawInt dS.col, .ref c']))) h'.objs.size (.ext λh=>h.get? h'.objs.size=some (gF ((X.mg (Str.ofString "__name__")).getD .none) c' Bl))) h'.objs.size=some (.ext λh=>h.get? h'.objs.size=some (gF ((X.mg (Str.ofString "__name__")).getD .none) c' Bl)):=ah;have only:∀b u,(upd (upd (upd H c' (.ext λh=>h.CodeRec (.ref c') dv)) TP (.o2 (ps++#[rawInt dS.line,rawInt dS.col, .ref c']))) h'.objs.size (.ext λh=>h.get? h'.objs.size=some (gF ((X.mg (Str.ofString "__name__")).getD .none) c' Bl))) b=some u->b≠h'.objs.size->b≠TP->b≠c'->H b=some u:=λb u e n1 n2 n3=>by rw[az n1,az n2,az n3] at e;exact e
  generalize upd (upd (upd H c' (.ext λh=>h.CodeRec (.ref c') dv)) TP (.o2 (ps++#[rawInt dS.line,rawInt dS.col, .ref c']))) h'.objs.size (.ext λh=>h.get? h'.objs.size=some (gF ((X.mg (Str.ofString "__name__")).getD .none) c' Bl))=H3 at e3 n3 eT eC eF only;have un:Un X.fs [] H H3 s.heap h3:=by
   have nb:∀b,H b=none->b≠TP:=λb n q=>by rw[q,hP] at n;cases n
   refine⟨λb o e n _ _=>kp b o (nb b n) e,λb o e n _ _=>⟨o.slots,kp b o (nb b n) e⟩,λb o e n _=>n3 b o e n,λb o e _=>?_,λb xs e=>e3 b _ e (nT b _ e λqs q=>nomatch q),λb o u e=>e3 b _ e (nT b _ e λqs q=>nomatch q),λb qs e=>?_⟩
   .by_cases hb:b=TP
    .exact⟨_,by rw[hb];exact Kl⟩
    .exact⟨o,kp b o hb e⟩
   .by_cases hb:b=TP
    .rw[hb,hP] at e;cases e;exact⟨_,by rw[hb];exact eT⟩
    .exact⟨#[],by rw[e3 b _ e hb];simp⟩
  have cu:nu X.prog X.w H3 h3:=λb u e=>by
   by_cases WU:b=h'.objs.size
   .rw[WU,eF] at e;cases e;rw[WU];exact ES hf3
   .by_cases Q2:b=TP
    .rw[Q2,eT] at e;cases e;rw[Q2];exact Kl
    .by_cases QZ:b=c'
     .rw[QZ,eC] at e;cases e;rw[QZ];exact IT hr3
     .have e0:=only b u e WU Q2 QZ;refine(I.cu b u e0).ui (λa v ha q=>kp a v ?_ q) (λa q=>e3 a _ q (nT a _ q λqs z=>nomatch z)) λa xs q=>e3 a _ q (nT a _ q λqs z=>nomatch z);rcases ha with z|z
      .rw[z];exact Q2
      .exact nT a _ z λqs z=>nomatch z
  refine h _ H3 h'.objs.size c' ((X.mg (Str.ofString "__name__")).getD .none) Bl (I.un (t':=tk) un cu) ⟨λb o e n=>e3 b o e n,⟨_,eT,?_, .inr ⟨c',?_,eC⟩⟩⟩ ⟨eF,eC⟩
  .rw[Ug];exact TriplesOk_snoc _ _ _ _ ht
  .rw[Ug];exact codeAmong_snoc _ ht hn
 .refine kla_makeFunctionHit (mg:=X.mg) (c:=c) (P:=TP) (ps:=ps) (clos:=[]) rfl I.ok.glob UQ ET (CH.keeps I.bk) UP ht hf Ym λBl h' tk hk hsz=>?_;have new:dj X.prog X.w (upd H h'.objs.size (.ext λh=>h.get? h'.objs.size=some (gF ((X.mg (Str.ofString "__name__")).getD .none) c0 Bl))) (h'.push (gF ((X.mg (Str.ofString "__name__")).getD .none) c0 Bl)) h'.objs.size (.ext λh=>h.get? h'.objs.size=some (gF ((X.mg (Str.ofString "__name__")).getD .none) c0 Bl)):=ES (jD _ rfl);have SV:H h'.objs.size=none:=I.cu.fresh hsz;have sm:aD H (upd H h'.objs.size (.ext λh=>h.get? h'.objs.size=some (gF ((X.mg (Str.ofString "__name__")).getD .none) c0 Bl))):=aE SV;refine h _ _ h'.objs.size c0 _ Bl (I.laid (t':=tk) (λb u e=>gq _ (hk b u e)) hsz new) ⟨λb o e _=>sm _ _ e,⟨ps,sm _ _ hP,ht, .inr ⟨c0,hf,sm _ _ IV⟩⟩⟩ ⟨ah,sm _ _ IV⟩
theorem wx:aG ["tree"] ["tree"] fS:=⟨rfl,rfl,rfl,by decide+kernel,rfl,by decide+kernel,by decide+kernel⟩
theorem LI{w:World}{K:Frag}{mg:Str->Option Value}{base:Heap}{A:Around}{outer:List Env}{s:Shared}{H:Hp}{k:Nat}{p:Addr}{pm ct u:Value}{v r:V}{xs:List V}{a C dx:Addr}{fs:List (Str×V)}(hr:fK (k+1) A)(e0:vo P w K mg base A outer s H)(L:Nr H f c pm ct)(rv:RelV v u)(ev:v= .ref p)(hp:H p=some (.lst (.ref a::xs)))(ha:H a=some (.ins C dx fs))(hC:FC K C)(hN:eZ K C "text")(hf:fs.lookup ("text":Str)=some r):
 codeAny (model P w) A (.call (.ref f) ⟨[u],[]⟩) (CR zL outer P w H s (λv' H'=>v'=r/\ H'=H) E0) s:=by
 have lim:s.heap.NoLimit:=e0.mod.nolimit.keeps λb o e=>(e0.bs b o e).1;have hfo:s.heap.get? f=some (gF pm c ct):=(e0.cu f _ L.fn).1;have hcr:s.heap.CodeRec (.ref c) dv:=(e0.cu c _ L.cd).1;have Hz:∀y∈[("tree":Str)].zip [u],fS.names.lookup y.1=some .local\/ (fS.names.lookup y.1=some .cell/\ ((cellsFrom (s.heap.objs.size+1) fS.names []).lookup y.1).isSome=true):=λ⟨n,v⟩ hy=>by
  rcases wx.par n (DP hy).1 with q|q
  .exact .inl q
  .exact .inr ⟨q,cellsFrom_some _ _ _ (.inl q)⟩
 have rr:Vals [v] [u]:= .cons rv .nil;refine kla_callFunE hr.depth hfo rfl wx.co wx.gen rfl hcr ?_;have hb:bindArgs (kla_fn "<lambda>" dv wu pb fS [] pm (.ref c) ct) ⟨[u],[]⟩=pure ([("tree":Str)].zip [u]):=rfl;rw[hb];refine cW ?_;refine wpAny_newFunctionEnv_cells wx.kind Hz λenv he s1 x=>?_;subst he;refine⟨lim.keeps x.toInCall.keep,kla_codeExpr ?_⟩;have I:Inv (vp zL P w K mg base ["tree"] dv fS f (.ref c) A outer s H E0) [] (start ["tree"] [v]) H s1:=xU wx hr.hd e0 rfl rr x;have pe:PE (vp zL P w K mg base ["tree"] dv fS f (.ref c) A outer s H E0) pb (xr K (qJ (FD K) (cv 0) (tC (.int 0))) "text"):=aB (M4 aJ (pv 0) au (λ_ _=>rfl)) rfl;refine iq (pe [] s1 _ H (λv' H'=>v'=r/\ H'=H) I ⟨v,rfl,p,_,0, .ref a,ev,rfl, .inl (.inl hp),bT (j:=0) rfl,a,C,dx,fs,r,rfl,ha,hC,hN,hf,rfl,rfl⟩) (λu' s' hs=>?_) λe s' hs=>hs;obtain⟨v',H',J,rv',q⟩:=hs;exact⟨v',H',J.os,J.bare,J.base,J.cu,rv',q⟩
end
end Ob
namespace Ob
open PySem PySem.Spec PyProof.Rows L2
open PySem.W (CodeHd kas_kind)
section
variable{X:Cx}{ao:List (Addr×Obj)}{σ:L2.St}{H:Hp}{s:Shared}
theorem Inv.adopt{D:Addr}{o:HO}(I:Inv X ao σ H s)(hD:X.xg.heap.objs.size<=D)(hn:H D=none)(hL:D≠X.env.locals)(hc:∀x c,X.env.cells.lookup x=some c->c≠D)(hp:∀p∈X.pn++ao,p.1≠D)(new:dj X.prog X.w (upd H D o) s.heap D o):Inv X ao σ (upd H D o) s:=by
 have sm:aD H (upd H D o):=aE hn;refine⟨I.ok,I.os,I.bare,⟨I.base.keep,I.base.slot,λb u e n x=>?_,I.base.there,λb xs e=>sm _ _ (I.base.xn b xs e),λb u v e=>sm _ _ (I.base.uj b u v e),λb ps e=>?_⟩,I.loc,I.cell,?_,λx c e=>?_,λp h=>?_,λb u e=>?_,I.len⟩
 .rw[az (cB (dF (dh e) hD))];exact I.base.free b u e n x
 .obtain⟨more,q⟩:=I.base.vb b ps e;exact⟨more,sm _ _ q⟩
 .rw[az hL.symm];exact I.free
 .rw[az (hc x c e)];exact I.kC x c e
 .obtain⟨a1,a2,a3⟩:=I.pin p h;exact⟨a1,by rw[az (hp p h)];exact a2,a3⟩
 .by_cases hb:b=D
  .subst hb;rw[ah] at e;cases e;exact new
  .rw[az hb] at e;exact(I.cu b u e).ui (λ_ _ _ q=>q) (λa q=>sm _ _ q) λa xs q=>sm _ _ q
structure WV(X:Cx)(ao:List (Addr×Obj))(H:Hp)(N0:Nat):Prop where
 h:∀b,N0<=b->H b=none
 s0:X.xg.heap.objs.size<=N0
 loc:X.env.locals<N0
 cl:∀x c,X.env.cells.lookup x=some c->c<N0
 pin:∀p∈X.pn++ao,p.1<N0
 st:∀b∈Fp X.stack,b<N0
theorem Inv.abv(I:Inv X ao σ H s):WV X ao H s.heap.objs.size where
 h:=λb hb=>I.cu.fresh hb
 s0:=I.sz
 loc:=I.lt
 cl:=λx c e=>by obtain⟨v,hv⟩:=I.cell x c e;obtain⟨o,ho,_⟩:=hv;exact dh ho
 pin:=λp hp=>dh (I.pin p hp).1
 st:=λb hb=>by obtain⟨_,o,ho,_⟩:=I.stack.mem hb;exact dh ho
theorem WV.jok{N0:Nat}(V:WV X ao H N0):PN N0 λs=>Inv X ao σ H s where
 turn:=λs it h' tk I hn k=>I.turned (t':=tk) k (V.h it hn) (u6 (dF V.loc hn)) (.inr (bp V.s0 hn)) (λx c e=>cB (dF (V.cl x c e) hn)) λp hp=>cB (dF (V.pin p hp) hn)
 kept:=λs h' tk I k=>I.kept (t':=tk) k
structure Tk where
 p:Addr
 t:Addr
 key:List Int
 as:List Addr
 o:O
def Tk.At(K:Frag)(H:Hp)(x:Tk):Prop:=∃a xs C dx fs,H x.p=some (.lst (.ref a::xs))/\ H a=some (.ins C dx fs)/\ FC K C/\ eZ K C "text"/\ fs.lookup ("text":Str)=some (.ref x.t)/\ H x.t=some (.lst (aT x.key))
def Tk.less(x y:Tk):Bool:=fR x.key y.key
theorem yo:∀xs:List Int,fR xs xs=false
 |[]=>rfl
 |x::xs=>by show(if x=x then fR xs xs else _)=false;rw[aq rfl];exact yo xs
theorem Bm:∀xs ys zs:List Int,fR xs ys=true->fR ys zs=true->fR xs zs=true
 |[],[],_,h,_=>by cases h
 |[],_::_,[],_,h=>by cases h
 |[],_::_,_::_,_,_=>rfl
 |_::_,[],_,h,_=>by cases h
 |_::_,_::_,[],_,h=>by cases h
 |x::xs,y::ys,z::zs,h,g=>by
  replace h:(if x=y then fR xs ys else decide (x<y))=true:=h;replace g:(if y=z then fR ys zs else decide (y<z))=true:=g;show(if x=z then fR xs zs else decide (x<z))=true;by_cases e1:x=y
  .rw[aq e1] at h;by_cases e2:y=z
   .rw[aq e2] at g;rw[aq (e1.trans e2)];exact Bm xs ys zs h g
   .rw[ak e2] at g;have:=iY g;rw[ak (by lia)];exact aR (by lia)
  .rw[ak e1] at h;have:=iY h;by_cases e2:y=z
   .rw[ak (by lia)];exact aR (by lia)
   .rw[ak e2] at g;have:=iY g;rw[ak (by lia)];exact aR (by lia)
theorem Bn:∀xs ys zs:List Int,fR xs zs=true->fR xs ys=true\/ fR ys zs=true
 |[],[],[],h=>by cases h
 |[],[],_::_,_=> .inr rfl
 |[],_::_,_,_=> .inl rfl
 |_::_,_,[],h=>by cases h
 |_::_,[],_::_,_=> .inr rfl
 |x::xs,y::ys,z::zs,h=>by
  replace h:(if x=z then fR xs zs else decide (x<z))=true:=h;show(if x=y then fR xs ys else decide (x<y))=true\/ (if y=z then fR ys zs else decide (y<z))=true;by_cases e:x=z
  .rw[aq e] at h;by_cases e1:x=y
   .rw[aq e1,aq (e1.symm.trans e)];exact Bn xs ys zs h
   .rw[ak e1,ak (by lia)];by_cases l:x<y
    .exact .inl (aR l)
    .exact .inr (aR (by lia))
  .rw[ak e] at h;have:=iY h;by_cases e1:x=y
   .rw[ak (show¬y=z by lia)];exact .inr (aR (by lia))
   .rw[ak e1];by_cases l:x<y
    .exact .inl (aR l)
    .rw[ak (by lia)];exact .inr (aR (by lia))
def Nt:Tk:=⟨0,0,[],[],[]⟩
theorem IX(ts:List Tk):xi λi j=>Tk.less (ts.getD i Nt) (ts.getD j Nt):=⟨λi=>yo _,λi j k=>Bm _ _ _,λi j k=>Bn _ _ _⟩
theorem yp:∀{as:List Addr}{us:List Value},Vals (as.map V.ref) us->us=as.map Value.ref
 |[],[],_=>rfl
 |a::as,us,h=>by
  cases h with
  |cons r t=>rw[yp t];cases r;rfl
def PZ(K:Frag)(TP:Addr)(te:TE):TE:=λσ H Q=>te σ H λv H1=>∃(l:Addr)(ts:List Tk),v= .ref l/\ H1 l=some (.lst (ts.map λx=>V.ref x.p))/\ ts.length<64/\ sR H1 TP/\ (∀x∈ts,x.At K H1)/\
 ∀H2 D,oE TP H1 H2->H1 D=none->H2 D=some (.lst ((ts.foldr (jI Tk.less) []).map λx=>V.ref x.p))->Q (.ref D) H2
theorem IY{k:Nat}{TP c:Addr}{e:Expr}{te:TE}{p kp pos:Pos}(hg:Gl X "sorted")(hm:X.mg "sorted"=none)(hr:fK (k+3) X.A)(ET:X.env.code= .ref c)(CH:CodeHd X.base c TP)(hq:X.env.qual++Str.ofString "<lambda>"=dv)(B:xB X.mg X.base)(he:PE X e te)(hs:starEach [e] X.env=(false,eval e X.env)::starEach [] X.env:=by rfl):
 PE X (.Call (.Name "sorted" p) [e] [⟨some "key", .Lambda wu pb fS dS,kp⟩] pos) (PZ X.K TP te):=by
 intro ao s σ H Q I h;refine u_ (nD I hg hm F8 ?_);have pa:=aa he ag hs;refine PyProof.Rows.callWith_kw (rP (pa pos ao s σ H (λvs H1=>match vs with
  |[v]=>∃(l:Addr)(ts:List Tk),v=V.ref l/\ H1 l=some (.lst (ts.map λx=>V.ref x.p))/\ ts.length<64/\ sR H1 TP/\ (∀x∈ts,x.At X.K H1)/\
  ∀H2 D,oE TP H1 H2->H1 D=none->H2 D=some (.lst ((ts.foldr (jI Tk.less) []).map λx=>V.ref x.p))->Q (.ref D) H2
  |_=>False) I h) λus s1 ⟨vs,H1,I1,r1,q1⟩=>?_) (by rw[hs];rfl) (by rw[hs];rfl) rfl rfl
 match vs,q1 with
 |[v],q1=>
  obtain⟨l,ts,el,hl,zp,T1,Il,q⟩:=q1;subst el;obtain⟨u,rfl,ru⟩:=vals1 r1;obtain rfl:u=Value.ref l:=ru;refine kws_cons (IU I1 T1 ET CH hq B λs2 H2 f c' pm ct I2 g L=>kws_nil ?_);have W:=Inv.abv I2;have hlT:l≠TP:=λz=>by obtain⟨ps,hP,_⟩:=T1;rw[z,hP] at hl;cases hl
  have Ca:=g.keep _ _ hl hlT;obtain⟨its,SW,pl,hz⟩:=I2.list (bf.of Ca);have e1:(ts.map λx=>V.ref x.p)=(ts.map (·.p)).map V.ref:=by rw[ip];rfl
  rw[e1] at SW;obtain rfl:=yp SW;have nT:∀b xs,H1 b=some (.lst xs)->H2 b=some (.lst xs):=λb xs e=>g.keep _ _ e λz=>by obtain⟨ps,hP,_⟩:=T1;rw[z,hP] at e;cases e
  have nI:∀b C dx fs,H1 b=some (.ins C dx fs)->H2 b=some (.ins C dx fs):=λb C dx fs e=>g.keep _ _ e λz=>by obtain⟨ps,hP,_⟩:=T1;rw[z,hP] at e;cases e
  have LJ:∀x∈ts,x.At X.K H2:=λx hx=>by obtain⟨a,xs,C,dx,fs,h1,h2,h3,h4,h5,h6⟩:=Il x hx;exact⟨a,xs,C,dx,fs,nT _ _ h1,nI _ _ _ _ h2,h3,h4,h5,nT _ _ h6⟩
  refine F7 (J:=λs=>Inv X ao σ H2 s) (ks:=ts.map λx=>Value.ref x.t) W.jok (IX ts) I2 pl.isList (by simp) (by simpa using zp) (λi v s3 Q' I3 hv hk=>?_) (λh2 s3 Q' I3 B9=>?_) (λi j s3 Q' I3 hi hj B9=>?_) (λs3 D cc pp I3 hD Q3 hU Nl SX=>?_)
  .obtain⟨x,hx,rfl⟩:∃x,ts[i]?=some x/\ v=Value.ref x.p:=by
    rw[ip] at hv;rw[gW] at hv;cases e:ts[i]? with
    |none=>rw[e] at hv;cases hv
    |some x=>rw[e] at hv;exact⟨x,rfl,(di hv).symm⟩
   obtain⟨a,xs,C,dx,fs,h1,h2,h3,h4,h5,h6⟩:=LJ x (cI hx);refine wpAny_call (Af (LI (k:=k) (v:= .ref x.p) hr.in1.in1 I3.OJ.in1.in1 L rfl rfl h1 h2 h3 h4 h5) λr s4 Q4=>?_);cases r with
   |error e=>exact Q4.elim
   |ok fl=>
    cases fl with
    |next=>exact Q4.elim
    |brk=>exact Q4.elim
    |cont=>exact Q4.elim
    |ret u=>
     have un:Un (Fp X.stack) [] H2 H2 s3.heap s4.heap:=by obtain⟨v',H',_,_,un,_,_,_,rfl⟩:=Q4;exact un
     obtain⟨v',H',I4,rv,rfl,rfl⟩:=I3.after Q4;obtain rfl:u=Value.ref x.t:=rv;refine hk s4 _ I4 (λb o hb e=>un.keep b o e (W.h b hb) (λz=>m3 _ (dF (W.st b z) hb)) (by simp)) ?_;rw[gW,hx];rfl
  .refine kas_kind (T:= .type "list") (by simpa using h2) (λv hv=>?_) rfl rfl B9;obtain⟨x,hx,rfl⟩:=fc.mp hv;obtain⟨a,xs,C,dx,fs,_,_,_,_,_,h6⟩:=LJ x hx;obtain⟨_,its,n,_,e⟩:=I3.cu _ _ h6;exact(Looks.ld e).andThen .now
  .have Kj:i<ts.length:=by simpa using hi
   have SH:j<ts.length:=by simpa using hj
   obtain⟨_,_,_,_,_,_,_,_,_,_,k1⟩:=LJ ts[i] (Oj Kj);obtain⟨_,_,_,_,_,_,_,_,_,_,k2⟩:=LJ ts[j] (Oj SH);obtain⟨_,aax,n1,r1,e1⟩:=I3.cu _ _ k1;obtain⟨_,ja,n2,r2,e2⟩:=I3.cu _ _ k2;have g1:ts.getD i Nt=ts[i]:=by rw[uh,c8 Kj];rfl
   have g2:ts.getD j Nt=ts[j]:=by rw[uh,c8 SH];rfl
   have m1:(ts.map λx=>Value.ref x.t).getD i Value.none= .ref ts[i].t:=by rw[uh,gW,c8 Kj];rfl
   have m2:(ts.map λx=>Value.ref x.t).getD j Value.none= .ref ts[j].t:=by rw[uh,gW,c8 SH];rfl
   rw[m1,m2];rw[g1,g2] at B9;exact PM (intsAre_of r1) (intsAre_of r2) (u5 (u1 _ _) hr.in1.in1.units) e1 e2 B9
  .have K5:pp.size=ts.length:=by simpa using Q3
   have hU':Up (λi j=>Tk.less (ts.getD i Nt) (ts.getD j Nt)) pp ts.length:=by simpa using hU
   have SY:pp.Perm (List.range ts.length).toArray:=by simpa using Nl
   have so:=F3 Tk.less Nt ts (λi j=>rfl) (IX ts) K5 hU' SY;have ev:(pp.toList.map λi=>((ts.map (·.p)).map Value.ref).getD i Value.none)=((ts.foldr (jI Tk.less) []).map λx=>Value.ref x.p):=by
    rw[<-so,ip (l:=pp.toList)];refine iU λi hi=>?_;have Kj:i<ts.length:=by have:=(SY.toList.mem_iff (a:=i)).mp hi;simpa using this
    show _=Value.ref (ts.getD i Nt).p;rw[uh,uh,gW,gW,c8 Kj];rfl
   rw[ev] at SX;have hsz:(ts.foldr (jI Tk.less) []).length=ts.length:=by rw[<-so,aS,Rk,K5]
   have Ak:H2 D=none:=W.h D hD;have GW:H1 D=none:=by
    cases e:H1 D with
    |none=>rfl
    |some o=>
     by_cases z:D=TP
     .obtain⟨ps,hP,_⟩:=g.tab;rw[z,hP] at Ak;cases Ak
     .rw[g.keep _ _ e z] at Ak;cases Ak
   have new:dj X.prog X.w (upd H2 D (.lst ((ts.foldr (jI Tk.less) []).map λx=>V.ref x.p))) s3.heap D (.lst ((ts.foldr (jI Tk.less) []).map λx=>V.ref x.p)):=by
    refine⟨by rw[aS,hsz];exact dB (by lia),_,cc,?_,SX⟩;generalize ts.foldr (jI Tk.less) []=zs;induction zs with
    |nil=>exact .nil
    |cons z zs ih=>exact .cons rfl ih
   refine⟨.ref D,_,Inv.adopt I3 (bp W.s0 hD) Ak (u6 (dF W.loc hD)) (λx c e=>cB (dF (W.cl x c e) hD)) (λp hp=>cB (dF (W.pin p hp) hD)) new,rfl,q _ D ⟨λb o e z=>(aE Ak) _ _ (g.keep b o e z),g.tab.same (aE Ak)⟩ GW ah⟩
end
end Ob
namespace Ob
open PySem PySem.Spec PyProof.Rows L2
structure Tag(P:Program)(w:World)(K:Frag)(mg:Str->Option Value)(base:Heap)(C CO CC:Addr):Type where
abbrev bo{P:Program}{w:World}{K:Frag}{mg:Str->Option Value}{base:Heap}{C CO CC:Addr}(_:Tag P w K mg base C CO CC)(k:Nat)(x:Str)(ps:List Str)(sp:Sp):Prop:=SQ P w K mg base k x ps sp
abbrev Tz{P:Program}{w:World}{K:Frag}{mg:Str->Option Value}{base:Heap}{C CO CC:Addr}(_:Tag P w K mg base C CO CC):Prop:=Txt K mg C CO CC
variable{sp:Sp}
section
variable{X:Cx}{x:Str}{a b e:Expr}{es:List Expr}{t:TA}{te ta tb:TE}{p pos pos':Pos}{N ps:List Str}{sc scope:Scope}{C CO CC:Addr}{r:R2}
theorem pc{k k':Nat}(G:SQ X.prog X.w X.K X.mg X.base k x ps sp)(hr:fK k' X.A)(ha:PA X (e::es) t)(hk:k<=k':=by decide)(hg:Gl X x:=by rfl)(Am:(x==("__debug__":Str))=false:=by decide)(he:starEach (e::es) X.env=(false,eval e X.env)::starEach es X.env:=by rfl)(hpl:(backTo pos (starEach es X.env)).any (·.1)=false:=by rfl):PE X (.Call (.Name x p) (e::es) [] pos) (pF sp [] E0 t):=IP G (hr.mono hk) hg ha Am he hpl
theorem bD(i:Nat)(S:aG X.N ps sc)(he:PE X e te)(hi:X.N[i]?=some x:=by rfl)(hx:Loc X.env.scope x:=by first|exact Or.inl rfl|exact Or.inr rfl)(hs:swapsWith e (some (.Name x pos')) pos.line X.env=pure false:=by rfl)(hf:X.fn x=true\/ X.env.scope.names.lookup x=some .local:=by first|exact .inl rfl|exact .inr rfl|assumption):PS X (.Assign [.Name x pos'] e pos) (xq te (fG i)):=OC S.nd hi hx he hs hf
theorem jB(i:Nat)(S:aG X.N ps sc)(hi:X.N[i]?=some x:=by rfl)(hx:Loc X.env.scope x:=by first|exact Or.inl rfl|exact Or.inr rfl)(hf:X.fn x=true\/ X.env.scope.names.lookup x=some .local:=by first|exact .inl rfl|exact .inr rfl|assumption):
 PG X (.Name x pos) (fG i):=KL S.nd hi hx hf
theorem bE{op:CmpOp}(ho:qI X (compareOp op) r)(ha:PE X a ta)(hb:PE X b tb)(hm:behindInMarks op b=false:=by exact k5 _):PT X (.Compare a [op] [b] pos) (iZ (qJ r ta tb)):=KQ ho ha hb hm
theorem c5(hr:R6 X r)(ha:PE X a ta)(hb:PE X b tb)(hs:Ef b:=by exactλ_ _=>rfl):PE X (.Subscript a b pos) (qJ r ta tb):=M4 hr ha hb hs
theorem pd(T:Txt X.K X.mg C CO CC)(ha:PA X (e::es) t)(hg:Gl X "len":=by rfl)(he:starEach (e::es) X.env=(false,eval e X.env)::starEach es X.env:=by rfl)(hpl:(backTo pos (starEach es X.env)).any (·.1)=false:=by rfl):
 PE X (.Call (.Name "len" p) (e::es) [] pos) (Ux (K4 X.K) t):=fM qU hg T.len Ad ha (he:=he) (hpl:=hpl)
theorem eg{i:Int}(T:Txt X.K X.mg C CO CC)(hx:IQ.lookup x=some i:=by rfl)(hg:Gl X x:=by rfl)(hd:(x==("__debug__":Str))=false:=by decide):PE X (.Name x pos) (tC (.int i)):=SR hg (T.gi hx) hd
theorem Cb{own:List (Str×Nat)}{M:List Str}{sd:Scope}(S:aG N ps sc)(h:OY N sc scope own=true:=by decide+kernel)(e:M=N:=by rfl)(f:sd=sc:=by rfl):xV M sd scope own:=by rw[e,f];exact HJ h
theorem eN{N ps:List Str}{st:Stmt}(h:(aG N ps (ay st)):=by exact⟨rfl,rfl,rfl,by decide+kernel,rfl,by decide+kernel,by decide+kernel⟩):aG N ps (ay st):=h
theorem bB.fe{P:Program}{w:World}{K:Frag}{mg:Str->Option Value}{base:Heap}{x:Str}{st:Stmt}{N ps:List Str}{k:Nat}(F:bB K mg x st ps)(S:aG N ps (ay st))(vq:∀{f:Addr}{l_:Value}{A:Around}{outer:List Env}{s:Shared}{vs:List V}(H:Hp)(Q:VK)(E:XK),fK k (A.deeper (envOfC x (ay st) s.heap.objs.size f l_))->sp vs H Q E->
 ∃t,B8 (vp zL P w K mg base N x (ay st) f l_ A outer s H E).MZ (da st) t/\ t {nx:=λ_ H'=>Q .eQ H',rt:=Q} (start N vs) H)(len:∀vs H Q E,sp vs H Q E->vs.length=ps.length:=by intro _ _ _ _ h;cases h;subst_vars;rfl):SQ P w K mg base (k+1) x ps sp:=
 F.ok S len λ_ _ _ _ _ H _ Q E=>vq H Q E
end
end Ob
namespace Ob
open PySem PySem.Spec PyProof.Rows L2
open TL (tl CB uE x3 fD dq)
variable{tb:TS}{D:Ends}{σ:L2.St}{H:Hp}
variable{z:Int}{i:Nat}
variable{H2:Hp}{l:Addr}
variable{b:Addr}
variable{g:TG}{te:TE}{H1:Hp}
variable{m:List Nat}
variable{j:Nat}
variable{H':Hp}{ts:List Addr}{ps:List (Nat×Nat×Nat)}
variable{d:Addr}{a6:List (Key×V)}
variable{x:Nd}
variable{S:List Addr}
variable{dx:Addr}
variable{f:Addr}{fd:FuncData}
variable{ob:Addr}{s:Vanbkn.State}
variable{R:V->Hp->Prop}
variable{u:TS}
variable{tx:TS}
variable{ty:TS}
variable{a:O}
variable{ls:List (List Int)}
variable{ta:TT}
variable{Q:VK}
variable{v:HO}
variable{ws row:List Int}{c:Vanbkn.Call}
variable{y:Str}{A B:Prop}
variable{wl rl:Addr}
variable{cs:List (List (List Int))}
variable{od:Obj}
section
variable{P:Program}{w:World}{K:Frag}{mg:Str->Option Value}{base:Heap}{C CO CC:Addr}{Z:Tag P w K mg base C CO CC}
def WI{α:Type}(Pv:α->L2.St->Hp->Prop)(μ:α->Nat)(m:Nat)(σ:L2.St)(H:Hp):Prop:=∃x,m=μ x/\ Pv x σ H
theorem fA{α:Type}{c:TT}(Pv:α->L2.St->Hp->Prop)(μ:α->Nat)(x0:α)(h0:Pv x0 σ H)(hs:∀x σ H,Pv x σ H->c σ H λb H1=>if b=true then∃N:L2.St->Hp->Prop,(∀σ' H',N σ' H'->∃m',m'<μ x/\ WI Pv μ m' σ' H')/\ tb {D with nx:=N,ct:=N,bk:=D.nx} σ H1 else D.nx σ H1):Hm c tb D σ H:=by refine⟨WI Pv μ,⟨_,x0,rfl,h0⟩,?_⟩;rintro m σ H ⟨x,rfl,p⟩;exact hs x σ H p
theorem nj{α:Type}{Pv:α->L2.St->Hp->Prop}{μ:α->Nat}{n:Nat}(x:α)(h:tb {D with nx:=λσ' H'=>∃x',μ x'<n/\ Pv x' σ' H',ct:=λσ' H'=>∃x',μ x'<n/\ Pv x' σ' H',bk:=D.nx} σ H):
 ∃N:L2.St->Hp->Prop,(∀σ' H',N σ' H'->∃m',m'<n/\ WI Pv μ m' σ' H')/\ tb {D with nx:=N,ct:=N,bk:=D.nx} σ H:=
 ⟨λσ' H'=>∃x',μ x'<n/\ Pv x' σ' H',λσ' H' ⟨x',h1,h2⟩=>⟨_,h1,x',rfl,h2⟩,h⟩
inductive Nu(C:Addr)(vs:List V)(H:Hp)(Q:VK)(_E:XK):Prop
 |mk (l:Addr) (as:List Addr) (o:O) (z:Int) (h1:vs=[.ref l, .int z]) (h2:NL C H l as o) (h3:∀H',aD H H'->Q (uu (c9 o z)) H')
theorem j7:aG ["nodes","number","position","node"] ["nodes","number"] (ay lh):=eN
abbrev uv(Z:Tag P w K mg base C CO CC):Prop:=bo Z 1 "position_of" ["nodes","number"] (Nu C)
theorem P0(F:bB K mg "position_of" lh ["nodes","number"])(T:Tz Z):bo Z 1 "position_of" ["nodes","number"] (Nu C):=by
 refine F.fe j7 λH Q E hr h=>?_;obtain⟨l,as,o,z,rfl,N,k⟩:=h;refine⟨_,(ae (eB PassesOwn.never rfl (yX rfl T.enumerate (aa (pv 0) ag)) (nF rfl (bZ (jB 2 j7) (bZ (jB 3 j7) jE))) (aj (aM (bE bw (aB (pv 3) rfl) (pv 1)) (aj (aw (pv 2))) aA))) (aj (aw aZ))),?_⟩;refine⟨_,rfl,l,_,rfl,bf.of N.lst,wo (K:=K) (a:=l) (xs:=as.map V.ref) (λi σ H'=>∃v2 v3:Option V,σ=[some (.ref l),some (.int z),v2,v3]/\ aD H H'/\ ∀y∈o.take i,(y.number:Int)≠z)
  ⟨none,none,rfl,aD.refl _,by simp⟩ (λi σ H' _ ⟨_,_,_,s1,_⟩=>bf.of (s1 _ _ N.lst)) ?_ ?_⟩
 .rintro i y σ H' p hi ⟨v2,v3,rfl,s1,rQ⟩ hp;obtain⟨a,x,rfl,ha,hx,hn⟩:=N.item hi;have s2:aD H (upd H' p (.tup [.int (i:Nat), .ref a])):=s1.new hp;refine⟨p,_,rfl, .inl (.inl ah),rfl,_,_,rfl,_,_,rfl,rfl,?_⟩;refine⟨_,rfl,bW T (hn.same s2) ⟨_,rfl,rfl,_,rfl,?_⟩⟩;refine aK (λhc=>?_) (λhc=>?_)
  .have e:((x.number:Nat):Int)=z:=by have:=iY hc;injection this
   refine⟨_,rfl,?_⟩;have m_:=(dm.mp hx).1;have P1:o=o.take i++x::o.drop (i+1):=by rw[<-(dm.mp hx).2];simp
   have e2:c9 o z=some i:=by
    conv=>lhs;rw[P1]
    rw[Pr e rQ,bg,iV (eX m_)]
   have:=k _ s2;rw[e2] at this;exact this
  .refine⟨_,_,rfl,s2,λy hy=>?_⟩;rw[take_snoc hx] at hy;rcases dY.mp hy with hy|hy
   .exact rQ y hy
   .simp at hy;subst hy;intro e;exact hc (aR (by rw[e]))
 .rintro σ H' ⟨v2,v3,rfl,s1,rQ⟩;rw[aS,N.len,fq] at rQ;have e:c9 o z=none:=by unfold c9;rw[G3];intro y hy;simpa using rQ y hy
  have q:=k _ s1;rw[e] at q;exact q
inductive C6(C:Addr)(vs:List V)(H:Hp)(Q:VK)(_E:XK):Prop
 |mk (l:Addr) (as:List Addr) (o:O) (i:Nat) (h1:vs=[.ref l, .int (i:Nat)]) (h2:NL C H l as o) (h3:i<o.length) (h4:∀H',aD H H'->Q (.int (aO o i:Nat)) H')
theorem oF:aG ["nodes","start","end"] ["nodes","start"] (ay p_):=eN
abbrev C7(Z:Tag P w K mg base C CO CC):Prop:=bo Z 1 "tree_end" ["nodes","start"] (C6 C)
theorem LK(F:bB K mg "tree_end" p_ ["nodes","start"])(T:Tz Z):bo Z 1 "tree_end" ["nodes","start"] (C6 C):=by
 refine F.fe oF λH Q E hr h=>?_;obtain⟨l,as,o,i,rfl,N,hi,k⟩:=h;refine⟨_,(ae (bD 2 oF (bc bO (pv 1) au)) (ae (ft PassesOwn.never (PW.pt (gY (bE g0 (pv 2) (pd T (aa (pv 0) ag))) (fX (bE gK (aB (c5 aJ (pv 0) (pv 2)) rfl) (aB (c5 aJ (pv 0) (pv 1)) rfl))))) (aj (k4 (i:=2) oF.nd rfl (Or.inl rfl) au nG))) (aj (aw (pv 2))))),?_⟩;refine⟨_,rfl,_,_,rfl,rfl,?_⟩;refine fA (λ(j:Nat) σ H'=>j<=(inside (nd o i).depth (o.drop (i+1))).length/\ σ=[some (.ref l),some (.int (i:Nat)),some (.int ((i+1+j:Nat):Int))]/\ aD H H') (λj=>o.length - j) 0 ⟨a8 _,rfl,aD.refl _⟩ ?_;rintro j σ H' ⟨hj,rfl,s1⟩;have N':=N.same s1;have m9:=FX hj;have hL:=N.gV;refine⟨_,rfl,_,rfl,l,_,rfl, .inl (bf.of N'.lst),_,_,rfl,rfl,_,rfl,?_⟩;refine aK (λhc=>?_) (λhc=>?_)
 .have h1:i+1+j<o.length:=by have:=aH hc;rw[hL] at this;lia
  refine⟨_,rfl,_,rfl,cZ N' rfl h1 λa _ ha=>bj T ha ⟨_,rfl,_,rfl,cZ N' rfl hi λa _ hb=>bj T hb ⟨_,_,rfl,rfl,_,rfl,?_⟩⟩⟩;refine aK (λhd=>?_) (λhd=>?_)
  .have h2:(nd o i).depth<(nd o (i+1+j)).depth:=by have:=aH hd;lia
   have h3:=m9.mp ⟨h1,h2⟩;unfold aO at h3;refine nj j ?_;refine⟨_,rfl,_,_,rfl,rfl,j+1,(by show o.length - (j+1)<o.length - j;lia),by lia,rfl,s1⟩
  .have h2:¬(nd o i).depth<(nd o (i+1+j)).depth:=λh=>cH hd (by lia);have h3:i+1+j=aO o i:=by
    have:¬i+1+j<aO o i:=λh=>h2 (m9.mpr h).2;unfold aO at this⊢
    lia
   have q:=k _ s1;rw[<-h3] at q;exact⟨_,rfl,q⟩
 .have h1:¬i+1+j<o.length:=λh=>cH hc (by rw[hL];lia);have h3:i+1+j=aO o i:=by
   have:¬i+1+j<aO o i:=λh=>h1 (m9.mpr h).1;unfold aO at this⊢
   lia
  refine fL ?_;have q:=k _ s1;rw[<-h3] at q;exact⟨_,rfl,q⟩
inductive Bo(C:Addr)(vs:List V)(H:Hp)(Q:VK)(_E:XK):Prop
 |mk (l:Addr) (as:List Addr) (o:O) (i:Nat) (h1:vs=[.ref l, .int (i:Nat)]) (h2:NL C H l as o) (h3:i<o.length) (h4:∀H',aD H H'->Q (uu (nv o i)) H')
theorem gG:aG ["nodes","position","above"] ["nodes","position"] (ay h_):=eN
theorem P2(F:bB K mg "parent_position" h_ ["nodes","position"])(T:Tz Z):bo Z 1 "parent_position" ["nodes","position"] (Bo C):=by
 refine F.fe gG λH Q E hr h=>?_;obtain⟨l,as,o,i,rfl,N,hi,k⟩:=h;refine⟨_,(ae (bD 2 gG (bc gm (pv 1) au)) (ae (ft PassesOwn.never (PW.pt (gY (bE nH (pv 2) au) (fX (bE nH (aB (c5 aJ (pv 0) (pv 2)) rfl) (aB (c5 aJ (pv 0) (pv 1)) rfl))))) (aj (k4 (i:=2) gG.nd rfl (Or.inl rfl) au Hl))) (aj (aw (gZ (bE nH (pv 2) au) (pv 2) aZ))))),?_⟩;refine⟨_,rfl,_,_,rfl,rfl,?_⟩;refine fA (λ(j:Nat) σ H'=>j<=i/\ jA (λj=>decide ((nd o i).depth<=(nd o j).depth)) j=nv o i/\ σ=[some (.ref l),some (.int (i:Nat)),some (.int ((j:Int) - 1))]/\ aD H H') (λj=>j) i ⟨aQ _,rfl,rfl,aD.refl _⟩ ?_;rintro j σ H' ⟨hj,hb,rfl,s1⟩;have N':=N.same s1;refine⟨_,rfl,_,_,rfl,rfl,_,rfl,?_⟩;refine aK (λhc=>?_) (λhc=>?_)
 .obtain⟨j',rfl⟩:∃j',j=j'+1:=⟨j - 1,by have:=aH hc;lia⟩;refine⟨_,rfl,_,rfl,cZ (i:=j') N' (by lia) (by lia) λa _ ha=>bj T ha ⟨_,rfl,_,rfl,cZ N' rfl hi λa _ PK=>bj T PK ⟨_,_,rfl,rfl,_,rfl,?_⟩⟩⟩;rw[show jA (λj=>decide ((nd o i).depth<=(nd o j).depth)) (j'+1)=if decide ((nd o i).depth<=(nd o j').depth)=true then jA (λj=>decide ((nd o i).depth<=(nd o j).depth)) j' else some j' from rfl] at hb;refine aK (λhd=>?_) (λhd=>?_)
  .rw[aq (aR (by have:=aH hd;lia))] at hb;refine nj (j'+1) ?_;refine⟨_,rfl,_,_,rfl,rfl,j',m4 _,by lia,hb,?_,s1⟩;show[some (V.ref l),some (V.int i),some (V.int (((j'+1:Nat):Int) - 1 - 1))]=_;rw[show(((j'+1:Nat):Int) - 1 - 1)=(j':Int) - 1 by lia]
  .rw[ak (λh=>cH hd (by have:=aH h;lia))] at hb;refine⟨_,rfl,_,_,rfl,rfl,_,rfl,?_⟩;refine aK (λ_=>?_) (λh=>absurd (aR (by lia)) h);have q:=k _ s1;rw[<-hb] at q;refine⟨_,rfl,?_⟩;show Q (.int (((j'+1:Nat):Int) - 1)) H';rw[show(((j'+1:Nat):Int) - 1)=(j':Int) by lia];exact q
 .have h0:j=0:=by
   have:=cH hc
   lia
  subst h0;refine fL ?_;refine⟨_,rfl,_,_,rfl,rfl,_,rfl,?_⟩;refine aK (λh=>absurd h hc) (λ_=>?_);have q:=k _ s1;rw[<-hb] at q;exact q
inductive IZ(C:Addr)(vs:List V)(H:Hp)(Q:VK)(_E:XK):Prop
 |mk (l:Addr) (as:List Addr) (o:O) (i:Nat) (h1:vs=[.ref l, .int (i:Nat)]) (h2:NL C H l as o) (h3:i<o.length) (h4:∀H',aD H H'->Q (uu (xy o i)) H')
theorem ib:aG ["nodes","position","above"] ["nodes","position"] (ay iw):=eN
theorem P4(F:bB K mg "sibling_before" iw ["nodes","position"])(T:Tz Z):bo Z 1 "sibling_before" ["nodes","position"] (IZ C):=by
 refine F.fe ib λH Q E hr h=>?_;obtain⟨l,as,o,i,rfl,N,hi,k⟩:=h;refine⟨_,(ae (bD 2 ib (bc gm (pv 1) au)) (ae (ft PassesOwn.never (PW.pt (gY (bE nH (pv 2) au) (fX (bE gK (aB (c5 aJ (pv 0) (pv 2)) rfl) (aB (c5 aJ (pv 0) (pv 1)) rfl))))) (aj (k4 (i:=2) ib.nd rfl (Or.inl rfl) au Hl))) (ae (aM (PW.pt (gh (bE g0 (pv 2) au) (gz (bE g0 (aB (c5 aJ (pv 0) (pv 2)) rfl) (aB (c5 aJ (pv 0) (pv 1)) rfl))))) (aj (aw aZ)) aA) (aj (aw (pv 2)))))),?_⟩;refine⟨_,rfl,_,_,rfl,rfl,?_⟩;refine fA (λ(j:Nat) σ H'=>j<=i/\ jA (λj=>decide ((nd o i).depth<(nd o j).depth)) j=Py o i/\ σ=[some (.ref l),some (.int (i:Nat)),some (.int ((j:Int) - 1))]/\ aD H H') (λj=>j) i ⟨aQ _,rfl,rfl,aD.refl _⟩ ?_;rintro j σ H' ⟨hj,hb,rfl,s1⟩;have N':=N.same s1;refine⟨_,rfl,_,_,rfl,rfl,_,rfl,?_⟩;refine aK (λhc=>?_) (λhc=>?_)
 .obtain⟨j',rfl⟩:∃j',j=j'+1:=⟨j - 1,by have:=aH hc;lia⟩;refine⟨_,rfl,_,rfl,cZ (i:=j') N' (by lia) (by lia) λa _ ha=>bj T ha ⟨_,rfl,_,rfl,cZ N' rfl hi λa _ PK=>bj T PK ⟨_,_,rfl,rfl,_,rfl,?_⟩⟩⟩;rw[show jA (λj=>decide ((nd o i).depth<(nd o j).depth)) (j'+1)=if decide ((nd o i).depth<(nd o j').depth)=true then jA (λj=>decide ((nd o i).depth<(nd o j).depth)) j' else some j' from rfl] at hb;refine aK (λhd=>?_) (λhd=>?_)
  .rw[aq (aR (by have:=aH hd;lia))] at hb;refine nj (j'+1) ?_;refine⟨_,rfl,_,_,rfl,rfl,j',m4 _,by lia,hb,?_,s1⟩;show[some (V.ref l),some (V.int i),some (V.int (((j'+1:Nat):Int) - 1 - 1))]=_;rw[show(((j'+1:Nat):Int) - 1 - 1)=(j':Int) - 1 by lia]
  .rw[ak (λh=>cH hd (by have:=aH h;lia))] at hb;refine⟨_,rfl,_,_,rfl,rfl,_,rfl,?_⟩;refine aK (λh=>?_) (λ_=>?_)
   .exact absurd (aH h) (by lia)
   have e:xy o i=if(nd o j').depth<(nd o i).depth then none else some j':=by unfold xy;rw[<-hb]
   have q:=k _ s1;rw[e] at q;refine⟨_,rfl,_,rfl,cZ (i:=j') N' (by lia) (by lia) λa _ ha=>bj T ha ⟨_,rfl,_,rfl,cZ N' rfl hi λa _ hb=>bj T hb ⟨_,_,rfl,rfl,_,rfl,?_⟩⟩⟩;refine aK (λh=>?_) (λh=>?_)
   .rw[aq (by have:=aH h;lia)] at q;exact q
   .rw[ak (λh2=>cH h (by lia))] at q;refine⟨_,rfl,?_⟩;show Q (.int (((j'+1:Nat):Int) - 1)) H';rw[show(((j'+1:Nat):Int) - 1)=(j':Int) by lia];exact q
 .have h0:j=0:=by
   have:=cH hc
   lia
  subst h0;refine fL ?_;refine⟨_,rfl,_,_,rfl,rfl,_,rfl,?_⟩;refine aK (λ_=>?_) (λh=>?_)
  .have e:xy o i=none:=by unfold xy;rw[<-hb];rfl
   have q:=k _ s1;rw[e] at q;exact eD q
  .exact absurd (aR (by lia)) h
theorem I0{o:O}(h:c9 o z=some i):i<o.length:=by
 obtain⟨a,x,r,rfl,rfl,_⟩:=vD h;rw[a_,cj]
 lia
inductive I_(C:Addr)(vs:List V)(H:Hp)(Q:VK)(_E:XK):Prop
 |mk (l:Addr) (as:List Addr) (o:O) (p:Int) (h1:vs=[.ref l, .int p]) (h2:NL C H l as o) (h3:(runM o p=none->∀H',aD H H'->Q .eQ H')) (h4:∀a b d:Nat,runM o p=some (a,b,d)->∀H' t,aD H H'->H' t=some (.tup [.int (a:Nat), .int (b:Nat), .int (d:Nat)])->Q (.ref t) H')
theorem nq:aG ["nodes","parent","position"] ["nodes","parent"] (ay jZ):=eN
theorem P5(F:bB K mg "children_run" jZ ["nodes","parent"])(T:Tz Z)(ax:uv Z)(aP:C7 Z):
 bo Z 2 "children_run" ["nodes","parent"] (I_ C):=by
 refine F.fe nq λH Q E hr h=>?_;obtain⟨l,as,o,p,rfl,N,k1,k2⟩:=h;refine⟨_,(ae (aM (bE bw (pv 1) au) (aj (aw (md (aa au (aa (pd T (aa (pv 0) ag)) (aa au ag)))))) aA) (ae (bD 2 nq (pc ax hr (aa (pv 0) (aa (pv 1) ag)))) (ae (aM (PW.pt (gh (bE bC (pv 2) aZ) (gz (bE bw (aB (c5 aJ (pv 0) (pv 2)) rfl) au)))) (aj (aw aZ)) aA) (aj (aw (md (aa (bc bO (pv 2) au) (aa (pc aP hr (aa (pv 0) (aa (pv 2) ag))) (aa (bc bO (aB (c5 aJ (pv 0) (pv 2)) rfl) au) ag))))))))),?_⟩;refine⟨_,rfl,rfl,_,rfl,?_⟩;refine aK (λhc=>?_) (λhc=>?_)
 .have e:p=0:=by have:=aH hc;injection this
  subst e;refine⟨_,rfl,l,_,rfl, .inl (bf.of N.lst),(by show 3<=sizeLine;decide),λt ht=>?_⟩;refine k2 0 o.length 1 (by simp[runM]) _ t (aE ht) ?_;rw[ah,N.gV];rfl
 .have Bp:p≠0:=λe=>hc (aR (by rw[e]));refine⟨_,rfl,_,rfl,l,as,o,p,rfl,N,λH2 s2=>?_⟩;have N2:=N.same s2;refine⟨_,rfl,rfl,_,rfl,?_⟩;cases hp:c9 o p with
  |none=>refine aK (λ_=>eD ?_) (λh=>absurd (aR rfl) h);exact k1 (by unfold runM;rw[ak Bp,hp]) _ s2
  |some i=>
   have hi:=I0 hp;refine aK (λh=>nomatch (aH h)) (λ_=>?_);refine⟨_,rfl,_,rfl,cZ N2 rfl hi λa _ ha=>fI T ha ⟨rfl,_,rfl,?_⟩⟩;have e:runM o p=if(nd o i).cell=true then none else some (i+1,aO o i,(nd o i).depth+1):=by unfold runM;rw[ak Bp,hp]
   cases bR:(nd o i).cell with
   |true=>refine aK (λ_=>?_) (λh=>absurd (aR rfl) h);rw[bR] at e;exact k1 e _ s2
   |false=>refine aK (λh=>absurd (aH h) (by intro q;cases q)) (λ_=>?_);rw[bR] at e;refine⟨_,rfl,_,_,rfl,rfl,_,rfl,_,rfl,l,as,o,i,rfl,N2,hi,λH3 s3=>?_⟩;refine⟨_,rfl,_,rfl,cZ (N2.same s3) rfl hi λa _ ha=>bj T ha ⟨_,_,rfl,rfl,(by show 3<=sizeLine;decide),λt ht=>?_⟩⟩;exact k2 _ _ _ e _ t ((s2.trans s3).new ht) ah
def yq(o:O)(i:Nat):Nat:=((inside (nd o i).depth (o.drop (i+1))).filter λy=>y.depth==(nd o i).depth+1).length
inductive zu(C:Addr)(vs:List V)(H:Hp)(Q:VK)(_E:XK):Prop
 |mk (l:Addr) (as:List Addr) (o:O) (i:Nat) (h1:vs=[.ref l, .int (i:Nat)]) (h2:NL C H l as o) (h3:i<o.length) (h4:∀H',aD H H'->Q (.int (yq o i:Nat)) H')
theorem rA(xs:List V){a b:Nat}(ha:a<=xs.length)(hb:b<=xs.length):d5 xs (some (a:Int)) (some (b:Int))=(xs.drop a).take (b - a):=by unfold d5;rw[show HT.qK xs.length 0 (some (a:Int))=min a xs.length from HT.kD _ _ _,show HT.qK xs.length xs.length (some (b:Int))=min b xs.length from HT.kD _ _ _,iV ha,iV hb]
theorem sS(xs:List V){b:Nat}(hb:b<=xs.length):d5 xs none (some (b:Int))=xs.take b:=by unfold d5;rw[show HT.qK xs.length 0 none=0 from rfl,show HT.qK xs.length xs.length (some (b:Int))=min b xs.length from HT.kD _ _ _,iV hb];rfl
theorem j8(xs:List V){a:Nat}(ha:a<=xs.length):d5 xs (some (a:Int)) none=xs.drop a:=by unfold d5;rw[show HT.qK xs.length 0 (some (a:Int))=min a xs.length from HT.kD _ _ _,show HT.qK xs.length xs.length none=xs.length from rfl,iV ha];rw[<-dC,fq]
theorem NL.cut{as:List Addr}{o:O}(N:NL C H l as o){a b:Nat}(ha:a<=o.length)(hb:b<=o.length)(s:aD H H2){p:Addr}(hp:H2 p=none):
 NL C (upd H2 p (.lst (d5 (as.map V.ref) (some (a:Int)) (some (b:Int))))) p ((as.drop a).take (b - a)) ((o.drop a).take (b - a)):=by
 refine N.sub (s.new hp) a (b - a) ?_;rw[ah,rA _ (by rw[N.gV];exact ha) (by rw[N.gV];exact hb),mY,jR]
theorem Bq{o:O}:(o.drop (i+1)).take (aO o i - (i+1))=inside (nd o i).depth (o.drop (i+1)):=by rw[nS];unfold aO;rw[xF]
theorem rB(o:O)(i:Nat):i+1<=aO o i:=u1 _ _
theorem ek:aG ["nodes","position","inside","node"] ["nodes","position"] (ay iy):=eN
theorem LL(F:bB K mg "children_count" iy ["nodes","position"])(T:Tz Z)(aP:C7 Z):
 bo Z 2 "children_count" ["nodes","position"] (zu C):=by
 refine F.fe ek λH Q E hr h=>?_;obtain⟨l,as,o,i,rfl,N,hi,k⟩:=h;refine⟨_,(ae (bD 2 ek (bh bz (pv 0) (aW (bc bO (pv 1) au)) (aW (pc aP hr (aa (pv 0) (aa (pv 1) ag)))))) (aj (aw (pd T (aa (kH rfl ek.nd (bL (pv 2)) (own:=[("node",3)]) (Cb ek) (λ_ _ _ _ _=>(jB 3 ek)) (λ_ _ _ _ _=>(kG (bE bw (d8 (K:=K) rfl (pv 3) rfl) (bc bO (d8 (K:=K) rfl (c5 (oC (K:=K) rfl) (pv 0) (pv 1)) rfl) au)))) (λ_ _ _ _ _=>(pv 3))) ag))))),?_⟩;refine⟨_,rfl,_,rfl,_,_,rfl,rfl,_,rfl,_,rfl,_,rfl,l,as,o,i,rfl,N,hi,λH2 s2=>⟨_,rfl,l,_,rfl,bf.of (s2 _ _ N.lst),λp hp=>?_⟩⟩;have yr:=jG hi;have M:=N.cut (a:=i+1) (b:=aO o i) hi yr s2 hp;rw[Bq] at M;have N3:=N.same (s2.new hp (u:= .lst (d5 (as.map V.ref) (some ((i+1:Nat):Int)) (some ((aO o i:Nat):Int)))));refine⟨_,rfl,p,rfl,⟨_,bf.of M.lst⟩,λD hD=>?_⟩;refine f9 (K:=K) (a:=p) (λq=>if(q.2.depth==(nd o i).depth+1)=true then some (V.ref q.1) else none) M.zip hD M.LH (λm q H4 hq s4 R R0 k1 k2=>?_) (λH4 s4 h4=>?_)
 .refine⟨rfl,_,rfl,bj T ((M.at2 hq).same s4) ⟨_,rfl,_,rfl,cZ (N3.same s4) rfl hi λb _ hb=>bj T hb ⟨_,_,rfl,rfl,rfl,_,rfl,?_⟩⟩⟩;refine aK (λhc=>?_) (λhc=>?_)
  .have e:(q.2.depth==(nd o i).depth+1)=true:=by
    have:=aH hc;injection this;simp
    lia
   exact⟨_,rfl,k1 _ _ (aD.refl _) (aq e)⟩
  .refine k2 _ (aD.refl _) (ak λe=>hc (aR ?_));simp at e;rw[e];rfl
 .refine⟨D,_,rfl, .inl (bf.of h4),?_⟩;rw[ym M.len (λy=>y.depth==(nd o i).depth+1)];exact k _ ((s2.new hp).trans s4)
inductive uO(C:Addr)(vs:List V)(H:Hp)(Q:VK)(_E:XK):Prop
 |mk (l:Addr) (as:List Addr) (o:O) (p a:Int) (h1:vs=[.ref l, .int p, .int a]) (h2:NL C H l as o) (h3:(ff o p a=none->∀H',aD H H'->Q .eQ H')) (h4:∀i d:Nat,ff o p a=some (i,d)->∀H' t,aD H H'->H' t=some (.tup [.int (i:Nat), .int (d:Nat)])->Q (.ref t) H')
theorem gO:aG ["nodes","parent","after","run","start","end","depth","sibling"] ["nodes","parent","after"] (ay qa):=eN
theorem Ja(F:bB K mg "place_at" qa ["nodes","parent","after"])(T:Tz Z)(ax:uv Z)(aP:C7 Z)(fE:bo Z 2 "children_run" ["nodes","parent"] (I_ C)):bo Z 3 "place_at" ["nodes","parent","after"] (uO C):=by
 refine F.fe gO λH Q E hr h=>?_;obtain⟨l,as,o,p,a,rfl,N,k1,k2⟩:=h;refine⟨_,(ae (bD 3 gO (pc fE hr (aa (pv 0) (aa (pv 1) ag)))) (ae (aM (bE bC (pv 3) aZ) (aj (aw aZ)) aA) (ae (bD 4 gO (c5 dR (pv 3) au)) (ae (bD 5 gO (c5 dR (pv 3) au)) (ae (bD 6 gO (c5 dR (pv 3) au)) (ae (aM (bE bw (pv 2) au) (aj (aw (md (aa (pv 4) (aa (pv 6) ag))))) aA) (ae (bD 7 gO (pc ax hr (aa (pv 0) (aa (pv 2) ag)))) (ae (aM (PW.pt (gh (bE bC (pv 7) aZ) (gh (bE g0 (pv 7) (pv 4)) (gh (bE nH (pv 7) (pv 5)) (gz (bE lG (aB (c5 aJ (pv 0) (pv 7)) rfl) (pv 6))))))) (aj (aw aZ)) aA) (aj (aw (md (aa (pc aP hr (aa (pv 0) (aa (pv 7) ag))) (aa (pv 6) ag))))))))))))),?_⟩;refine⟨_,rfl,_,rfl,l,as,o,p,rfl,N,λhn H2 s2=>?_,λst en d hs H2 t s2 ht=>?_⟩
 .refine⟨_,rfl,rfl,_,rfl,?_⟩;refine aK (λ_=>?_) (λh=>absurd (aR rfl) h);exact k1 (by unfold ff;rw[hn]) _ s2
 .have N2:=N.same s2;refine⟨_,rfl,rfl,_,rfl,?_⟩;refine aK (λh=>nomatch (aH h)) (λ_=>?_);refine⟨_,rfl,t,_,_,_,rfl,rfl,i_.of ht,bT (j:=0) rfl,?_⟩;refine⟨_,rfl,t,_,_,_,rfl,rfl,i_.of ht,bT (j:=1) rfl,?_⟩;refine⟨_,rfl,t,_,_,_,rfl,rfl,i_.of ht,bT (j:=2) rfl,?_⟩;refine⟨_,rfl,rfl,_,rfl,?_⟩;refine aK (λhc=>?_) (λhc=>?_)
  .have e:a=0:=by have:=aH hc;injection this
   refine⟨_,rfl,_,rfl,(by show 2<=sizeLine;decide),λt2 P6=>?_⟩;exact k2 st d (by unfold ff;rw[hs];exact aq e) _ t2 (s2.new P6) ah
  .have US:a≠0:=λe=>hc (aR (by rw[e]));refine⟨_,rfl,_,rfl,l,as,o,a,rfl,N2,λH3 s3=>?_⟩;have N3:=N2.same s3;have jC:=s2.trans s3;have e:ff o p a=match c9 o a with
    |none=>none
    |some j=>if j<st\/ en<=j\/ (nd o j).depth≠d then none else some (aO o j,d):=by
    unfold ff;rw[hs];exact ak US
   refine⟨_,rfl,rfl,_,rfl,?_⟩;cases hp:c9 o a with
   |none=>rw[hp] at e;refine aK (λ_=>eD ?_) (λh=>absurd (aR rfl) h);exact k1 e _ jC
   |some j=>
    rw[hp] at e;have e:ff o p a=if j<st\/ en<=j\/ (nd o j).depth≠d then none else some (aO o j,d):=e;have hj:=I0 hp;refine aK (λh=>nomatch (aH h)) (λ_=>?_);refine⟨_,rfl,_,rfl,_,_,rfl,rfl,_,rfl,?_⟩;refine aK (λh1=>eD ?_) (λh1=>?_)
    .have:=aH h1;rw[aq (Or.inl (by lia))] at e;exact k1 e _ jC
    have h1:=cH h1;refine⟨_,rfl,_,rfl,_,_,rfl,rfl,_,rfl,?_⟩;refine aK (λh2=>eD ?_) (λh2=>?_)
    .have:=aH h2;rw[aq (Or.inr (Or.inl (by lia)))] at e;exact k1 e _ jC
    have h2:=cH h2;refine⟨_,rfl,_,rfl,cZ N3 rfl hj λb _ hb=>bj T hb ⟨_,rfl,rfl,_,rfl,?_⟩⟩;by_cases hd:(nd o j).depth=d
    .rw[hd];refine aK (λh=>?_) (λ_=>?_)
     .simp at h
     rw[ak (by lia)] at e;refine⟨_,rfl,_,rfl,l,as,o,j,rfl,N3,hj,λH4 s4=>⟨_,rfl,(by show 2<=sizeLine;decide),λt2 P6=>?_⟩⟩;exact k2 _ _ e _ t2 ((jC.trans s4).new P6) ah
    .refine aK (λ_=>?_) (λh=>?_)
     .rw[aq (Or.inr (Or.inr hd))] at e;exact k1 e _ jC
     .exfalso;apply h;simp
      lia
theorem C8{as:List Addr}{o:O}(h:as.length=o.length)(c:Nd->Bool):((as.zip o).filterMap λp=>some (V.bl (c p.2)))=(o.map c).map V.bl:=by rw[C3 h (λx=>some (V.bl (c x))),KC,ip];rfl
theorem Nv{α:Type}(l:List α)(c:α->Bool):(l.filterMap λp=>some (V.bl (c p)))=(l.map c).map V.bl:=by rw[KC,ip];rfl
theorem qo{α:Type}(l:List α)(c:α->Bool):(l.map c).any id=l.any c:=by rw[Cd];rfl
theorem wy{α:Type}(l:List α)(c:α->Bool):(l.map c).all id=l.all c:=by rw[Kv];rfl
def tZ(o:O)(k:Int):Bool:=o.any λx=> !x.cell&&decide (6<(x.depth:Int)+k)
inductive jP(C:Addr)(vs:List V)(H:Hp)(Q:VK)(_E:XK):Prop
 |mk (l:Addr) (as:List Addr) (o:O) (k:Int) (h1:vs=[.ref l, .int k]) (h2:NL C H l as o) (h3:∀H',aD H H'->Q (.bl (tZ o k)) H')
theorem kQ:aG ["nodes","shift","node"] ["nodes","shift"] (ay qb):=eN
theorem Br(F:bB K mg "too_deep" qb ["nodes","shift"])(T:Tz Z):bo Z 1 "too_deep" ["nodes","shift"] (jP C):=by
 refine F.fe kQ λH Q E hr h=>?_;obtain⟨l,as,o,z,rfl,N,k⟩:=h;refine⟨_,(aj (aw (fM (Cs rfl) (by rfl) T.any C1 (aa (kH rfl kQ.nd (bL (pv 0)) (own:=[("node",2)]) (Cb kQ) (λ_ _ _ _ _=>(jB 2 kQ)) (λ_ _ _ _ _=>kF) (λ_ _ _ _ _=>(Hk (jF bw (d8 (K:=K) rfl (pv 2) rfl) au (k5 _)) (Ci (jF gK (bc bO (d8 (K:=K) rfl (pv 2) rfl) (pv 1)) (eg T) (k5 _)))))) ag)))),?_⟩;refine⟨_,rfl,l,rfl,⟨_,bf.of N.lst⟩,λD hD=>?_⟩;refine f9 (K:=K) (a:=l) (λq=>some (V.bl (!q.2.cell&&decide (6<(q.2.depth:Int)+z)))) N.zip hD N.LH (λm q H4 hq s4 R R0 k1 k2=>?_) (λH4 s4 h4=>?_)
 .have hn:=(N.at2 hq).same s4;refine⟨rfl,Bk ⟨_,rfl,fI T hn ⟨rfl,_,rfl,?_⟩⟩⟩;cases bR:q.2.cell with
  |true=>refine aK (λh=>absurd (aH h) (by intro e;cases e)) (λ_=>?_);refine k1 _ _ (aD.refl _) ?_;rw[bR];rfl
  |false=>refine aK (λ_=>?_) (λh=>absurd (aR rfl) h);refine⟨_,rfl,bj T hn ⟨_,rfl,_,_,rfl,rfl,_,_,rfl,rfl,?_⟩⟩;refine k1 _ _ (aD.refl _) ?_;rw[bR];rfl
 .rw[C8 N.len (λx=> !x.cell&&decide (6<(x.depth:Int)+z))] at h4;refine⟨D,_,rfl,bf.of h4,?_⟩;rw[qo];exact k _ s4
def C9(k:Int)(x:Nd):Nd:={x with depth:=((x.depth:Int)+k).toNat}
theorem C_(x:Nd)(t:Addr)(z:Int)(d:Nat)(h:z=(d:Int)):eY "depth" (.int z) (nf x t)=nf {x with depth:=d} t:=by subst h;rfl
theorem t4(x:Nd)(t:Addr)(b:Bool):eY "folded" (.int (b2 b)) (nf x t)=nf {x with folded:=b} t:=rfl
theorem NL.oG{as:List Addr}{o:O}(N:NL C H l as o){a:Addr}(h:a∈as):∃dx fs,H a=some (.ins C dx fs):=by obtain⟨i,hi⟩:=xm h;obtain⟨x,hx⟩:∃x,o[i]?=some x:=⟨o[i]'(by rw[<-N.len];exact(dm.mp hi).1),c8 _⟩;obtain⟨dx,t,h1,_⟩:=N.at_ i a x hi hx;exact⟨dx,_,h1⟩
theorem NL.EU{as:List Addr}{o:O}{xs:List V}(N:NL C H l as o)(h:H b=some (.lst xs)):b∉as:=λhb=>by obtain⟨dx,fs,e⟩:=N.oG hb;rw[h] at e;cases e
def qp(as:List Addr)(H H':Hp):Prop:=∀b u,H b=some u->b∉as->H' b=some u
inductive oH(C:Addr)(vs:List V)(H:Hp)(Q:VK)(_E:XK):Prop
 |mk (l:Addr) (as:List Addr) (o:O) (k:Int) (h1:vs=[.ref l, .int k]) (h2:NL C H l as o) (h3:as.Nodup) (h4:(∀x∈o,0<=(x.depth:Int)+k)) (h5:∀H',qp as H H'->(∀(i:Nat)(a:Addr)(x:Nd),as[i]?=some a->o[i]?=some x->bV C H' a (C9 k x))->Q .eQ H')
theorem yt:aG ["nodes","shift","node"] ["nodes","shift"] (ay wj):=eN
theorem F9(F:bB K mg "deepen" wj ["nodes","shift"])(T:Tz Z):bo Z 1 "deepen" ["nodes","shift"] (oH C):=by
 refine F.fe yt λH Q E hr h=>?_;obtain⟨l,as,o,z,rfl,N,vE,hz,k⟩:=h;refine⟨_,(aj (eB PassesOwn.never rfl (bL (pv 0)) (jB 2 yt) (aj (rZ (pv 2) (pv 1) Cm)))),?_⟩;refine⟨_,rfl,l,rfl,⟨_,bf.of N.lst⟩,dG (K:=K) (a:=l) (xs:=as.map V.ref) (λi σ H'=>∃v:Option V,σ=[some (.ref l),some (.int z),v]/\ qp (as.take i) H H'/\ ∀j a x,j<i->as[j]?=some a->o[j]?=some x->bV C H' a (C9 z x))
  ⟨none,rfl,λb u e _=>e,λj a x h=>by lia⟩ (λi σ H' _ ⟨_,_,s1,_⟩=>bf.of (s1 _ _ N.lst λh=>N.EU N.lst (ku h))) ?_ ?_⟩
 .rintro i y σ H' hi ⟨v,rfl,s1,GV⟩;obtain⟨a,x,rfl,ha,hx,dx,t,h1,h2⟩:=N.item hi;have hna:a∉as.take i:=λh=>by
   obtain⟨j,hj⟩:=xm h;rw[Fj] at hj;by_cases P7:j<i
   .rw[aq P7] at hj;have:=AG vE ha hj
    lia
   .rw[ak P7] at hj;cases hj
  have Q5:=s1 _ _ h1 hna;have Ni:=s1 _ _ h2 λh=>N.EU h2 (ku h);refine⟨_,rfl,a,C,dx,_,_,rfl,Q5,T.cl,T.C4,rfl,_,rfl,_,_,rfl,rfl,dx,_,Q5,(by show 5<1000;decide),?_⟩;have hzx:=hz x (cI hx);refine⟨_,rfl,λb u e hb=>?_,λj a' x' hj UT WW=>?_⟩
  .rw[take_snoc ha] at hb;rw[az (λe=>hb (by rw[e];simp))];exact s1 _ _ e λh=>hb (dz _ h)
  .have F_:upd H' a (.ins C dx (eY "depth" (.int ((x.depth:Int)+z)) (nf x t))) a=some (.ins C dx (nf (C9 z x) t)):=by rw[ah,C_ x t _ ((x.depth:Int)+z).toNat (by lia)];rfl
   by_cases P7:j=i
   .subst P7;rw[ha] at UT;cases UT;rw[hx] at WW;cases WW;refine⟨dx,t,F_,?_⟩;rw[az (jy Ni Q5 (by intro e;cases e))];exact Ni
   .obtain⟨WX,t2,g1,g2⟩:=GV j a' x' (by lia) UT WW;refine⟨WX,t2,?_,?_⟩
    .rw[az (λe=>P7 (AG vE UT (by rw[e];exact ha)))];exact g1
    .rw[az (jy g2 Q5 (by intro e;cases e))];exact g2
 .rintro σ H' ⟨v,rfl,s1,GV⟩;rw[aS] at s1 GV;rw[fq] at s1;exact k _ s1 λi a x ha hx=>GV i a x (dm.mp ha).1 ha hx
inductive EV(vs:List V)(H:Hp)(Q:VK)(_E:XK):Prop
 |mk (l r:Addr) (xs ys:List V) (i:Nat) (h1:vs=[.ref l, .int (i:Nat), .ref r]) (h2:H l=some (.lst xs)) (h3:H r=some (.lst ys)) (h4:i<=xs.length) (h5:xs.length+ys.length<=100000) (h6:∀H' p,aD H H'->H' p=some (.lst (xs.take i++ys++xs.drop i))->Q (.ref p) H')
theorem Bs:aG ["nodes","position","run"] ["nodes","position","run"] (ay qc):=eN
theorem P8(F:bB K mg "inserted" qc ["nodes","position","run"]):bo Z 1 "inserted" ["nodes","position","run"] EV:=by refine F.fe Bs λH Q E hr h=>?_;obtain⟨l,r,xs,ys,i,rfl,hl,hR,hi,hz,k⟩:=h;refine⟨_,(aj (aw (bc g8 (bc g8 (bh bz (pv 0) eR (aW (pv 1))) (pv 2)) (bh bz (pv 0) (aW (pv 1)) eR)))),?_⟩;refine⟨_,rfl,_,rfl,_,rfl,l,_,rfl,bf.of hl,λp1 h1=>?_⟩;rw[sS _ hi];have s1:aD H (upd H p1 (.lst (xs.take i))):=aE h1;refine⟨_,rfl,p1,r,_,_,rfl,rfl,ah,s1 _ _ hR,dB (by rw[bg];lia),λp2 h2=>?_⟩;have s2:=s1.new h2 (u:= .lst (xs.take i++ys));refine⟨_,rfl,_,rfl,_,rfl,l,_,rfl,bf.of (s2 _ _ hl),λp3 h3=>?_⟩;rw[j8 _ hi];have s3:=s2.new h3 (u:= .lst (xs.drop i));refine⟨p2,p3,_,_,rfl,rfl,a7 ah h3,ah,dB (by rw[a_,bg,dC];lia),λp4 h4=>?_⟩;exact k _ p4 (s3.new h4) ah
inductive rC(vs:List V)(H:Hp)(Q:VK)(_E:XK):Prop
 |mk (r:Addr) (t:List Int) (h1:vs=[.ref r]) (h2:H r=some (.lst (aT t))) (h3:t.length<=10000) (h4:∀H',aD H H'->Q (.bl (isText t)) H')
theorem mG:aG ["row","byte"] ["row"] (ay sJ):=eN
theorem F'(F:bB K mg "is_text" sJ ["row"])(T:Tz Z):bo Z 1 "is_text" ["row"] rC:=by
 refine F.fe mG λH Q E hr h=>?_;obtain⟨r,t,rfl,hR,hz,k⟩:=h;refine⟨_,(ae (aM (bE gK (pd T (aa (pv 0) ag)) (eg T)) (aj (aw D9)) aA) (aj (aw (fM (HG rfl) (by rfl) T.all IS (aa (kH rfl mG.nd (bL (pv 0)) (own:=[("byte",1)]) (Cb mG) (λ_ _ _ _ _=>(jB 1 mG)) (λ_ _ _ _ _=>kF) (λ_ _ _ _ _=>(Ht vj vj (eg T) (pv 1) (eg T)))) ag))))),?_⟩;refine⟨_,rfl,r,_,rfl, .inl (bf.of hR),_,_,rfl,rfl,_,rfl,?_⟩;rw[bA];refine aK (λhc=>?_) (λhc=>?_)
 .have Bt:60<t.length:=by have:=aH hc;lia
  have e:isText t=false:=by unfold isText;rw[cP (by show¬t.length<=60;lia)];rfl
  have q:=k _ (aD.refl _);rw[e] at q;exact q
 .have Bt:t.length<=60:=by
   have:=cH hc
   lia
  refine⟨_,rfl,r,rfl,⟨_,bf.of hR⟩,λD hD=>?_⟩;refine f9 (K:=K) (a:=r) (ys:=t) (v:=V.int) (λc=>some (V.bl (decide (32<=c/\ c<=126)))) (bf.of hR) hD (eM (by lia)) (λm q H4 hq s4 R R0 k1 k2=>?_) (λH4 s4 h4=>?_)
  .refine⟨rfl,Bk ⟨_,rfl,_,_,rfl,rfl,_,rfl,?_⟩⟩;refine aK (λh1=>?_) (λh1=>?_)
   .refine⟨_,_,rfl,rfl,?_⟩;refine k1 _ _ (aD.refl _) ?_;have h1:=aH h1;have e:decide (32<=q/\ q<=126)=decide (q<=126):=by rw[qP];exact⟨λh=>h.2,λh=>⟨h1,h⟩⟩
    rw[e]
   .refine k1 _ _ (aD.refl _) ?_;rw[cP (λh=>h1 (aR h.1))]
  .rw[Nv t (λc=>decide (32<=c/\ c<=126))] at h4;refine⟨D,_,rfl,bf.of h4,?_⟩;rw[wy];have e:isText t=t.all λc=>decide (32<=c/\ c<=126):=by unfold isText;rw[aR (by show t.length<=60;exact Bt)];rfl
   have q:=k _ s4;rw[e] at q;exact q
theorem P9{x:Str}{tt:TT}{vs:List Nat}{D:Addr}{Q:Hp->Prop}(f:Nat->V)(hD:H1 D=none)(hz:(tl x).length<sizeLine)(hs:∀c H,aD H1 H->∀(R:V->Hp->Prop)(R0:Hp->Prop),(∀H',aD H H'->R (f c) H')->
 g (.str ⟨#[c]⟩) (wipe σ vs) H λσ2 H2=>wipe σ2 vs=wipe σ vs/\ tt σ2 H2 λb H3=>if b=true then te σ2 H3 R else R0 H3)(hd:∀H,aD H1 H->H D=some (.lst ((tl x).map f))->Q H):
 ∃W:Nat->Nat->Hp->Prop,(∃m,W 0 m (upd H1 D (.lst [])))/\ ∀i m H,W i m H->
  ((So x).stop i H/\ Q H)\/ ((So x).go i H/\ ∃Nx:Hp->Prop,(∀H',Nx H'->∃m',m'<m/\ W (i+1) m' H')/\ ∀v H',(So x).GR i H v H'->g v (wipe σ vs) H' λσ2 H2=>wipe σ2 vs=wipe σ vs/\ tt σ2 H2 λb H3=>if b=true then te σ2 H3 λy H4=>∃acc,H4 D=some (.lst acc)/\ acc.length<sizeLine/\ Nx (upd H4 D (.lst (acc++[y]))) else Nx H3):=by
 have hsz:x.cps.size=(tl x).length:=by simp[tl]
 refine⟨λi m H=>m=(tl x).length - i/\ i<=(tl x).length/\ aD H1 H/\ H D=some (.lst (((tl x).take i).map f)),⟨(tl x).length,(Nat.sub_zero _).symm,a8 _,aE hD,ah⟩,?_⟩;rintro i m H ⟨rfl,hi,s1,hH⟩;by_cases fH:i<(tl x).length
 .refine .inr ⟨by show i<x.cps.size;lia,λH'=>aD H1 H'/\ H' D=some (.lst (((tl x).take (i+1)).map f)),λH' ⟨p1,p2⟩=>⟨(tl x).length - (i+1),by lia,rfl,fH,p1,p2⟩,λv H' y=>?_⟩;obtain⟨rfl,c,hc,rfl⟩:=y;have xM:(tl x)[i]?=some c:=by show x.cps.toList[i]?=some c;rw[Array.getElem?_toList];exact hc
  refine hs c _ s1 _ _ λH2 s2=>⟨_,s2 _ _ hH,?_,(s1.trans s2).put hD,?_⟩
  .rw[aS,bg]
   lia
  .rw[ah,take_snoc xM,cV];rfl
 .have e:i=(tl x).length:=by lia
  subst e;rw[fq] at hH;exact .inl ⟨by show x.cps.size<=(tl x).length;lia,hd H s1 hH⟩
inductive pf(vs:List V)(H:Hp)(Q:VK)(_E:XK):Prop
 |mk (x:Str) (h1:vs=[.str x]) (h2:(tl x).length<=10000) (h3:∀H' p,aD H H'->H' p=some (.lst (aI (tl x)))->H p=none->Q (.ref p) H')
theorem kT:aG ["signs","sign"] ["signs"] (ay qd):=eN
theorem Jb(F:bB K mg "bytes_of" qd ["signs"])(T:Tz Z):bo Z 1 "bytes_of" ["signs"] pf:=by refine F.fe kT λH Q E hr h=>?_;obtain⟨x,rfl,hz,k⟩:=h;refine⟨_,(aj (aw (kH rfl kT.nd (Pf (pv 0)) (own:=[("sign",1)]) (Cb kT) (λ_ _ _ _ _=>(jB 1 kT)) (λ_ _ _ _ _=>kF) (λ_ _ _ _ _=>(fM Hu (by rfl) T.ord PV (aa (pv 1) ag)))))),?_⟩;refine⟨_,rfl,x,rfl,λD hD=>?_⟩;refine P9 (λc=>V.int (c:Nat)) hD (eM (by lia)) (λc H4 s4 R R0 k1=>?_) (λH4 s4 h4=>k _ D s4 h4 hD);exact⟨rfl,Bk ⟨_,rfl,_,rfl,rfl,k1 _ (aD.refl _)⟩⟩
theorem lq(n:Nat):tl (Str.ofString (toString ((n:Nat):Int)))=decimal n:=by rw[CB,jX];rfl
theorem wz{n:Nat}(h:n<1900):((n:Nat):Int).natAbs.log2<1920:=by rw[Int.natAbs_natCast];exact u5 (Nat.log2_le_self _) (by lia)
inductive Bu(vs:List V)(H:Hp)(Q:VK)(_E:XK):Prop
 |mk (n:Nat) (h1:vs=[.int (n:Nat)]) (h2:n<1000) (h3:∀H' p,aD H H'->H' p=some (.lst (aI (decimal n)))->H p=none->Q (.ref p) H')
theorem zw:aG ["number"] ["number"] (ay n_):=eN
theorem Ga(F:bB K mg "digits_of" n_ ["number"])(T:Tz Z)(cE:bo Z 1 "bytes_of" ["signs"] pf):bo Z 2 "digits_of" ["number"] Bu:=by
 refine F.fe zw λH Q E hr h=>?_;obtain⟨n,rfl,hz,k⟩:=h;refine⟨_,(aj (aw (pc cE hr (aa (lI g7 (by rfl) T.str wm (aa (pv 0) ag)) ag)))),?_⟩;refine⟨_,rfl,_,rfl,?_,_,rfl,?_,λH' p s1 h1 h0=>?_⟩
 .exact wz (by lia)
 .rw[lq];exact bp (iP hz) (by decide)
 .rw[lq] at h1;exact k _ p s1 h1 h0
inductive oI(vs:List V)(H:Hp)(Q:VK)(_E:XK):Prop
 |mk (r:Addr) (t:List Nat) (h1:vs=[.ref r]) (h2:H r=some (.lst (aI t))) (h3:t.length<=4) (h4:(∀c∈t,48<=c/\ c<=57)) (h5:∀H',aD H H'->Q (.int (natOf t:Nat)) H')
theorem wA(t:List Nat)(c:Nat):natOf (t++[c])=10*natOf t+(c - 48):=by unfold natOf;rw[List.foldl_append];rfl
theorem Bv:∀(n:Nat)(t:List Nat),t.length=n->(∀c∈t,48<=c/\ c<=57)->natOf t<10 ^ n
 |0,t,h,_=>by
  have:t=[]:=DM.mp h;subst this
  decide
 |n+1,t,h,hc=>by
  rcases List.eq_nil_or_concat t with rfl|⟨u,c,rfl⟩
  .cases h
  .rw[List.concat_eq_append] at h hc⊢;rw[wA];have h1:=Bv n u (by simpa using h) λd hd=>hc d (by simp[hd]);have h2:=hc c (by simp);rw[Nat.pow_succ]
   lia
theorem jJ:aG ["digits","number","digit"] ["digits"] (ay oa):=eN
theorem Gb(F:bB K mg "number_of" oa ["digits"])(T:Tz Z):bo Z 1 "number_of" ["digits"] oI:=by
 refine F.fe jJ λH Q E hr h=>?_;obtain⟨r,t,rfl,hR,hz,hd,k⟩:=h;refine⟨_,(ae (bD 1 jJ au) (ae (eB PassesOwn.never rfl (bL (pv 0)) (jB 2 jJ) (aj (bD 1 jJ (bc gm (bc bO (bc OF (pv 1) au) (pv 2)) (eg T))))) (aj (aw (pv 1))))),?_⟩;refine⟨_,rfl,r,rfl,⟨_,bf.of hR⟩,dG (K:=K) (a:=r) (xs:=aI t) (λi σ H'=>∃v:Option V,σ=[some (.ref r),some (.int (natOf (t.take i):Nat)),v]/\ aD H H') ⟨none,rfl,aD.refl _⟩ (λi σ H' _ ⟨_,_,s1⟩=>bf.of (s1 _ _ hR)) ?_ ?_⟩
 .rintro i y σ H' hi ⟨v,rfl,s1⟩;obtain⟨c,hc,rfl⟩:=get_map hi;have fH:natOf (t.take i)<10 ^ (t.take i).length:=Bv _ _ rfl λd MS=>hd d (ku MS);have h4:(t.take i).length<=4:=by rw[bg];lia
  have h5:natOf (t.take i)<10 ^ 4:=dF fH (Nat.pow_le_pow_right (by decide) h4);have h6:=hd c (cI hc);refine⟨_,rfl,_,_,rfl,rfl, .inl ⟨by lia,by lia⟩,_,rfl,_,_,rfl,rfl,_,_,rfl,rfl,?_⟩;refine⟨some (V.int (c:Nat)),?_,s1⟩;rw[take_snoc hc,wA];show[some (V.ref r),some (V.int (((natOf (t.take i):Nat):Int)*10+(c:Int) - 48)),some (V.int (c:Nat))]=_;rw[show(((natOf (t.take i):Nat):Int)*10+(c:Int) - 48)=((10*natOf (t.take i)+(c - 48):Nat):Int) by lia]
 .rintro σ H' ⟨v,rfl,s1⟩;rw[aF,fq];exact⟨_,rfl,k _ s1⟩
inductive WY(x y:V)(H:Hp)(Q:VK):Prop
 |mk (a c:Addr) (ns ms:List Int) (e:x= .ref a) (e2:y= .ref c) (h:H a=some (.lst (aT ns))) (h2:H c=some (.lst (aT ms))) (k:Q (.bl (decide (ns=ms))) H)
theorem qr(H:Hp):∀ns:List Int,vt K H (aT ns) (ns.map PyData.int)
 |[]=> .nil
 |n::r=> .cons (.int n) (qr H r)
theorem t5:∀ns:List Int,PyData.canLayAll0 (ns.map PyData.int)=true
 |[]=>by simp[PyData.canLayAll0]
 |n::r=>by simp[PyData.canLayAll0,PyData.canLay0,t5 r]
theorem wB:∀ns:List Int,PyData.depthAll (ns.map PyData.int)<=1
 |[]=>by simp[PyData.depthAll]
 |n::r=>by
  have:=wB r;simp[PyData.depthAll,PyData.depth]
  lia
theorem shaped_ints(ns:List Int):SeqAt.shaped (.list (ns.map PyData.int))=true:=by
 unfold SeqAt.shaped;have h1:=t5 ns;have h2:=wB ns;rw[uA];refine⟨by simpa[PyData.canLay0] using h1,aR ?_⟩;simp[PyData.depth]
 lia
theorem Bw:∀ns ms:List Int,PyData.eqvAll (ns.map PyData.int) (ms.map PyData.int)=decide (ns=ms)
 |[],[]=>by simp[PyData.eqvAll]
 |[],m::ms=>by simp[PyData.eqvAll]
 |n::ns,[]=>by simp[PyData.eqvAll]
 |n::ns,m::ms=>by rw[cy,cy,PyData.eqvAll,PyData.eqv,Bw ns ms,GP];simp
theorem wC{X:Cx}(hu:X.A.units+64<cLine):qI X (compareOp .Eq) WY:=by intro ao s σ H x y v u Q I rx ry h;obtain⟨a,c,ns,ms,rfl,rfl,ha,hc,q⟩:=h;refine OW hu ao s σ H _ _ v u Q I rx ry ⟨_,_, .lst (bf.of ha) (qr H ns), .lst (bf.of hc) (qr H ms),shaped_ints ns,shaped_ints ms,?_⟩;rw[show PyData.eqv (.list (ns.map PyData.int)) (.list (ms.map PyData.int))=decide (ns=ms) by rw[PyData.eqv,Bw]];exact q
def gj(l:List Nat):List Int:=l.map λc:Nat=>(c:Int)
theorem yu{l:List Nat}:gj l=gj m↔l=m:=by
 unfold gj;constructor
 .intro h;exact(List.map_inj_right (λa c h=>by lia)).mp h
 .intro h;rw[h]
theorem i7(t:List Nat):aI t=aT (gj t):=gN t
theorem byte_at{t:List Nat}{c:Nat}(h:t[i]?=some c):(aI t)[i]?=some (.int (c:Nat)):=by unfold aI;rw[gW,h];rfl
theorem fT(t:List Nat)(n:Nat):(aI t).take n=aI (t.take n):=(mY ..).symm
theorem gP(t:List Nat)(n:Nat):(aI t).drop n=aI (t.drop n):=(jR ..).symm
theorem cS(t u:List Nat):aI t++aI u=aI (t++u):=(cV ..).symm
theorem lV(xs:List V)(a n:Nat):d5 xs (some (a:Int)) (some ((a:Int)+(n:Int)))=(xs.drop a).take n:=by
 unfold d5;rw[show HT.qK xs.length 0 (some (a:Int))=min a xs.length from HT.kD _ _ _,show((a:Int)+(n:Int))=((a+n:Nat):Int) by lia,show HT.qK xs.length xs.length (some ((a+n:Nat):Int))=min (a+n) xs.length from HT.kD _ _ _];by_cases h:a<=xs.length
 .rw[iV h];by_cases h2:a+n<=xs.length
  .rw[iV h2,xF]
  .rw[z0 (by lia),pC (by rw[dC];lia),pC (by rw[dC];lia)]
 .rw[z0 (by lia),z0 (by lia),uV (aQ xs.length),uV (show xs.length<=a by lia)];simp
inductive Bx(vs:List V)(H:Hp)(Q:VK)(_E:XK):Prop
 |mk (r:Addr) (t:List Nat) (i:Nat) (h1:vs=[.ref r, .int (i:Nat)]) (h2:H r=some (.lst (aI t))) (h3:i<=t.length) (h4:∀H',aD H H'->Q (.int ((i+bU (t.drop i):Nat):Int)) H')
theorem mH{l:List Nat}{c:Nat}:l.take 1=[c]↔l.head?=some c:=by
 cases l with
 |nil=>simp
 |cons d r=>simp
theorem Gd{l:List Nat}(hj:j<=((l.takeWhile digit).take 3).length):(j<l.length/\ j<3/\ (∃c,l[j]?=some c/\ 48<=c/\ c<=57))↔j<((l.takeWhile digit).take 3).length:=by
 rw[bg] at hj⊢;have:=rp (p:=digit) (l:=l) (j:=j) (by lia);constructor
 .rintro⟨h1,h2,c,hc,hd⟩;have:j<(l.takeWhile digit).length:=this.mp ⟨c,hc,by unfold digit;exact aR hd⟩
  lia
 .intro h;obtain⟨c,hc,hd⟩:=this.mpr (by lia);exact⟨(dm.mp hc).1,by lia,c,hc,iY hd⟩
theorem iH:aG ["text","start","end"] ["text","start"] (ay jf):=eN
theorem Ge(F:bB K mg "reference_end" jf ["text","start"])(T:Tz Z):bo Z 1 "reference_end" ["text","start"] Bx:=by
 refine F.fe iH λH Q E hr h=>?_;obtain⟨r,t,i,rfl,hR,hi,k⟩:=h;refine⟨_,(ae (bD 2 iH (pv 1)) (ae (aM (bE (wC hr.units) (bh bz (pv 0) (aW (pv 1)) (aW (bc bO (pv 1) au))) (aL (aa (eg T) ag))) (aj (aw (pv 2))) aA) (ae (ft PassesOwn.never (PW.pt (gY (bE g0 (pv 2) (pd T (aa (pv 0) ag))) (gY (bE g0 (pv 2) (bc bO (pv 1) (eg T))) (fX (Aj vj vj (eg T) (c5 aJ (pv 0) (pv 2)) (eg T)))))) (aj (k4 (i:=2) iH.nd rfl (Or.inl rfl) au nG))) (aj (aw (pv 2)))))),?_⟩;refine⟨_,rfl,?_⟩;refine⟨_,rfl,_,rfl,_,rfl,_,rfl,_,_,rfl,rfl,_,rfl,r,_,rfl,bf.of hR,λp1 h1=>?_⟩;rw[show d5 (aI t) (some (i:Int)) (some ((i:Int)+1))=aI ((t.drop i).take 1) by rw[show((i:Int)+1)=(i:Int)+((1:Nat):Int) by rfl,lV,gP,fT]];have s1:aD H (upd H p1 (.lst (aI ((t.drop i).take 1)))):=aE h1;refine⟨aV,λp2 h2=>⟨p1,p2,gj ((t.drop i).take 1),[48],rfl,rfl,by rw[a7 ah h2,i7],ah,_,rfl,?_⟩⟩;have s2:=s1.new h2 (u:= .lst (aT [48]));by_cases LM:(t.drop i).head?=some 48
 .refine aK (λ_=>?_) (λh=>?_)
  .have e:bU (t.drop i)=0:=by unfold bU;rw[aq LM]
   have q:=k _ s2;rw[e] at q;exact⟨_,rfl,q⟩
  .exfalso;apply h;rw[mH.mpr LM];rfl
 .refine aK (λh=>?_) (λ_=>?_)
  .exfalso;have h:gj ((t.drop i).take 1)=gj [48]:=aH h;exact LM (mH.mp (yu.mp h))
  .have e:bU (t.drop i)=(((t.drop i).takeWhile digit).take 3).length:=by unfold bU;rw[ak LM]
   refine fA (λ(j:Nat) σ H'=>j<=(((t.drop i).takeWhile digit).take 3).length/\ σ=[some (.ref r),some (.int (i:Nat)),some (.int ((i+j:Nat):Int))]/\ aD H H') (λj=>3 - j) 0 ⟨a8 _,rfl,s2⟩ ?_;rintro j σ H' ⟨hj,rfl,s3⟩;have m9:=Gd hj;have fin:¬j<(((t.drop i).takeWhile digit).take 3).length->cv 2 [some (V.ref r),some (V.int (i:Nat)),some (V.int ((i+j:Nat):Int))] H' Q:=λh=>by have q:=k _ s3;rw[e,show(((t.drop i).takeWhile digit).take 3).length=j by lia] at q;exact⟨_,rfl,q⟩
   refine⟨_,rfl,_,rfl,r,_,rfl, .inl (bf.of (s3 _ _ hR)),_,_,rfl,rfl,_,rfl,?_⟩;rw[aF];refine aK (λNw=>?_) (λNw=>fL (fin λh=>Nw (aR ?_)))
   .have Nw:=aH Nw;refine⟨_,rfl,_,rfl,_,_,rfl,rfl,_,_,rfl,rfl,_,rfl,?_⟩;refine aK (λzq=>?_) (λzq=>fL (fin λh=>zq (aR ?_)))
    .have zq:=aH zq;have hl:i+j<t.length:=by lia
     have hg:t[i+j]?=some t[i+j]:=c8 hl;refine⟨_,rfl,_,rfl,bG (s3 _ _ hR) rfl (byte_at hg) ⟨_,_,rfl,rfl,_,rfl,?_⟩⟩;have QS:(t.drop i)[j]?=some t[i+j]:=by rw[xl,hg]
     refine aK (λNy=>?_) (λNy=>⟨_,rfl,fL (fin λh=>Ny (aR ?_))⟩)
     .have Ny:=aH Ny;refine⟨_,_,rfl,rfl,_,rfl,?_⟩;refine aK (λNz=>?_) (λNz=>fin λh=>Nz (aR ?_))
      .have Nz:=aH Nz;have h5:=m9.mp ⟨by rw[dC];lia,by lia,_,QS,by lia,by lia⟩;refine nj j ?_;refine⟨_,rfl,_,_,rfl,rfl,j+1,(by show 3 - (j+1)<3 - j;lia),by lia,rfl,s3⟩
      .obtain⟨_,_,c,hc,hd⟩:=m9.mpr h;rw[QS] at hc;cases hc
       lia
     .obtain⟨_,_,c,hc,hd⟩:=m9.mpr h;rw[QS] at hc;cases hc
      lia
    .have:=(m9.mpr h).2.1
     lia
   .have:=(m9.mpr h).1;rw[dC] at this
    lia
def Jc(q:Nat×Nat×Nat):List V:=[.int (q.1:Nat), .int (q.2.1:Nat), .int (q.2.2:Nat)]
structure lW(H:Hp)(p:Addr)(ts:List Addr)(ps:List (Nat×Nat×Nat)):Prop where
 lst:H p=some (.lst (ts.map V.ref))
 len:ts.length=ps.length
 at_:∀(i:Nat)(a:Addr)(q:Nat×Nat×Nat),ts[i]?=some a->ps[i]?=some q->H a=some (.tup (Jc q))
theorem lW.same{p:Addr}(h:lW H p ts ps)(s:aD H H'):lW H' p ts ps:=⟨s _ _ h.lst,h.len,λi a q ha hq=>s _ _ (h.at_ i a q ha hq)⟩
theorem lW.item{p:Addr}(h:lW H p ts ps){v:V}(hv:(ts.map V.ref)[i]?=some v):∃a q,v= .ref a/\ ts[i]?=some a/\ ps[i]?=some q/\ H a=some (.tup (Jc q)):=by
 obtain⟨a,ha,rfl⟩:=get_map hv;have hi:i<ps.length:=by rw[<-h.len];exact(dm.mp ha).1
 exact⟨a,ps[i],rfl,ha,c8 hi,h.at_ i a _ ha (c8 hi)⟩
theorem lW.push{p a:Addr}{q:Nat×Nat×Nat}(h:lW H p ts ps)(ha:H a=some (.tup (Jc q))):lW (upd H p (.lst (ts.map V.ref++[V.ref a]))) p (ts++[a]) (ps++[q]) where
 lst:=by rw[ah,cV];rfl
 len:=by rw[a_,a_,h.len];rfl
 at_:=λi b r hb hr=>by
  have tk:∀{c:Addr}{xs:List V},H c=some (.tup xs)->upd H p (.lst (ts.map V.ref++[V.ref a])) c=some (.tup xs):=λ{c xs} hc=>by rw[az (jy hc h.lst (by intro e;cases e))];exact hc
  by_cases hi:i<ts.length
  .rw[nz hi] at hb;rw[nz (by rw[<-h.len];exact hi)] at hr;exact tk (h.at_ i b r hb hr)
  .rw[k3 (by lia)] at hb;rw[k3 (by rw[<-h.len];lia),<-h.len] at hr;cases e:i - ts.length with
   |zero=>rw[e] at hb hr;cases hb;cases hr;exact tk ha
   |succ n=>rw[e] at hb;simp at hb
inductive zx(vs:List V)(H:Hp)(Q:VK)(_E:XK):Prop
 |mk (r:Addr) (t:List Nat) (h1:vs=[.ref r]) (h2:H r=some (.lst (aI t))) (h3:t.length<=60) (h4:∀H' p ts,aD H H'->lW H' p ts (bJ t.length 0 t)->H p=none->Q (.ref p) H')
theorem mI:∀(k i:Nat)(t:List Nat),(bJ k i t).length<=k
 |k,i,[]=>by rw[parts_nil];exact a8 _
 |0,i,c::r=>aQ _
 |k+1,i,c::r=>by rw[eG,cj];exact Ac (mI k _ _)
theorem By:∀(k i:Nat)(t:List Nat),t.length<=k->∀m,t.length<=m->bJ k i t=bJ m i t
 |k,i,[],_,m,_=>by rw[parts_nil,parts_nil]
 |0,i,c::r,h,m,_=>by simp at h
 |k+1,i,c::r,h,0,h2=>by simp at h2
 |k+1,i,c::r,h,m+1,h2=>by rw[eG,eG];have:=step_pos (c::r);simp at h h2;rw[By k _ _ (by rw[dC];simp;lia) m (by rw[dC];simp;lia)]
theorem C'{t:List Nat}(hi:i<t.length):bJ t.length i (t.drop i)=(i,i+(bI (t.drop i)).1,(bI (t.drop i)).2)::bJ t.length (i+(bI (t.drop i)).1) (t.drop (i+(bI (t.drop i)).1)):=by
 cases e:t.drop i with
 |nil=>have:=c_ List.length e;simp at this;lia
 |cons c r=>
  obtain⟨n,hn⟩:∃n,t.length=n+1:=⟨t.length - 1,by lia⟩;have hl:(c::r).length=t.length - i:=by rw[<-e,dC]
  have h1:=step_pos (c::r);have e2:t.drop (i+(bI (c::r)).1)=(c::r).drop (bI (c::r)).1:=by rw[<-e,nt]
  rw[hn,eG,e2];rw[By n _ _ (by rw[dC];lia) (n+1) (by rw[dC];lia)]
theorem Bz(l:List Nat):∀c∈l.take (bU l),48<=c/\ c<=57:=λc hc=>by
 unfold bU at hc;split at hc
 .simp at hc
 .have e:l.take ((l.takeWhile digit).take 3).length=(l.takeWhile digit).take 3:=by
   have h1:(l.takeWhile digit)=l.take (l.takeWhile digit).length:=zU.mp (Ha _);rw[bg]
   conv=>rhs;rw[h1]
   rw[List.take_take]
  rw[e] at hc;have:=takeWhile_all l c (ku hc);exact iY this
theorem Jd(l:List Nat):bU l<=3:=by
 unfold bU;split
 .exact a8 _
 .rw[bg];exact Nat.min_le_left _ _
theorem eu:aG ["text","parts","start","end","number"] ["text"] (ay qe):=eN
theorem Je(F:bB K mg "parts_of" qe ["text"])(T:Tz Z)(j9:bo Z 1 "reference_end" ["text","start"] Bx)(iI:bo Z 1 "number_of" ["digits"] oI):
 bo Z 2 "parts_of" ["text"] zx:=by
 refine F.fe eu λH Q E hr h=>?_;obtain⟨r,t,rfl,hR,hz,k⟩:=h;refine⟨_,(ae (bD 1 eu (aL ag)) (ae (bD 2 eu au) (ae (ft PassesOwn.never (bE g0 (pv 2) (pd T (aa (pv 0) ag))) (ae (bD 3 eu (bc bO (pv 2) au)) (ae (bD 4 eu au) (ae (aM (PW.pt (gY (bE bw (c5 aJ (pv 0) (pv 2)) (eg T)) (fX (bE (wC hr.units) (bh bz (pv 0) (aW (pv 3)) (aW (bc bO (pv 3) au))) (aL (aa (eg T) ag)))))) (aj (k4 (i:=3) eu.nd rfl (Or.inl rfl) au nG)) (aj (aM (bE bw (c5 aJ (pv 0) (pv 2)) (eg T)) (ae (bD 3 eu (pc j9 hr (aa (pv 0) (aa (pv 3) ag)))) (aj (bD 4 eu (pc iI hr (aa (bh bz (pv 0) (aW (bc bO (pv 2) au)) (aW (pv 3))) ag))))) aA))) (ae (bF (e_ eL iW iX cw (pv 1) (aa (md (aa (pv 2) (aa (pv 3) (aa (pv 4) ag)))) ag))) (aj (bD 2 eu (pv 3)))))))) (aj (aw (pv 1)))))),?_⟩;refine⟨a8 _,λp hp=>?_⟩;refine fA (λ(i:Nat) σ H'=>i<=t.length/\ ∃(v3 v4:Option V)(ts:List Addr)(ps:List (Nat×Nat×Nat)),σ=[some (.ref r),some (.ref p),some (.int (i:Nat)),v3,v4]/\ aD H H'/\ lW H' p ts ps/\ ps.length<=i/\ ps++bJ t.length i (t.drop i)=bJ t.length 0 t) (λi=>t.length - i) 0
  ⟨a8 _,none,none,[],[],rfl,aE hp,⟨ah,rfl,λi a q h=>by simp at h⟩,aQ _,rfl⟩ ?_
 rintro i σ H' ⟨hi,v3,v4,ts,ps,rfl,s1,TL,hpl,Q3⟩;have Km:=s1 _ _ hR;refine⟨_,rfl,_,rfl,r,_,rfl, .inl (bf.of Km),_,_,rfl,rfl,_,rfl,?_⟩;rw[aF];refine aK (λhc=>?_) (λhc=>?_)
 .have fH:i<t.length:=by have:=aH hc;lia
  have hg:t[i]?=some t[i]:=c8 fH;have y0:t.drop i=t[i]::t.drop (i+1):=rS fH;have P_:(t.drop i).drop 1=t.drop (i+1):=by rw[nt]
  rw[C' fH] at Q3;have aaA:=step_pos (t.drop i);have LN:i+(bI (t.drop i)).1<=t.length:=by
   rw[y0];have:=zj (c:=t[i]) (r:=t.drop (i+1));rw[<-y0,dC] at this;rw[<-y0]
   lia
  have fin:∀(H2:Hp),aD H' H2->∀(q:Nat×Nat×Nat),q=(i,i+(bI (t.drop i)).1,(bI (t.drop i)).2)->∀a,H2 a=none->
   lW (upd (upd H2 a (.tup (Jc q))) p (.lst (ts.map V.ref++[V.ref a]))) p (ts++[a]) (ps++[q])/\ aD H (upd (upd H2 a (.tup (Jc q))) p (.lst (ts.map V.ref++[V.ref a])))/\ (ps++[q])++bJ t.length (i+(bI (t.drop i)).1) (t.drop (i+(bI (t.drop i)).1))=bJ t.length 0 t:=λH2 s2 q hq a ha=>by
   refine⟨lW.push (TL.same (s2.new ha)) ah,((s1.trans s2).new ha).put hp,?_⟩;rw[dQ,hq];exact Q3
  refine nj i ?_;refine⟨_,rfl,_,_,rfl,rfl,?_⟩;refine⟨_,rfl,_,rfl,bG Km rfl (byte_at hg) ⟨rfl,_,rfl,?_⟩⟩;by_cases zp:t[i]=64
  .have NA:(t.drop i).head?=some 64:=by rw[y0,zp];rfl
   refine aK (λ_=>?_) (λh=>absurd (aR (by rw[zp];rfl)) h);refine⟨_,rfl,_,rfl,_,rfl,_,rfl,_,_,rfl,rfl,_,rfl,r,_,rfl,bf.of Km,λp1 h1=>?_⟩;rw[show d5 (aI t) (some ((i:Int)+1)) (some ((i:Int)+1+1))=aI ((t.drop (i+1)).take 1) by rw[show((i:Int)+1)=((i+1:Nat):Int) by lia,show(((i+1:Nat):Int)+1)=((i+1:Nat):Int)+((1:Nat):Int) by rfl,lV,gP,fT]]
   have s2:aD H' (upd H' p1 (.lst (aI ((t.drop (i+1)).take 1)))):=aE h1;refine⟨aV,λp2 h2=>⟨p1,p2,gj ((t.drop (i+1)).take 1),[64],rfl,rfl,by rw[a7 ah h2,i7],ah,_,rfl,?_⟩⟩;have s3:=s2.new h2 (u:= .lst (aT [64]));by_cases h2:(t.drop (i+1)).head?=some 64
   .have GX:bI (t.drop i)=(2,0):=by unfold bI;rw[aq ⟨NA,by rw[P_];exact h2⟩]
    refine aK (λ_=>?_) (λh=>?_)
    .refine⟨_,rfl,_,_,rfl,rfl,?_⟩;refine⟨_,rfl, .inl ⟨rfl,_,bf.of (s3 _ _ TL.lst)⟩,_,rfl,_,rfl,_,rfl,(by show 3<=sizeLine;decide),λa ha=>?_⟩;have q:=fin _ s3 (i,i+2,0) (by rw[GX]) a ha;refine⟨p,_,_,rfl,rfl,a7 (s3 _ _ TL.lst) ha,eM (by rw[aS,TL.len];lia),_,rfl,i+2,(by show t.length - (i+2)<t.length - i;lia),(by rw[GX] at LN;exact LN),some (V.int ((i:Int)+1+1)),some (V.int 0),ts++[a],ps++[(i,i+2,0)],?_,q.2.1,q.1,(by rw[a_];simp;lia),?_⟩
     .show[some (V.ref r),some (V.ref p),some (V.int ((i:Int)+1+1)),some (V.int ((i:Int)+1+1)),some (V.int 0)]=_;rw[show((i:Int)+1+1)=((i+2:Nat):Int) by lia]
     .have:=q.2.2;rw[GX] at this;exact this
    .exfalso;apply h;rw[mH.mpr h2];rfl
   .refine aK (λh=>?_) (λ_=>?_)
    .exfalso;have h:gj ((t.drop (i+1)).take 1)=gj [64]:=aH h;exact h2 (mH.mp (yu.mp h))
    .have GX:bI (t.drop i)=(1+bU (t.drop (i+1)),natOf ((t.drop (i+1)).take (bU (t.drop (i+1))))):=by unfold bI;rw[ak (by rw[P_];exactλh=>h2 h.2),aq NA,P_]
     have LO:=s3 _ _ Km;refine⟨_,rfl,_,rfl,bG LO rfl (byte_at hg) ⟨rfl,_,rfl,?_⟩⟩;refine aK (λ_=>?_) (λh=>absurd (aR (by rw[zp];rfl)) h);refine⟨_,rfl,_,rfl,r,t,i+1,(by show[V.ref r,V.int ((i:Int)+1)]=_;rfl),LO,fH,λH4 s4=>?_⟩;have S0:=s4 _ _ LO;refine⟨_,rfl,_,rfl,_,_,rfl,rfl,_,rfl,_,rfl,_,rfl,r,_,rfl,bf.of S0,λp5 h5=>?_⟩;have NB:i+1+bU (t.drop (i+1))<=t.length:=by rw[GX] at LN;exact(zY i 1 _▸LN)
     have sT:d5 (aI t) (some ((i:Int)+1)) (some ((i+1+bU (t.drop (i+1)):Nat):Int))=aI ((t.drop (i+1)).take (bU (t.drop (i+1)))):=by rw[show((i:Int)+1)=((i+1:Nat):Int) by lia,rA _ (by rw[aF];lia) (by rw[aF];lia),xF,gP,fT]
     rw[sT];refine⟨p5,_,rfl,ah,(by rw[bg];have:=Jd (t.drop (i+1));lia),Bz _,λH6 s6=>?_⟩;have WZ:aD H' H6:=(s3.trans s4).trans ((aE h5).trans s6);refine⟨_,rfl, .inl ⟨rfl,_,bf.of (WZ _ _ TL.lst)⟩,_,rfl,_,rfl,_,rfl,(by show 3<=sizeLine;decide),λa ha=>?_⟩;have q:=fin _ WZ (i,i+1+bU (t.drop (i+1)),natOf ((t.drop (i+1)).take (bU (t.drop (i+1))))) (by rw[GX];show _=(i,i+(1+bU (t.drop (i+1))),_);rw[zY]) a ha;refine⟨p,_,_,rfl,rfl,a7 (WZ _ _ TL.lst) ha,eM (by rw[aS,TL.len];lia),_,rfl,i+1+bU (t.drop (i+1)),(by show t.length - (i+1+bU (t.drop (i+1)))<t.length - i;lia),NB,_,_,_,_,rfl,q.2.1,q.1,(by rw[a_];simp;lia),?_⟩;have:=q.2.2;rw[GX,<-zY] at this;exact this
  .have NA:¬(t.drop i).head?=some 64:=λh=>by rw[y0] at h;exact zp (di h)
   have GX:bI (t.drop i)=(1,0):=by unfold bI;rw[ak (λh=>NA h.1),ak NA]
   refine aK (λh=>?_) (λ_=>?_)
   .exfalso;have:=aH h;injection this
    lia
   .refine fL ?_;refine⟨_,rfl,_,rfl,bG Km rfl (byte_at hg) ⟨rfl,_,rfl,?_⟩⟩;refine aK (λh=>?_) (λ_=>?_)
    .exfalso;have:=aH h;injection this
     lia
    refine⟨_,rfl, .inl ⟨rfl,_,bf.of TL.lst⟩,_,rfl,_,rfl,_,rfl,(by show 3<=sizeLine;decide),λa ha=>?_⟩;have q:=fin _ (aD.refl _) (i,i+1,0) (by rw[GX]) a ha;refine⟨p,_,_,rfl,rfl,a7 TL.lst ha,eM (by rw[aS,TL.len];lia),_,rfl,i+1,(by show t.length - (i+1)<t.length - i;lia),fH,_,_,_,_,rfl,q.2.1,q.1,(by rw[a_];simp;lia),?_⟩;have:=q.2.2;rw[GX] at this;exact this
 .have e:i=t.length:=by have:=cH hc;lia
  subst e;rw[Ky,parts_nil,pz] at Q3;subst Q3;exact⟨_,rfl,k _ p ts s1 TL hp⟩
inductive Dc(vs:List V)(H:Hp)(Q:VK)(_E:XK):Prop
 |mk (r:Addr) (t:List Nat) (h1:vs=[.ref r]) (h2:H r=some (.lst (aI t))) (h3:t.length<=60) (h4:∀H' p ts,aD H H'->lW H' p ts (scan t.length 0 t)->H p=none->Q (.ref p) H')
theorem dD:aG ["text","start","end","number"] ["text"] (ay jg):=eN
theorem LP(F:bB K mg "references_in" jg ["text"])(T:Tz Z)(jQ:bo Z 2 "parts_of" ["text"] zx):bo Z 3 "references_in" ["text"] Dc:=by
 refine F.fe dD λH Q E hr h=>?_;obtain⟨r,t,rfl,hR,hz,k⟩:=h;refine⟨_,(aj (aw (kH rfl dD.nd (bL (pc jQ hr (aa (pv 0) ag))) (own:=[("start",1),("end",2),("number",3)]) (Cb dD) (λ_ _ _ _ _=>(EN (K:=K) (n:=3) rfl rfl (bZ (jB 1 dD) (bZ (jB 2 dD) (bZ (jB 3 dD) jE))))) (λ_ _ _ _ _=>(kG (bE lG (pv 3) au))) (λ_ _ _ _ _=>(md (aa (bc bO (pv 1) au) (aa (pv 2) (aa (pv 3) ag)))))))),?_⟩;refine⟨_,rfl,r,t,rfl,hR,hz,λH2 p ts s2 TL Bp=>⟨p,rfl,⟨_,bf.of TL.lst⟩,λD hD=>?_⟩⟩;have hpl:(bJ t.length 0 t).length<=60:=bp (mI _ _ _) hz;refine El (K:=K) (a:=p) (xs:=ts.map V.ref) (λi H'=>aD H2 H'/\ ∃us,lW H' D us (((bJ t.length 0 t).take i).filterMap sC)) ⟨aE hD,[],ah,rfl,λi a q h=>by simp at h⟩ (λi H' _ ⟨s3,_⟩=>bf.of (s3 _ _ TL.lst)) ?_ ?_
 .rintro i y H' hi ⟨s3,us,UL⟩;obtain⟨a,q,rfl,ha,hq,Gf⟩:=TL.item hi;refine⟨a,_,rfl,i_.of (s3 _ _ Gf),rfl,_,_,rfl,_,_,rfl,_,_,rfl,rfl,rfl,?_⟩;refine⟨_,rfl,rfl,_,rfl,?_⟩;by_cases h0:q.2.2=0
  .refine aK (λh=>?_) (λ_=>⟨s3,us,?_⟩)
   .rw[h0] at h;simp at h
   .rw[take_snoc hq,KA];have e:sC q=none:=by unfold sC;rw[aq h0]
    simp[e];exact UL
  .refine aK (λ_=>?_) (λh=>?_)
   .refine⟨_,rfl,_,_,rfl,rfl,_,rfl,_,rfl,(by show 3<=sizeLine;decide),λu hu=>⟨_,a7 UL.lst hu,?_,(s3.new hu).put hD,us++[u],?_⟩⟩
    .refine eM ?_;rw[aS,UL.len];refine u5 (DN _ _) ?_;rw[bg]
     lia
    .rw[take_snoc hq,KA];have e:sC q=some (q.1+1,q.2.1,q.2.2):=by unfold sC;rw[ak h0]
     rw[show[q].filterMap sC=[(q.1+1,q.2.1,q.2.2)] by simp[e]];exact lW.push (UL.same (aE hu)) ah
   .exfalso;apply h;simp
    lia
 .rintro H' ⟨s3,us,UL⟩;rw[aS,TL.len,fq,fh] at UL;exact k _ D us (s2.trans s3) UL (s2.free hD)
inductive zy(vs:List V)(H:Hp)(Q:VK)(_E:XK):Prop
 |mk (r:Addr) (t:List Nat) (h1:vs=[.ref r]) (h2:H r=some (.lst (aI t))) (h3:t.length<=60) (h4:∀H' p,aD H H'->H' p=some (.lst (aI (refs t)))->Q (.ref p) H')
theorem cF:aG ["text","start","end","number"] ["text"] (ay gC):=eN
theorem LQ(F:bB K mg "numbers_referred" gC ["text"])(T:Tz Z)(fb:bo Z 3 "references_in" ["text"] Dc):bo Z 4 "numbers_referred" ["text"] zy:=by
 refine F.fe cF λH Q E hr h=>?_;obtain⟨r,t,rfl,hR,hz,k⟩:=h;refine⟨_,(aj (aw (kH rfl cF.nd (bL (pc fb hr (aa (pv 0) ag))) (own:=[("start",1),("end",2),("number",3)]) (Cb cF) (λ_ _ _ _ _=>(EN (K:=K) (n:=3) rfl rfl (bZ (jB 1 cF) (bZ (jB 2 cF) (bZ (jB 3 cF) jE))))) (λ_ _ _ _ _=>kF) (λ_ _ _ _ _=>(pv 3))))),?_⟩;refine⟨_,rfl,r,t,rfl,hR,hz,λH2 p ts s2 TL _=>⟨p,rfl,⟨_,bf.of TL.lst⟩,λD hD=>?_⟩⟩;have hL:bf K H2 p ((ts.zip (scan t.length 0 t)).map λq=>V.ref q.1):=by rw[<-uM TL.len];exact bf.of TL.lst
 have hsz:(ts.zip (scan t.length 0 t)).length<sizeLine:=by
  refine eM ?_;have:=scan_len t;rw[List.length_zip,TL.len]
  lia
 refine f9 (K:=K) (a:=p) (λq=>some (V.int (q.2.2.2:Nat))) hL hD hsz (λm q H4 hq s4 R R0 k1 k2=>?_) (λH4 s4 h4=>?_)
 .have Gf:=s4 _ _ (TL.at_ m _ _ (qm hq).1 (qm hq).2);refine⟨q.1,_,rfl,i_.of Gf,rfl,_,_,rfl,_,_,rfl,_,_,rfl,rfl,rfl,Bk ⟨_,rfl,k1 _ _ (aD.refl _) rfl⟩⟩
 .refine k _ D (s2.trans s4) ?_;rw[h4,C3 TL.len (λq=>some (V.int (q.2.2:Nat))),KC,<-vX,fh];unfold aI;rw[ip];rfl
structure wD(H:Hp)(d:Addr)(a6:List (Key×V))(ls:List (Nat×List Nat)):Prop where
 at_:H d=some (.dK a6)
 len:a6.length=ls.length
 items:∀(i:Nat)(q:Nat×List Nat),ls[i]?=some q->∃a,a6[i]?=some (Sum.inl (q.1:Int),V.ref a)/\ H a=some (.lst (aI q.2))
theorem wD.same{ls:List (Nat×List Nat)}(h:wD H d a6 ls)(s:aD H H'):wD H' d a6 ls:=
 ⟨s _ _ h.at_,h.len,λi q hq=>by obtain⟨a,h1,h2⟩:=h.items i q hq;exact⟨a,h1,s _ _ h2⟩⟩
theorem EW{R:Addr->List Nat->Prop}(n:Nat):∀(a6:List (Key×V))(ls:List (Nat×List Nat)),a6.length=ls.length->(∀(i:Nat)(q:Nat×List Nat),ls[i]?=some q->∃a,a6[i]?=some (Sum.inl (q.1:Int),V.ref a)/\ R a q.2)->
 (labelIn ls n=none/\ gT a6 (Sum.inl (n:Int))=none)\/ ∃qt a,labelIn ls n=some qt/\ gT a6 (Sum.inl (n:Int))=some (.ref a)/\ R a qt
 |[],[],_,_=> .inl ⟨rfl,rfl⟩
 |[],_::_,h,_=>by cases h
 |_::_,[],h,_=>by cases h
 |kv::a6,q::ls,hl,h=>by
  obtain⟨a,h1,h2⟩:=h 0 q rfl;have h1:kv=(Sum.inl (q.1:Int),V.ref a):=by simpa using h1
  by_cases e:q.1=n
  .refine .inr ⟨q.2,a,?_,?_,h2⟩
   .unfold labelIn;rw[rW,show(q.1==n)=true by simpa using e];rfl
   .rw[fu (by rw[h1,e]),h1]
  .have ih:=EW (R:=R) n a6 ls (by simpa using hl) λi q' B9=>by obtain⟨a',g1,g2⟩:=h (i+1) q' (by simpa using B9);exact⟨a',by simpa using g1,g2⟩
   have e1:labelIn (q::ls) n=labelIn ls n:=by unfold labelIn;rw[rW,show(q.1==n)=false by simpa using e]
   have e2:gT (kv::a6) (Sum.inl (n:Int))=gT a6 (Sum.inl (n:Int)):=fw (by
    rw[h1];intro h;injection h with h
    lia)
   rw[e1,e2];exact ih
theorem wD.find{ls:List (Nat×List Nat)}(h:wD H d a6 ls)(n:Nat):
 (labelIn ls n=none/\ gT a6 (Sum.inl (n:Int))=none)\/ ∃qt a,labelIn ls n=some qt/\ gT a6 (Sum.inl (n:Int))=some (.ref a)/\ H a=some (.lst (aI qt)):=
 EW (R:=λa l=>H a=some (.lst (aI l))) n a6 ls h.len h.items
inductive uP(vs:List V)(H:Hp)(Q:VK)(_E:XK):Prop
 |mk (r d:Addr) (t:List Nat) (a6:List (Key×V)) (ls:List (Nat×List Nat)) (h1:vs=[.ref r, .ref d]) (h2:H r=some (.lst (aI t))) (h3:t.length<=60) (h4:wD H d a6 ls) (h5:(∀q∈ls,q.2.length<=24)) (h6:∀H' p,aD H H'->H' p=some (.lst (aI (shownWith ls t)))->Q (.ref p) H')
theorem oJ:aG ["text","labels","bytes_shown","start","end","number"] ["text","labels"] (ay zr):=eN
theorem Jf(F:bB K mg "shown" zr ["text","labels"])(T:Tz Z)(jQ:bo Z 2 "parts_of" ["text"] zx):bo Z 3 "shown" ["text","labels"] uP:=by
 refine F.fe oJ λH Q E hr h=>?_;obtain⟨r,d,t,a6,ls,rfl,hR,hz,LD,UU,k⟩:=h;refine⟨_,(ae (bD 2 oJ (aL ag)) (ae (eB PassesOwn.never rfl (bL (pc jQ hr (aa (pv 0) ag))) (nF rfl (bZ (jB 3 oJ) (bZ (jB 4 oJ) (bZ (jB 5 oJ) jE)))) (aj (aM (bE bw (pv 5) au) (aj (bF (e_ eL iW iX cw (pv 2) (aa (c5 aJ (pv 0) (pv 3)) ag)))) (aj (bF (e_ eL qN qO fY (pv 2) (aa (HN (qY hr) (pv 1) (pv 5) (aL (aa (eg T) ag)) (by constructor<;>rfl)) ag))))))) (aj (aw (pv 2))))),?_⟩;refine⟨a8 _,λb hb=>?_⟩;have s1:aD H (upd H b (.lst [])):=aE hb;refine⟨_,rfl,r,t,rfl,s1 _ _ hR,hz,λH2 p ts s2 TL Bp=>⟨p,rfl,⟨_,bf.of TL.lst⟩,?_⟩⟩;have hpl:(bJ t.length 0 t).length<=60:=bp (mI _ _ _) hz;have hlen:∀i,(((bJ t.length 0 t).take i).flatMap (dO ls t)).length<=1440:=λi=>by
  refine bp (wb _ 24 _ λp _=>o9 ls t p UU) ?_;rw[bg]
  lia
 have S1:p≠b:=λe=>by rw[e] at Bp;rw[ah] at Bp;cases Bp
 refine dG (K:=K) (a:=p) (xs:=ts.map V.ref) (λi σ H'=>∃v3 v4 v5:Option V,σ=[some (.ref r),some (.ref d),some (.ref b),v3,v4,v5]/\ aD H H'/\ lW H' p ts (bJ t.length 0 t)/\ H' b=some (.lst (aI (((bJ t.length 0 t).take i).flatMap (dO ls t)))))
  ⟨none,none,none,rfl,s1.trans s2,TL,s2 _ _ ah⟩ (λi σ H' _ ⟨_,_,_,_,_,yw,_⟩=>bf.of yw.lst) ?_ ?_
 .rintro i y σ H' hi ⟨v3,v4,v5,rfl,s3,yw,hB⟩;obtain⟨a,q,rfl,ha,hq,Gf⟩:=yw.item hi;have S2:=wa t t.length 0 (a8 _) q (by rw[zP];exact cI hq);have xh:((bJ t.length 0 t).take (i+1)).flatMap (dO ls t)=((bJ t.length 0 t).take i).flatMap (dO ls t)++dO ls t q:=by rw[take_snoc hq,Ce];simp
  refine⟨a,_,rfl,i_.of Gf,rfl,_,_,rfl,_,_,rfl,_,_,rfl,rfl,?_⟩;refine⟨_,rfl,rfl,_,rfl,?_⟩;have NC:∀(u:HO),lW (upd H' b u) p ts (bJ t.length 0 t):=λu=>⟨by rw[az S1];exact yw.lst,yw.len,λi a q ha hq=>by have:=yw.at_ i a q ha hq;rw[az (jy this hB (by intro e;cases e))];exact this⟩
  by_cases h0:q.2.2=0
  .refine aK (λ_=>?_) (λh=>absurd (aR (by rw[h0];rfl)) h);have hg:t[q.1]?=some t[q.1]:=c8 S2.1;refine⟨_,rfl, .inl ⟨rfl,_,bf.of hB⟩,_,rfl,_,rfl,bG (s3 _ _ hR) rfl (byte_at hg) ⟨b,_,_,rfl,rfl,hB,eM (by rw[aF];have:=hlen i;lia),?_⟩⟩;refine⟨_,_,_,rfl,s3.put hb,NC _,?_⟩;rw[ah,xh,<-cS];have e:dO ls t q=[t[q.1]]:=by unfold dO;rw[aq h0,rS S2.1];rfl
   rw[e];rfl
  .refine aK (λh=>?_) (λ_=>?_)
   .exfalso;have:=aH h;injection this
    lia
   refine⟨_,rfl, .inl ⟨rfl,_,bf.of hB⟩,_,rfl,d,rfl, .inl ⟨_, .inl (s3 _ _ LD.at_)⟩,_,rfl,aV,λu hu=>?_⟩;have Yn:=(LD.same s3).same (aE hu (u:= .lst [V.int 63]));refine⟨_,pS.k (k:=Sum.inl ((q.2.2:Nat):Int)) Yn.at_,?_⟩;have UW:=a7 hB hu (u:= .lst [V.int 63]);rcases Yn.find q.2.2 with⟨e1,e2⟩|⟨qt,a2,e1,e2,h2⟩
   .rw[e2];refine⟨b,u,_,_,rfl,rfl,UW,ah,dB (by rw[aF];have:=hlen i;show _+1<=100000;lia),?_⟩;refine⟨_,_,_,rfl,(s3.new hu).put hb,?_,?_⟩
    .have:=NC (.lst []);refine⟨by rw[az S1];exact a7 yw.lst hu,yw.len,λi a q ha hq=>?_⟩;have:=a7 (yw.at_ i a q ha hq) hu (u:= .lst [V.int 63]);rw[az (jy this UW (by intro e;cases e))];exact this
    .rw[ah,xh,<-cS];have e:dO ls t q=[63]:=by unfold dO;rw[ak h0,e1];rfl
     rw[e];rfl
   .rw[e2];have lX:qt.length<=24:=by have:=o9 ls t q UU;unfold dO at this;rw[ak h0,e1] at this;exact this
    refine⟨b,a2,_,_,rfl,rfl,UW,h2,dB (by rw[aF,aF];have:=hlen i;lia),?_⟩;refine⟨_,_,_,rfl,(s3.new hu).put hb,?_,?_⟩
    .refine⟨by rw[az S1];exact a7 yw.lst hu,yw.len,λi a q ha hq=>?_⟩;have:=a7 (yw.at_ i a q ha hq) hu (u:= .lst [V.int 63]);rw[az (jy this UW (by intro e;cases e))];exact this
    .rw[ah,xh,<-cS];have e:dO ls t q=qt:=by unfold dO;rw[ak h0,e1];rfl
     rw[e]
 .rintro σ H' ⟨v3,v4,v5,rfl,s3,yw,hB⟩;rw[aS,TL.len,fq,kO] at hB;exact⟨_,rfl,k _ b s3 hB⟩
inductive ND(vs:List V)(H:Hp)(Q:VK)(_E:XK):Prop
 |mk (r d:Addr) (t:List Nat) (a6:List (Key×V)) (m:Nat->Option Nat) (h1:vs=[.ref r, .ref d]) (h2:H r=some (.lst (aI t))) (h3:t.length<=60) (h4:H d=some (.dK a6)) (h5:(∀n:Nat,gT a6 (Sum.inl (n:Int))=(m n).map λv=>V.int (v:Nat))) (h6:(∀n v,m n=some v->v<1000)) (h7:∀H' p,aD H H'->H' p=some (.lst (aI (sx m (scan t.length 0 t) 0 t)))->H p=none->Q (.ref p) H')
theorem eI:aG ["text","numbers","changed","taken","start","end","number"] ["text","numbers"] (ay mw):=eN
theorem P'(F:bB K mg "renumbered" mw ["text","numbers"])(T:Tz Z)(fb:bo Z 3 "references_in" ["text"] Dc)(qu:bo Z 2 "digits_of" ["number"] Bu):
 bo Z 4 "renumbered" ["text","numbers"] ND:=by
 refine F.fe eI λH Q E hr h=>?_;obtain⟨r,d,t,a6,m,rfl,hR,hz,hd,hm,hv,k⟩:=h;refine⟨_,(ae (bD 2 eI (aL ag)) (ae (bD 3 eI au) (ae (eB PassesOwn.never rfl (bL (pc fb hr (aa (pv 0) ag))) (nF rfl (bZ (jB 4 eI) (bZ (jB 5 eI) (bZ (jB 6 eI) jE)))) (aj (aM (Oz (O_ (qY hr) (pv 6) (pv 1))) (ae (bF (e_ eL qN qO fY (pv 2) (aa (bh bz (pv 0) (aW (pv 3)) (aW (pv 4))) ag))) (ae (bF (e_ eL qN qO fY (pv 2) (aa (pc qu hr (aa (uD (qY hr) (pv 1) (pv 6) (λ_ _=>rfl)) ag)) ag))) (aj (bD 3 eI (pv 5))))) aA))) (aj (aw (bc g8 (pv 2) (bh bz (pv 0) (aW (pv 3)) eR))))))),?_⟩;refine⟨a8 _,λc hc=>?_⟩;have s1:aD H (upd H c (.lst [])):=aE hc;refine⟨_,rfl,r,t,rfl,s1 _ _ hR,hz,λH2 p ts s2 TL Bp=>⟨p,rfl,⟨_,bf.of TL.lst⟩,?_⟩⟩;have Uz:=scan_len t;have Gg:p≠c:=λe=>by rw[e] at Bp;rw[ah] at Bp;cases Bp
 refine dG (K:=K) (a:=p) (xs:=ts.map V.ref) (λi σ H'=>∃(v4 v5 v6:Option V)(tk:Nat)(dn:List Nat),σ=[some (.ref r),some (.ref d),some (.ref c),some (.int (tk:Nat)),v4,v5,v6]/\ aD H H'/\ lW H' p ts (scan t.length 0 t)/\ H' c=some (.lst (aI dn))/\ tk<=t.length/\ dn.length<=64*i/\
  dn++sx m ((scan t.length 0 t).drop i) tk t=sx m (scan t.length 0 t) 0 t)
  ⟨none,none,none,0,[],rfl,s1.trans s2,TL,s2 _ _ ah,a8 _,by simp,by simp⟩ (λi σ H' _ ⟨_,_,_,_,_,_,_,yw,_⟩=>bf.of yw.lst) ?_ ?_
 .rintro i y σ H' hi ⟨v4,v5,v6,tk,dn,rfl,s3,yw,hC,EX,GV,sU⟩;obtain⟨a,q,rfl,ha,hq,Gf⟩:=yw.item hi;have S3:=Ln t q (cI hq);have m_:i<(scan t.length 0 t).length:=(dm.mp hq).1;have y0:(scan t.length 0 t).drop i=q::(scan t.length 0 t).drop (i+1):=by rw[rS m_,(dm.mp hq).2]
  rw[y0] at sU;have sU:dn++(match m q.2.2 with
   |some v=>(t.take q.1).drop tk++decimal v++sx m ((scan t.length 0 t).drop (i+1)) q.2.1 t
   |none=>sx m ((scan t.length 0 t).drop (i+1)) tk t)=sx m (scan t.length 0 t) 0 t:=sU
  refine⟨a,_,rfl,i_.of Gf,rfl,_,_,rfl,_,_,rfl,_,_,rfl,rfl,?_⟩;refine⟨_,rfl,_,rfl,d,_,rfl,pS.k (k:=Sum.inl ((q.2.2:Nat):Int)) (s3 _ _ hd),_,rfl,?_⟩;have wF:=hm q.2.2;cases UX:m q.2.2 with
  |none=>rw[UX] at wF sU;rw[wF];refine fL ?_;exact⟨_,_,_,tk,dn,rfl,s3,yw,hC,EX,by lia,sU⟩
  |some v=>
   rw[UX] at wF sU;rw[wF];refine eD ?_;have NF:∀{H3:Hp}{u:HO}{xs:List V},lW H3 p ts (scan t.length 0 t)->H3 c=some (.lst xs)->lW (upd H3 c u) p ts (scan t.length 0 t):=λ{H3 u xs} W0 hC3=>⟨by rw[az Gg];exact W0.lst,W0.len,λi a q ha hq=>by have:=W0.at_ i a q ha hq;rw[az (jy this hC3 (by intro e;cases e))];exact this⟩
   refine⟨_,rfl, .inl ⟨rfl,_,bf.of hC⟩,_,rfl,_,rfl,_,rfl,_,rfl,_,rfl,r,_,rfl,bf.of (s3 _ _ hR),λu hu=>?_⟩;have sT:d5 (aI t) (some (tk:Int)) (some (q.1:Int))=aI ((t.take q.1).drop tk):=by rw[rA _ (by rw[aF];exact EX) (by rw[aF];exact S3.1),gP,fT,List.drop_take]
   rw[sT];have hl1:((t.take q.1).drop tk).length<=60:=by rw[dC,bg];lia
   refine⟨c,u,_,_,rfl,rfl,a7 hC hu,ah,dB (by rw[aF,aF];lia),?_⟩;rw[cS];have s4:aD H (upd (upd H' u (.lst (aI ((t.take q.1).drop tk)))) c (.lst (aI (dn++(t.take q.1).drop tk)))):=(s3.new hu).put hc;have TL4:=NF (u:= .lst (aI (dn++(t.take q.1).drop tk))) (yw.same (aE hu (u:= .lst (aI ((t.take q.1).drop tk))))) (a7 hC hu);refine⟨_,rfl, .inl ⟨rfl,_,bf.of ah⟩,_,rfl,_,rfl,d,V.int (v:Nat),rfl,?_,v,rfl,hv _ _ UX,λH5 g s5 hg hg0=>?_⟩
   .have:=pS.k (k:=Sum.inl ((q.2.2:Nat):Int)) (s4 _ _ hd);rw[wF] at this;exact this
   have Yo:=s5 _ _ ah;have Ca:=iP (hv _ _ UX);refine⟨c,g,_,_,rfl,rfl,Yo,hg,dB (by rw[aF,aF,a_];lia),?_⟩;rw[cS];refine⟨_,rfl,?_⟩;refine⟨_,_,_,q.2.1,dn++(t.take q.1).drop tk++decimal v,rfl,(s4.trans s5).put hc,NF (TL4.same s5) Yo,ah,S3.2,?_,?_⟩
   .rw[a_,a_]
    lia
   .rw[<-sU];simp
 .rintro σ H' ⟨v4,v5,v6,tk,dn,rfl,s3,yw,hC,EX,GV,sU⟩;rw[aS,TL.len] at sU GV;rw[Ky] at sU;have sU:dn++t.drop tk=sx m (scan t.length 0 t) 0 t:=sU;refine⟨_,rfl,_,rfl,_,rfl,_,rfl,r,_,rfl,bf.of (s3 _ _ hR),λu hu=>?_⟩;rw[j8 _ (by rw[aF];exact EX),gP];refine⟨c,u,_,_,rfl,rfl,a7 hC hu,ah,dB (by rw[aF,aF,dC];lia),λp2 Cv=>?_⟩;rw[cS];refine k _ p2 ((s3.new hu).new Cv) ?_ ((s3.new hu).free Cv);rw[ah,sU]
structure Itm(C:Addr)(H:Hp)(as:List Addr)(o:O):Prop where
 len:as.length=o.length
 at_:∀(i:Nat)(a:Addr)(x:Nd),as[i]?=some a->o[i]?=some x->bV C H a x
theorem NL.sV{as:List Addr}{o:O}(N:NL C H l as o):Itm C H as o:=⟨N.len,N.at_⟩
theorem Itm.nl{as:List Addr}{o:O}(I:Itm C H as o)(hl:H l=some (.lst (as.map V.ref)))(sm:o.length<=1000):NL C H l as o:=⟨hl,I.len,sm,I.at_⟩
theorem Itm.same{H H':Hp}{as:List Addr}{o:O}(I:Itm C H as o)(s:aD H H'):Itm C H' as o:=⟨I.len,λi a x ha hx=>(I.at_ i a x ha hx).same s⟩
theorem Itm.one{a:Addr}(h:bV C H a x):Itm C H [a] [x]:=⟨rfl,λi a' x' ha hx=>by
 cases i with
 |zero=>cases ha;cases hx;exact h
 |succ i=>simp at ha⟩
theorem Itm.append{as bs:List Addr}{o q:O}(I:Itm C H as o)(J:Itm C H bs q):Itm C H (as++bs) (o++q):=⟨by rw[a_,a_,I.len,J.len],λi a x ha hx=>by
 by_cases h:i<as.length
 .rw[nz h] at ha;rw[nz (by rw[<-I.len];exact h)] at hx;exact I.at_ i a x ha hx
 .rw[k3 (by lia)] at ha;rw[k3 (by rw[<-I.len];lia),<-I.len] at hx;exact J.at_ _ a x ha hx⟩
theorem Itm.take{H:Hp}{as:List Addr}{o:O}(I:Itm C H as o)(n:Nat):Itm C H (as.take n) (o.take n):=⟨by rw[bg,bg,I.len],λi a x ha hx=>by
 rw[Fj] at ha hx;by_cases h:i<n
 .rw[aq h] at ha hx;exact I.at_ i a x ha hx
 .rw[ak h] at ha;cases ha⟩
theorem Itm.drop{H:Hp}{as:List Addr}{o:O}(I:Itm C H as o)(n:Nat):Itm C H (as.drop n) (o.drop n):=⟨by rw[dC,dC,I.len],λi a x ha hx=>by rw[xl] at ha hx;exact I.at_ _ a x ha hx⟩
theorem Itm.oG{as:List Addr}{o:O}(I:Itm C H as o){a:Addr}(h:a∈as):∃dx fs,H a=some (.ins C dx fs):=by obtain⟨i,hi⟩:=xm h;obtain⟨x,hx⟩:∃x,o[i]?=some x:=⟨o[i]'(by rw[<-I.len];exact(dm.mp hi).1),c8 _⟩;obtain⟨dx,t,h1,_⟩:=I.at_ i a x hi hx;exact⟨dx,_,h1⟩
theorem Itm.but{as:List Addr}{o:O}(I:Itm C H as o)(hS:∀b∈S,∃D dx fs,H b=some (.ins D dx fs))(hd:∀a∈as,a∉S)(b:qp S H H'):Itm C H' as o:=⟨I.len,λi a x ha hx=>by obtain⟨dx,t,h1,h2⟩:=I.at_ i a x ha hx;refine⟨dx,t,b _ _ h1 (hd a (cI ha)),b _ _ h2 λh=>?_⟩;obtain⟨D,xP,fs,e⟩:=hS t h;rw[h2] at e;cases e⟩
theorem Itm.nodup{as:List Addr}{o:O}(I:Itm C H as o)(hn:(nums o).Nodup):as.Nodup:=by
 unfold List.Nodup;rw[DQ];intro i j hi hj ur e;have Yp:i<o.length:=by rw[<-I.len];exact hi
 have Yq:j<o.length:=by rw[<-I.len];exact hj
 obtain⟨dx,t,h1,_⟩:=I.at_ i _ _ (c8 hi) (c8 Yp);obtain⟨xP,t',Q5,_⟩:=I.at_ j _ _ (c8 hj) (c8 Yq);rw[e,Q5] at h1;have Qa:o[i].number=o[j].number:=by
  have:=di h1;injection this with _ _ e3;unfold nf at e3;injection e3 with e4 _;injection e4 with _ e5;injection e5 with e6
  lia
 have h2:=(DQ.mp hn) i j (by unfold nums;rw[aS];exact Yp) (by unfold nums;rw[aS];exact Yq) ur;apply h2;unfold nums;rw[G4,G4];exact Qa
theorem qp.of_same(s:aD H H'):qp S H H':=λb u e _=>s b u e
theorem qp.qv(s:aD H H')(h:qp S H' H2):qp S H H2:=λb u e hb=>h b u (s b u e) hb
theorem mJ{a:Addr}{u:HO}:qp [a] H (upd H a u):=λb o e hb=>by rw[az (λq=>hb (by rw[q];simp))];exact e
theorem qp.fr(h:qp S H H')(hS:∀b∈S,(∃dx fs,H b=some (.ins C dx fs))\/ ∃dx fs,H b=some (.ins CO dx fs)):Fr C CO H H':=by
 have off:∀{b:Addr}{o:HO},H b=some o->(∀D dx fs,o≠ .ins D dx fs)->b∉S:=λ{b o} e n hb=>by
  rcases hS b hb with⟨dx,fs,q⟩|⟨dx,fs,q⟩
  .rw[e] at q;exact n _ _ _ (di q)
  .rw[e] at q;exact n _ _ _ (di q)
 refine⟨λb o e n1 n2 _=>h b o e λhb=>?_,λP ⟨ps,h1,h2,h3⟩=>⟨ps,h _ _ h1 (off h1 (by intros;intro q;cases q)),h2,?_⟩⟩
 .rcases hS b hb with⟨dx,fs,q⟩|⟨dx,fs,q⟩
  .rw[e] at q;exact n1 _ _ (di q)
  .rw[e] at q;exact n2 _ _ (di q)
 .rcases h3 with h3|⟨c,h3,h4⟩
  .exact .inl h3
  .exact .inr ⟨c,h3,h _ _ h4 (off h4 (by intros;intro q;cases q))⟩
theorem ph{x D:Addr}(hx:H1 x=none)(Wx:H1 dx=none)(hk:∀b,b≠x->H2 b=upd (upd H1 dx (.own x)) x (.ins D dx []) b):aD H1 H2:=λb o e=>by have h1:=ba e hx;rw[hk b h1,az h1,az (ba e Wx)];exact e
inductive rD(C:Addr)(vs:List V)(H:Hp)(Q:VK)(_E:XK):Prop
 |mk (x dx:Addr) (n c d:Int) (t:Addr) (h1:vs=[.ref x, .int n, .int c, .int d, .ref t]) (h2:H x=some (.ins C dx [])) (h3:∀H',H' x=some (.ins C dx [("number", .int n),("cell", .int c),("depth", .int d),("text", .ref t),("folded", .int 0)])->(∀b,b≠x->H' b=H b)->Q .eQ H')
theorem BA:aG ["self","number","cell","depth","text"] ["self","number","cell","depth","text"] (ay p8):=eN
theorem Jg(F:HU K "__init__" "Node.__init__" p8 f fd)(T:Txt K mg C CO CC):k7 P w K mg base zL 1 f fd ["self","number","cell","depth","text"] (rD C):=by
 refine F.ok BA (λvs H Q E h=>?_) (λl_ A outer s H vs Q E hr h=>?_)
 .obtain⟨_,_,_,_,_,_,rfl,_⟩:=h;rfl
 .obtain⟨x,dx,n,c,d,t,rfl,hx,k⟩:=h;refine⟨_,(ae (df (pv 0) (pv 1) rfl) (ae (df (pv 0) (pv 2) rfl) (ae (df (pv 0) (pv 3) rfl) (ae (df (pv 0) (pv 4) rfl) (aj (df (pv 0) au rfl)))))),?_⟩;refine⟨_,rfl,_,rfl,x,C,dx,_,rfl,hx,T.cl,T.zt,(by show 0<1000;decide),?_⟩;refine⟨_,rfl,_,rfl,x,C,dx,_,rfl,ah,T.cl,T.Np,(by show 1<1000;decide),?_⟩;refine⟨_,rfl,_,rfl,x,C,dx,_,rfl,ah,T.cl,T.C4,(by show 2<1000;decide),?_⟩;refine⟨_,rfl,_,rfl,x,C,dx,_,rfl,ah,T.cl,T.EO,(by show 3<1000;decide),?_⟩;refine⟨_,rfl,x,C,dx,_,rfl,ah,T.cl,T.mE,(by show 4<1000;decide),?_⟩;exact k _ ah λb hb=>by rw[az hb,az hb,az hb,az hb,az hb]
inductive zz(CO:Addr)(vs:List V)(H:Hp)(Q:VK)(_E:XK):Prop
 |mk (x dx:Addr) (h1:vs=[.ref x]) (h2:H x=some (.ins CO dx [])) (h3:∀H' l,H l=none->l≠x->H' l=some (.lst [])->H' x=some (.ins CO dx (yn 1 l))->(∀b,b≠x->b≠l->H' b=H b)->Q .eQ H')
theorem wG:aG ["self"] ["self"] (ay lg):=eN
theorem LR(F:HU K "__init__" "Outline.__init__" lg f fd)(T:Txt K mg C CO CC):k7 P w K mg base zL 1 f fd ["self"] (zz CO):=by
 refine F.ok wG (λvs H Q E h=>?_) (λl_ A outer s H vs Q E hr h=>?_)
 .obtain⟨_,_,rfl,_⟩:=h;rfl
 .obtain⟨x,dx,rfl,hx,k⟩:=h;refine⟨_,(ae (df (pv 0) (aL ag) rfl) (aj (df (pv 0) au rfl))),?_⟩;refine⟨a8 _,λl hl=>?_⟩;have W3:x≠l:=ba hx hl;refine⟨_,rfl,x,CO,dx,_,rfl,a7 hx hl,T.zM,T.j6,(by show 0<1000;decide),?_⟩;refine⟨_,rfl,x,CO,dx,_,rfl,ah,T.zM,T.wq,(by show 1<1000;decide),?_⟩;refine k _ l hl (λe=>W3 e.symm) ?_ ah λb hb PK=>?_
  .rw[az (λe=>W3 e.symm),az (λe=>W3 e.symm),ah]
  .rw[az hb,az hb,az PK]
inductive zA(CC:Addr)(vs:List V)(H:Hp)(Q:VK)(_E:XK):Prop
 |mk (x dx:Addr) (n:Str) (a b:Addr) (h1:vs=[.ref x, .str n, .ref a, .ref b]) (h2:H x=some (.ins CC dx [])) (h3:∀H',H' x=some (.ins CC dx [("name", .str n),("wholes", .ref a),("row", .ref b)])->(∀b,b≠x->H' b=H b)->Q .eQ H')
theorem BB:aG ["self","name","wholes","row"] ["self","name","wholes","row"] (ay p0):=eN
theorem Jh(F:HU K "__init__" "Call.__init__" p0 f fd)(T:Txt K mg C CO CC):k7 P w K mg base zL 1 f fd ["self","name","wholes","row"] (zA CC):=by
 refine F.ok BB (λvs H Q E h=>?_) (λl_ A outer s H vs Q E hr h=>?_)
 .obtain⟨_,_,_,_,_,rfl,_⟩:=h;rfl
 .obtain⟨x,dx,n,a,b,rfl,hx,k⟩:=h;refine⟨_,(ae (df (pv 0) (pv 1) rfl) (ae (df (pv 0) (pv 2) rfl) (aj (df (pv 0) (pv 3) rfl)))),?_⟩;refine⟨_,rfl,_,rfl,x,CC,dx,_,rfl,hx,T.Q1,T.nName,(by show 0<1000;decide),?_⟩;refine⟨_,rfl,_,rfl,x,CC,dx,_,rfl,ah,T.Q1,T.ER,(by show 1<1000;decide),?_⟩;refine⟨_,rfl,_,rfl,x,CC,dx,_,rfl,ah,T.Q1,T.SS,(by show 2<1000;decide),?_⟩;exact k _ ah λb hb=>by rw[az hb,az hb,az hb]
inductive yx(vs:List V)(H:Hp)(Q:VK)(_E:XK):Prop
 |mk (r:Addr) (xs:List V) (h1:vs=[.ref r]) (h2:H r=some (.lst xs)) (h3:xs.length<=90000) (h4:∀H' p,aD H H'->H' p=some (.lst (.int (xs.length:Nat)::xs))->Q (.ref p) H')
theorem Dd:aG ["row"] ["row"] (ay sI):=eN
abbrev Kn(Z:Tag P w K mg base C CO CC):Prop:=bo Z 1 "counted" ["row"] yx
theorem De(F:bB K mg "counted" sI ["row"])(T:Tz Z):bo Z 1 "counted" ["row"] yx:=by refine F.fe Dd λH Q E hr h=>?_;obtain⟨r,xs,rfl,hR,hz,k⟩:=h;refine⟨_,(aj (aw (bc g8 (aL (aa (pd T (aa (pv 0) ag)) ag)) (pv 0)))),?_⟩;refine⟨_,rfl,r,_,rfl, .inl (bf.of hR),aV,λp hp=>⟨_,rfl,p,r,_,_,rfl,rfl,ah,a7 hR hp,dB (by show 1+_<=100000;lia),λq hq=>?_⟩⟩;exact k _ q ((aE hp).new hq) ah
def kq(s:Vanbkn.State)(t:List Int)(deep:Bool):Int:=if isText t=false then -3 else if 60<=s.nodes.length then -4 else if deep=true then -5 else if 999<s.next then -6 else 0
inductive sW(C CO:Addr)(vs:List V)(H:Hp)(Q:VK)(_E:XK):Prop
 |mk (ob dx l r:Addr) (as:List Addr) (s:Vanbkn.State) (t:List Int) (deep:Bool) (h1:vs=[.ref ob, .ref r, .bl deep]) (h2:a9 C CO H ob dx l as s) (h3:H r=some (.lst (aT t))) (h4:t.length<=200) (h5:∀H',aD H H'->Q (.int (kq s t deep)) H')
theorem pA:aG ["outline","text","deep"] ["outline","text","deep"] (ay gD):=eN
theorem Df(F:bB K mg "new_node_refusal" gD ["outline","text","deep"])(T:Tz Z)(ic:bo Z 1 "is_text" ["row"] rC):bo Z 2 "new_node_refusal" ["outline","text","deep"] (sW C CO):=by
 refine F.fe pA λH Q E hr h=>?_;obtain⟨ob,dx,l,r,as,st,t,deep,rfl,O,hR,hz,k⟩:=h;refine⟨_,(ae (aM (vf (gk (pc ic hr (aa (pv 1) ag)))) (aj (aw (eg T))) aA) (ae (aM (bE nH (pd T (aa (aB (pv 0) rfl) ag)) (eg T)) (aj (aw (eg T))) aA) (ae (aM (gk (pv 2)) (aj (aw (eg T))) aA) (ae (aM (bE gK (aB (pv 0) rfl) (eg T)) (aj (aw (eg T))) aA) (aj (aw au)))))),?_⟩;refine⟨_,rfl,r,t,rfl,hR,by lia,λH2 s2=>⟨_,rfl,?_⟩⟩;have O2:=O.same s2;have q:=k _ s2;unfold kq at q;cases ht:isText t with
 |false=>rw[ht,aq rfl] at q;exact eD q
 |true=>
  rw[ht,ak (by decide)] at q;refine fL ?_;refine⟨_,rfl,aU T O2 ⟨l,_,rfl, .inl (bf.of O2.N.lst),_,_,rfl,rfl,_,rfl,?_⟩⟩;rw[O2.N.gV];refine aK (λhc=>?_) (λhc=>?_)
  .rw[aq (by have:=aH hc;lia)] at q;exact q
  .rw[ak (λh=>hc (aR (by lia)))] at q;refine⟨_,rfl,_,rfl,?_⟩;cases deep with
   |true=>rw[aq rfl] at q;exact eD q
   |false=>
    rw[ak (by decide)] at q;refine fL ?_;refine⟨_,rfl,mF T O2 ⟨_,_,rfl,rfl,_,rfl,?_⟩⟩;refine aK (λhc=>?_) (λhc=>?_)
    .rw[aq (by have:=aH hc;lia)] at q;exact q
    .rw[ak (λh=>hc (aR (by lia)))] at q;exact q
inductive Ji(C CO:Addr)(vs:List V)(H:Hp)(Q:VK)(_E:XK):Prop
 |mk (ob dx l r:Addr) (as:List Addr) (s:Vanbkn.State) (cell:Bool) (i d:Nat) (tx:List Nat) (h1:vs=[.ref ob, .int (b2 cell), .int (i:Nat), .int (d:Nat), .ref r]) (h2:a9 C CO H ob dx l as s) (h3:i<=s.nodes.length) (h4:s.nodes.length<=60) (h5:H r=some (.lst (aI tx))) (h6:∀H' l' ko,qp [ob] H H'->a9 C CO H' ob dx l' ko ⟨s.nodes.take i++⟨s.next,d,cell,false,tx⟩::s.nodes.drop i,s.next+1⟩->Q (.int (s.next:Nat)) H')
theorem wH(n:Nat)(l l':Addr):eY "nodes" (.ref l') (yn n l)=yn n l':=rfl
theorem yy(n:Nat)(l:Addr)(z:Int)(m:Nat)(h:z=(m:Int)):eY "next_number" (.int z) (yn n l)=yn m l:=by subst h;rfl
theorem nr:aG ["outline","cell","position","depth","text","node"] ["outline","cell","position","depth","text"] (ay j1):=eN
theorem Qb(F:bB K mg "put_new_node" j1 ["outline","cell","position","depth","text"])(T:Tz Z)(rE:EM P w K mg base 1 "Node" C ["self","number","cell","depth","text"] (rD C))(f_:bo Z 1 "inserted" ["nodes","position","run"] EV):bo Z 3 "put_new_node" ["outline","cell","position","depth","text"] (Ji C CO):=by
 refine F.fe nr λH Q E hr h=>?_;obtain⟨ob,dx,l,r,as,st,cell,i,d,tx,rfl,O,hi,hz,hR,k⟩:=h;refine⟨_,(ae (bD 5 nr (rE.make (hr.mono (by decide)) rfl (aa (aB (pv 0) rfl) (aa (pv 1) (aa (pv 3) (aa (pv 4) ag)))))) (ae (df (pv 0) (pc f_ hr (aa (aB (pv 0) rfl) (aa (pv 2) (aa (aL (aa (pv 5) ag)) ag)))) rfl) (ae (rZ (pv 0) au Cm) (aj (aw (aB (pv 5) rfl)))))),?_⟩;refine⟨_,rfl,mF T O ⟨_,rfl,_,rfl,_,rfl,λx xd hx Gh fo=>⟨x,xd,_,_,_,r,rfl,ah,λH2 h2 hk=>⟨rfl,?_⟩⟩⟩⟩;have s2:aD H H2:=ph hx Gh hk;have O2:=O.same s2;have F_:bV C H2 x ⟨st.next,d,cell,false,tx⟩:=⟨xd,r,h2,s2 _ _ hR⟩;refine⟨_,rfl,aU T O2 ⟨_,rfl,_,rfl,aV,λp hp=>?_⟩⟩;have s3:=aE hp (u:= .lst [V.ref x]);have O3:=O2.same s3;refine⟨l,p,_,_,i,rfl,O3.N.lst,ah,by rw[O2.N.gV];exact hi,(by rw[O2.N.gV];show _+1<=100000;lia),λH4 q s4 hq=>?_⟩;have O4:=O3.same s4;refine⟨_,rfl,ob,CO,dx,_,rfl,O4.at_,T.zM,T.j6,(by show 2<1000;decide),?_⟩;refine⟨_,rfl,ob,CO,dx,_,_,rfl,ah,T.zM,T.wq,rfl,_,_,rfl,rfl,dx,_,ah,(by show 2<1000;decide),?_⟩;have LS:qp [ob] H4 (upd (upd H4 ob (.ins CO dx (eY "nodes" (.ref q) (yn st.next l)))) ob (.ins CO dx (eY "next_number" (.int ((st.next:Int)+1)) (eY "nodes" (.ref q) (yn st.next l))))):=λb u e hb=>by have hb:b≠ob:=λz=>hb (by rw[z];simp);rw[az hb,az hb];exact e
 have hob:∀b∈[ob],∃D dx fs,H4 b=some (.ins D dx fs):=λb hb=>by simp at hb;subst hb;exact⟨_,_,_,O4.at_⟩
 have UY:aD H2 H4:=s3.trans s4;have hI:Itm C H4 (as.take i++[x]++as.drop i) (st.nodes.take i++[⟨st.next,d,cell,false,tx⟩]++st.nodes.drop i):=
  ((O4.N.sV.take i).append (Itm.one (F_.same UY))).append (O4.N.sV.drop i)
 have rQ:∀a∈as.take i++[x]++as.drop i,a∉[ob]:=λa ha hb=>by simp at hb;subst hb;obtain⟨xP,fs,e⟩:=hI.oG ha;rw[O4.at_] at e;injection e with e;injection e with e _ _;exact T.ne1 e.symm
 have W4:=hI.but hob rQ LS;have hqn:q∉[ob]:=λhb=>by simp at hb;subst hb;have h:=O4.at_;rw[hq] at h;cases h
 have hq5:=LS _ _ hq hqn;have hO5:a9 C CO (upd (upd H4 ob (.ins CO dx (eY "nodes" (.ref q) (yn st.next l)))) ob (.ins CO dx (eY "next_number" (.int ((st.next:Int)+1)) (eY "nodes" (.ref q) (yn st.next l))))) ob dx q (as.take i++[x]++as.drop i) ⟨st.nodes.take i++⟨st.next,d,cell,false,tx⟩::st.nodes.drop i,st.next+1⟩:=by
  refine⟨?_,?_⟩
  .rw[ah,wH,yy _ _ _ (st.next+1) (by lia)]
  .have e:st.nodes.take i++[⟨st.next,d,cell,false,tx⟩]++st.nodes.drop i=st.nodes.take i++⟨st.next,d,cell,false,tx⟩::st.nodes.drop i:=by simp
   rw[e] at W4;refine W4.nl ?_ ?_
   .rw[hq5,cV,cV,mY,jR];rfl
   .show(st.nodes.take i++_::st.nodes.drop i).length<=1000;rw[a_,cj,bg,dC]
    lia
 have hx5:bV C (upd (upd H4 ob (.ins CO dx (eY "nodes" (.ref q) (yn st.next l)))) ob (.ins CO dx (eY "next_number" (.int ((st.next:Int)+1)) (eY "nodes" (.ref q) (yn st.next l))))) x ⟨st.next,d,cell,false,tx⟩:=
  W4.at_ i x _ (by rw[dQ,k3 (by rw[bg];lia),bg,O.N.len,iV hi,tK];rfl) (by rw[dQ,k3 (by rw[bg];lia),bg,iV hi,tK];rfl)
 refine⟨_,rfl,bW T hx5 ?_⟩;exact k _ q _ (qp.qv (s2.trans UY) LS) hO5
inductive NG(C CO:Addr)(vs:List V)(H:Hp)(Q:VK)(_E:XK):Prop
 |mk (ob dx l r:Addr) (as:List Addr) (s:Vanbkn.State) (cell:Bool) (p a:Int) (t:List Int) (h1:vs=[.ref ob, .int (b2 cell), .int p, .int a, .ref r]) (h2:a9 C CO H ob dx l as s) (h3:Wf s) (h4:H r=some (.lst (aT t))) (h5:t.length<=200) (h6:d_ C CO H ob (doNew s p a cell t) Q)
theorem BC{as:List Addr}(O:a9 C CO H ob dx l as s):∀b∈[ob],(∃dx fs,H b=some (.ins C dx fs))\/ ∃dx fs,H b=some (.ins CO dx fs):=λb hb=>by simp at hb;subst hb;exact .inr ⟨_,_,O.at_⟩
theorem LU(cell:Bool)(d:Nat)(h1:σ[1]?=some (some (.int (b2 cell))))(h7:σ[7]?=some (some (.int (d:Nat))))(hR:R (.bl (decide (cell=false/\ 6<d))) H):
 MY (qJ RT (cv 1) (tC (.int 0))) (qJ (xO λi j=>V.bl (decide (j<i))) (cv 7) (tC (.int 6))) σ H R:=by
 refine⟨_,h1,rfl,_,rfl,?_⟩;cases cell with
 |true=>refine aK (λh=>absurd (aH h) (by intro e;cases e)) (λ_=>?_);rw[cP (by rintro⟨h,_⟩;cases h)] at hR;exact hR
 |false=>
  refine aK (λ_=>?_) (λh=>absurd (aR rfl) h);refine⟨_,h7,_,_,rfl,rfl,?_⟩;have e:decide (false=false/\ 6<d)=decide ((6:Int)<(d:Int)):=by
   rw[qP];constructor
   .rintro⟨_,h⟩;lia
   .intro h;exact⟨rfl,by lia⟩
  rw[e] at hR;exact hR
theorem i8:aG ["outline","cell","parent","after","text","place","position","depth","refusal"] ["outline","cell","parent","after","text"] (ay qf):=eN
theorem Qc(F:bB K mg "add_node" qf ["outline","cell","parent","after","text"])(T:Tz Z)(gb:bo Z 3 "place_at" ["nodes","parent","after"] (uO C))(de:bo Z 2 "new_node_refusal" ["outline","text","deep"] (sW C CO))(fF:bo Z 3 "put_new_node" ["outline","cell","position","depth","text"] (Ji C CO)):bo Z 4 "add_node" ["outline","cell","parent","after","text"] (NG C CO):=by
 refine F.fe i8 λH Q E hr h=>?_;obtain⟨ob,dx,l,r,as,st,cell,p,a,t,rfl,O,W,hR,hz,k⟩:=h;rw[CF W] at k;unfold Ia at k;refine⟨_,(ae (bD 5 i8 (pc gb hr (aa (aB (pv 0) rfl) (aa (pv 2) (aa (pv 3) ag))))) (ae (aM (bE bC (pv 5) aZ) (aj (aw (aL (aa (eg T) ag)))) aA) (ae (bD 6 i8 (c5 dR (pv 5) au)) (ae (bD 7 i8 (c5 dR (pv 5) au)) (ae (bD 8 i8 (pc de hr (aa (pv 0) (aa (pv 4) (aa (Hk (jF bw (pv 1) au (k5 _)) (Ci (jF gK (pv 7) (eg T) (k5 _)))) ag))))) (ae (aM (bE lG (pv 8) au) (aj (aw (aL (aa (pv 8) ag)))) aA) (aj (aw (aL (aa (pc fF hr (aa (pv 0) (aa (pv 1) (aa (pv 6) (aa (pv 7) (aa (pv 4) ag)))))) ag)))))))))),?_⟩;refine⟨_,rfl,aU T O ⟨_,rfl,_,rfl,l,as,_,p,a,rfl,O.N,λhn H2 s2=>?_,λi d hs H2 tt s2 ht=>?_⟩⟩
 .rw[hn] at k;refine⟨_,rfl,rfl,_,rfl,?_⟩;refine aK (λ_=>?_) (λh=>absurd (aR rfl) h);exact⟨aV,λq hq=>k.refuse O rfl s2 hq⟩
 .rw[hs] at k;have k:d_ C CO H ob (if isText t=false then refused st (-3) else if 60<=st.nodes.length then refused st (-4) else if cell=false/\ 6<d then refused st (-5) else if 999<st.next then refused st (-6)
   else(⟨st.nodes.take i++⟨st.next,d,cell,false,textOf t⟩::st.nodes.drop i,st.next+1⟩,⟨(st.next:Nat),[]⟩)) Q:=k
  have O2:=O.same s2;have Q6:=s2 _ _ hR;refine⟨_,rfl,rfl,_,rfl,?_⟩;refine aK (λh=>nomatch (aH h)) (λ_=>?_);refine⟨_,rfl,tt,_,_,_,rfl,rfl,i_.of ht,bT (j:=0) rfl,?_⟩;refine⟨_,rfl,tt,_,_,_,rfl,rfl,i_.of ht,bT (j:=1) rfl,?_⟩;refine⟨_,rfl,_,rfl,LU cell d rfl rfl ?_⟩;refine⟨ob,dx,l,r,as,st,t,decide (cell=false/\ 6<d),rfl,O2,Q6,hz,λH3 s3=>?_⟩;have O3:=O2.same s3;have jC:=s2.trans s3;refine⟨_,rfl,rfl,_,rfl,?_⟩;cases pJ:isText t with
  |false=>
   rw[pJ,aq rfl] at k;have e:kq st t (decide (cell=false/\ 6<d))=-3:=by unfold kq;rw[pJ,aq rfl]
   rw[e];exact eD ⟨_,rfl,aV,λq hq=>k.refuse O rfl jC hq⟩
  |true=>
   rw[pJ,ak (by decide)] at k;by_cases Bt:60<=st.nodes.length
   .rw[aq Bt] at k;have e:kq st t (decide (cell=false/\ 6<d))=-4:=by unfold kq;rw[pJ,ak (by decide),aq Bt]
    rw[e];exact eD ⟨_,rfl,aV,λq hq=>k.refuse O rfl jC hq⟩
   .rw[ak Bt] at k;by_cases oK:cell=false/\ 6<d
    .rw[aq oK] at k;have e:kq st t (decide (cell=false/\ 6<d))=-5:=by unfold kq;rw[pJ,ak (by decide),ak Bt,aq (aR oK)]
     rw[e];exact eD ⟨_,rfl,aV,λq hq=>k.refuse O rfl jC hq⟩
    .rw[ak oK] at k;by_cases xh:999<st.next
     .rw[aq xh] at k;have e:kq st t (decide (cell=false/\ 6<d))=-6:=by unfold kq;rw[pJ,ak (by decide),ak Bt,ak (λh=>oK (aH h)),aq xh]
      rw[e];exact eD ⟨_,rfl,aV,λq hq=>k.refuse O rfl jC hq⟩
     .rw[ak xh] at k;have e:kq st t (decide (cell=false/\ 6<d))=0:=by unfold kq;rw[pJ,ak (by decide),ak Bt,ak (λh=>oK (aH h)),ak xh]
      rw[e];refine fL ?_;have m_:i<=st.nodes.length:=by
       rcases fP W.n p a with⟨h1,_⟩|⟨pre,post,d',h1,_,S⟩
       .rw[hs] at h1;cases h1
       .rw[hs] at h1;cases h1;rw[S.eq,a_]
        lia
      have LO:H3 r=some (.lst (aI (textOf t))):=by rw[jC _ _ hR,gN,kL pJ]
      refine⟨_,rfl,_,rfl,_,rfl,_,rfl,_,rfl,ob,dx,l,r,as,st,cell,i,d,textOf t,rfl,O3,m_,by lia,LO,λH4 l' ko b4 O4=>⟨aV,λq hq=>?_⟩⟩;have f4:Fr C CO H H4:=jC.fr.trans (b4.fr (BC O3));exact k _ q dx l' ko (f4.trans (aE hq).fr) (O4.same (aE hq)) ah
theorem Qe(h:∀R:VK,(∀v H1,u D (σ.set i (some v)) H1->R v H1)->te σ H R):ma (xq te (fG i)) u D σ H:=h _ λ_ _ x=>x
theorem S4{v:V}(k:u D σ H)(hv:σ[i]?=some (some v):=by rfl)(h:decide (v=V.eQ)=false:=by rfl):ma (uk (iZ (qJ KP (cv i) (tC V.eQ))) tx jz) u D σ H:=
 ⟨_,hv,rfl,_,rfl,by rw[h];exact k⟩
theorem S5(k:tx {D with nx:=u D} σ H)(hv:σ[i]?=some (some V.eQ):=by rfl):ma (uk (iZ (qJ KP (cv i) (tC V.eQ))) tx ty) u D σ H:=
 ⟨_,hv,rfl,_,rfl,k⟩
inductive Qg(C:Addr)(vs:List V)(H:Hp)(Q:VK)(_E:XK):Prop
 |mk (l:Addr) (as:List Addr) (o:O) (z:Int) (h1:vs=[.ref l, .int z]) (h2:NL C H l as o) (h3:(c9 o z=none->∀H',aD H H'->Q .eQ H')) (h4:∀(a:O)(x:Nd)(r:O),o=a++x::r->c9 o z=some a.length->(x.number:Int)=z->∀H',aD H H'->Q (.int (a.length:Nat)) H')
theorem S6(G:uv Z):bo Z 1 "position_of" ["nodes","number"] (Qg C):=by
 obtain⟨f,fd,F,h⟩:=G;refine⟨f,fd,F.imp λvs H Q E=>?_,h⟩;rintro⟨l,as,o,z,e,N,k1,k2⟩;refine⟨l,as,o,z,e,N,λH' s=>?_⟩;rcases aX (o:=o) z with hp|⟨a,x,r,eo,hp,hz⟩
 .rw[hp];exact k1 hp H' s
 .rw[hp];exact k2 a x r eo hp hz H' s
theorem a9.nodup{H:Hp}{ob dx l:Addr}{as:List Addr}{s:Vanbkn.State}(O:a9 C CO H ob dx l as s)(W:Wf s):as.Nodup:=O.N.sV.nodup W.n.nd
theorem a9.NH{as:List Addr}(O:a9 C CO H ob dx l as s)(h:C≠CO):∀a∈as,a≠ob:=λa ha e=>by obtain⟨xP,fs,q⟩:=O.N.oG ha;rw[e,O.at_] at q;injection q with q;injection q with q _ _;exact h q.symm
theorem a9.set{c cd t:Addr}{as:List Addr}{r:O}{x':Nd}{fs:List (Str×V)}(O:a9 C CO H ob dx l as s)(fo:C≠CO)(vE:as.Nodup)(e:s.nodes=a++x::r)(hc:as[a.length]?=some c)(h1:H c=some (.ins C cd fs))(ht:H t=some (.lst (aI x'.text))):
 a9 C CO (upd H c (.ins C cd (nf x' t))) ob dx l as ⟨a++x'::r,s.next⟩:=by
 have hco:=O.NH fo c (cI hc);have lk:∀{b:Addr}{xs:List V},H b=some (.lst xs)->upd H c (.ins C cd (nf x' t)) b=some (.lst xs):=λ{b xs} hb=>by rw[az (jy hb h1 (by intro q;cases q))];exact hb
 refine⟨by rw[az (λq=>hco q.symm)];exact O.at_,⟨lk O.N.lst,?_,?_,λi b y hb hy=>?_⟩⟩
 .rw[O.N.len,e];simp
 .have:=O.N.sm;rw[e] at this;simp at this⊢;exact this
 .by_cases hi:i=a.length
  .subst hi;rw[hc] at hb;cases hb;have:y=x':=by have hy:(a++x'::r)[a.length]?=some y:=hy;rw[cX] at hy;exact(di hy).symm
   subst this;exact⟨cd,t,ah,lk ht⟩
  .have WJ:s.nodes[i]?=some y:=by
    have hy:(a++x'::r)[i]?=some y:=hy;rw[e];by_cases h:i<a.length
    .rw[nz h] at hy⊢;exact hy
    .rw[k3 (by lia)] at hy⊢;obtain⟨n,hn⟩:∃n,i - a.length=n+1:=⟨i - a.length - 1,by lia⟩;rw[hn] at hy⊢;exact hy
   obtain⟨WX,t2,g1,g2⟩:=O.N.at_ i b y hb WJ;refine⟨WX,t2,?_,lk g2⟩;rw[az (λq=>hi (AG vE hb (by rw[q];exact hc)))];exact g1
theorem zB{c cd:Addr}{fs KI:List (Str×V)}(h1:H c=some (.ins C cd fs)):Fr C CO H (upd H c (.ins C cd KI)):=(mJ (u:= .ins C cd KI)).fr λb hb=>by simp at hb;subst hb;exact .inl ⟨_,_,h1⟩
theorem dM{f:Nd->Vanbkn.State×Answer}(W:Wf s)(h:c9 s.nodes z=none):withNode s z f=refused s (-1):=bx W.n h
theorem fJ{o r:O}(e:o=a++x::r):nd o a.length=x:=by rw[e];exact fN
theorem br{o r:O}(e:o=a++x::r):a.length<o.length:=by rw[e];simp
theorem gw{o r:O}(e:o=a++x::r):aO o a.length=a.length+1+(inside x.depth r).length:=by rw[e];exact jW
inductive EY(C CO:Addr)(vs:List V)(H:Hp)(Q:VK)(_E:XK):Prop
 |mk (ob dx l r:Addr) (as:List Addr) (s:Vanbkn.State) (z:Int) (t:List Int) (h1:vs=[.ref ob, .int z, .ref r]) (h2:a9 C CO H ob dx l as s) (h3:Wf s) (h4:H r=some (.lst (aT t))) (h5:t.length<=200) (h6:d_ C CO H ob (Vanbkn.step s (.write z t)) Q)
theorem lr:aG ["outline","number","text","position","node"] ["outline","number","text"] (ay mx):=eN
theorem Jj(F:bB K mg "write_text" mx ["outline","number","text"])(T:Tz Z)(ax:uv Z)(ic:bo Z 1 "is_text" ["row"] rC):bo Z 2 "write_text" ["outline","number","text"] (EY C CO):=by
 refine F.fe lr λH Q E hr h=>?_;obtain⟨ob,dx,l,r,as,st,z,t,rfl,O,W,hR,hz,k⟩:=h;refine⟨_,(ae (bD 3 lr (pc ax hr (aa (aB (pv 0) rfl) (aa (pv 1) ag)))) (ae (aM (bE bC (pv 3) aZ) (aj (aw (aL (aa (eg T) ag)))) aA) (ae (aM (vf (gk (pc ic hr (aa (pv 2) ag)))) (aj (aw (aL (aa (eg T) ag)))) aA) (ae (bD 4 lr (c5 aJ (aB (pv 0) rfl) (pv 3))) (ae (df (pv 4) (pv 2) rfl) (aj (aw (aL (aa au ag))))))))),?_⟩;refine⟨_,rfl,aU T O ⟨_,rfl,l,as,_,z,rfl,O.N,λH2 s2=>?_⟩⟩;have O2:=O.same s2;refine⟨_,rfl,rfl,_,rfl,?_⟩;rcases aX (o:=st.nodes) z with hp|⟨a,x,rr,e,hp,kU⟩
 .rw[hp];refine aK (λ_=>?_) (λh=>absurd (aR rfl) h);exact⟨aV,λq hq=>k.refuse O (dM W hp) s2 hq⟩
 .rw[hp];refine aK (λh=>nomatch (aH h)) (λ_=>?_);rw[Ic W e kU] at k;refine⟨_,rfl,r,t,rfl,s2 _ _ hR,by lia,λH3 s3=>⟨_,rfl,?_⟩⟩;have jC:=s2.trans s3;have O3:=O2.same s3;cases ht:isText t with
  |false=>rw[ht,aq rfl] at k;exact eD ⟨aV,λq hq=>k.refuse O rfl jC hq⟩
  |true=>
   rw[ht,ak (by decide)] at k;refine fL ?_;refine⟨_,rfl,aU T O3 ⟨_,rfl,cZ O3.N rfl (br e) λc hc hn=>?_⟩⟩;obtain⟨cd,t0,h1,h2⟩:=hn;refine⟨_,rfl,_,rfl,c,C,cd,_,rfl,h1,T.cl,T.EO,(by show 5<1000;decide),aV,λq hq=>?_⟩;have LO:H3 r=some (.lst (aI (textOf t))):=by rw[jC _ _ hR,gN,kL ht]
   have O4:=O3.set T.ne1 (O3.nodup W) e hc (x':={x with text:=textOf t}) h1 LO;rw[fJ e] at hq⊢;exact k _ q dx l as ((jC.fr.trans (zB h1)).trans (aE hq).fr) (O4.same (aE hq)) ah
theorem a9.put{l':Addr}{as ko:List Addr}{s':Vanbkn.State}(O:a9 C CO H ob dx l as s)(fo:C≠CO)(N:NL C H l' ko s'.nodes):a9 C CO (upd H ob (.ins CO dx (yn s'.next l'))) ob dx l' ko s':=by
 have hb:qp [ob] H (upd H ob (.ins CO dx (yn s'.next l'))):=mJ;have hS:∀b∈[ob],∃D dx fs,H b=some (.ins D dx fs):=λb hb=>by simp at hb;subst hb;exact⟨_,_,_,O.at_⟩
 have hl:l'≠ob:=jy N.lst O.at_ (by intro q;cases q);refine⟨ah,(N.sV.but hS (λa ha h=>?_) hb).nl (by rw[az hl];exact N.lst) N.sm⟩;simp at h;subst h;obtain⟨xP,fs,q⟩:=N.oG ha;rw[O.at_] at q;injection q with q;injection q with q _ _;exact fo q.symm
theorem zC{as:List Addr}{fs:List (Str×V)}(O:a9 C CO H ob dx l as s):Fr C CO H (upd H ob (.ins CO dx fs)):=(mJ (u:= .ins CO dx fs)).fr (BC O)
inductive Jk(C CO:Addr)(vs:List V)(H:Hp)(Q:VK)(_E:XK):Prop
 |mk (ob dx l:Addr) (as:List Addr) (s:Vanbkn.State) (z:Int) (h1:vs=[.ref ob, .int z]) (h2:a9 C CO H ob dx l as s) (h3:Wf s) (h4:d_ C CO H ob (Vanbkn.step s (.drop z)) Q)
theorem Qh(d:Nat)(r:O):(inside d r).length+(outside d r).length=r.length:=by rw[<-a_,bP]
theorem Jl(d:Nat)(r:O):r.drop (inside d r).length=outside d r:=by have h:(inside d r++outside d r).drop (inside d r).length=outside d r:=ug ..;rw[bP] at h;exact h
theorem iJ{o r:O}(e:o=a++x::r):o.drop (aO o a.length)=outside x.depth r:=by rw[gw e,e,<-nt,jV,Jl]
theorem rF{o r:O}(e:o=a++x::r):o.take a.length=a:=by rw[e];exact fO
theorem zD{o r:O}(e:o=a++x::r):o.drop (a.length+1)=r:=by rw[e];exact jV
theorem jK:aG ["outline","number","nodes","start","end"] ["outline","number"] (ay oj):=eN
theorem LV(F:bB K mg "drop_tree" oj ["outline","number"])(T:Tz Z)(ax:uv Z)(aP:C7 Z):bo Z 2 "drop_tree" ["outline","number"] (Jk C CO):=by
 refine F.fe jK λH Q E hr h=>?_;obtain⟨ob,dx,l,as,st,z,rfl,O,W,k⟩:=h;have Gp:=S6 ax;refine⟨_,(ae (bD 2 jK (aB (pv 0) rfl)) (ae (bD 3 jK (pc Gp hr (aa (pv 2) (aa (pv 1) ag)))) (ae (aM (bE bC (pv 3) aZ) (aj (aw (aL (aa (eg T) ag)))) aA) (ae (bD 4 jK (pc aP hr (aa (pv 2) (aa (pv 3) ag)))) (ae (df (pv 0) (bc g8 (bh bz (pv 2) eR (aW (pv 3))) (bh bz (pv 2) (aW (pv 4)) eR)) rfl) (aj (aw (aL (aa (bc gm (pv 4) (pv 3)) ag))))))))),?_⟩;refine Qe λR kR=>?_;refine⟨_,rfl,aU T O (kR _ _ ?_)⟩;refine Qe λR kR=>?_;refine⟨_,rfl,_,rfl,l,as,_,z,rfl,O.N,λhp H2 s2=>kR _ _ ?_,λa x r e hp kU H2 s2=>kR _ _ ?_⟩
 .refine S5 ?_;exact⟨aV,λq hq=>k.refuse O (dM W hp) s2 hq⟩
 .have O2:=O.same s2;refine S4 ?_;rw[drop_eq W e kU] at k;refine Qe λR kR=>?_;refine⟨_,rfl,_,rfl,l,as,_,a.length,rfl,O2.N,br e,λH3 s3=>kR _ _ ?_⟩;have O3:=O2.same s3;have jC:=s2.trans s3;have yr:=jG (br e);have pG:=O3.N.gV;refine⟨_,rfl,_,rfl,_,rfl,l,_,rfl,bf.of O3.N.lst,λp1 h1=>?_⟩;rw[sS _ (by rw[pG];exact eX (br e))];have s4:=aE h1 (u:= .lst ((as.map V.ref).take a.length));refine⟨_,rfl,_,rfl,_,rfl,l,_,rfl,bf.of (s4 _ _ O3.N.lst),λp2 h2=>?_⟩;rw[j8 _ (by rw[pG];exact yr)];have s5:=s4.new h2 (u:= .lst ((as.map V.ref).drop (aO st.nodes a.length)));refine⟨p1,p2,_,_,rfl,rfl,a7 ah h2,ah,dB (by rw[bg,dC,pG];have:=W.n.len;lia),λp3 h3=>?_⟩;have s6:=s5.new h3 (u:= .lst ((as.map V.ref).take a.length++(as.map V.ref).drop (aO st.nodes a.length)));have O6:=O3.same s6;have N6:NL C _ p3 (as.take a.length++as.drop (aO st.nodes a.length)) (st.nodes.take a.length++st.nodes.drop (aO st.nodes a.length)):=
   ((O6.N.sV.take a.length).append (O6.N.sV.drop (aO st.nodes a.length))).nl (by rw[ah,cV,mY,jR]) (by rw[a_,bg,dC];have:=W.n.len;lia)
  rw[rF e,iJ e] at N6;refine⟨_,rfl,ob,CO,dx,_,rfl,O6.at_,T.zM,T.j6,(by show 2<1000;decide),?_⟩;have O7:=O6.put T.ne1 (s':=⟨a++outside x.depth r,st.next⟩) N6;refine⟨_,rfl,_,rfl,_,_,rfl,rfl,aV,λq hq=>?_⟩;refine k _ q dx p3 _ (((jC.trans s6).fr.trans (zC O6)).trans (aE hq).fr) (O7.same (aE hq)) ?_;rw[ah];show some (HO.lst [V.int ((aO st.nodes a.length:Nat) - (a.length:Nat))])=some (HO.lst [V.int ((1+(inside x.depth r).length:Nat):Int)]);rw[gw e,show(((a.length+1+(inside x.depth r).length:Nat):Int) - (a.length:Int))=((1+(inside x.depth r).length:Nat):Int) by lia]
theorem BD{as:List Addr}(h:as.Nodup)(m n:Nat):(∀a∈as.take m,a∉(as.drop m).take n)/\ ∀a∈as.drop (m+n),a∉(as.drop m).take n:=by
 constructor
 .intro a ha hb;obtain⟨i,hi⟩:=xm ha;obtain⟨j,hj⟩:=xm hb;rw[Fj] at hi hj;by_cases h1:i<m
  .rw[aq h1] at hi;by_cases h2:j<n
   .rw[aq h2,xl] at hj;have:=AG h hi hj
    lia
   .rw[ak h2] at hj;cases hj
  .rw[ak h1] at hi;cases hi
 .intro a ha hb;obtain⟨i,hi⟩:=xm ha;obtain⟨j,hj⟩:=xm hb;rw[Fj] at hj;rw[xl] at hi;by_cases h2:j<n
  .rw[aq h2,xl] at hj;have:=AG h hi hj
   lia
  .rw[ak h2] at hj;cases hj
theorem Qi{α:Type}(l:List α)(m n:Nat):l.take m++(l.drop m).take n++l.drop (m+n)=l:=by rw[<-nt,dQ,DT,DT]
theorem Itm.deep{as:List Addr}{o:O}{k:Int}(I:Itm C H as o)(vE:as.Nodup)(m n:Nat)(b:qp ((as.drop m).take n) H H')(hd:∀(i:Nat)(a:Addr)(x:Nd),((as.drop m).take n)[i]?=some a->((o.drop m).take n)[i]?=some x->bV C H' a (C9 k x)):
 Itm C H' as (o.take m++((o.drop m).take n).map (C9 k)++o.drop (m+n)):=by
 have hS:∀b∈(as.drop m).take n,∃D dx fs,H b=some (.ins D dx fs):=λb hb=>by obtain⟨dx,fs,q⟩:=I.oG (zS (ku hb));exact⟨_,dx,fs,q⟩
 obtain⟨h1,h2⟩:=BD vE m n;have I1:=(I.take m).but hS h1 b;have I3:=(I.drop (m+n)).but hS h2 b;have I2:Itm C H' ((as.drop m).take n) (((o.drop m).take n).map (C9 k)):=⟨by rw[aS,((I.drop m).take n).len],λi a x ha hx=>by obtain⟨y,hy,rfl⟩:=get_map hx;exact hd i a y ha hy⟩
 have:=(I1.append I2).append I3;rw[Qi] at this;exact this
theorem qp.lst{H H':Hp}{as:List Addr}{o:O}{S:List Addr}(I:Itm C H as o)(hS:∀b∈S,b∈as)(b:qp S H H'){p:Addr}{xs:List V}(h:H p=some (.lst xs)):H' p=some (.lst xs):=b _ _ h λq=>by obtain⟨dx,fs,e⟩:=I.oG (hS p q);rw[h] at e;cases e
theorem rG{as:List Addr}{m n:Nat}:∀b∈(as.drop m).take n,b∈as:=λb hb=>zS (ku hb)
theorem zE{as:List Addr}{o:O}{m n:Nat}(I:Itm C H as o)(b:qp ((as.drop m).take n) H H'):Fr C CO H H':=b.fr λb hb=>by obtain⟨dx,fs,q⟩:=I.oG (rG b hb);exact .inl ⟨_,_,q⟩
theorem a9.deep{H H':Hp}{ob dx l:Addr}{as:List Addr}{s:Vanbkn.State}{k:Int}(O:a9 C CO H ob dx l as s)(fo:C≠CO)(W:Wf s)(m n:Nat)(b:qp ((as.drop m).take n) H H')(hd:∀(i:Nat)(a:Addr)(x:Nd),((as.drop m).take n)[i]?=some a->((s.nodes.drop m).take n)[i]?=some x->bV C H' a (C9 k x)):
 a9 C CO H' ob dx l as ⟨s.nodes.take m++((s.nodes.drop m).take n).map (C9 k)++s.nodes.drop (m+n),s.next⟩:=by
 have I:=O.N.sV.deep (O.nodup W) m n b hd;refine⟨b _ _ O.at_ λq=>O.NH fo ob (rG _ q) rfl,I.nl (b.lst O.N.sV rG O.N.lst) ?_⟩;rw[<-I.len,O.N.len];exact O.N.sm
inductive wI(C CO:Addr)(vs:List V)(H:Hp)(Q:VK)(_E:XK):Prop
 |mk (ob dx l:Addr) (as:List Addr) (s:Vanbkn.State) (z:Int) (h1:vs=[.ref ob, .int z]) (h2:a9 C CO H ob dx l as s) (h3:Wf s) (h4:d_ C CO H ob (Vanbkn.step s (.dissolve z)) Q)
theorem Qj{o r:O}(e:o=a++x::r):(o.drop (a.length+1)).take (aO o a.length - (a.length+1))=inside x.depth r:=by rw[Bq,fJ e,zD e]
theorem LW{l:O}{d:Nat}(h:∀y∈l,d<y.depth):l.map (C9 (-1))=l.map AV:=iU λy hy=>by have:=h y hy;unfold C9 AV;rw[show((y.depth:Int)+-1).toNat=y.depth - 1 by lia]
theorem eV:aG ["outline","number","nodes","start","children"] ["outline","number"] (ay gE):=eN
theorem BE(F:bB K mg "dissolve_section" gE ["outline","number"])(T:Tz Z)(ax:uv Z)(aP:C7 Z)(dU:bo Z 2 "children_count" ["nodes","position"] (zu C))(gy:bo Z 1 "deepen" ["nodes","shift"] (oH C)):bo Z 3 "dissolve_section" ["outline","number"] (wI C CO):=by
 refine F.fe eV λH Q E hr h=>?_;obtain⟨ob,dx,l,as,st,z,rfl,O,W,k⟩:=h;refine⟨_,(ae (bD 2 eV (aB (pv 0) rfl)) (ae (bD 3 eV (pc ax hr (aa (pv 2) (aa (pv 1) ag)))) (ae (aM (bE bC (pv 3) aZ) (aj (aw (aL (aa (eg T) ag)))) aA) (ae (aM (bE bw (aB (c5 aJ (pv 2) (pv 3)) rfl) au) (aj (aw (aL (aa (eg T) ag)))) aA) (ae (bD 4 eV (pc dU hr (aa (pv 2) (aa (pv 3) ag)))) (ae (bF (pc gy hr (aa (bh bz (pv 2) (aW (bc bO (pv 3) au)) (aW (pc aP hr (aa (pv 2) (aa (pv 3) ag))))) (aa (vi pR au) ag)))) (ae (df (pv 0) (bc g8 (bh bz (pv 2) eR (aW (pv 3))) (bh bz (pv 2) (aW (bc bO (pv 3) au)) eR)) rfl) (aj (aw (aL (aa (pv 4) ag))))))))))),?_⟩;refine⟨_,rfl,aU T O ?_⟩;refine⟨_,rfl,_,rfl,l,as,_,z,rfl,O.N,λH2 s2=>?_⟩;have O2:=O.same s2;refine⟨_,rfl,rfl,_,rfl,?_⟩;rcases aX (o:=st.nodes) z with hp|⟨a,x,r,e,hp,kU⟩
 .rw[hp];refine aK (λ_=>?_) (λh=>absurd (aR rfl) h);exact⟨aV,λq hq=>k.refuse O (dM W hp) s2 hq⟩
 .rw[hp];refine aK (λh=>nomatch (aH h)) (λ_=>?_);rw[tR W e kU] at k;refine⟨_,rfl,_,rfl,cZ O2.N rfl (br e) λc _ hc=>fI T hc ⟨rfl,_,rfl,?_⟩⟩;rw[fJ e];cases bR:x.cell with
  |true=>rw[bR,aq rfl] at k;refine aK (λ_=>?_) (λh=>absurd (aR rfl) h);exact⟨aV,λq hq=>k.refuse O rfl s2 hq⟩
  |false=>
   rw[bR,ak (by decide)] at k;refine aK (λh=>absurd (aH h) (by intro q;cases q)) (λ_=>?_);refine⟨_,rfl,_,rfl,l,as,_,a.length,rfl,O2.N,br e,λH3 s3=>?_⟩;have O3:=O2.same s3;have yr:=jG (br e);refine⟨_,rfl,_,rfl,_,_,rfl,rfl,_,rfl,_,rfl,_,rfl,l,as,_,a.length,rfl,O3.N,br e,λH4 s4=>⟨_,rfl,l,_,rfl,bf.of (s4 _ _ O3.N.lst),λp hp=>?_⟩⟩;have Jm:=(s2.trans s3).trans s4;have O5:=(O3.same s4).same (aE hp (u:= .lst (d5 (as.map V.ref) (some ((a.length+1:Nat):Int)) (some ((aO st.nodes a.length:Nat):Int)))));have M:=O3.N.cut (a:=a.length+1) (b:=aO st.nodes a.length) (br e) yr s4 hp;have uH:∀y∈inside x.depth r,x.depth<y.depth:=λy hy=>cg y hy;have zc:=Qj e;refine⟨_,rfl,p,_,_,_,rfl,M,(O5.nodup W).sublist ((zW _ _).trans (Kz _ _)),(λy hy=>by rw[zc] at hy;have:=uH y hy;lia),λH6 b6 d6=>?_⟩;have O6:=O5.deep T.ne1 W _ _ b6 d6;rw[zc,LW uH,show a.length+1+(aO st.nodes a.length - (a.length+1))=aO st.nodes a.length by have:=rB st.nodes a.length;lia,iJ e,show st.nodes.take (a.length+1)=a++[x] by rw[e,show a++x::r=(a++[x])++r by simp,DU (by simp)]] at O6;have pG:=O6.N.gV;have hlen:(a++[x]++(inside x.depth r).map AV++outside x.depth r).length=st.nodes.length:=by rw[<-O6.N.len,O.N.len]
   have pG:(as.map V.ref).length=st.nodes.length:=by rw[pG];exact hlen
   refine⟨_,rfl,_,rfl,_,rfl,l,_,rfl,bf.of O6.N.lst,λp1 h1=>?_⟩;rw[sS _ (by rw[pG];exact eX (br e))];have s7:=aE h1 (u:= .lst ((as.map V.ref).take a.length));refine⟨_,rfl,_,rfl,_,_,rfl,rfl,_,rfl,l,_,rfl,bf.of (s7 _ _ O6.N.lst),λp2 h2=>?_⟩;rw[show((a.length:Int)+1)=((a.length+1:Nat):Int) by lia,j8 _ (by rw[pG];exact br e)];have s8:=s7.new h2 (u:= .lst ((as.map V.ref).drop (a.length+1)));have:=W.n.len;refine⟨p1,p2,_,_,rfl,rfl,a7 ah h2,ah,dB (by rw[bg,dC,pG];lia),λp3 h3=>?_⟩;have s9:=s8.new h3 (u:= .lst ((as.map V.ref).take a.length++(as.map V.ref).drop (a.length+1)));have O9:=O6.same s9;have I9:=(O9.N.sV.take a.length).append (O9.N.sV.drop (a.length+1));have e9:(a++[x]++(inside x.depth r).map AV++outside x.depth r).take a.length++(a++[x]++(inside x.depth r).map AV++outside x.depth r).drop (a.length+1)=a++(inside x.depth r).map AV++outside x.depth r:=by
    have W5:a++[x]++(inside x.depth r).map AV++outside x.depth r=a++x::((inside x.depth r).map AV++outside x.depth r):=by simp
    rw[W5,fO,jV,dQ]
   have I9:Itm C _ (as.take a.length++as.drop (a.length+1)) (a++(inside x.depth r).map AV++outside x.depth r):=e9▸I9;have N9:NL C _ p3 (as.take a.length++as.drop (a.length+1)) (a++(inside x.depth r).map AV++outside x.depth r):=I9.nl (by rw[ah,cV,mY,jR]) (by
    have:=hlen;simp at this⊢
    lia)
   refine⟨_,rfl,ob,CO,dx,_,rfl,O9.at_,T.zM,T.j6,(by show 2<1000;decide),?_⟩;have Qk:=O9.put T.ne1 (s':=⟨a++(inside x.depth r).map AV++outside x.depth r,st.next⟩) N9;refine⟨_,rfl,aV,λq hq=>?_⟩;refine k _ q dx p3 _ ((((Jm.new hp).fr.trans (zE O5.N.sV b6)).trans (s9.fr.trans (zC O9))).trans (aE hq).fr) (Qk.same (aE hq)) ?_;rw[ah];show some (HO.lst [V.int ((yq st.nodes a.length:Nat):Int)])=_;unfold yq;rw[fJ e,zD e];rfl
def Dg(o:O)(i j:Nat):Bool:=decide (i<=j/\ (nd o j).depth=(nd o i).depth/\ ∀w∈(o.drop i).take (j - i),(nd o i).depth<=w.depth)
inductive Jn(C:Addr)(vs:List V)(H:Hp)(Q:VK)(_E:XK):Prop
 |mk (l:Addr) (as:List Addr) (o:O) (i j:Nat) (h1:vs=[.ref l, .int (i:Nat), .int (j:Nat)]) (h2:NL C H l as o) (h3:i<o.length) (h4:j<o.length) (h5:∀H',aD H H'->Q (.bl (Dg o i j)) H')
theorem c6:aG ["nodes","start","final","depth","node"] ["nodes","start","final"] (ay gn):=eN
theorem LX(F:bB K mg "siblings_in_order" gn ["nodes","start","final"])(T:Tz Z):bo Z 1 "siblings_in_order" ["nodes","start","final"] (Jn C):=by
 refine F.fe c6 λH Q E hr h=>?_;obtain⟨l,as,o,i,j,rfl,N,hi,hj,k⟩:=h;refine⟨_,(ae (bD 3 c6 (aB (c5 aJ (pv 0) (pv 1)) rfl)) (ae (aM (PW.pt (gh (bE gK (pv 1) (pv 2)) (gz (bE lG (aB (c5 aJ (pv 0) (pv 2)) rfl) (pv 3))))) (aj (aw D9)) aA) (aj (aw (fM (HG rfl) (by rfl) T.all IS (aa (kH rfl c6.nd (bL (bh bz (pv 0) (aW (pv 1)) (aW (pv 2)))) (own:=[("node",4)]) (Cb c6) (λ_ _ _ _ _=>(jB 4 c6)) (λ_ _ _ _ _=>kF) (λ_ _ _ _ _=>(jF nH (d8 (K:=K) rfl (pv 4) rfl) (pv 3) (k5 _)))) ag)))))),?_⟩;refine⟨_,rfl,_,rfl,cZ N rfl hi λc _ hc=>bj T hc ?_⟩;refine⟨_,rfl,_,rfl,_,_,rfl,rfl,_,rfl,?_⟩;refine aK (λh1=>eD ?_) (λh1=>?_)
 .have e:Dg o i j=false:=cP λh=>by have:=aH h1;lia
  have q:=k _ (aD.refl _);rw[e] at q;exact q
 have h1:=cH h1;have ur:i<=j:=by lia
 refine⟨_,rfl,_,rfl,cZ N rfl hj λc _ hc=>bj T hc ⟨_,rfl,rfl,_,rfl,?_⟩⟩;by_cases hd:(nd o j).depth=(nd o i).depth
 .rw[hd];refine aK (λh=>?_) (λ_=>?_)
  .simp at h
  refine⟨_,rfl,_,rfl,_,rfl,_,rfl,_,rfl,l,_,rfl,bf.of N.lst,λp hp=>?_⟩;have M:=N.cut (a:=i) (b:=j) (eX hi) (eX hj) (aD.refl _) hp;refine⟨p,rfl,⟨_,bf.of M.lst⟩,λD hD=>?_⟩;refine f9 (K:=K) (a:=p) (λq=>some (V.bl (decide ((nd o i).depth<=q.2.depth)))) M.zip hD M.LH (λm q H4 hq s4 R R0 k1 k2=>?_) (λH4 s4 h4=>?_)
  .refine⟨rfl,Bk ⟨_,rfl,bj T ((M.at2 hq).same s4) ⟨_,rfl,_,_,rfl,rfl,k1 _ _ (aD.refl _) ?_⟩⟩⟩;have e:decide ((nd o i).depth<=q.2.depth)=decide (((nd o i).depth:Int)<=(q.2.depth:Int)):=by
    rw[qP]
    lia
   rw[e]
  .rw[C8 M.len (λy=>decide ((nd o i).depth<=y.depth))] at h4;refine⟨D,_,rfl,bf.of h4,?_⟩;rw[wy];have e:Dg o i j=((o.drop i).take (j - i)).all λy=>decide ((nd o i).depth<=y.depth):=by
    unfold Dg;rw[GP,yN,dN];constructor
    .rintro⟨_,_,h⟩ y hy;exact aR (h y hy)
    .intro h;exact⟨ur,hd,λw hw=>iY (h w hw)⟩
   have q:=k _ ((aE hp).trans s4);rw[e] at q;exact q
 .refine aK (λ_=>?_) (λh=>?_)
  .have e:Dg o i j=false:=cP λh=>hd h.2.1;have q:=k _ (aD.refl _);rw[e] at q;exact q
  .exfalso;apply h;simp
   lia
theorem LY{p:Addr}{as:List Addr}{o:O}(d:Nat)(N:NL C H p as o)(h7:σ[7]?=some (some (.int (d:Nat))))(h8:σ[8]?=some (some (.ref p)))(hR:∀H',aD H H'->R (.bl (decide (6<d)||tZ o 1)) H'):
 RJ (qJ (xO λi j=>V.bl (decide (j<i))) (cv 7) (tC (.int 6))) (pF (jP C) [] E0 (dk (cv 8) (dk (tC (.int 1)) k6))) σ H R:=by
 refine⟨_,h7,_,_,rfl,rfl,_,rfl,?_⟩;refine aK (λh=>?_) (λh=>?_)
 .have q:=hR _ (aD.refl _);rw[aR (by have:=aH h;lia)] at q;exact q
 .refine⟨_,h8,p,as,o,1,rfl,N,λH' s'=>?_⟩;have q:=hR _ s';rw[cP (λh2=>h (aR (by lia)))] at q;exact q
inductive Jo(C CO:Addr)(vs:List V)(H:Hp)(Q:VK)(_E:XK):Prop
 |mk (ob dx l r:Addr) (as:List Addr) (s:Vanbkn.State) (z w:Int) (t:List Int) (h1:vs=[.ref ob, .int z, .int w, .ref r]) (h2:a9 C CO H ob dx l as s) (h3:Wf s) (h4:H r=some (.lst (aT t))) (h5:t.length<=200) (h6:d_ C CO H ob (Vanbkn.step s (.wrap z w t)) Q)
theorem Jp{w:Int}{t:List Int}(W:Wf s)(h:c9 s.nodes z=none):Vanbkn.step s (.wrap z w t)=refused s (-1):=bx W.n h
theorem Jq{r:O}{w:Int}{t:List Int}(W:Wf s)(e:s.nodes=a++x::r)(hz:(x.number:Int)=z)(h:c9 s.nodes w=none):Vanbkn.step s (.wrap z w t)=refused s (-1):=by show withNode s z _=_;rw[aN W.n e hz];exact bx W.n h
theorem LZ(o:O):tZ o 1=cp o 0 1:=by
 unfold tZ cp;congr 1;funext x;congr 1;rw[qP]
 lia
theorem L0(l:O):l.map (C9 1)=l.map inc:=iU λy _=>by unfold C9 inc;rw[show((y.depth:Int)+1).toNat=y.depth+1 by lia]
theorem cK:aG ["outline","first","last","title","nodes","start","final","depth","wrapped","refusal"] ["outline","first","last","title"] (ay jh):=eN
theorem L1(F:bB K mg "wrap_siblings" jh ["outline","first","last","title"])(T:Tz Z)(ax:uv Z)(aP:C7 Z)(gH:bo Z 1 "siblings_in_order" ["nodes","start","final"] (Jn C))(de:bo Z 2 "new_node_refusal" ["outline","text","deep"] (sW C CO))(dW:bo Z 1 "too_deep" ["nodes","shift"] (jP C))(gy:bo Z 1 "deepen" ["nodes","shift"] (oH C))(fF:bo Z 3 "put_new_node" ["outline","cell","position","depth","text"] (Ji C CO)):bo Z 4 "wrap_siblings" ["outline","first","last","title"] (Jo C CO):=by
 refine F.fe cK λH Q E hr h=>?_;obtain⟨ob,dx,l,tr,as,st,z,v,t,rfl,O,W,hR,hz,k⟩:=h;refine⟨_,(ae (bD 4 cK (aB (pv 0) rfl)) (ae (bD 5 cK (pc ax hr (aa (pv 4) (aa (pv 1) ag)))) (ae (bD 6 cK (pc ax hr (aa (pv 4) (aa (pv 2) ag)))) (ae (aM (PW.pt (gh (bE bC (pv 5) aZ) (gz (bE bC (pv 6) aZ)))) (aj (aw (aL (aa (eg T) ag)))) aA) (ae (aM (vf (gk (pc gH hr (aa (pv 4) (aa (pv 5) (aa (pv 6) ag)))))) (aj (aw (aL (aa (eg T) ag)))) aA) (ae (bD 7 cK (aB (c5 aJ (pv 4) (pv 5)) rfl)) (ae (bD 8 cK (bh bz (pv 4) (aW (pv 5)) (aW (pc aP hr (aa (pv 4) (aa (pv 6) ag)))))) (ae (bD 9 cK (pc de hr (aa (pv 0) (aa (pv 3) (aa (RK (jF gK (pv 7) (eg T) (k5 _)) (Ci (pc dW hr (aa (pv 8) (aa au ag))))) ag))))) (ae (aM (bE lG (pv 9) au) (aj (aw (aL (aa (pv 9) ag)))) aA) (ae (bF (pc gy hr (aa (pv 8) (aa au ag)))) (aj (aw (aL (aa (pc fF hr (aa (pv 0) (aa au (aa (pv 5) (aa (pv 7) (aa (pv 3) ag)))))) ag)))))))))))))),?_⟩;refine⟨_,rfl,aU T O ?_⟩;refine⟨_,rfl,_,rfl,l,as,_,z,rfl,O.N,λH2 s2=>?_⟩;refine⟨_,rfl,_,rfl,l,as,_,v,rfl,O.N.same s2,λH3 s3=>?_⟩;have jC:=s2.trans s3;have O3:=O.same jC;refine⟨_,rfl,rfl,_,rfl,?_⟩;rcases aX (o:=st.nodes) z with hp|⟨a,x,r,e,hp,kU⟩
 .rw[hp];refine aK (λ_=>eD ?_) (λh=>absurd (aR rfl) h);exact⟨aV,λq hq=>k.refuse O (Jp W hp) jC hq⟩
 rw[hp];refine aK (λh=>nomatch (aH h)) (λ_=>?_);refine⟨_,rfl,rfl,_,rfl,?_⟩;rcases aX (o:=st.nodes) v with Cv|⟨a2,y,r2,e2,Cv,Yr⟩
 .rw[Cv];refine aK (λ_=>?_) (λh=>absurd (aR rfl) h);exact⟨aV,λq hq=>k.refuse O (Jq W e kU Cv) jC hq⟩
 rw[Cv];refine aK (λh=>nomatch (aH h)) (λ_=>?_);refine⟨_,rfl,_,rfl,_,rfl,l,as,_,a.length,a2.length,rfl,O3.N,br e,br e2,λH4 s4=>⟨_,rfl,?_⟩⟩;have Jm:=jC.trans s4;have O4:=O3.same s4;have Ys:Dg st.nodes a.length a2.length=decide (a.length<=a2.length/\ y.depth=x.depth/\ ∀w∈(st.nodes.drop a.length).take (a2.length - a.length),x.depth<=w.depth):=by unfold Dg;rw[fJ e,fJ e2]
 rcases ya W.n.nd e e2 with⟨mid,M⟩|rQ
 .rw[yc W e kU e2 Yr t M] at k;rw[Ys,aR (M.cond e)];refine fL ?_;refine⟨_,rfl,_,rfl,cZ O4.N rfl (br e) λc _ hc=>bj T hc ?_⟩;rw[fJ e];refine⟨_,rfl,_,rfl,_,rfl,_,rfl,_,rfl,l,as,_,a2.length,rfl,O4.N,br e2,λH5 s5=>⟨_,rfl,l,_,rfl,bf.of (s5 _ _ O4.N.lst),λp hp=>?_⟩⟩;have yr:=jG (br e2);have zc:(st.nodes.drop a.length).take (aO st.nodes a2.length - a.length)=mid++y::inside y.depth r2:=by
   have hd:st.nodes.drop a.length=(mid++y::inside y.depth r2)++outside y.depth r2:=by rw[e,ug];exact M.zb
   rw[gw e2,hd];apply DU;rw[M.ea];simp
   lia
  have S7:st.nodes.drop (aO st.nodes a2.length)=outside y.depth r2:=iJ e2;have NM:=O4.N.cut (a:=a.length) (b:=aO st.nodes a2.length) (eX (br e)) yr s5 hp;have O6:=(O4.same s5).same (aE hp (u:= .lst (d5 (as.map V.ref) (some ((a.length:Nat):Int)) (some ((aO st.nodes a2.length:Nat):Int)))));have NI:aD H (upd H5 p (.lst (d5 (as.map V.ref) (some ((a.length:Nat):Int)) (some ((aO st.nodes a2.length:Nat):Int))))):=(Jm.trans s5).new hp;refine⟨_,rfl,_,rfl,LY x.depth NM rfl rfl λH7 s7=>?_⟩;rw[zc,LZ];have O7:=O6.same s7;have UZ:=NI.trans s7;refine⟨ob,dx,l,tr,as,st,t,_,rfl,O7,UZ _ _ hR,hz,λH8 s8=>?_⟩;have O8:=O7.same s8;have GY:=UZ.trans s8;unfold Ez at k;refine⟨_,rfl,rfl,_,rfl,?_⟩;cases pJ:isText t with
  |false=>
   rw[pJ,aq rfl] at k;have er:∀b,kq st t b=-3:=λb=>by unfold kq;rw[pJ,aq rfl]
   rw[er];exact eD ⟨_,rfl,aV,λq hq=>k.refuse O rfl GY hq⟩
  |true=>
   rw[pJ,ak (by decide)] at k;by_cases Bt:60<=st.nodes.length
   .rw[aq Bt] at k;have er:∀b,kq st t b=-4:=λb=>by unfold kq;rw[pJ,ak (by decide),aq Bt]
    rw[er];exact eD ⟨_,rfl,aV,λq hq=>k.refuse O rfl GY hq⟩
   .rw[ak Bt] at k;by_cases oK:6<x.depth\/ cp (mid++y::inside y.depth r2) 0 1=true
    .rw[aq oK] at k;have er:kq st t (decide (6<x.depth)||cp (mid++y::inside y.depth r2) 0 1)=-5:=by
      unfold kq;rw[pJ,ak (by decide),ak Bt,aq];rcases oK with h|h
      .rw[aR h];rfl
      .rw[h];exact Bool.or_true _
     rw[er];exact eD ⟨_,rfl,aV,λq hq=>k.refuse O rfl GY hq⟩
    .rw[ak oK] at k;have S8:¬(decide (6<x.depth)||cp (mid++y::inside y.depth r2) 0 1)=true:=λh=>by
      rw[rR] at h;rcases h with h|h
      .exact oK (.inl (aH h))
      .exact oK (.inr h)
     by_cases xh:999<st.next
     .rw[aq xh] at k;have er:kq st t (decide (6<x.depth)||cp (mid++y::inside y.depth r2) 0 1)=-6:=by unfold kq;rw[pJ,ak (by decide),ak Bt,ak S8,aq xh]
      rw[er];exact eD ⟨_,rfl,aV,λq hq=>k.refuse O rfl GY hq⟩
     .rw[ak xh] at k;have er:kq st t (decide (6<x.depth)||cp (mid++y::inside y.depth r2) 0 1)=0:=by unfold kq;rw[pJ,ak (by decide),ak Bt,ak S8,ak xh]
      rw[er];refine fL ?_;have W6:=(NM.same s7).same s8;refine⟨_,rfl,p,_,_,_,rfl,W6,(O8.nodup W).sublist ((zW _ _).trans (Kz _ _)),(λy hy=>by lia),λH9 b9 d9=>?_⟩;have O9:=O8.deep T.ne1 W _ _ b9 d9;have F4:a.length+(aO st.nodes a2.length - a.length)=aO st.nodes a2.length:=by
       have:=gw e2;have:=(M.cond e).1
       lia
      rw[zc,L0,F4,S7,rF e] at O9;have hlen:(a++(mid++y::inside y.depth r2).map inc++outside y.depth r2).length=st.nodes.length:=by rw[<-O9.N.len,O.N.len]
      have hR9:H9 tr=some (.lst (aI (textOf t))):=by rw[b9.lst O8.N.sV rG (GY _ _ hR),gN,kL pJ]
      refine⟨_,rfl,_,rfl,_,rfl,_,rfl,ob,dx,l,tr,as,_,false,a.length,x.depth,textOf t,rfl,O9,?_,?_,hR9,λUC l' ko Q7 Qk=>⟨aV,λq hq=>?_⟩⟩
      .show a.length<=(a++(mid++y::inside y.depth r2).map inc++outside y.depth r2).length;rw[hlen];exact eX (br e)
      .show(a++(mid++y::inside y.depth r2).map inc++outside y.depth r2).length<=60;rw[hlen]
       lia
      have W5:(a++(mid++y::inside y.depth r2).map inc++outside y.depth r2).take a.length++(⟨st.next,x.depth,false,false,textOf t⟩:Nd)::(a++(mid++y::inside y.depth r2).map inc++outside y.depth r2).drop a.length=
       a++(⟨st.next,x.depth,false,false,textOf t⟩:Nd)::(mid++y::inside y.depth r2).map inc++outside y.depth r2:=by
       rw[dQ,tI,ug];simp
      have Qk:a9 C CO UC ob dx l' ko ⟨a++(⟨st.next,x.depth,false,false,textOf t⟩:Nd)::(mid++y::inside y.depth r2).map inc++outside y.depth r2,st.next+1⟩:=W5▸Qk;exact k _ q dx l' ko (((GY.fr.trans (zE O8.N.sV b9)).trans (Q7.fr (BC O9))).trans (aE hq).fr) (Qk.same (aE hq)) ah
 .rw[yb W e kU e2 Yr t rQ] at k;rw[Ys,cP rQ];exact eD ⟨aV,λq hq=>k.refuse O rfl Jm hq⟩
inductive uQ(C CO:Addr)(vs:List V)(H:Hp)(Q:VK)(_E:XK):Prop
 |mk (ob dx l:Addr) (as:List Addr) (s:Vanbkn.State) (a r:O) (x:Nd) (k d:Nat) (h1:vs=[.ref ob, .int (a.length:Nat), .int (k:Nat), .int (d:Nat)]) (h2:a9 C CO H ob dx l as s) (h3:Wf s) (h4:s.nodes=a++x::r) (h5:k<=(a++outside x.depth r).length) (h6:∀H' l' ko,Fr C CO H H'->a9 C CO H' ob dx l' ko ⟨(a++outside x.depth r).take k++shifted (x::inside x.depth r) x.depth d++(a++outside x.depth r).drop k,s.next⟩->Q .eQ H')
theorem yz{r:O}{d:Nat}:(x::inside x.depth r).map (C9 ((d:Int) - (x.depth:Int)))=shifted (x::inside x.depth r) x.depth d:=iU λy hy=>by have h:x.depth<=y.depth:=hZ y hy;unfold C9;rw[show((y.depth:Int)+((d:Int) - (x.depth:Int))).toNat=y.depth - x.depth+d by lia]
theorem lY{o r:O}(e:o=a++x::r):(o.drop a.length).take (aO o a.length - a.length)=x::inside x.depth r:=by rw[gw e,e,ug,show a.length+1+(inside x.depth r).length - a.length=(inside x.depth r).length+1 by lia,List.take_succ_cons,<-nS]
theorem iR:aG ["outline","start","position","depth","nodes","end","tree"] ["outline","start","position","depth"] (ay my):=eN
theorem Jr(F:bB K mg "carry_tree" my ["outline","start","position","depth"])(T:Tz Z)(aP:C7 Z)(gy:bo Z 1 "deepen" ["nodes","shift"] (oH C))(f_:bo Z 1 "inserted" ["nodes","position","run"] EV):bo Z 2 "carry_tree" ["outline","start","position","depth"] (uQ C CO):=by
 refine F.fe iR λH Q E hr h=>?_;obtain⟨ob,dx,l,as,st,a,r,x,kk,d,rfl,O,W,e,Q0,k⟩:=h;refine⟨_,(ae (bD 4 iR (aB (pv 0) rfl)) (ae (bD 5 iR (pc aP hr (aa (pv 4) (aa (pv 1) ag)))) (ae (bD 6 iR (bh bz (pv 4) (aW (pv 1)) (aW (pv 5)))) (ae (bF (pc gy hr (aa (pv 6) (aa (bc gm (pv 3) (aB (c5 aJ (pv 4) (pv 1)) rfl)) ag)))) (aj (df (pv 0) (pc f_ hr (aa (bc g8 (bh bz (pv 4) eR (aW (pv 1))) (bh bz (pv 4) (aW (pv 5)) eR)) (aa (pv 2) (aa (pv 6) ag)))) rfl)))))),?_⟩;have hw:=W.n.len;have yr:=jG (br e);refine⟨_,rfl,aU T O ?_⟩;refine⟨_,rfl,_,rfl,l,as,_,a.length,rfl,O.N,br e,λH2 s2=>?_⟩;have O2:=O.same s2;refine⟨_,rfl,_,rfl,_,rfl,_,rfl,_,rfl,l,_,rfl,bf.of O2.N.lst,λp hp=>?_⟩;have NM:=O2.N.cut (a:=a.length) (b:=aO st.nodes a.length) (eX (br e)) yr (aD.refl _) hp;have s3:aD H2 (upd H2 p (.lst (d5 (as.map V.ref) (some ((a.length:Nat):Int)) (some ((aO st.nodes a.length:Nat):Int))))):=aE hp;have O3:=O2.same s3;refine⟨_,rfl,_,rfl,_,rfl,_,rfl,cZ O3.N rfl (br e) λc _ hc=>bj T hc ⟨_,_,rfl,rfl,?_⟩⟩;rw[fJ e];refine⟨p,_,_,_,rfl,NM,(O3.nodup W).sublist ((zW _ _).trans (Kz _ _)),(λy hy=>by rw[lY e] at hy;have:x.depth<=y.depth:=hZ y hy;lia),λH4 b4 d4=>?_⟩;have O4:=O3.deep T.ne1 W _ _ b4 d4;have F4:a.length+(aO st.nodes a.length - a.length)=aO st.nodes a.length:=by have:=rB st.nodes a.length;lia
 rw[lY e,yz,F4,iJ e,rF e] at O4;have pG:(as.map V.ref).length=st.nodes.length:=O.N.gV;have htp:H4 p=some (.lst (((as.drop a.length).take (aO st.nodes a.length - a.length)).map V.ref)):=b4.lst O3.N.sV rG NM.lst;have fr4:Fr C CO H H4:=(s2.trans s3).fr.trans (zE O3.N.sV b4);refine⟨_,rfl,_,rfl,_,rfl,l,_,rfl,bf.of O4.N.lst,λp1 h1=>?_⟩;rw[sS _ (by rw[pG];exact eX (br e))];have s5:=aE h1 (u:= .lst ((as.map V.ref).take a.length));refine⟨_,rfl,_,rfl,_,rfl,l,_,rfl,bf.of (s5 _ _ O4.N.lst),λp2 h2=>?_⟩;rw[j8 _ (by rw[pG];exact yr)];have s6:=s5.new h2 (u:= .lst ((as.map V.ref).drop (aO st.nodes a.length)));refine⟨p1,p2,_,_,rfl,rfl,a7 ah h2,ah,dB (by rw[bg,dC,pG];lia),λp3 h3=>?_⟩;have s7:=s6.new h3 (u:= .lst ((as.map V.ref).take a.length++(as.map V.ref).drop (aO st.nodes a.length)));have S9:(outside x.depth r).length=st.nodes.length - aO st.nodes a.length:=by rw[<-iJ e,dC]
 have Yt:((as.map V.ref).take a.length++(as.map V.ref).drop (aO st.nodes a.length)).length=(a++outside x.depth r).length:=by rw[a_,a_,bg,dC,pG,S9,iV (eX (br e))]
 have aaM:(a++outside x.depth r).length<=60:=by rw[a_,S9];have:=br e;have:=rB st.nodes a.length;lia
 refine⟨_,rfl,_,rfl,p3,p,_,_,kk,rfl,ah,s7 _ _ htp,by rw[Yt];exact Q0,?_,λH8 q s8 hq=>?_⟩
 .rw[Yt,aS,bg,dC,O.N.len]
  lia
 have O8:=(O4.same s7).same s8;have Iw:Itm C H8 (as.take a.length++as.drop (aO st.nodes a.length)) (a++outside x.depth r):=by
  have:=(O8.N.sV.take a.length).append (O8.N.sV.drop (aO st.nodes a.length));have e1:(a++shifted (x::inside x.depth r) x.depth d++outside x.depth r).take a.length=a:=by rw[dQ,tI]
  have e2:(a++shifted (x::inside x.depth r) x.depth d++outside x.depth r).drop (aO st.nodes a.length)=outside x.depth r:=by
   apply List.drop_left';rw[a_,gw e];unfold shifted;rw[aS,cj]
   lia
  rw[e1,e2] at this;exact this
 have It:Itm C H8 ((as.drop a.length).take (aO st.nodes a.length - a.length)) (shifted (x::inside x.depth r) x.depth d):=by
  have:=(O8.N.sV.drop a.length).take (aO st.nodes a.length - a.length);have e1:((a++shifted (x::inside x.depth r) x.depth d++outside x.depth r).drop a.length).take (aO st.nodes a.length - a.length)=shifted (x::inside x.depth r) x.depth d:=by
   rw[dQ,ug];apply DU;rw[gw e];unfold shifted;rw[aS,cj]
   lia
  rw[e1] at this;exact this
 have Iq:=((Iw.take kk).append It).append (Iw.drop kk);have Nq:NL C H8 q ((as.take a.length++as.drop (aO st.nodes a.length)).take kk++(as.drop a.length).take (aO st.nodes a.length - a.length)++(as.take a.length++as.drop (aO st.nodes a.length)).drop kk) ((a++outside x.depth r).take kk++shifted (x::inside x.depth r) x.depth d++(a++outside x.depth r).drop kk):=by
  refine Iq.nl ?_ ?_
  .rw[hq];simp only[cV,mY,jR]
  .rw[a_,a_,bg,dC];unfold shifted;rw[aS,cj];have:=Qh x.depth r;have:r.length<=60:=by rw[e] at hw;simp at hw;lia
   lia
 refine⟨_,rfl,ob,CO,dx,_,rfl,O8.at_,T.zM,T.j6,(by show 2<1000;decide),?_⟩;have O9:=O8.put T.ne1 (s':=⟨(a++outside x.depth r).take kk++shifted (x::inside x.depth r) x.depth d++(a++outside x.depth r).drop kk,st.next⟩) Nq;exact k _ q _ ((fr4.trans (s7.trans s8).fr).trans (zC O8)) O9
theorem oM{r:O}{d:Nat}:tZ (x::inside x.depth r) ((d:Int) - (x.depth:Int))=cp (x::inside x.depth r) x.depth d:=by
 unfold tZ cp;rw[GP,NY,NY];constructor
 .rintro⟨y,hy,h⟩;refine⟨y,hy,?_⟩;have:x.depth<=y.depth:=hZ y hy;rw[uA,dN] at h⊢;exact⟨h.1,by lia⟩
 .rintro⟨y,hy,h⟩;refine⟨y,hy,?_⟩;have:x.depth<=y.depth:=hZ y hy;rw[uA,dN] at h⊢;exact⟨h.1,by lia⟩
inductive Js(C CO:Addr)(vs:List V)(H:Hp)(Q:VK)(_E:XK):Prop
 |mk (ob dx l:Addr) (as:List Addr) (s:Vanbkn.State) (z p af:Int) (h1:vs=[.ref ob, .int z, .int p, .int af]) (h2:a9 C CO H ob dx l as s) (h3:Wf s) (h4:d_ C CO H ob (Vanbkn.step s (.move z p af)) Q)
theorem BF{o:O}(W:lO o){p a:Int}{k d:Nat}(h:ff o p a=some (k,d)):k<=o.length:=by
 rcases fP W p a with⟨h1,_⟩|⟨pre,post,d',h1,_,S⟩
 .rw[h] at h1;cases h1
 .rw[h] at h1;cases h1;rw[S.eq,a_]
  lia
theorem fi:aG ["outline","number","parent","after","nodes","start","end","tree","place","depth"] ["outline","number","parent","after"] (ay om):=eN
theorem L3(F:bB K mg "move_tree" om ["outline","number","parent","after"])(T:Tz Z)(ax:uv Z)(aP:C7 Z)(gb:bo Z 3 "place_at" ["nodes","parent","after"] (uO C))(dW:bo Z 1 "too_deep" ["nodes","shift"] (jP C))(ez:bo Z 2 "carry_tree" ["outline","start","position","depth"] (uQ C CO)):
 bo Z 4 "move_tree" ["outline","number","parent","after"] (Js C CO):=by
 refine F.fe fi λH Q E hr h=>?_;obtain⟨ob,dx,l,as,st,z,p,af,rfl,O,W,k⟩:=h;refine⟨_,(ae (bD 4 fi (aB (pv 0) rfl)) (ae (bD 5 fi (pc ax hr (aa (pv 4) (aa (pv 1) ag)))) (ae (aM (bE bC (pv 5) aZ) (aj (aw (aL (aa (eg T) ag)))) aA) (ae (bD 6 fi (pc aP hr (aa (pv 4) (aa (pv 5) ag)))) (ae (bD 7 fi (bh bz (pv 4) (aW (pv 5)) (aW (pv 6)))) (ae (aM (bE uC (pc ax hr (aa (pv 7) (aa (pv 2) ag))) aZ) (aj (aw (aL (aa (eg T) ag)))) aA) (ae (bD 8 fi (pc gb hr (aa (bc g8 (bh bz (pv 4) eR (aW (pv 5))) (bh bz (pv 4) (aW (pv 6)) eR)) (aa (pv 2) (aa (pv 3) ag))))) (ae (aM (bE bC (pv 8) aZ) (aj (aw (aL (aa (eg T) ag)))) aA) (ae (bD 9 fi (c5 dR (pv 8) au)) (ae (aM (gk (pc dW hr (aa (pv 7) (aa (bc gm (pv 9) (aB (c5 aJ (pv 4) (pv 5)) rfl)) ag)))) (aj (aw (aL (aa (eg T) ag)))) aA) (ae (bF (pc ez hr (aa (pv 0) (aa (pv 5) (aa (c5 dR (pv 8) au) (aa (pv 9) ag)))))) (aj (aw (aL (aa au ag))))))))))))))),?_⟩;refine⟨_,rfl,aU T O ?_⟩;refine⟨_,rfl,_,rfl,l,as,_,z,rfl,O.N,λH2 s2=>?_⟩;have O2:=O.same s2;refine⟨_,rfl,rfl,_,rfl,?_⟩;rcases aX (o:=st.nodes) z with hp|⟨a,x,r,e,hp,kU⟩
 .rw[hp];refine aK (λ_=>?_) (λh=>absurd (aR rfl) h);exact⟨aV,λq hq=>k.refuse O (dM W hp) s2 hq⟩
 rw[hp];refine aK (λh=>nomatch (aH h)) (λ_=>?_);rw[Ex W e kU] at k;have yr:=jG (br e);have hw:=W.n.len;refine⟨_,rfl,_,rfl,l,as,_,a.length,rfl,O2.N,br e,λH3 s3=>?_⟩;have O3:=O2.same s3;refine⟨_,rfl,_,rfl,_,rfl,_,rfl,_,rfl,l,_,rfl,bf.of O3.N.lst,λt ht=>?_⟩;have NM:=O3.N.cut (a:=a.length) (b:=aO st.nodes a.length) (eX (br e)) yr (aD.refl _) ht;rw[lY e] at NM;have s4:aD H (upd H3 t (.lst (d5 (as.map V.ref) (some ((a.length:Nat):Int)) (some ((aO st.nodes a.length:Nat):Int))))):=(s2.trans s3).new ht;have O4:=O.same s4;refine⟨_,rfl,_,rfl,t,_,_,p,rfl,NM,λH5 s5=>⟨rfl,_,rfl,?_⟩⟩;have O5:=O4.same s5;have U0:=s4.trans s5;cases QU:c9 (x::inside x.depth r) p with
 |some i=>
  rw[QU,aq (by simp)] at k;refine aK (λ_=>?_) (λh=>?_)
  .exact⟨aV,λq hq=>k.refuse O rfl U0 hq⟩
  .exact absurd rfl h
 |none=>
  rw[QU,ak (by simp)] at k;refine aK (λh=>?_) (λ_=>?_)
  .cases h
  have pG:(as.map V.ref).length=st.nodes.length:=O.N.gV;refine⟨_,rfl,_,rfl,_,rfl,l,_,rfl,bf.of O5.N.lst,λp1 h1=>?_⟩;rw[sS _ (by rw[pG];exact eX (br e))];have s6:=aE h1 (u:= .lst ((as.map V.ref).take a.length));refine⟨_,rfl,_,rfl,_,rfl,l,_,rfl,bf.of (s6 _ _ O5.N.lst),λp2 h2=>?_⟩;rw[j8 _ (by rw[pG];exact yr)];have s7:=s6.new h2 (u:= .lst ((as.map V.ref).drop (aO st.nodes a.length)));refine⟨p1,p2,_,_,rfl,rfl,a7 ah h2,ah,dB (by rw[bg,dC,pG];lia),λp3 h3=>?_⟩;have s8:=s7.new h3 (u:= .lst ((as.map V.ref).take a.length++(as.map V.ref).drop (aO st.nodes a.length)));have O8:=O5.same s8;have N8:NL C _ p3 (as.take a.length++as.drop (aO st.nodes a.length)) (st.nodes.take a.length++st.nodes.drop (aO st.nodes a.length)):=
   ((O8.N.sV.take a.length).append (O8.N.sV.drop (aO st.nodes a.length))).nl (by rw[ah,cV,mY,jR]) (by rw[a_,bg,dC];lia)
  rw[rF e,iJ e] at N8;have GY:=U0.trans s8;have W6:=(NM.same s5).same s8;refine⟨_,rfl,_,rfl,p3,_,_,p,af,rfl,N8,λhn H9 s9=>?_,λi d hs H9 tt s9 Dh=>?_⟩
  .rw[hn] at k;refine⟨_,rfl,rfl,_,rfl,?_⟩;refine aK (λ_=>?_) (λh=>absurd (aR rfl) h);exact⟨aV,λq hq=>k.refuse O rfl (GY.trans s9) hq⟩
  .rw[hs] at k;have k:d_ C CO H ob (if cp (x::inside x.depth r) x.depth d=true then refused st (-5) else(⟨(a++outside x.depth r).take i++shifted (x::inside x.depth r) x.depth d++(a++outside x.depth r).drop i,st.next⟩,⟨0,[]⟩)) Q:=k;have s19:=GY.trans s9;have O9:=O8.same s9;have NM9:=W6.same s9;refine⟨_,rfl,rfl,_,rfl,?_⟩;refine aK (λh=>nomatch (aH h)) (λ_=>?_);refine⟨_,rfl,tt,_,_,_,rfl,rfl,i_.of Dh,bT (j:=1) rfl,?_⟩;refine⟨_,rfl,_,rfl,_,rfl,_,rfl,cZ O9.N rfl (br e) λc _ hc=>bj T hc ⟨_,_,rfl,rfl,?_⟩⟩;rw[fJ e];refine⟨t,_,_,_,rfl,NM9,λUC M_=>⟨_,rfl,?_⟩⟩;have S_:=s19.trans M_;have Qk:=O9.same M_;rw[oM];cases NJ:cp (x::inside x.depth r) x.depth d with
   |true=>rw[NJ,aq rfl] at k;exact eD ⟨aV,λq hq=>k.refuse O rfl S_ hq⟩
   |false=>rw[NJ,ak (by decide)] at k;refine fL ?_;have W':=W.n;rw[e] at W';refine⟨_,rfl,_,rfl,_,rfl,tt,_,_,_,rfl,rfl,i_.of (M_ _ _ Dh),bT (j:=0) rfl,_,rfl,ob,dx,l,as,st,a,r,x,i,d,rfl,Qk,W,e,BF W'.without hs,λH11 l' ko f11 W7=>⟨aV,λq hq=>?_⟩⟩;exact k _ q dx l' ko ((S_.fr.trans f11).trans (aE hq).fr) (W7.same (aE hq)) ah
inductive Jt(C CO:Addr)(vs:List V)(H:Hp)(Q:VK)(_E:XK):Prop
 |mk (ob dx l:Addr) (as:List Addr) (s:Vanbkn.State) (z:Int) (h1:vs=[.ref ob, .int z]) (h2:a9 C CO H ob dx l as s) (h3:Wf s) (h4:d_ C CO H ob (Vanbkn.step s (.promote z)) Q)
theorem fB:aG ["outline","number","nodes","start","parent","size"] ["outline","number"] (ay j2):=eN
theorem Di(F:bB K mg "promote_tree" j2 ["outline","number"])(T:Tz Z)(ax:uv Z)(aP:C7 Z)(bq:bo Z 1 "parent_position" ["nodes","position"] (Bo C))(ez:bo Z 2 "carry_tree" ["outline","start","position","depth"] (uQ C CO)):
 bo Z 3 "promote_tree" ["outline","number"] (Jt C CO):=by
 refine F.fe fB λH Q E hr h=>?_;obtain⟨ob,dx,l,as,st,z,rfl,O,W,k⟩:=h;refine⟨_,(ae (bD 2 fB (aB (pv 0) rfl)) (ae (bD 3 fB (pc ax hr (aa (pv 2) (aa (pv 1) ag)))) (ae (aM (bE bC (pv 3) aZ) (aj (aw (aL (aa (eg T) ag)))) aA) (ae (bD 4 fB (pc bq hr (aa (pv 2) (aa (pv 3) ag)))) (ae (aM (bE bC (pv 4) aZ) (aj (aw (aL (aa (eg T) ag)))) aA) (ae (bD 5 fB (bc gm (pc aP hr (aa (pv 2) (aa (pv 3) ag))) (pv 3))) (ae (bF (pc ez hr (aa (pv 0) (aa (pv 3) (aa (bc gm (pc aP hr (aa (pv 2) (aa (pv 4) ag))) (pv 5)) (aa (aB (c5 aJ (pv 2) (pv 4)) rfl) ag)))))) (aj (aw (aL (aa au ag))))))))))),?_⟩;refine⟨_,rfl,aU T O ?_⟩;refine⟨_,rfl,_,rfl,l,as,_,z,rfl,O.N,λH2 s2=>?_⟩;have O2:=O.same s2;refine⟨_,rfl,rfl,_,rfl,?_⟩;rcases aX (o:=st.nodes) z with hp|⟨a,x,r,e,hp,kU⟩
 .rw[hp];refine aK (λ_=>?_) (λh=>absurd (aR rfl) h);exact⟨aV,λq hq=>k.refuse O (dM W hp) s2 hq⟩
 rw[hp];refine aK (λh=>nomatch (aH h)) (λ_=>?_);refine⟨_,rfl,_,rfl,l,as,_,a.length,rfl,O2.N,br e,λH3 s3=>?_⟩;have O3:=O2.same s3;have jC:=s2.trans s3;refine⟨_,rfl,rfl,_,rfl,?_⟩;rcases o8 e with⟨b,q,c,ea,hq,hc,Ql⟩|⟨nQ,Ql⟩
 .rw[Ql];refine aK (λh=>nomatch (aH h)) (λ_=>?_);obtain⟨pre,post,S,hpl,m9⟩:=rk W e kU ea hq hc;rw[m9] at k;have eb:st.nodes=b++q::(c++x::r):=by rw[e,ea];simp
  refine⟨_,rfl,_,rfl,l,as,_,a.length,rfl,O3.N,br e,λH4 s4=>⟨_,rfl,_,_,rfl,rfl,?_⟩⟩;have O4:=O3.same s4;refine⟨_,rfl,_,rfl,_,rfl,_,rfl,l,as,_,b.length,rfl,O4.N,br eb,λH5 s5=>⟨_,rfl,_,_,rfl,rfl,?_⟩⟩;have O5:=O4.same s5;refine⟨_,rfl,_,rfl,cZ O5.N rfl (br eb) λn _ hn=>bj T hn ?_⟩;rw[fJ eb];have hk:((aO st.nodes b.length:Nat):Int) - ((aO st.nodes a.length:Nat) - (a.length:Nat))=(pre.length:Nat):=by
   have:=gw e
   lia
  have U0:=(jC.trans s4).trans s5;refine⟨ob,dx,l,as,st,a,r,x,pre.length,q.depth,?_,O5,W,e,by rw[S.eq,a_];lia,λH6 l' ko f6 O6=>⟨aV,λqq NK=>?_⟩⟩
  .show[V.ref ob,V.int (a.length:Nat),V.int (((aO st.nodes b.length:Nat):Int) - ((aO st.nodes a.length:Nat) - (a.length:Nat))),V.int (q.depth:Nat)]=_;rw[hk]
  .rw[S.eq,tI,ug] at O6;exact k _ qq dx l' ko ((U0.fr.trans f6).trans (aE NK).fr) (O6.same (aE NK)) ah
 .rw[Ql];refine aK (λ_=>?_) (λh=>absurd (aR rfl) h);rw[rj W e kU nQ] at k;exact⟨aV,λq hq=>k.refuse O rfl jC hq⟩
inductive NN(C CO:Addr)(vs:List V)(H:Hp)(Q:VK)(_E:XK):Prop
 |mk (ob dx l:Addr) (as:List Addr) (s:Vanbkn.State) (z:Int) (h1:vs=[.ref ob, .int z]) (h2:a9 C CO H ob dx l as s) (h3:Wf s) (h4:d_ C CO H ob (Vanbkn.step s (.demote z)) Q)
theorem fU:aG ["outline","number","nodes","start","before","tree"] ["outline","number"] (ay ll):=eN
theorem Gi(F:bB K mg "demote_tree" ll ["outline","number"])(T:Tz Z)(ax:uv Z)(aP:C7 Z)(dX:bo Z 1 "sibling_before" ["nodes","position"] (IZ C))(dW:bo Z 1 "too_deep" ["nodes","shift"] (jP C))(gy:bo Z 1 "deepen" ["nodes","shift"] (oH C)):
 bo Z 2 "demote_tree" ["outline","number"] (NN C CO):=by
 refine F.fe fU λH Q E hr h=>?_;obtain⟨ob,dx,l,as,st,z,rfl,O,W,k⟩:=h;refine⟨_,(ae (bD 2 fU (aB (pv 0) rfl)) (ae (bD 3 fU (pc ax hr (aa (pv 2) (aa (pv 1) ag)))) (ae (aM (bE bC (pv 3) aZ) (aj (aw (aL (aa (eg T) ag)))) aA) (ae (bD 4 fU (pc dX hr (aa (pv 2) (aa (pv 3) ag)))) (ae (aM (PW.pt (gh (bE bC (pv 4) aZ) (gz (bE bw (aB (c5 aJ (pv 2) (pv 4)) rfl) au)))) (aj (aw (aL (aa (eg T) ag)))) aA) (ae (bD 5 fU (bh bz (pv 2) (aW (pv 3)) (aW (pc aP hr (aa (pv 2) (aa (pv 3) ag)))))) (ae (aM (gk (pc dW hr (aa (pv 5) (aa au ag)))) (aj (aw (aL (aa (eg T) ag)))) aA) (ae (bF (pc gy hr (aa (pv 5) (aa au ag)))) (aj (aw (aL (aa au ag)))))))))))),?_⟩;refine⟨_,rfl,aU T O ?_⟩;refine⟨_,rfl,_,rfl,l,as,_,z,rfl,O.N,λH2 s2=>?_⟩;have O2:=O.same s2;refine⟨_,rfl,rfl,_,rfl,?_⟩;rcases aX (o:=st.nodes) z with hp|⟨a,x,r,e,hp,kU⟩
 .rw[hp];refine aK (λ_=>?_) (λh=>absurd (aR rfl) h);exact⟨aV,λq hq=>k.refuse O (dM W hp) s2 hq⟩
 rw[hp];refine aK (λh=>nomatch (aH h)) (λ_=>?_);refine⟨_,rfl,_,rfl,l,as,_,a.length,rfl,O2.N,br e,λH3 s3=>?_⟩;have O3:=O2.same s3;have jC:=s2.trans s3;refine⟨_,rfl,rfl,_,rfl,?_⟩;rcases A4 W.n e with⟨b,y,c,ea,hy,hc,Dj,L4⟩|⟨Dj,L4⟩
 .rw[L4];refine aK (λh=>nomatch (aH h)) (λ_=>?_);have eb:st.nodes=b++y::(c++x::r):=by rw[e,ea];simp
  obtain⟨_,m9⟩:=tT W e kU Dj ea hy hc;rw[m9] at k;refine⟨_,rfl,_,rfl,cZ O3.N rfl (br eb) λn _ hn=>fI T hn ⟨rfl,_,rfl,?_⟩⟩;rw[fJ eb];cases bR:y.cell with
  |true=>rw[bR,aq rfl] at k;refine aK (λ_=>?_) (λh=>absurd (aR rfl) h);exact⟨aV,λq hq=>k.refuse O rfl jC hq⟩
  |false=>
   rw[bR,ak (by decide)] at k;refine aK (λh=>absurd (aH h) (by intro q;cases q)) (λ_=>?_);have yr:=jG (br e);refine⟨_,rfl,_,rfl,_,rfl,_,rfl,_,rfl,l,as,_,a.length,rfl,O3.N,br e,λH4 s4=>⟨_,rfl,l,_,rfl,bf.of (s4 _ _ O3.N.lst),λt ht=>?_⟩⟩;have NM:=O3.N.cut (a:=a.length) (b:=aO st.nodes a.length) (eX (br e)) yr s4 ht;have s5:aD H (upd H4 t (.lst (d5 (as.map V.ref) (some ((a.length:Nat):Int)) (some ((aO st.nodes a.length:Nat):Int))))):=(jC.trans s4).new ht;have O5:=O.same s5;refine⟨_,rfl,t,_,_,1,rfl,NM,λH6 s6=>⟨_,rfl,?_⟩⟩;have NI:=s5.trans s6;have O6:=O5.same s6;have S':=NM.same s6;have e1:(1:Int)=((x.depth+1:Nat):Int) - (x.depth:Int):=by lia
   have eq1:tZ (x::inside x.depth r) 1=cp (x::inside x.depth r) x.depth (x.depth+1):=by
    conv=>lhs;rw[e1]
    exact oM
   have em1:(x::inside x.depth r).map (C9 1)=shifted (x::inside x.depth r) x.depth (x.depth+1):=by
    conv=>lhs;rw[e1]
    exact yz
   rw[lY e,eq1];cases NJ:cp (x::inside x.depth r) x.depth (x.depth+1) with
   |true=>rw[NJ,aq rfl] at k;exact eD ⟨aV,λq hq=>k.refuse O rfl NI hq⟩
   |false=>
    rw[NJ,ak (by decide)] at k;refine fL ?_;refine⟨_,rfl,t,_,_,1,rfl,S',(O6.nodup W).sublist ((zW _ _).trans (Kz _ _)),(λy hy=>by lia),λH7 b7 d7=>⟨aV,λq hq=>?_⟩⟩;have O7:=O6.deep T.ne1 W _ _ b7 d7;have F4:a.length+(aO st.nodes a.length - a.length)=aO st.nodes a.length:=by have:=rB st.nodes a.length;lia
    rw[lY e,em1,F4,iJ e,rF e] at O7;exact k _ q dx l as ((NI.fr.trans (zE O6.N.sV b7)).trans (aE hq).fr) (O7.same (aE hq)) ah
 .rw[L4];refine aK (λ_=>eD ?_) (λh=>absurd (aR rfl) h);rw[tS W e kU Dj] at k;exact⟨aV,λq hq=>k.refuse O rfl jC hq⟩
inductive EZ(C CO:Addr)(vs:List V)(H:Hp)(Q:VK)(_E:XK):Prop
 |mk (ob dx l:Addr) (as:List Addr) (s:Vanbkn.State) (z:Int) (h1:vs=[.ref ob, .int z]) (h2:a9 C CO H ob dx l as s) (h3:Wf s) (h4:d_ C CO H ob (Vanbkn.step s (.raise z)) Q)
theorem Dk{r:O}:shifted (x::inside x.depth r) x.depth x.depth=x::inside x.depth r:=by
 unfold shifted
 conv=>rhs;rw[<-uX (x::inside x.depth r)]
 refine iU λy hy=>?_;have h:x.depth<=y.depth:=hZ y hy;show{y with depth:=y.depth - x.depth+x.depth}=y;rw[Nat.sub_add_cancel h]
theorem iS:aG ["outline","number","nodes","start","before"] ["outline","number"] (ay mz):=eN
theorem Ju(F:bB K mg "raise_tree" mz ["outline","number"])(T:Tz Z)(ax:uv Z)(dX:bo Z 1 "sibling_before" ["nodes","position"] (IZ C))(ez:bo Z 2 "carry_tree" ["outline","start","position","depth"] (uQ C CO)):bo Z 3 "raise_tree" ["outline","number"] (EZ C CO):=by
 refine F.fe iS λH Q E hr h=>?_;obtain⟨ob,dx,l,as,st,z,rfl,O,W,k⟩:=h;refine⟨_,(ae (bD 2 iS (aB (pv 0) rfl)) (ae (bD 3 iS (pc ax hr (aa (pv 2) (aa (pv 1) ag)))) (ae (aM (bE bC (pv 3) aZ) (aj (aw (aL (aa (eg T) ag)))) aA) (ae (bD 4 iS (pc dX hr (aa (pv 2) (aa (pv 3) ag)))) (ae (aM (bE bC (pv 4) aZ) (aj (aw (aL (aa (eg T) ag)))) aA) (ae (bF (pc ez hr (aa (pv 0) (aa (pv 3) (aa (pv 4) (aa (aB (c5 aJ (pv 2) (pv 3)) rfl) ag)))))) (aj (aw (aL (aa au ag)))))))))),?_⟩;refine⟨_,rfl,aU T O ?_⟩;refine⟨_,rfl,_,rfl,l,as,_,z,rfl,O.N,λH2 s2=>?_⟩;have O2:=O.same s2;refine⟨_,rfl,rfl,_,rfl,?_⟩;rcases aX (o:=st.nodes) z with hp|⟨a,x,r,e,hp,kU⟩
 .rw[hp];refine aK (λ_=>?_) (λh=>absurd (aR rfl) h);exact⟨aV,λq hq=>k.refuse O (dM W hp) s2 hq⟩
 rw[hp];refine aK (λh=>nomatch (aH h)) (λ_=>?_);refine⟨_,rfl,_,rfl,l,as,_,a.length,rfl,O2.N,br e,λH3 s3=>?_⟩;have O3:=O2.same s3;have jC:=s2.trans s3;refine⟨_,rfl,rfl,_,rfl,?_⟩;rcases A4 W.n e with⟨b,y,c,ea,hy,hc,Dj,L4⟩|⟨Dj,L4⟩
 .rw[L4];refine aK (λh=>nomatch (aH h)) (λ_=>?_);rw[vJ W e kU Dj ea hy hc] at k;refine⟨_,rfl,_,rfl,_,rfl,_,rfl,_,rfl,cZ O3.N rfl (br e) λn _ hn=>bj T hn ?_⟩;rw[fJ e];refine⟨ob,dx,l,as,st,a,r,x,b.length,x.depth,rfl,O3,W,e,by rw[ea];simp,λH6 l' ko f6 O6=>⟨aV,λqq NK=>?_⟩⟩;have e6:(a++outside x.depth r).take b.length++shifted (x::inside x.depth r) x.depth x.depth++(a++outside x.depth r).drop b.length=b++(x::inside x.depth r)++(y::c++outside x.depth r):=by rw[Dk,ea,dQ b,tI,ug]
  rw[e6] at O6;exact k _ qq dx l' ko ((jC.fr.trans f6).trans (aE NK).fr) (O6.same (aE NK)) ah
 .rw[L4];refine aK (λ_=>?_) (λh=>absurd (aR rfl) h);rw[vI W e kU Dj] at k;exact⟨aV,λq hq=>k.refuse O rfl jC hq⟩
inductive Jv(C CO:Addr)(vs:List V)(H:Hp)(Q:VK)(_E:XK):Prop
 |mk (ob dx l:Addr) (as:List Addr) (s:Vanbkn.State) (z m:Int) (h1:vs=[.ref ob, .int z, .int m]) (h2:a9 C CO H ob dx l as s) (h3:Wf s) (h4:d_ C CO H ob (Vanbkn.step s (.fold z m)) Q)
theorem Gj(x:Nd)(t:Addr)(m:Int)(b:Bool)(h:m=b2 b):eY "folded" (.int m) (nf x t)=nf {x with folded:=b} t:=by subst h;rfl
theorem jn:aG ["outline","number","mark","position","node"] ["outline","number","mark"] (ay j0):=eN
theorem L5(F:bB K mg "fold_section" j0 ["outline","number","mark"])(T:Tz Z)(ax:uv Z):bo Z 2 "fold_section" ["outline","number","mark"] (Jv C CO):=by
 refine F.fe jn λH Q E hr h=>?_;obtain⟨ob,dx,l,as,st,z,m,rfl,O,W,k⟩:=h;refine⟨_,(ae (bD 3 jn (pc ax hr (aa (aB (pv 0) rfl) (aa (pv 1) ag)))) (ae (aM (bE bC (pv 3) aZ) (aj (aw (aL (aa (eg T) ag)))) aA) (ae (bD 4 jn (c5 aJ (aB (pv 0) rfl) (pv 3))) (ae (aM (bE bw (aB (pv 4) rfl) au) (aj (aw (aL (aa (eg T) ag)))) aA) (ae (aM (PW.pt (gY (bE lG (pv 2) au) (fX (bE lG (pv 2) au)))) (aj (aw (aL (aa (eg T) ag)))) aA) (ae (df (pv 4) (pv 2) rfl) (aj (aw (aL (aa au ag)))))))))),?_⟩;refine⟨_,rfl,aU T O ⟨_,rfl,l,as,_,z,rfl,O.N,λH2 s2=>?_⟩⟩;have O2:=O.same s2;refine⟨_,rfl,rfl,_,rfl,?_⟩;rcases aX (o:=st.nodes) z with hp|⟨a,x,r,e,hp,kU⟩
 .rw[hp];refine aK (λ_=>?_) (λh=>absurd (aR rfl) h);exact⟨aV,λq hq=>k.refuse O (dM W hp) s2 hq⟩
 rw[hp];refine aK (λh=>nomatch (aH h)) (λ_=>?_);rw[fold_eq W e kU] at k;refine⟨_,rfl,aU T O2 ⟨_,rfl,cZ O2.N rfl (br e) λc hc hn=>?_⟩⟩;rw[fJ e] at hn;refine⟨_,rfl,fI T hn ⟨rfl,_,rfl,?_⟩⟩;cases bR:x.cell with
 |true=>rw[aq bR] at k;refine aK (λ_=>?_) (λh=>absurd (aR rfl) h);exact⟨aV,λq hq=>k.refuse O rfl s2 hq⟩
 |false=>
  rw[ak (by rw[bR];decide)] at k;refine aK (λh=>absurd (aH h) (by intro q;cases q)) (λ_=>?_);refine⟨_,rfl,rfl,_,rfl,?_⟩;have fin:(m=0\/ m=1)->∀(D:Ends),D.rt=Q->ma (R3 K (cv 4) (cv 2) "folded") (yP (Cp (dk (tC (.int 0)) k6))) D [some (V.ref ob),some (V.int z),some (V.int m),some (V.int (a.length:Nat)),some (V.ref c)] H2:=λhm D hD=>by rw[ak (λh=>h hm)] at k;obtain⟨cd,t0,h1,h2⟩:=hn;refine⟨_,rfl,_,rfl,c,C,cd,_,rfl,h1,T.cl,T.mE,(by show 5<1000;decide),aV,λq hq=>?_⟩;have O4:=O2.set T.ne1 (O2.nodup W) e hc (x':={x with folded:=m==1}) h1 h2;rw[Gj x t0 m (m==1) (by rcases hm with rfl|rfl<;>rfl)] at hq⊢;show D.rt _ _;rw[hD];exact k _ q dx l as ((s2.fr.trans (zB h1)).trans (aE hq).fr) (O4.same (aE hq)) ah
  by_cases h0:m=0
  .refine aK (λh=>?_) (λ_=>fL (fin (.inl h0) _ rfl));rw[h0] at h;simp at h
  .refine aK (λ_=>?_) (λh=>?_)
   .refine⟨_,rfl,rfl,_,rfl,?_⟩;by_cases h1:m=1
    .refine aK (λh=>?_) (λ_=>fin (.inr h1) _ rfl);rw[h1] at h;simp at h
    .refine aK (λ_=>?_) (λh=>?_)
     .rw[aq (by lia)] at k;exact⟨aV,λq hq=>k.refuse O rfl s2 hq⟩
     .exfalso;apply h;simp;exact h1
   .exfalso;apply h;simp;exact h0
theorem BG(n:Nat)(y:Nd):((n+([y].filter λx=>x.folded).length:Nat):Int)=(n:Int)+b2 y.folded:=by
 cases h:y.folded with
 |true=>rw[rV,aq h];rfl
 |false=>rw[rV,ak (by rw[h];decide)];show((n+0:Nat):Int)=(n:Int)+0;lia
inductive wJ(C CO:Addr)(vs:List V)(H:Hp)(Q:VK)(_E:XK):Prop
 |mk (ob dx l:Addr) (as:List Addr) (s:Vanbkn.State) (d:Int) (h1:vs=[.ref ob, .int d]) (h2:a9 C CO H ob dx l as s) (h3:Wf s) (h4:d_ C CO H ob (Vanbkn.step s (.foldFrom d)) Q)
theorem sX{o:O}(h:o[i]?=some x):o.drop i=x::o.drop (i+1):=by obtain⟨h1,h2⟩:=dm.mp h;rw[rS h1,h2]
theorem jL:aG ["outline","depth","count","node"] ["outline","depth"] (ay oh):=eN
theorem BH(F:bB K mg "fold_from" oh ["outline","depth"])(T:Tz Z):bo Z 1 "fold_from" ["outline","depth"] (wJ C CO):=by
 refine F.fe jL λH Q E hr h=>?_;obtain⟨ob,dx,l,as,st,d,rfl,O,W,k⟩:=h;refine⟨_,(ae (aM (PW.pt (gh (bE g0 (pv 1) au) (gz (bE gK (pv 1) (eg T))))) (aj (aw (aL (aa (eg T) ag)))) aA) (ae (bD 2 jL au) (ae (eB PassesOwn.never rfl (bL (aB (pv 0) rfl)) (jB 3 jL) (aj (aM (bE bw (aB (pv 3) rfl) au) (ae (df (pv 3) (gZ (bE nH (aB (pv 3) rfl) (pv 1)) au au) rfl) (aj (k4 (i:=2) jL.nd rfl (Or.inl rfl) (aB (pv 3) rfl) nG))) aA))) (aj (aw (aL (aa (pv 2) ag))))))),?_⟩;rw[foldFrom_eq] at k;refine⟨_,rfl,_,_,rfl,rfl,_,rfl,?_⟩;refine aK (λh1=>eD ?_) (λh1=>?_)
 .rw[aq (λh=>by have:=aH h1;lia)] at k;exact⟨aV,λq hq=>k.refuse O rfl (aD.refl _) hq⟩
 have h1:=cH h1;refine⟨_,rfl,_,_,rfl,rfl,_,rfl,?_⟩;refine aK (λh2=>?_) (λh2=>?_)
 .rw[aq (λh=>by have:=aH h2;lia)] at k;exact⟨aV,λq hq=>k.refuse O rfl (aD.refl _) hq⟩
 have h2:=cH h2;rw[ak (λh=>h (by lia))] at k;have vE:=O.nodup W;refine⟨_,rfl,aU T O ⟨l,rfl,⟨_,bf.of O.N.lst⟩,dG (K:=K) (a:=l) (xs:=as.map V.ref) (λi σ H'=>∃v:Option V,σ=[some (.ref ob),some (.int d),some (.int (((st.nodes.take i).map (uo d)).filter λx=>x.folded).length),v]/\ Fr C CO H H'/\ a9 C CO H' ob dx l as ⟨(st.nodes.take i).map (uo d)++st.nodes.drop i,st.next⟩)
  ⟨none,rfl,(aD.refl _).fr,O⟩ (λi σ H' _ ⟨_,_,_,O'⟩=>bf.of O'.N.lst) ?_ ?_⟩⟩
 .rintro i y σ H' hi ⟨v,rfl,f1,O'⟩;obtain⟨c,x,rfl,hc,hx,_⟩:=O.N.item hi;have m_:i<st.nodes.length:=(dm.mp hx).1;have ha:((st.nodes.take i).map (uo d)).length=i:=by rw[aS,bg];lia
  have e:(⟨(st.nodes.take i).map (uo d)++st.nodes.drop i,st.next⟩:Vanbkn.State).nodes=(st.nodes.take i).map (uo d)++x::st.nodes.drop (i+1):=by show _++st.nodes.drop i=_;rw[sX hx]
  have xM:as[((st.nodes.take i).map (uo d)).length]?=some c:=by rw[ha];exact hc
  have hn:bV C H' c x:=O'.N.at_ i c x hc (by
   show((st.nodes.take i).map (uo d)++st.nodes.drop i)[i]?=some x;rw[k3 (by lia),ha,tK,sX hx]
   rfl)
  have nx:(st.nodes.take (i+1)).map (uo d)=(st.nodes.take i).map (uo d)++[uo d x]:=by rw[take_snoc hx,cV];rfl
  refine⟨_,rfl,fI T hn ⟨rfl,_,rfl,?_⟩⟩;cases bR:x.cell with
  |true=>
   refine aK (λh=>absurd (aH h) (by intro q;cases q)) (λ_=>?_);have ef:uo d x=x:=by unfold uo;rw[aq bR]
   have hxf:x.folded=false:=(W.n.good x (cI hx)).cf bR;refine⟨some (V.ref c),?_,f1,?_⟩
   .rw[nx,qM,ef];show[some (V.ref ob),some (V.int d),some (V.int _),some (V.ref c)]=_;rw[show[x].filter (λx=>x.folded)=[] by rw[rV,ak (by rw[hxf];decide),List.filter_nil],pz]
   .rw[nx,ef,dQ];rw[sX hx] at O';exact O'
  |false=>
   refine aK (λ_=>?_) (λh=>absurd (aR rfl) h);have ef:uo d x={x with folded:=decide (d<=(x.depth:Int))}:=by unfold uo;rw[ak (by rw[bR];decide)]
   have hn0:=hn;obtain⟨cd,t0,g1,g2⟩:=hn;refine⟨_,rfl,bj T hn0 ⟨_,rfl,_,_,rfl,rfl,_,rfl,?_⟩⟩;have fin:∀{rt:VK}{bk ct:L2.St->Hp->Prop}(b:Bool),decide (d<=(x.depth:Int))=b->cv 3 [some (V.ref ob),some (V.int d),some (V.int (((st.nodes.take i).map (uo d)).filter λx=>x.folded).length),some (V.ref c)] H' λv H1=>Hw K "folded" v (.int (b2 b)) H1 λH2=>
    RO 2 (xr K (cv 3) "folded") (VO λi j=>i+j) {nx:=λσ H'=>∃v:Option V,σ=[some (.ref ob),some (.int d),some (.int (((st.nodes.take (i+1)).map (uo d)).filter λx=>x.folded).length),v]/\ Fr C CO H H'/\ a9 C CO H' ob dx l as ⟨(st.nodes.take (i+1)).map (uo d)++st.nodes.drop (i+1),st.next⟩,rt:=rt,bk:=bk,ct:=ct} [some (V.ref ob),some (V.int d),some (V.int (((st.nodes.take i).map (uo d)).filter λx=>x.folded).length),some (V.ref c)] H2:=λb hb=>by
    refine⟨_,rfl,c,C,cd,_,rfl,g1,T.cl,T.mE,(by show 5<1000;decide),?_⟩;have O4:=O'.set T.ne1 vE e xM (x':={x with folded:=b}) g1 g2;rw[t4];have L7:bV C (upd H' c (.ins C cd (nf {x with folded:=b} t0))) c {x with folded:=b}:=⟨cd,t0,ah,by rw[az (jy g2 g1 (by intro q;cases q))];exact g2⟩;refine⟨_,rfl,_,rfl,iG T L7 ⟨_,_,rfl,rfl,some (V.ref c),?_,f1.trans (zB g1),?_⟩⟩
    .rw[nx,qM,a_,ef,hb];rw[BG];rfl
    .rw[nx,ef,hb,dQ];exact O4
   refine aK (λh=>?_) (λh=>?_)
   .exact fin true (by rw[dN];exact aH h)
   .exact fin false (by rw[m6];exact cH h)
 .rintro σ H' ⟨v,rfl,f1,O'⟩;rw[aS,O.N.len,fq,Ky,pz] at O';refine⟨_,rfl,aV,λq hq=>?_⟩;rw[aS,O.N.len,fq];exact k _ q dx l as (f1.trans (aE hq).fr) (O'.same (aE hq)) ah
inductive BI(C CO:Addr)(vs:List V)(H:Hp)(Q:VK)(_E:XK):Prop
 |mk (ob dx l:Addr) (as:List Addr) (s:Vanbkn.State) (z:Int) (h1:vs=[.ref ob, .int z]) (h2:a9 C CO H ob dx l as s) (h3:Wf s) (h4:d_ C CO H ob (Vanbkn.step s (.reveal z)) Q)
theorem wK:∀(l:O)(d:Nat),(upFrom d l).Sublist l
 |[],d=>NX _
 |x::r,d=>by
  show(if x.depth<d then x::upFrom x.depth r else upFrom d r).Sublist (x::r);split
  .exact(wK r _).cons_cons _
  .exact(wK r _).cons _
theorem Jw{o:O}{f:Nd->Nd}(hf:∀y,(f y).depth=y.depth)(i:Nat):(nd (o.map f) i).depth=(nd o i).depth:=by
 unfold nd;rw[uh,uh,gW];cases o[i]? with
 |none=>rfl
 |some y=>exact hf y
theorem L8{o:O}{f:Nd->Nd}(hf:∀y,(f y).depth=y.depth)(i:Nat):nv (o.map f) i=nv o i:=by unfold nv;congr 1;funext j;rw[Jw hf,Jw hf]
theorem L9(P:Nd->Bool)(y:Nd):(pI P y).depth=y.depth:=by unfold pI;split<;>rfl
def Qm(o:O)(U:List Nd)(ab:Option Nat):Prop:=(U=[]/\ ab=none)\/ ∃b q c,o=b++q::c/\ U=q::upFrom q.depth b.reverse/\ ab=some b.length
theorem Jx{o r:O}(e:o=a++x::r):Qm o (upFrom x.depth a.reverse) (nv o a.length):=by
 rcases o8 e with⟨b,q,c,ea,hq,hc,hp⟩|⟨ha,hp⟩
 .exact .inr ⟨b,q,c++x::r,by rw[e,ea];simp,ED ea hq hc,hp⟩
 .exact .inl ⟨EE ha,hp⟩
theorem c7:aG ["outline","number","nodes","position","count","above","section"] ["outline","number"] (ay lj):=eN
theorem Gk(F:bB K mg "reveal_node" lj ["outline","number"])(T:Tz Z)(ax:uv Z)(bq:bo Z 1 "parent_position" ["nodes","position"] (Bo C)):
 bo Z 2 "reveal_node" ["outline","number"] (BI C CO):=by
 refine F.fe c7 λH Q E hr h=>?_;obtain⟨ob,dx,l,as,st,z,rfl,O,W,k⟩:=h;refine⟨_,(ae (bD 2 c7 (aB (pv 0) rfl)) (ae (bD 3 c7 (pc ax hr (aa (pv 2) (aa (pv 1) ag)))) (ae (aM (bE bC (pv 3) aZ) (aj (aw (aL (aa (eg T) ag)))) aA) (ae (bD 4 c7 au) (ae (bD 5 c7 (pc bq hr (aa (pv 2) (aa (pv 3) ag)))) (ae (ft PassesOwn.never (bE uC (pv 5) aZ) (ae (bD 6 c7 (c5 aJ (pv 2) (pv 5))) (ae (k4 (i:=4) c7.nd rfl (Or.inl rfl) (aB (pv 6) rfl) nG) (ae (df (pv 6) au rfl) (aj (bD 5 c7 (pc bq hr (aa (pv 2) (aa (pv 5) ag))))))))) (aj (aw (aL (aa (pv 4) ag)))))))))),?_⟩;refine⟨_,rfl,aU T O ?_⟩;refine⟨_,rfl,_,rfl,l,as,_,z,rfl,O.N,λH2 s2=>?_⟩;have O2:=O.same s2;refine⟨_,rfl,rfl,_,rfl,?_⟩;rcases aX (o:=st.nodes) z with hp|⟨a,x,r,e,hp,kU⟩
 .rw[hp];refine aK (λ_=>?_) (λh=>absurd (aR rfl) h);exact⟨aV,λq hq=>k.refuse O (dM W hp) s2 hq⟩
 rw[hp];refine aK (λh=>nomatch (aH h)) (λ_=>?_);rw[FW W e kU] at k;have vE:=O.nodup W;refine⟨_,rfl,_,rfl,l,as,_,a.length,rfl,O2.N,br e,λH3 s3=>?_⟩;have O3:=O2.same s3;have Yu:(nums (upFrom x.depth a.reverse)).Nodup:=by
  have h1:(nums a).Nodup:=by have:=W.n.nd;rw[e,cY] at this;exact(xD.mp this).1
  have h2:(nums a.reverse).Nodup:=by unfold nums;rw[DO];exact(List.reverse_perm _).nodup_iff.mpr h1
  exact lS (wK _ _) h2
 refine fA (λ(U:List Nd×List Nd) σ H'=>upFrom x.depth a.reverse=U.1++U.2/\ ∃(ab:Option Nat)(v:Option V),Qm st.nodes U.2 ab/\ σ=[some (.ref ob),some (.int z),some (.ref l),some (.int (a.length:Nat)),some (.int ((U.1.filter λy=>y.folded).length:Nat)),some (uu ab),v]/\
  Fr C CO H H'/\ a9 C CO H' ob dx l as ⟨st.nodes.map (pI λy=>(nums U.1).contains y.number),st.next⟩) (λU=>U.2.length) ([],upFrom x.depth a.reverse)
  ⟨rfl,_,none,Jx e,rfl,(s2.trans s3).fr,?_⟩ ?_
 .have e0:st.nodes.map (pI λy=>(nums ([]:List Nd)).contains y.number)=st.nodes:=by
   conv=>rhs;rw[<-uX st.nodes]
   refine iU λy _=>?_;unfold pI;rw[ak (by simp[nums])];rfl
  show a9 C CO H3 ob dx l as ⟨st.nodes.map (pI λy=>(nums ([]:List Nd)).contains y.number),st.next⟩;rw[e0];exact O3
 .rintro⟨U1,U2⟩ σ H' ⟨hU,ab,v,W8,rfl,f1,O'⟩;refine⟨_,rfl,rfl,_,rfl,?_⟩;rcases W8 with⟨zm,rfl⟩|⟨b,q,c,eo,zm,rfl⟩
  .refine aK (λh=>?_) (λ_=>?_)
   .cases h
   have zm:U2=[]:=zm;subst zm;rw[pz] at hU;refine⟨_,rfl,aV,λqq NK=>?_⟩;have hU:upFrom x.depth a.reverse=U1:=hU;rw[hU] at k;exact k _ qq dx l as (f1.trans (aE NK).fr) (O'.same (aE NK)) ah
  .refine aK (λ_=>?_) (λh=>absurd rfl h);have zm:U2=q::upFrom q.depth b.reverse:=zm;have hU:upFrom x.depth a.reverse=U1++U2:=hU;rw[zm] at hU;have hqU:q.number∉nums U1:=by rw[hU,cY] at Yu;intro hm;exact(xD.mp Yu).2.2 _ hm _ (by simp[nums]) rfl
   refine nj (U1,U2) ?_;have Yv:(⟨st.nodes.map (pI λy=>(nums U1).contains y.number),st.next⟩:Vanbkn.State).nodes=b.map (pI λy=>(nums U1).contains y.number)++q::c.map (pI λy=>(nums U1).contains y.number):=by
    show st.nodes.map _=_;rw[eo,cV,cy];have:pI (λy=>(nums U1).contains y.number) q=q:=by unfold pI;rw[ak (by simpa using hqU)]
    rw[this]
   have W9:(b.map (pI λy=>(nums U1).contains y.number)).length=b.length:=aS _;have fH:b.length<(st.nodes.map (pI λy=>(nums U1).contains y.number)).length:=by rw[aS];exact br eo
   have W_:nd (st.nodes.map (pI λy=>(nums U1).contains y.number)) b.length=q:=by rw[<-W9];exact fJ Yv
   refine⟨_,rfl,_,rfl,cZ O'.N rfl fH λcc MW hn=>?_⟩;have hn:bV C H' cc q:=W_▸hn;refine⟨_,rfl,_,rfl,iG T hn ⟨_,_,rfl,rfl,?_⟩⟩;obtain⟨cd,t0,g1,g2⟩:=hn;refine⟨_,rfl,cc,C,cd,_,rfl,g1,T.cl,T.mE,(by show 5<1000;decide),?_⟩;have O4:=O'.set T.ne1 vE Yv (by rw[W9];exact MW) (x':={q with folded:=false}) g1 g2;rw[show eY "folded" (V.int 0) (nf q t0)=nf {q with folded:=false} t0 from t4 q t0 false];have e4:b.map (pI λy=>(nums U1).contains y.number)++{q with folded:=false}::c.map (pI λy=>(nums U1).contains y.number)=st.nodes.map (pI λy=>(nums (U1++[q])).contains y.number):=by
    rw[eo,cV,cy];have hnq:∀y,y∈b\/ y∈c->y.number≠q.number:=λy hy=>by
     have hh:=W.n.nd;rw[eo] at hh;obtain⟨h1,h2⟩:=gr hh;rcases hy with hy|hy
     .exact h1 y hy
     .exact h2 y hy
    have Yw:∀y,y∈b\/ y∈c->pI (λy=>(nums U1).contains y.number) y=pI (λy=>(nums (U1++[q])).contains y.number) y:=λy hy=>by
     unfold pI;have:(nums (U1++[q])).contains y.number=(nums U1).contains y.number:=by rw[cY,GP];have:=hnq y hy;simp[nums];intro h;exact absurd h this
     simp only[this]
    have hq:pI (λy=>(nums (U1++[q])).contains y.number) q={q with folded:=false}:=by unfold pI;rw[aq (by rw[cY];simp[nums])]
    rw[hq];congr 1
    .exact iU λy hy=>Yw y (.inl hy)
    .congr 1;exact iU λy hy=>Yw y (.inr hy)
   rw[e4] at O4;refine⟨_,rfl,_,rfl,l,as,_,b.length,rfl,O4.N,(by show b.length<(st.nodes.map _).length;rw[aS];exact br eo),λH5 s5=>?_⟩;refine⟨(U1++[q],upFrom q.depth b.reverse),(by show(upFrom q.depth b.reverse).length<U2.length;rw[zm];simp),(by show _=U1++[q]++_;rw[hU];simp),nv st.nodes b.length,some (V.ref cc),Jx eo,?_,(f1.trans (zB g1)).trans s5.fr,O4.same s5⟩;have ep:nv (⟨st.nodes.map (pI λy=>(nums (U1++[q])).contains y.number),st.next⟩:Vanbkn.State).nodes b.length=nv st.nodes b.length:=L8 (L9 _) _;rw[ep];show[some (V.ref ob),some (V.int z),some (V.ref l),some (V.int (a.length:Nat)),some (V.int (((U1.filter λy=>y.folded).length:Nat)+b2 q.folded)),some (uu (nv st.nodes b.length)),some (V.ref cc)]=[some (V.ref ob),some (V.int z),some (V.ref l),some (V.int (a.length:Nat)),some (V.int (((U1++[q]).filter λy=>y.folded).length:Nat)),some (uu (nv st.nodes b.length)),some (V.ref cc)];rw[qM,a_];rw[BG]
theorem fj(a b:List Int):aT a++aT b=aT (a++b):=(cV ..).symm
theorem qw(a:Int)(b:List Int):aT (a::b)=V.int a::aT b:=rfl
theorem yA{α:Type}(f:α->List Int)(m:Nat):∀(l:List α),(∀x∈l,(f x).length<=m)->(l.flatMap f).length<=m*l.length
 |[],_=>by simp
 |x::l,h=>by
  rw[ny,a_,cj,Aa];have h1:=h x (by simp);have h2:=yA f m l λy hy=>h y (bu _ hy)
  lia
theorem pj{α:Type}(f:α->List Int){l:List α}{x:α}(h:l[i]?=some x):(l.take (i+1)).flatMap f=(l.take i).flatMap f++f x:=by rw[take_snoc h,Ce];simp
theorem pk{α:Type}(f:α->List Int)(m:Nat){l:List α}(i:Nat)(h:∀x∈l,(f x).length<=m):((l.take i).flatMap f).length<=m*l.length:=by refine bp (yA f m _ λx hx=>h x (ku hx)) ?_;rw[bg];exact DY _ (z_ _ _)
inductive lu(C CO:Addr)(c:Vanbkn.Call)(vs:List V)(H:Hp)(Q:VK)(_E:XK):Prop
 |mk (ob dx l:Addr) (as:List Addr) (s:Vanbkn.State) (h1:vs=[.ref ob]) (h2:a9 C CO H ob dx l as s) (h3:Wf s) (h4:d_ C CO H ob (Vanbkn.step s c) Q)
inductive eW(C CO:Addr)(c:Int->Vanbkn.Call)(vs:List V)(H:Hp)(Q:VK)(_E:XK):Prop
 |mk (ob dx l:Addr) (as:List Addr) (s:Vanbkn.State) (z:Int) (h1:vs=[.ref ob, .int z]) (h2:a9 C CO H ob dx l as s) (h3:Wf s) (h4:d_ C CO H ob (Vanbkn.step s (c z)) Q)
theorem oN:aG ["outline","answer","node"] ["outline"] (ay qg):=eN
theorem Jy(F:bB K mg "order_of" qg ["outline"])(T:Tz Z):bo Z 1 "order_of" ["outline"] (lu C CO .order):=by
 refine F.fe oN λH Q E hr h=>?_;obtain⟨ob,dx,l,as,st,rfl,O,W,k⟩:=h;refine⟨_,(ae (bD 1 oN (aL (aa (pd T (aa (aB (pv 0) rfl) ag)) ag))) (ae (eB PassesOwn.never rfl (bL (aB (pv 0) rfl)) (jB 2 oN) (ae (bF (e_ eL iW iX cw (pv 1) (aa (aB (pv 2) rfl) ag))) (aj (bF (e_ eL iW iX cw (pv 1) (aa (aB (pv 2) rfl) ag)))))) (aj (aw (pv 1))))),?_⟩;refine⟨_,rfl,aU T O ⟨l,_,rfl, .inl (bf.of O.N.lst),aV,λb hb=>?_⟩⟩;rw[O.N.gV];have hw:=W.n.len;have hf:∀i,((st.nodes.take i).flatMap λx=>[(x.number:Int),(x.depth:Int)]).length<=2*st.nodes.length:=λi=>pk _ 2 i λx _=>by simp
 have O1:=O.same (aE hb (u:= .lst [V.int st.nodes.length]));refine⟨_,rfl,aU T O1 ⟨l,rfl,⟨_,bf.of O1.N.lst⟩,dG (K:=K) (a:=l) (xs:=as.map V.ref) (λi σ H'=>∃v:Option V,σ=[some (.ref ob),some (.ref b),v]/\ aD H H'/\ H' b=some (.lst (aT ((st.nodes.length:Int)::(st.nodes.take i).flatMap λx=>[(x.number:Int),(x.depth:Int)]))))
  ⟨none,rfl,aE hb,ah⟩ (λi σ H' _ ⟨_,_,s1,_⟩=>bf.of (s1 _ _ O.N.lst)) ?_ ?_⟩⟩
 .rintro i y σ H' hi ⟨v,rfl,s1,hB⟩;obtain⟨c,x,rfl,hc,hx,hn⟩:=O.N.item hi;have GW:=hn.same s1;have Q8:=hf i;refine⟨_,rfl, .inl ⟨rfl,_,bf.of hB⟩,_,rfl,bW T GW ⟨b,_,_,rfl,rfl,hB,eM (by rw[bA,cj];lia),?_⟩⟩;have s2:=s1.put hb (u:= .lst (aT ((st.nodes.length:Int)::(st.nodes.take i).flatMap λx=>[(x.number:Int),(x.depth:Int)])++[V.int x.number]));refine⟨_,rfl, .inl ⟨rfl,_,bf.of ah⟩,_,rfl,bj T (hn.same s2) ⟨b,_,_,rfl,rfl,ah,eM (by rw[a_,bA,cj];show _+1<100000;lia),?_⟩⟩;refine⟨_,rfl,s2.put hb,?_⟩;rw[ah,pj _ hx,dQ,<-iT,<-fj];rfl
 .rintro σ H' ⟨v,rfl,s1,hB⟩;rw[aS,O.N.len,fq] at hB;exact⟨_,rfl,k.told O rfl s1 hB rfl⟩
theorem gQ:aG ["outline","cells","count","node"] ["outline"] (ay qh):=eN
theorem Jz(F:bB K mg "state_of" qh ["outline"])(T:Tz Z):bo Z 1 "state_of" ["outline"] (lu C CO .state):=by
 refine F.fe gQ λH Q E hr h=>?_;obtain⟨ob,dx,l,as,st,rfl,O,W,k⟩:=h;refine⟨_,(ae (bD 1 gQ (pd T (aa (kH rfl gQ.nd (bL (aB (pv 0) rfl)) (own:=[("node",3)]) (Cb gQ) (λ_ _ _ _ _=>(jB 3 gQ)) (λ_ _ _ _ _=>(kG (bE bw (d8 (K:=K) rfl (pv 3) rfl) au))) (λ_ _ _ _ _=>(pv 3))) ag))) (ae (bD 2 gQ (pd T (aa (aB (pv 0) rfl) ag))) (aj (aw (aL (aa (pv 2) (aa (bc gm (pv 2) (pv 1)) (aa (pv 1) (aa (aB (pv 0) rfl) ag))))))))),?_⟩;refine⟨_,rfl,aU T O ⟨l,rfl,⟨_,bf.of O.N.lst⟩,λD hD=>?_⟩⟩;refine f9 (K:=K) (a:=l) (λq=>if q.2.cell=true then some (V.ref q.1) else none) O.N.zip hD O.N.LH (λm q H4 hq s4 R R0 k1 k2=>?_) (λH4 s4 h4=>?_)
 .have hn:=(O.N.at2 hq).same s4;refine⟨rfl,_,rfl,fI T hn ⟨rfl,_,rfl,?_⟩⟩;cases bR:q.2.cell with
  |true=>refine aK (λ_=>?_) (λh=>absurd (aR rfl) h);exact⟨_,rfl,k1 _ _ (aD.refl _) (aq bR)⟩
  |false=>refine aK (λh=>absurd (aH h) (by intro e;cases e)) (λ_=>?_);exact k2 _ (aD.refl _) (ak (by rw[bR];decide))
 .refine⟨D,_,rfl, .inl (bf.of h4),?_⟩;rw[ym O.N.len (λy=>y.cell)];have O4:=O.same s4;refine⟨_,rfl,aU T O4 ⟨l,_,rfl, .inl (bf.of O4.N.lst),?_⟩⟩;rw[O4.N.gV];refine⟨_,rfl,_,rfl,_,rfl,_,_,rfl,rfl,_,rfl,_,rfl,mF T O4 ⟨(by show 4<=sizeLine;decide),λp hp=>?_⟩⟩;refine k.told O rfl (s4.new hp) ah ?_;have hc:(st.nodes.filter λy=> !y.cell).length+(st.nodes.filter λy=>y.cell).length=st.nodes.length:=by
   have:∀o:List Nd,(o.filter λy=> !y.cell).length+(o.filter λy=>y.cell).length=o.length:=by
    intro o;induction o with
    |nil=>rfl
    |cons x o ih=>rw[rV,rV,cj];cases x.cell<;>simp<;>lia
   exact this _
  show[V.int (st.nodes.length:Nat),V.int ((st.nodes.length:Nat) - ((st.nodes.filter λy=>y.cell).length:Nat)),V.int ((st.nodes.filter λy=>y.cell).length:Nat),V.int (st.next:Nat)]=[V.int (st.nodes.length:Nat),V.int ((st.nodes.filter λy=> !y.cell).length:Nat),V.int ((st.nodes.filter λy=>y.cell).length:Nat),V.int (st.next:Nat)];rw[show((st.nodes.length:Nat):Int) - ((st.nodes.filter λy=>y.cell).length:Nat)=((st.nodes.filter λy=> !y.cell).length:Nat) by lia]
inductive E1(C:Addr)(vs:List V)(H:Hp)(Q:VK)(_E:XK):Prop
 |mk (l:Addr) (as:List Addr) (o:O) (h1:vs=[.ref l]) (h2:NL C H l as o) (h3:∀H' p,aD H H'->H' p=some (.lst (aI (gU o)))->Q (.ref p) H')
theorem JA{o:O}{k:Nat}(h:¬i<o.length):pX o k i=[]:=by
 cases k with
 |zero=>rfl
 |succ k=>unfold pX;rw[ak h]
theorem eA:aG ["nodes","found","position"] ["nodes"] (ay gp):=eN
theorem Qn(F:bB K mg "visible_positions" gp ["nodes"])(T:Tz Z)(aP:C7 Z):bo Z 2 "visible_positions" ["nodes"] (E1 C):=by
 refine F.fe eA λH Q E hr h=>?_;obtain⟨l,as,o,rfl,N,k⟩:=h;refine⟨_,(ae (bD 1 eA (aL ag)) (ae (bD 2 eA au) (ae (ft PassesOwn.never (bE g0 (pv 2) (pd T (aa (pv 0) ag))) (ae (bF (e_ eL iW iX cw (pv 1) (aa (pv 2) ag))) (aj (bD 2 eA (gZ (bE bw (aB (c5 aJ (pv 0) (pv 2)) rfl) au) (pc aP hr (aa (pv 0) (aa (pv 2) ag))) (bc bO (pv 2) au)))))) (aj (aw (pv 1)))))),?_⟩;refine⟨a8 _,λp hp=>?_⟩;refine fA (λ(m:Nat) σ H'=>∃(i:Nat)(dn:List Nat),σ=[some (.ref l),some (.ref p),some (.int (i:Nat))]/\ aD H H'/\ H' p=some (.lst (aI dn))/\ dn++pX o m i=gU o/\ o.length - i<=m/\ dn.length<=i) (λm=>m) o.length
  ⟨0,[],rfl,aE hp,ah,rfl,aQ _,aQ _⟩ ?_
 rintro m σ H' ⟨i,dn,rfl,s1,hP,hv,hm,Kk⟩;have N1:=N.same s1;have L4:=N.sm;refine⟨_,rfl,_,rfl,l,_,rfl, .inl (bf.of N1.lst),_,_,rfl,rfl,_,rfl,?_⟩;rw[N.gV];refine aK (λhc=>?_) (λhc=>?_)
 .have fH:i<o.length:=by have:=aH hc;lia
  obtain⟨m',rfl⟩:∃m',m=m'+1:=⟨m - 1,by lia⟩;have hv:dn++(if i<o.length then i::pX o m' (if(nd o i).folded=true then aO o i else i+1) else[])=gU o:=hv;rw[aq fH] at hv;refine nj (m'+1) ?_;refine⟨_,rfl, .inl ⟨rfl,_,bf.of hP⟩,_,rfl,p,_,_,rfl,rfl,hP,eM (by rw[aF];lia),?_⟩;have s2:=s1.put hp (u:= .lst (aI dn++[V.int (i:Nat)]));have N2:=N.same s2;have Q9:upd H' p (.lst (aI dn++[V.int (i:Nat)])) p=some (.lst (aI (dn++[i]))):=by rw[ah,<-cS];rfl
  refine⟨_,rfl,_,rfl,cZ N2 rfl fH λc _ hc=>iG T hc ⟨rfl,_,rfl,?_⟩⟩;cases hf:(nd o i).folded with
  |true=>rw[hf,aq rfl] at hv;refine aK (λ_=>?_) (λh=>absurd (aR rfl) h);refine⟨_,rfl,_,rfl,l,as,o,i,rfl,N2,fH,λH3 s3=>?_⟩;have:=rB o i;exact⟨m',m4 _,aO o i,dn++[i],rfl,s2.trans s3,s3 _ _ Q9,by rw[dQ];exact hv,by lia,by rw[a_];simp;lia⟩
  |false=>rw[hf,ak (by decide)] at hv;refine aK (λh=>absurd (aH h) (by intro e;cases e)) (λ_=>?_);refine⟨_,rfl,_,_,rfl,rfl,?_⟩;exact⟨m',m4 _,i+1,dn++[i],rfl,s2,Q9,by rw[dQ];exact hv,by lia,by rw[a_];simp;lia⟩
 .have kK:¬i<o.length:=λh=>cH hc (by lia);rw[JA kK,pz] at hv;rw[hv] at hP;exact⟨_,rfl,k _ p s1 hP⟩
def t6(o:O)(j:Nat):List Int:=[((nd o j).number:Int),((nd o j).depth:Int),if(nd o j).folded=true then((aO o j:Nat):Int) - (j:Nat) - 1 else 0]
theorem L_(W:Wf s):tellView s=⟨((gU s.nodes).length:Nat),(gU s.nodes).flatMap (t6 s.nodes)⟩:=by
 unfold tellView;have h1:=(lb W.n.nd).1;have h2:=(lb W.n.nd).2;have hl:(visible s.nodes).length=(gU s.nodes).length:=by rw[<-h1,aS]
 have hf:((visible s.nodes).flatMap λx=>[ofNat x.number,ofNat x.depth,if x.folded=true then ofNat ((Vanbkn.tree s.nodes x.number).length - 1) else 0])=(gU s.nodes).flatMap (t6 s.nodes):=by
  rw[<-h1,List.flatMap_map];have:∀l:List Nat,(∀j∈l,j<s.nodes.length)->(l.flatMap λj=>[ofNat (nd s.nodes j).number,ofNat (nd s.nodes j).depth,if(nd s.nodes j).folded=true then ofNat ((Vanbkn.tree s.nodes (nd s.nodes j).number).length - 1) else 0])=l.flatMap (t6 s.nodes):=by
   intro l;induction l with
   |nil=>intro _;rfl
   |cons j l ih=>
    intro hj;rw[ny,ny,ih λi hi=>hj i (bu _ hi)];congr 1;unfold t6;obtain⟨e,hlen⟩:=Lp (hj j (by simp));have ht:=A_ W.n.nd e;have Yx:=gw e;rw[hlen] at Yx;rw[ht];split
    .show[_,_,((1+_ - 1:Nat):Int)]=[_,_,_];rw[Yx,show((1+(inside (nd s.nodes j).depth (s.nodes.drop (j+1))).length - 1:Nat):Int)=((j+1+(inside (nd s.nodes j).depth (s.nodes.drop (j+1))).length:Nat):Int) - (j:Nat) - 1 by lia];rfl
    .rfl
  exact this _ h2
 dsimp only;rw[hl,hf];rfl
theorem gI:aG ["outline","nodes","visible","answer","position","node","hidden"] ["outline"] (ay sL):=eN
theorem L'(F:bB K mg "view_of" sL ["outline"])(T:Tz Z)(aP:C7 Z)(cM:bo Z 2 "visible_positions" ["nodes"] (E1 C)):bo Z 3 "view_of" ["outline"] (lu C CO .view):=by
 refine F.fe gI λH Q E hr h=>?_;obtain⟨ob,dx,l,as,st,rfl,O,W,k⟩:=h;refine⟨_,(ae (bD 1 gI (aB (pv 0) rfl)) (ae (bD 2 gI (pc cM hr (aa (pv 1) ag))) (ae (bD 3 gI (aL (aa (pd T (aa (pv 2) ag)) ag))) (ae (eB PassesOwn.never rfl (bL (pv 2)) (jB 4 gI) (ae (bD 5 gI (c5 aJ (pv 1) (pv 4))) (ae (bD 6 gI (gZ (bE bw (aB (pv 5) rfl) au) (bc gm (bc gm (pc aP hr (aa (pv 1) (aa (pv 4) ag))) (pv 4)) au) au)) (aj (bF (e_ eL qN qO fY (pv 3) (aa (aL (aa (aB (pv 5) rfl) (aa (aB (pv 5) rfl) (aa (pv 6) ag)))) ag))))))) (aj (aw (pv 3))))))),?_⟩;have hw:=W.n.len;have V8:(gU st.nodes).length<=60:=by
  have:(gU st.nodes).length=(visible st.nodes).length:=by rw[<-(lb W.n.nd).1,aS]
  rw[this];exact bp (lF _ _) hw
 refine⟨_,rfl,aU T O ?_⟩;refine⟨_,rfl,l,as,_,rfl,O.N,λH2 p s2 hP=>?_⟩;refine⟨_,rfl,p,_,rfl, .inl (bf.of hP),aV,λb hb=>?_⟩;rw[aF];have s3:=s2.new hb (u:= .lst [V.int (gU st.nodes).length]);have Ta:H b=none:=s2.free hb;have U3:p≠b:=ba hP hb;have hf:∀i,(((gU st.nodes).take i).flatMap (t6 st.nodes)).length<=3*(gU st.nodes).length:=λi=>pk _ 3 i λx _=>by simp[t6]
 refine⟨_,rfl,p,rfl,⟨_,bf.of (a7 hP hb)⟩,dG (K:=K) (a:=p) (xs:=aI (gU st.nodes)) (λi σ H'=>∃v4 v5 v6:Option V,σ=[some (.ref ob),some (.ref l),some (.ref p),some (.ref b),v4,v5,v6]/\ aD H H'/\ H' p=some (.lst (aI (gU st.nodes)))/\ H' b=some (.lst (aT (((gU st.nodes).length:Int)::((gU st.nodes).take i).flatMap (t6 st.nodes)))))
  ⟨none,none,none,rfl,s3,a7 hP hb,ah⟩ (λi σ H' _ ⟨_,_,_,_,_,Xa,_⟩=>bf.of Xa) ?_ ?_⟩
 .rintro i y σ H' hi ⟨v4,v5,v6,rfl,s4,Tb,hB⟩;obtain⟨j,hj,rfl⟩:=get_map hi;have Cr:=(lb W.n.nd).2 j (cI hj);have O4:=O.same s4;have Q8:=hf i;refine⟨_,rfl,_,rfl,cZ O4.N rfl Cr λc _ hc=>?_⟩;refine⟨_,rfl,iG T hc ⟨rfl,_,rfl,?_⟩⟩;have fin:∀(H5:Hp)(z:Int),aD H' H5->z=(if(nd st.nodes j).folded=true then((aO st.nodes j:Nat):Int) - (j:Nat) - 1 else 0)->∀D:Ends,(D.nx=λσ H'=>∃v4 v5 v6:Option V,σ=[some (.ref ob),some (.ref l),some (.ref p),some (.ref b),v4,v5,v6]/\ aD H H'/\ H' p=some (.lst (aI (gU st.nodes)))/\ H' b=some (.lst (aT (((gU st.nodes).length:Int)::((gU st.nodes).take (i+1)).flatMap (t6 st.nodes)))))->
   M0 (V0 K "list" Eh (cv 3) (dk (Cp (dk (xr K (cv 5) "number") (dk (xr K (cv 5) "depth") (dk (cv 6) k6)))) k6)) D [some (.ref ob),some (.ref l),some (.ref p),some (.ref b),some (V.int (j:Nat)),some (V.ref c),some (V.int z)] H5:=λH5 z s5 hz D hD=>by
   have Yy:=s5 _ _ hB;refine⟨_,rfl, .inl ⟨rfl,_,bf.of Yy⟩,_,rfl,bW T (hc.same s5) ⟨_,rfl,bj T (hc.same s5) ⟨_,rfl,(by show 3<=sizeLine;decide),λt ht=>?_⟩⟩⟩;refine⟨b,t,_,_,rfl,rfl,a7 Yy ht,ah,dB (by rw[bA,cj];show _+3<=100000;lia),?_⟩;show D.nx _ _;rw[hD];refine⟨_,_,_,rfl,((s4.trans s5).new ht).put Ta,?_,?_⟩
   .rw[az U3];exact a7 (s5 _ _ Tb) ht
   .rw[ah,pj _ hj,<-iT,<-fj,hz];rfl
  cases Yz:(nd st.nodes j).folded with
  |true=>refine aK (λ_=>?_) (λh=>absurd (aR rfl) h);refine⟨_,rfl,_,rfl,l,as,_,j,rfl,O4.N,Cr,λH5 s5=>⟨_,rfl,_,_,rfl,rfl,_,_,rfl,rfl,?_⟩⟩;exact fin H5 _ s5 (by rw[Yz,aq rfl]) _ rfl
  |false=>refine aK (λh=>absurd (aH h) (by intro e;cases e)) (λ_=>?_);exact fin H' _ (aD.refl _) (by rw[Yz,ak (by decide)]) _ rfl
 .rintro σ H' ⟨v4,v5,v6,rfl,s4,Tb,hB⟩;rw[aF,fq] at hB;refine⟨_,rfl,k.told O rfl s4 hB ?_⟩;show _=aT (encode (tellView st));rw[L_ W];rfl
theorem Ma{r:O}(W:Wf s)(e:s.nodes=a++x::r)(hz:(x.number:Int)=z):Vanbkn.step s (.info z)=
 (s,⟨b2 x.cell,[(x.depth:Int),b2 x.folded,(yq s.nodes a.length:Nat),((aO s.nodes a.length:Nat):Int) - (a.length:Nat),match nv s.nodes a.length with
  |none=>0
  |some j=>((nd s.nodes j).number:Int)]⟩):=by
 show withNode s z _=_;rw[aN W.n e hz];unfold Vanbkn.tellInfo;have h0:x.number≠0:=by
  have:=(W.n.good x (by rw[e];simp)).num
  lia
 rw[Lo W.n.nd h0 e,A_ W.n.nd e,F1 W.n.nd e];have hk:yq s.nodes a.length=((inside x.depth r).filter λy=>y.depth==x.depth+1).length:=by unfold yq;rw[fJ e,zD e]
 have ht:((aO s.nodes a.length:Nat):Int) - (a.length:Nat)=((1+(inside x.depth r).length:Nat):Int):=by
  rw[gw e]
  lia
 rw[hk,ht];rcases o8 e with⟨b,q,c,ea,hq,hc,hp⟩|⟨ha,hp⟩
 .have eb:s.nodes=b++q::(c++x::r):=by rw[e,ea];simp
  rw[hp,ED ea hq hc];show(s,(⟨_,[_,_,_,_,((q.number:Nat):Int)]⟩:Answer))=(s,⟨_,[_,_,_,_,(((nd s.nodes b.length).number:Nat):Int)]⟩);rw[fJ eb];rfl
 .rw[hp,EE ha];rfl
theorem gJ:aG ["outline","number","nodes","position","node","above","parent","children"] ["outline","number"] (ay sM):=eN
theorem Mb(F:bB K mg "info_of" sM ["outline","number"])(T:Tz Z)(ax:uv Z)(aP:C7 Z)(bq:bo Z 1 "parent_position" ["nodes","position"] (Bo C))(dU:bo Z 2 "children_count" ["nodes","position"] (zu C)):bo Z 3 "info_of" ["outline","number"] (eW C CO .info):=by
 refine F.fe gJ λH Q E hr h=>?_;obtain⟨ob,dx,l,as,st,z,rfl,O,W,k⟩:=h;refine⟨_,(ae (bD 2 gJ (aB (pv 0) rfl)) (ae (bD 3 gJ (pc ax hr (aa (pv 2) (aa (pv 1) ag)))) (ae (aM (bE bC (pv 3) aZ) (aj (aw (aL (aa (eg T) ag)))) aA) (ae (bD 4 gJ (c5 aJ (pv 2) (pv 3))) (ae (bD 5 gJ (pc bq hr (aa (pv 2) (aa (pv 3) ag)))) (ae (bD 6 gJ (gZ (bE bC (pv 5) aZ) au (aB (c5 aJ (pv 2) (pv 5)) rfl))) (ae (bD 7 gJ (pc dU hr (aa (pv 2) (aa (pv 3) ag)))) (aj (aw (aL (aa (aB (pv 4) rfl) (aa (aB (pv 4) rfl) (aa (aB (pv 4) rfl) (aa (pv 7) (aa (bc gm (pc aP hr (aa (pv 2) (aa (pv 3) ag))) (pv 3)) (aa (pv 6) ag)))))))))))))))),?_⟩;refine⟨_,rfl,aU T O ?_⟩;refine⟨_,rfl,_,rfl,l,as,_,z,rfl,O.N,λH2 s2=>?_⟩;have O2:=O.same s2;refine⟨_,rfl,rfl,_,rfl,?_⟩;rcases aX (o:=st.nodes) z with hp|⟨a,x,r,e,hp,kU⟩
 .rw[hp];refine aK (λ_=>?_) (λh=>absurd (aR rfl) h);exact⟨aV,λq hq=>k.refuse O (dM W hp) s2 hq⟩
 rw[hp];refine aK (λh=>nomatch (aH h)) (λ_=>?_);rw[Ma W e kU] at k;refine⟨_,rfl,_,rfl,cZ O2.N rfl (br e) λc _ hc=>?_⟩;rw[fJ e] at hc;refine⟨_,rfl,_,rfl,l,as,_,a.length,rfl,O2.N,br e,λH3 s3=>?_⟩;have O3:=O2.same s3;refine⟨_,rfl,rfl,_,rfl,?_⟩;have fin:∀(ov:Option Nat),nv st.nodes a.length=ov->∀(n:Int),n=(match ov with
  |none=>0
  |some j=>((nd st.nodes j).number:Int))->∀D:Ends,D.rt=Q->ma (xq (pF (zu C) [] E0 (dk (cv 2) (dk (cv 3) k6))) (fG 7)) (yP (Cp (dk (xr K (cv 4) "cell") (dk (xr K (cv 4) "depth") (dk (xr K (cv 4) "folded") (dk (cv 7) (dk (qJ (xO λi j=>V.int (i - j)) (pF (C6 C) [] E0 (dk (cv 2) (dk (cv 3) k6))) (cv 3)) (dk (cv 6) k6))))))))
   D [some (.ref ob),some (.int z),some (.ref l),some (.int (a.length:Nat)),some (V.ref c),some (uu ov),some (V.int n),none] H3:=λov hov n hn D hD=>by
  refine⟨_,rfl,_,rfl,l,as,_,a.length,rfl,O3.N,br e,λH4 s4=>?_⟩;have O4:=O3.same s4;have Nz:=(hc.same s3).same s4;refine⟨_,rfl,fI T Nz ⟨_,rfl,bj T Nz ⟨_,rfl,iG T Nz ⟨_,rfl,_,rfl,_,rfl,l,as,_,a.length,rfl,O4.N,br e,λH5 s5=>⟨_,rfl,_,_,rfl,rfl,_,rfl,(by show 6<=sizeLine;decide),λp hp=>?_⟩⟩⟩⟩⟩;show D.rt _ _;rw[hD];refine k.told O rfl ((((s2.trans s3).trans s4).trans s5).new hp) ah ?_;rw[hn,hov];rfl
 rcases Nl:nv st.nodes a.length with _|j
 .refine aK (λ_=>?_) (λh=>absurd (aR rfl) h);exact fin none Nl 0 rfl _ rfl
 .refine aK (λh=>nomatch (aH h)) (λ_=>?_);have Cr:j<st.nodes.length:=by
   rcases o8 e with⟨b,q,c',ea,hq,xM,Cv⟩|⟨ha,Cv⟩
   .rw[Nl] at Cv;cases Cv;have:=br e;rw[ea] at this;simp at this
    lia
   .rw[Nl] at Cv;cases Cv
  refine⟨_,rfl,_,rfl,cZ O3.N rfl Cr λn _ hn=>bW T hn ?_⟩;exact fin (some j) Nl _ rfl _ rfl
inductive JB(C CO:Addr)(vs:List V)(H:Hp)(Q:VK)(_E:XK):Prop
 |mk (ob dx l:Addr) (as:List Addr) (s:Vanbkn.State) (z d:Int) (h1:vs=[.ref ob, .int z, .int d]) (h2:a9 C CO H ob dx l as s) (h3:Wf s) (h4:d_ C CO H ob (Vanbkn.step s (.step z d)) Q)
theorem wL(i:Nat):∀l:List Nat,R9 (.int (i:Nat)) (aI l)=decide (i∈l)
 |[]=>by simp[R9,aI]
 |c::l=>by
  have ih:=wL i l;unfold R9 aI at ih⊢;rw[cy,uU,ih,GP,rR,dN,dN,bY];show(((c:Nat):Int)==(i:Nat))=true\/ _↔_;rw[kx];constructor
  .rintro(h|h)
   .exact .inl (by lia)
   .exact .inr h
  .rintro(h|h)
   .exact .inl (by lia)
   .exact .inr h
theorem sY(l:List Nat):(aI l).all lK=true:=by unfold aI;rw[Kv];exact yN.mpr λ_ _=>rfl
theorem Gm{r:O}{d:Int}(W:Wf s)(e:s.nodes=a++x::r)(hz:(x.number:Int)=z):Vanbkn.step s (.step z d)=(s,tellStep s x d):=by show withNode s z _=_;rw[aN W.n e hz]
theorem ie:aG ["outline","number","direction","nodes","position","visible","place"] ["outline","number","direction"] (ay oo):=eN
theorem Mc(F:bB K mg "step_from" oo ["outline","number","direction"])(T:Tz Z)(ax:uv Z)(cM:bo Z 2 "visible_positions" ["nodes"] (E1 C)):
 bo Z 3 "step_from" ["outline","number","direction"] (JB C CO):=by
 refine F.fe ie λH Q E hr h=>?_;obtain⟨ob,dx,l,as,st,z,d,rfl,O,W,k⟩:=h;refine⟨_,(ae (bD 3 ie (aB (pv 0) rfl)) (ae (bD 4 ie (pc ax hr (aa (pv 3) (aa (pv 1) ag)))) (ae (aM (bE bC (pv 4) aZ) (aj (aw (aL (aa (eg T) ag)))) aA) (ae (aM (PW.pt (gY (bE lG (pv 2) au) (fX (bE lG (pv 2) (vi pR au))))) (aj (aw (aL (aa (eg T) ag)))) aA) (ae (bD 5 ie (pc cM hr (aa (pv 3) ag))) (ae (aM (bE yT (pv 4) (pv 5) rfl) (aj (aw (aL (aa (eg T) ag)))) aA) (ae (bD 6 ie (bc bO (e_ eL MP PySem.F.type_list_index (HF) (pv 5) (aa (pv 4) ag)) (pv 2))) (ae (aM (PW.pt (gh (bE g0 (pv 6) au) (gz (bE nH (pv 6) (pd T (aa (pv 5) ag)))))) (aj (aw (aL (aa au ag)))) aA) (aj (aw (aL (aa (aB (c5 aJ (pv 3) (c5 aJ (pv 5) (pv 6))) rfl) ag)))))))))))),?_⟩;refine⟨_,rfl,aU T O ?_⟩;refine⟨_,rfl,_,rfl,l,as,_,z,rfl,O.N,λH2 s2=>?_⟩;have O2:=O.same s2;refine⟨_,rfl,rfl,_,rfl,?_⟩;rcases aX (o:=st.nodes) z with hp|⟨a,x,r,e,hp,kU⟩
 .rw[hp];refine aK (λ_=>?_) (λh=>absurd (aR rfl) h);exact⟨aV,λq hq=>k.refuse O (dM W hp) s2 hq⟩
 rw[hp];refine aK (λh=>nomatch (aH h)) (λ_=>?_);rw[Gm W e kU] at k;unfold tellStep at k;dsimp only at k;have main:d=1\/ d=-1->∀D:Ends,D.rt=Q->ma (xq (pF (E1 C) [] E0 (dk (cv 3) k6)) (fG 5)) (ma (uk (iZ (qJ (Uy K true) (cv 4) (cv 5))) (yP (Cp (dk (tC (.int (-15))) k6))) jz)
  (ma (xq (qJ (xO λi j=>V.int (i+j)) (V0 K "list" (HE K) (cv 5) (dk (cv 4) k6)) (cv 2)) (fG 6))
  (ma (uk (MX (iZ (qJ (xO λi j=>V.bl (decide (i<j))) (cv 6) (tC (.int 0)))) (iZ (qJ (xO λi j=>V.bl (decide (j<=i))) (cv 6) (Ux (K4 K) (dk (cv 5) k6))))) (yP (Cp (dk (tC (.int 0)) k6))) jz)
  (yP (Cp (dk (xr K (qJ (FD K) (cv 3) (qJ (FD K) (cv 5) (cv 6))) "number") k6)))))) D [some (.ref ob),some (.int z),some (.int d),some (.ref l),some (.int (a.length:Nat)),none,none] H2:=λhd D hD=>by
  rw[ak (λh=>h hd)] at k;refine⟨_,rfl,l,as,_,rfl,O2.N,λH3 p s3 hP=>?_⟩;have jC:=s2.trans s3;have O3:=O2.same s3;refine⟨_,rfl,_,rfl,p,_,rfl, .inl (bf.of hP),rfl,sY _,_,rfl,?_⟩;rw[aq rfl,wL];rw[Lq W.n.nd e] at k;by_cases uH:a.length∈gU st.nodes
  .rw[aR uH,ak (by decide)] at k;rw[aR uH];refine fL ?_;obtain⟨j,hj,WC⟩:∃j,(gU st.nodes)[j]?=some a.length/\ ∀m i,m<j->(gU st.nodes)[m]?=some i->i≠a.length:=by
    have hpw:(gU st.nodes).Pairwise (·<·):=(EH st.nodes st.nodes.length 0).1;obtain⟨j,hj⟩:=xm uH;refine⟨j,hj,λm i hm hi=>?_⟩;obtain⟨Cr,QO⟩:=dm.mp hj;obtain⟨pG,V9⟩:=dm.mp hi;have:=DQ.mp hpw m j pG Cr hm;rw[QO,V9] at this
    lia
   have Cr:=(dm.mp hj).1;refine⟨_,rfl, .inl ⟨rfl,_,bf.of hP⟩,_,rfl,p,_,_,j,_,rfl,rfl,bf.of hP,rfl,sY _,byte_at hj,(by show(((a.length:Nat):Int)==(a.length:Nat))=true;exact beq_self_eq_true _),(λm z' hm K5=>?_),_,rfl,_,_,rfl,rfl,?_⟩
   .obtain⟨i,hi,rfl⟩:=get_map K5;have:=WC m i hm hi;show(((i:Nat):Int)==(a.length:Nat))=false;rw[nA]
    lia
   have U4:(visible st.nodes)[j]?=some x:=by rw[CW W.n.nd hj,fJ e]
   have U5:=F2 W.n.nd;have V8:(visible st.nodes).length=(gU st.nodes).length:=by rw[<-(lb W.n.nd).1,aS]
   refine⟨_,rfl,_,_,rfl,rfl,_,rfl,?_⟩;refine aK (λh=>eD ?_) (λh1=>?_)
   .have h:=aH h;have Qo:d=-1:=by lia
    subst Qo;have hj0:j=0:=by lia
    subst hj0;rw[show((-1:Int)==1)=false by decide,CU U5 U4] at k;refine⟨aV,λq hq=>?_⟩;show D.rt _ _;rw[hD];exact k.told O rfl (jC.new hq) ah rfl
   have h1:=cH h1;refine⟨_,rfl,_,rfl,p,_,rfl, .inl (bf.of hP),_,_,rfl,rfl,_,rfl,?_⟩;rw[aF];refine aK (λh=>?_) (λh2=>?_)
   .have h:=aH h;have Qo:d=1:=by lia
    subst Qo;have Tc:(visible st.nodes)[j+1]?=none:=KD (by rw[V8];lia);rw[show((1:Int)==1)=true by decide,A' U5 U4,Tc] at k;refine⟨aV,λq hq=>?_⟩;show D.rt _ _;rw[hD];exact k.told O rfl (jC.new hq) ah rfl
   have h2:=cH h2;obtain⟨t,ht⟩:∃t:Nat,(j:Int)+d=(t:Int):=⟨((j:Int)+d).toNat,by lia⟩;have NO:t<(gU st.nodes).length:=by lia
   obtain⟨i,hi⟩:∃i,(gU st.nodes)[t]?=some i:=⟨_,c8 NO⟩;have m_:=(lb W.n.nd).2 i (cI hi);refine⟨_,rfl,_,rfl,_,rfl,bG hP ht (byte_at hi) (cZ O3.N rfl m_ λc _ hc=>bW T hc ⟨aV,λq hq=>?_⟩)⟩;show D.rt _ _;rw[hD];refine k.told O rfl (jC.new hq) ah ?_;rcases hd with hd|hd
   .subst hd;have Xb:t=j+1:=by lia
    subst Xb;rw[show((1:Int)==1)=true by decide,A' U5 U4,CW W.n.nd hi];rfl
   .subst hd;obtain⟨j',rfl⟩:∃j',j=j'+1:=⟨j - 1,by lia⟩;have Xb:t=j':=by lia
    subst Xb;rw[show((-1:Int)==1)=false by decide,CV U5 U4 (CW W.n.nd hi)];rfl
  .rw[cP uH,aq rfl] at k;rw[cP uH];refine eD ⟨aV,λq hq=>?_⟩;show D.rt _ _;rw[hD];exact k.told O rfl (jC.new hq) ah rfl
 refine⟨_,rfl,rfl,_,rfl,?_⟩;by_cases h1:d=1
 .refine aK (λh=>?_) (λ_=>fL (main (.inl h1) _ rfl));rw[h1] at h;simp at h
 .refine aK (λ_=>?_) (λh=>?_)
  .refine⟨_,rfl,_,rfl,rfl,_,rfl,?_⟩;by_cases h2:d=-1
   .refine aK (λh=>?_) (λ_=>main (.inr h2) _ rfl);rw[h2] at h;simp at h
   .refine aK (λ_=>?_) (λh=>?_)
    .rw[aq (by lia)] at k;exact⟨aV,λq hq=>k.told O rfl (s2.new hq) ah rfl⟩
    .exfalso;apply h;simp;exact h2
  .exfalso;apply h;simp;exact h1
inductive JC(vs:List V)(H:Hp)(Q:VK)(_E:XK):Prop
 |mk (r:Addr) (way:List Nat) (d:Nat) (h1:vs=[.ref r, .int (d:Nat)]) (h2:H r=some (.lst (aI way))) (h3:way.length<=60) (h4:1<=d) (h5:d<=60) (h6:∀H' p,aD H H'->H' p=some (.lst (aI (jd way d)))->Q (.ref p) H')
theorem Gn(xs:List V)(b:Nat):d5 xs none (some (b:Int))=xs.take b:=by
 unfold d5;rw[show HT.qK xs.length 0 none=0 from rfl,show HT.qK xs.length xs.length (some (b:Int))=min b xs.length from HT.kD _ _ _];by_cases h:b<=xs.length
 .rw[iV h];rfl
 .rw[z0 (by lia),pC (show xs.length<=b by lia)];show(xs.drop 0).take (xs.length - 0)=xs;simp
theorem JD(xs:List V)(h:xs≠[]):d5 xs none (some (-1))=xs.take (xs.length - 1):=by
 unfold d5;have hl:1<=xs.length:=List.length_pos_iff.mpr h;have e:HT.qK xs.length xs.length (some (-1))=xs.length - 1:=by
  show(if(-1:Int)<0 then((-1:Int)+(xs.length:Int)).toNat else min (-1:Int).toNat xs.length)=_;rw[aq (by decide)]
  lia
 rw[show HT.qK xs.length 0 none=0 from rfl,e];rfl
theorem kW:aG ["places","depth","kept"] ["places","depth"] (ay iC):=eN
theorem Md(F:bB K mg "section_places" iC ["places","depth"])(T:Tz Z):bo Z 1 "section_places" ["places","depth"] JC:=by
 refine F.fe kW λH Q E hr h=>?_;obtain⟨r,way,d,rfl,hR,hz,Qo,hd2,k⟩:=h;refine⟨_,(ae (bD 2 kW (bh bz (pv 0) eR (aW (pv 1)))) (ae (aM (bE g0 (pd T (aa (pv 2) ag)) (pv 1)) (aj (aw (bc g8 (pv 2) (aL (aa au ag))))) aA) (aj (aw (bc g8 (bh bz (pv 2) eR (aW (vi pR au))) (aL (aa (bc bO (c5 aJ (pv 2) (vi pR au)) au) ag))))))),?_⟩;refine⟨_,rfl,_,rfl,_,rfl,r,_,rfl,bf.of hR,λp hp=>?_⟩;rw[Gn,fT];have s1:=aE hp (u:= .lst (aI (way.take d)));refine⟨_,rfl,p,_,rfl, .inl (bf.of ah),_,rfl,_,_,rfl,rfl,_,rfl,?_⟩;rw[aF];have Xc:(way.take d).length<=60:=by rw[bg];lia
 refine aK (λhc=>?_) (λhc=>?_)
 .have fH:(way.take d).length<d:=by have:=aH hc;lia
  refine⟨_,rfl,aV,λq hq=>⟨p,q,_,_,rfl,rfl,a7 ah hq,ah,dB (by rw[aF];show _+1<=100000;lia),λt ht=>?_⟩⟩;refine k _ t ((s1.new hq).new ht) ?_;rw[ah,IA fH,<-cS];rfl
 .have kK:¬(way.take d).length<d:=λh=>cH hc (by lia);obtain⟨n,hn,B_,hl⟩:=IB Qo kK;have fo:aI (way.take d)≠[]:=λh=>by
   have:=c_ List.length h;rw[aF,hl] at this;simp at this
   lia
  refine⟨_,rfl,_,rfl,_,rfl,p,_,rfl,bf.of ah,λq hq=>?_⟩;rw[show(-1:Int)=-(1:Int) from rfl,JD _ fo,aF,hl,fT];have s2:=s1.new hq (u:= .lst (aI ((way.take d).take (d - 1))));have Gf:GU (aI (way.take d)) (-(1:Int))=some (V.int (n:Nat)):=by unfold GU K2;rw[aF,hl,ak (by decide),aq (by lia)];show(aI (way.take d))[((d:Int)+-(1:Int)).toNat]?=_;rw[show((d:Int)+-(1:Int)).toNat=d - 1 by lia];exact byte_at hn
  refine⟨_,rfl,_,rfl,p,_,_,_,rfl,rfl,bf.of (a7 ah hq),Gf,_,_,rfl,rfl,aV,λt ht=>?_⟩;refine⟨q,t,_,_,rfl,rfl,a7 ah ht,ah,dB (by rw[aF,bg];show _+1<=100000;lia),λu hu=>?_⟩;refine k _ u ((s2.new ht).new hu) ?_;rw[ah,B_,<-cS];rfl
inductive lZ(C:Addr)(vs:List V)(H:Hp)(Q:VK)(_E:XK):Prop
 |mk (l:Addr) (as:List Addr) (o:O) (h1:vs=[.ref l]) (h2:NL C H l as o) (h3:lO o) (h4:∀H' d a6,aD H H'->wD H' d a6 (labels o)->H d=none->Q (.ref d) H')
theorem t7:∀w:List Nat,dotted w=x3 [46] (w.map decimal)
 |[]=>rfl
 |[n]=>rfl
 |n::m::r=>by rw[tW,t7 (m::r)];rfl
theorem wD.push{a:Addr}{ls:List (Nat×List Nat)}{n:Nat}{qt:List Nat}(h:wD H d a6 ls)(ha:H a=some (.lst (aI qt)))(hn:n∉ls.map (·.1)):
 wD (upd H d (.dK (putK a6 (Sum.inl (n:Int)) (.ref a)))) d (a6++[(Sum.inl (n:Int), .ref a)]) (ls++[(n,qt)]):=by
 have hv:gT a6 (Sum.inl (n:Int))=none:=by
  rcases h.find n with⟨_,e⟩|⟨Td,a',e,_,_⟩
  .exact e
  .exfalso;unfold labelIn at e;cases f:ls.find? (λx=>x.1==n) with
   |none=>rw[f] at e;cases e
   |some q=>have h1:=xC f;have h2:=List.find?_some f;exact hn (fc.mpr ⟨q,h1,by simpa using h2⟩)
 have lk:∀{b:Addr}{xs:List V},H b=some (.lst xs)->upd H d (.dK (putK a6 (Sum.inl (n:Int)) (.ref a))) b=some (.lst xs):=λ{b xs} hb=>by rw[az (jy hb h.at_ (by intro q;cases q))];exact hb
 refine⟨by rw[ah,HL _ hv],by rw[a_,a_,h.len];rfl,λi q hq=>?_⟩;by_cases hi:i<ls.length
 .rw[nz hi] at hq;obtain⟨b,h1,h2⟩:=h.items i q hq;exact⟨b,by rw[nz (by rw[h.len];exact hi)];exact h1,lk h2⟩
 .rw[k3 (by lia)] at hq;cases e:i - ls.length with
  |zero=>rw[e] at hq;cases hq;refine⟨a,?_,lk ha⟩;rw[k3 (by rw[h.len];lia),h.len,e];rfl
  |succ m=>rw[e] at hq;simp at hq
theorem JE(m:Nat):∀l:List Nat,(∀x∈l,x<=m)->l.sum<=m*l.length
 |[],_=>by simp
 |x::l,h=>by
  have h1:=h x (by simp);have h2:=JE m l λy hy=>h y (bu _ hy);rw[List.sum_cons,cj,Aa]
  lia
theorem cT:aG ["nodes","labels","places","cells","node","place"] ["nodes"] (ay ow):=eN
theorem Gq(F:bB K mg "labels_of" ow ["nodes"])(T:Tz Z)(cE:bo Z 1 "bytes_of" ["signs"] pf)(jo:bo Z 1 "section_places" ["places","depth"] JC):bo Z 2 "labels_of" ["nodes"] (lZ C):=by
 refine F.fe cT λH Q E hr h=>?_;obtain⟨l,as,o,rfl,N,W,k⟩:=h;refine⟨_,(ae (bD 1 cT AA) (ae (bD 2 cT (aL ag)) (ae (bD 3 cT au) (ae (eB PassesOwn.never rfl (bL (pv 0)) (jB 4 cT) (aj (aM (bE bw (aB (pv 4) rfl) au) (ae (k4 (i:=3) cT.nd rfl (Or.inl rfl) au nG) (aj (yW (qY hr) (pv 1) (aB (pv 4) rfl) (pc cE hr (aa (bc jU bN (lI g7 (by rfl) T.str wm (aa (pv 3) ag))) ag)) rfl))) (ae (bD 2 cT (pc jo hr (aa (pv 2) (aa (aB (pv 4) rfl) ag)))) (aj (yW (qY hr) (pv 1) (aB (pv 4) rfl) (pc cE hr (aa (K8 bN (kH rfl cT.nd (bL (pv 2)) (own:=[("place",5)]) (Cb cT) (λ_ _ _ _ _=>(jB 5 cT)) (λ_ _ _ _ _=>kF) (λ_ _ _ _ _=>(lI g7 (by rfl) T.str wm (aa (pv 5) ag))))) ag)) rfl)))))) (aj (aw (pv 1))))))),?_⟩;intro d hd;have s1:aD H (upd H d (.dK [])):=aE hd;refine⟨a8 _,λr YA=>?_⟩;have s2:=s1.new YA (u:= .lst []);have hd2:upd (upd H d (.dK [])) r (.lst []) d=some (.dK []):=a7 ah YA;have hw:=W.len;refine⟨_,rfl,l,rfl,⟨_,bf.of (s2 _ _ N.lst)⟩,dG (K:=K) (a:=l) (xs:=as.map V.ref) (λi σ H'=>∃(v4 v5:Option V)(rr:Addr)(a6:List (Key×V)),σ=[some (.ref l),some (.ref d),some (.ref rr),some (.int ((bS [] 0 (o.take i)).2:Nat)),v4,v5]/\ aD H H'/\ H' rr=some (.lst (aI (bS [] 0 (o.take i)).1))/\ wD H' d a6 (labelsFrom [] 0 (o.take i)))
  ⟨none,none,r,[],rfl,s2,ah,hd2,rfl,λi q h=>by simp[labelsFrom] at h⟩ (λi σ H' _ ⟨_,_,_,_,_,s3,_⟩=>bf.of (s3 _ _ N.lst)) ?_ ?_⟩
 .rintro i y σ H' hi ⟨v4,v5,rr,a6,rfl,s3,U6,LD⟩;obtain⟨c,x,rfl,hc,hx,hn⟩:=N.item hi;have Te:=hn.same s3;have EX:o.take (i+1)=o.take i++[x]:=take_snoc hx;have m_:i<o.length:=(dm.mp hx).1;have Q_:(o.take i).length<=60:=by rw[bg];lia
  have WO:EI (0+(o.take i).length) (bS [] 0 (o.take i)):=CQ (o.take i) 0 ([],0) ⟨by simp,by simp,aQ _⟩ λy hy=>W.Pz y (ku hy);have F_:x.number∉(labelsFrom [] 0 (o.take i)).map (·.1):=by
   rw[i6];intro hm;have vE:=W.nd;have e:o=o.take i++x::o.drop (i+1):=by rw[<-(dm.mp hx).2];simp
   rw[e] at vE;obtain⟨y,hy,WA⟩:=fc.mp hm;exact(gr vE).1 y hy WA
  have Xc:a6.length<=60:=by rw[LD.len];have:=c_ List.length (i6 (o.take i) [] 0);rw[aS] at this;rw[this];unfold nums;rw[aS];exact Q_
  refine⟨_,rfl,fI T Te ⟨rfl,_,rfl,?_⟩⟩;cases bR:x.cell with
  |true=>
   refine aK (λ_=>?_) (λh=>absurd (aR rfl) h);have ew:bS [] 0 (o.take (i+1))=((bS [] 0 (o.take i)).1,(bS [] 0 (o.take i)).2+1):=by rw[EX,jH];simp[bS,bR]
   have el:labelsFrom [] 0 (o.take (i+1))=labelsFrom [] 0 (o.take i)++[(x.number,35::decimal ((bS [] 0 (o.take i)).2+1))]:=by rw[EX,iO,i5 bR];rfl
   have Nj:(bS [] 0 (o.take i)).2+1<1000:=by have:=WO.k;lia
   have Tf:tl (Str.ofString "#"++Str.ofString (toString (((bS [] 0 (o.take i)).2+1:Nat):Int)))=35::decimal ((bS [] 0 (o.take i)).2+1):=by rw[fD,lq];rfl
   refine⟨_,rfl,_,_,rfl,rfl,?_⟩;refine⟨_,rfl,_,rfl,?_,_,_,rfl,rfl,?_,_,rfl,?_,λH4 p s4 hp Bp=>?_⟩
   .exact wz (n:=(bS [] 0 (o.take i)).2+1) (by lia)
   .rw[dq,dq];have:=iP Nj;refine dB ?_;show(tl (Str.ofString "#")).length+(tl (Str.ofString (toString (((bS [] 0 (o.take i)).2+1:Nat):Int)))).length<=_;rw[lq];show 1+_<=_
    lia
   .show(tl (Str.ofString "#"++Str.ofString (toString (((bS [] 0 (o.take i)).2+1:Nat):Int)))).length<=10000;rw[Tf];have:=iP Nj;rw[cj]
    lia
   have hp:H4 p=some (.lst (aI (35::decimal ((bS [] 0 (o.take i)).2+1)))):=by rw[<-Tf];exact hp
   have NP:=LD.same s4;refine⟨_,rfl,_,rfl,bW T (Te.same s4) ⟨d,_,rfl,Cu.k (k:=Sum.inl ((x.number:Nat):Int)) NP.at_ (eM (by lia)),?_⟩⟩;refine⟨some (V.ref c),v5,rr,a6++[(Sum.inl (x.number:Int), .ref p)],?_,(s3.trans s4).put hd,?_,?_⟩
   .rw[ew];rfl
   .rw[ew,az (jy (s4 _ _ U6) NP.at_ (by intro q;cases q))];exact s4 _ _ U6
   .rw[el];exact NP.push hp F_
  |false=>
   refine aK (λh=>absurd (aH h) (by intro q;cases q)) (λ_=>?_);have FT:=W.Pz x (cI hx) bR;have ew:bS [] 0 (o.take (i+1))=(jd (bS [] 0 (o.take i)).1 x.depth,(bS [] 0 (o.take i)).2):=by rw[EX,jH];simp[bS,bR]
   have el:labelsFrom [] 0 (o.take (i+1))=labelsFrom [] 0 (o.take i)++[(x.number,dotted (jd (bS [] 0 (o.take i)).1 x.depth))]:=by rw[EX,iO,jY bR];rfl
   obtain⟨hle,hlen⟩:=zk WO.le WO.len FT;refine⟨_,rfl,_,rfl,bj T Te ⟨rr,_,x.depth,rfl,U6,by have:=WO.len;lia,FT.1,by lia,λH4 p s4 hp=>?_⟩⟩;have L7:=Te.same s4;have NP:=LD.same s4;have hsz:(aI (jd (bS [] 0 (o.take i)).1 x.depth)).length<=6:=by rw[aF];exact hlen
   refine⟨⟨_,rfl⟩,_,rfl,p,rfl,⟨_,bf.of hp⟩,λD hD=>?_⟩;refine f9 (K:=K) (a:=p) (ys:=jd (bS [] 0 (o.take i)).1 x.depth) (v:=λc:Nat=>V.int (c:Int)) (λc=>some (V.str (Str.ofString (toString ((c:Nat):Int))))) (bf.of hp) hD (eM (by lia)) (λm q H5 hq s5 R R0 k1 k2=>?_) (λH5 s5 h5=>?_)
   .have hql:q<1900:=by
     have:=hle q (cI hq)
     lia
    exact⟨rfl,Bk ⟨_,rfl,_,rfl,wz hql,k1 _ _ (aD.refl _) rfl⟩⟩
   .have h5:H5 D=some (.lst (((jd (bS [] 0 (o.take i)).1 x.depth).map λc:Nat=>Str.ofString (toString ((c:Nat):Int))).map V.str)):=by rw[h5,KC,ip];rfl
    have Kk:∀n∈jd (bS [] 0 (o.take i)).1 x.depth,n<1000:=λn hn=>by
     have:=hle n hn
     lia
    have Tf:tl (Txt.join (Str.ofString ".") ((jd (bS [] 0 (o.take i)).1 x.depth).map λc:Nat=>Str.ofString (toString ((c:Nat):Int))))=dotted (jd (bS [] 0 (o.take i)).1 x.depth):=by rw[TL.join_eq,uE,t7,ip];have e1:tl (Str.ofString ".")=[46]:=rfl;rw[e1];congr 1;exact iU λc _=>lq c
    refine⟨_,D,_,rfl,rfl, .inl (bf.of h5),?_,_,rfl,?_,λH6 p6 s6 h6 Bt=>?_⟩
    .have h1:=JE 3 (((jd (bS [] 0 (o.take i)).1 x.depth).map λc:Nat=>Str.ofString (toString ((c:Nat):Int))).map (·.length)) (λn hn=>by rw[ip] at hn;obtain⟨c,hc,rfl⟩:=fc.mp hn;show(Str.ofString (toString ((c:Nat):Int))).length<=3;rw[dq,lq];exact iP (Kk c hc))
     rw[aS,aS] at h1;have e1:(Str.ofString ".").length=1:=rfl;rw[aS,e1]
     lia
    .rw[Tf];have:=(sF _ Kk).1
     lia
    .rw[Tf] at h6;have Ra:=(NP.same s5).same s6;refine⟨_,rfl,_,rfl,bW T ((L7.same s5).same s6) ⟨d,_,rfl,Cu.k (k:=Sum.inl ((x.number:Nat):Int)) Ra.at_ (eM (by lia)),?_⟩⟩;refine⟨some (V.ref c),v5,p,a6++[(Sum.inl (x.number:Int), .ref p6)],?_,(((s3.trans s4).trans s5).trans s6).put hd,?_,?_⟩
     .rw[ew];rfl
     .have YB:=s6 _ _ (s5 _ _ hp);rw[ew,az (jy YB Ra.at_ (by intro q;cases q))];exact YB
     .rw[el];exact Ra.push h6 F_
 .rintro σ H' ⟨v4,v5,rr,a6,rfl,s3,U6,LD⟩;rw[aS,N.len,fq] at LD;exact⟨_,rfl,k _ d a6 s3 LD hd⟩
theorem BJ(l:List Nat):aT (encode (tell l))=V.int (l.length:Nat)::aI l:=by show V.int _::aT (nats l)=_;congr 1;unfold aT nats aI;rw[ip];rfl
theorem Wf.txt{s:Vanbkn.State}(W:Wf s){x:Nd}(h:x∈s.nodes):x.text.length<=60/\ ∀c∈x.text,32<=c/\ c<=126:=(W.n.good x h).txt
theorem mem_of{o r:O}(e:o=a++x::r):x∈o:=by rw[e];simp
theorem JF{o r:O}(W:lO o)(e:o=a++x::r):∃qt,labelIn (labels o) x.number=some qt:=by
 have hn:((labels o).map (·.1))=nums o:=i6 o [] 0;have hl:(labels o).length=o.length:=by have:=c_ List.length hn;rw[aS] at this;rw[this];exact aS _
 have hi:a.length<(labels o).length:=by rw[hl];exact br e
 have h1:(labels o)[a.length]?=some (labels o)[a.length]:=c8 hi;have h2:(nums o)[a.length]?=some x.number:=by unfold nums;rw[gW,e,cX];rfl
 rw[<-hn,gW,h1] at h2;have h3:(labels o)[a.length].1=x.number:=di h2;have:=v9 (by rw[hn];exact W.nd) h1;rw[h3] at this;exact⟨_,this⟩
theorem JG{r:O}(W:Wf s)(e:s.nodes=a++x::r):Vanbkn.step s (.label (x.number:Int))=(s,tell ((labelIn (labels s.nodes) x.number).getD [])):=by show withNode s _ _=_;rw[aN W.n e rfl]
theorem BK:aG ["outline","number"] ["outline","number"] (ay ql):=eN
theorem JH(F:bB K mg "label_of" ql ["outline","number"])(T:Tz Z)(ax:uv Z)(cq:bo Z 2 "labels_of" ["nodes"] (lZ C))(bt:Kn Z):
 bo Z 3 "label_of" ["outline","number"] (eW C CO .label):=by
 refine F.fe BK λH Q E hr h=>?_;obtain⟨ob,dx,l,as,st,z,rfl,O,W,k⟩:=h;refine⟨_,(ae (aM (bE bC (pc ax hr (aa (aB (pv 0) rfl) (aa (pv 1) ag))) aZ) (aj (aw (aL (aa (eg T) ag)))) aA) (aj (aw (pc bt hr (aa (uD (qY hr) (pc cq hr (aa (aB (pv 0) rfl) ag)) (pv 1) (λ_ _=>rfl)) ag))))),?_⟩;refine⟨_,rfl,aU T O ⟨_,rfl,l,as,_,z,rfl,O.N,λH2 s2=>⟨rfl,_,rfl,?_⟩⟩⟩;have O2:=O.same s2;rcases aX (o:=st.nodes) z with hp|⟨a,x,r,e,hp,kU⟩
 .rw[hp];refine aK (λ_=>?_) (λh=>absurd (aR rfl) h);exact⟨aV,λq hq=>k.refuse O (dM W hp) s2 hq⟩
 rw[hp];refine aK (λh=>nomatch (aH h)) (λ_=>?_);subst kU;rw[JG W e] at k;refine⟨_,rfl,aU T O2 ⟨l,as,_,rfl,O2.N,W.n,λH3 d a6 s3 LD Tg=>?_⟩⟩;obtain⟨qt,lX⟩:=JF W.n e;rcases LD.find x.number with⟨h1,_⟩|⟨Td,a',h1,h2,h3⟩
 .rw[lX] at h1;cases h1
 rw[lX] at h1;cases h1;refine⟨_,rfl,d, .ref a',rfl,?_,?_⟩
 .have:=pS.k (k:=Sum.inl ((x.number:Nat):Int)) LD.at_;rw[h2] at this;exact this
 have PL:qt.length<=24:=by
  unfold labelIn at lX;cases f:(labels st.nodes).find? (λy=>y.1==x.number) with
  |none=>rw[f] at lX;cases lX
  |some q=>rw[f] at lX;cases lX;exact(fZ W.n q (xC f)).1
 refine⟨a',_,rfl,h3,by rw[aF];lia,λH4 p s4 Rb=>?_⟩;refine k.told O rfl ((s2.trans s3).trans s4) Rb ?_;rw[lX,BJ,aF];rfl
theorem Me{r:O}(W:Wf s)(e:s.nodes=a++x::r)(hz:(x.number:Int)=z):Vanbkn.step s (.text z)=(s,tell x.text):=by show withNode s _ _=_;rw[aN W.n e hz]
theorem wM:aG ["outline","number","position"] ["outline","number"] (ay sQ):=eN
theorem Mf(F:bB K mg "text_of" sQ ["outline","number"])(T:Tz Z)(ax:uv Z)(bt:Kn Z):bo Z 2 "text_of" ["outline","number"] (eW C CO .text):=by
 refine F.fe wM λH Q E hr h=>?_;obtain⟨ob,dx,l,as,st,z,rfl,O,W,k⟩:=h;refine⟨_,(ae (bD 2 wM (pc ax hr (aa (aB (pv 0) rfl) (aa (pv 1) ag)))) (ae (aM (bE bC (pv 2) aZ) (aj (aw (aL (aa (eg T) ag)))) aA) (aj (aw (pc bt hr (aa (aB (c5 aJ (aB (pv 0) rfl) (pv 2)) rfl) ag)))))),?_⟩;refine⟨_,rfl,aU T O ⟨_,rfl,l,as,_,z,rfl,O.N,λH2 s2=>?_⟩⟩;have O2:=O.same s2;refine⟨_,rfl,rfl,_,rfl,?_⟩;rcases aX (o:=st.nodes) z with hp|⟨a,x,r,e,hp,kU⟩
 .rw[hp];refine aK (λ_=>?_) (λh=>absurd (aR rfl) h);exact⟨aV,λq hq=>k.refuse O (dM W hp) s2 hq⟩
 rw[hp];refine aK (λh=>nomatch (aH h)) (λ_=>?_);rw[Me W e kU] at k;refine⟨_,rfl,aU T O2 ⟨_,rfl,cZ O2.N rfl (br e) λc _ hc=>iQ T hc λt ht=>?_⟩⟩;rw[fJ e] at ht;refine⟨t,_,rfl,ht,by rw[aF];have:=(W.txt (mem_of e)).1;lia,λH3 p s3 hp3=>?_⟩;refine k.told O rfl (s2.trans s3) hp3 ?_;rw[BJ,aF]
theorem JI{r:O}(W:Wf s)(e:s.nodes=a++x::r)(hz:(x.number:Int)=z):Vanbkn.step s (.shown z)=(s,tell (shownWith (labels s.nodes) x.text)):=by show withNode s _ _=_;rw[aN W.n e hz];rfl
theorem l6:aG ["outline","number","position"] ["outline","number"] (ay jj):=eN
theorem Gr(F:bB K mg "shown_text_of" jj ["outline","number"])(T:Tz Z)(ax:uv Z)(cq:bo Z 2 "labels_of" ["nodes"] (lZ C))(mK:bo Z 3 "shown" ["text","labels"] uP)(bt:Kn Z):bo Z 4 "shown_text_of" ["outline","number"] (eW C CO .shown):=by
 refine F.fe l6 λH Q E hr h=>?_;obtain⟨ob,dx,l,as,st,z,rfl,O,W,k⟩:=h;refine⟨_,(ae (bD 2 l6 (pc ax hr (aa (aB (pv 0) rfl) (aa (pv 1) ag)))) (ae (aM (bE bC (pv 2) aZ) (aj (aw (aL (aa (eg T) ag)))) aA) (aj (aw (pc bt hr (aa (pc mK hr (aa (aB (c5 aJ (aB (pv 0) rfl) (pv 2)) rfl) (aa (pc cq hr (aa (aB (pv 0) rfl) ag)) ag))) ag)))))),?_⟩;refine⟨_,rfl,aU T O ⟨_,rfl,l,as,_,z,rfl,O.N,λH2 s2=>?_⟩⟩;have O2:=O.same s2;refine⟨_,rfl,rfl,_,rfl,?_⟩;rcases aX (o:=st.nodes) z with hp|⟨a,x,r,e,hp,kU⟩
 .rw[hp];refine aK (λ_=>?_) (λh=>absurd (aR rfl) h);exact⟨aV,λq hq=>k.refuse O (dM W hp) s2 hq⟩
 rw[hp];refine aK (λh=>nomatch (aH h)) (λ_=>?_);rw[JI W e kU] at k;refine⟨_,rfl,aU T O2 ⟨_,rfl,cZ O2.N rfl (br e) λc _ hc=>iQ T hc λt ht=>?_⟩⟩;rw[fJ e] at ht;refine⟨_,rfl,aU T O2 ⟨l,as,_,rfl,O2.N,W.n,λH3 d a6 s3 LD Tg=>?_⟩⟩;have wg:∀q∈labels st.nodes,q.2.length<=24:=λq hq=>(fZ W.n q hq).1;refine⟨t,d,_,a6,_,rfl,s3 _ _ ht,(W.txt (mem_of e)).1,LD,wg,λH4 p4 s4 Rb=>?_⟩;have Uz:=o_ wg x.text (W.txt (mem_of e)).1;refine⟨p4,_,rfl,Rb,by rw[aF];lia,λH5 p s5 Mg=>?_⟩;refine k.told O rfl (((s2.trans s3).trans s4).trans s5) Mg ?_;rw[BJ,aF]
theorem Gs{ob:Obj}(Pv:Nat->L2.St->Hp->Prop)(h0:Pv 0 σ H)(hl:∀i σ H,i<=a6.length->Pv i σ H->H d=some (.jO ob (.dK a6)))(hs:∀i k v σ H t,a6[i]?=some (k,v)->Pv i σ H->H t=none->g (.ref t) σ (upd H t (.tup [kV k,v])) λσ2 H2=>tb {D with nx:=Pv (i+1),ct:=Pv (i+1),bk:=D.nx} σ2 H2)(hd:∀σ H,Pv a6.length σ H->D.nx σ H):
 ∃W:Nat->Nat->L2.St->Hp->Prop,(∃m,W 0 m σ H)/\ ∀i m σ H,W i m σ H->
  ((Sq d ob a6).stop i H/\ D.nx σ H)\/ ((Sq d ob a6).go i H/\ ∃N:L2.St->Hp->Prop,(∀σ' H',N σ' H'->∃m',m'<m/\ W (i+1) m' σ' H')/\ ∀x H',(Sq d ob a6).GR i H x H'->g x σ H' λσ2 H2=>tb {D with nx:=N,ct:=N,bk:=D.nx} σ2 H2):=by
 refine⟨λi m σ H=>m=a6.length - i/\ i<=a6.length/\ Pv i σ H,⟨a6.length,(Nat.sub_zero _).symm,a8 _,h0⟩,?_⟩;rintro i m σ H ⟨rfl,hi,p⟩;have q:=hl i σ H hi p;by_cases fH:i<a6.length
 .refine .inr ⟨⟨q,fH⟩,Pv (i+1),λσ' H' p'=>⟨a6.length - (i+1),by lia,rfl,fH,p'⟩,λx H' y=>?_⟩;obtain⟨t,k,v,Nb,rfl,ht,rfl⟩:=y;exact hs i k v σ _ t Nb p ht
 .have e:i=a6.length:=by lia
  subst e;exact .inl ⟨⟨q,aQ _⟩,hd σ H p⟩
inductive E2(C CO:Addr)(c:List Int->Vanbkn.Call)(vs:List V)(H:Hp)(Q:VK)(_E:XK):Prop
 |mk (ob dx l r:Addr) (as:List Addr) (s:Vanbkn.State) (t:List Int) (h1:vs=[.ref ob, .ref r]) (h2:a9 C CO H ob dx l as s) (h3:Wf s) (h4:H r=some (.lst (aT t))) (h5:t.length<=10000) (h6:d_ C CO H ob (Vanbkn.step s (c t)) Q)
theorem find_eq(s:Vanbkn.State)(t:List Int):Vanbkn.step s (.find t)=match (labels s.nodes).find? λx=>x.2==textOf t with
 |some x=>(s,⟨(x.1:Nat),[]⟩)
 |none=>refused s (-13):=rfl
theorem Mh{α:Type}{p:α->Bool}{l:List α}{x:α}(h:l[i]?=some x)(hp:p x=true)(hn:∀y∈l.take i,p y=false):l.find? p=some x:=by
 obtain⟨hi,hx⟩:=dm.mp h;have e:l=l.take i++x::l.drop (i+1):=by rw[<-hx];simp
 rw[e,Oc,G2.mpr (λy hy=>by rw[hn y hy];decide),rW,hp];rfl
theorem lx:aG ["outline","told","number","label"] ["outline","told"] (ay mC):=eN
theorem Mi(F:bB K mg "find_label" mC ["outline","told"])(T:Tz Z)(cq:bo Z 2 "labels_of" ["nodes"] (lZ C)):bo Z 3 "find_label" ["outline","told"] (E2 C CO .find):=by
 refine F.fe lx λH Q E hr h=>?_;obtain⟨ob,dx,l,r,as,st,t,rfl,O,W,hR,hz,k⟩:=h;refine⟨_,(ae (eB PassesOwn.never rfl (HQ (PX (pc cq hr (aa (aB (pv 0) rfl) ag)))) (nF rfl (bZ (jB 2 lx) (bZ (jB 3 lx) jE))) (aj (aM (bE (wC hr.units) (pv 3) (pv 1)) (aj (aw (aL (aa (pv 2) ag)))) aA))) (aj (aw (aL (aa (eg T) ag))))),?_⟩;rw[find_eq] at k;refine⟨_,rfl,aU T O ⟨l,as,_,rfl,O.N,W.n,λH2 d a6 s2 LD Tg=>⟨d,_,rfl,LD.at_,trivial,λod=>⟨d,od,a6,rfl,ah,?_⟩⟩⟩⟩;have s3:aD H (upd H2 d (.jO od (.dK a6))):=s2.put Tg;have hit:∀(i:Nat)(q:Nat×List Nat),(labels st.nodes)[i]?=some q->∃a,a6[i]?=some (Sum.inl (q.1:Int),V.ref a)/\ upd H2 d (.jO od (.dK a6)) a=some (.lst (aI q.2)):=λi q hq=>by obtain⟨a,h1,h2⟩:=LD.items i q hq;exact⟨a,h1,by rw[az (jy h2 LD.at_ (by intro z;cases z))];exact h2⟩
 refine Gs (λi σ H'=>∃v2 v3:Option V,σ=[some (.ref ob),some (.ref r),v2,v3]/\ aD (upd H2 d (.jO od (.dK a6))) H'/\ ∀q∈(labels st.nodes).take i,(q.2==textOf t)=false)
  ⟨none,none,rfl,aD.refl _,by simp⟩ (λi σ H' _ ⟨_,_,_,s4,_⟩=>s4 _ _ ah) ?_ ?_
 .rintro i kk vv σ H' tt Nb ⟨v2,v3,rfl,s4,rQ⟩ Dh;have m_:i<(labels st.nodes).length:=by rw[<-LD.len];exact(dm.mp Nb).1
  obtain⟨a,h1,h2⟩:=hit i _ (c8 m_);rw[Nb] at h1;cases h1;have hq:(labels st.nodes)[i]?=some (labels st.nodes)[i]:=c8 m_;generalize (labels st.nodes)[i]=q at hq h2 Nb⊢;have YC:∀c∈q.2,c<=255:=λc hc=>by
   have:=(fZ W.n q (cI hq)).2 c hc
   lia
  have s5:aD (upd H2 d (.jO od (.dK a6))) (upd H' tt (.tup [kV (Sum.inl (q.1:Int)),V.ref a])):=s4.new Dh;refine⟨tt,_,rfl,i_.of ah,rfl,_,_,rfl,_,_,rfl,rfl,?_⟩;refine⟨_,rfl,_,rfl,a,r,gj q.2,t,rfl,rfl,by rw[s5 _ _ h2,i7],s5 _ _ (s3 _ _ hR),_,rfl,?_⟩;refine aK (λhc=>?_) (λhc=>?_)
  .have hc:gj q.2=t:=aH hc;have he:(q.2==textOf t)=true:=by rw[kx];exact(iu YC).mpr hc
   rw[Mh hq he rQ] at k;refine⟨_,rfl,aV,λp hp=>?_⟩;exact k.told O rfl ((s3.trans s5).new hp) ah rfl
  .refine⟨_,_,rfl,s5,λy hy=>?_⟩;rw[take_snoc hq] at hy;rcases dY.mp hy with hy|hy
   .exact rQ y hy
   .simp at hy;subst hy;rw[nA];intro he;exact hc (aR ((iu YC).mp he))
 .rintro σ H' ⟨v2,v3,rfl,s4,rQ⟩;rw[LD.len,fq] at rQ;have hf:((labels st.nodes).find? λx=>x.2==textOf t)=none:=G2.mpr λy hy=>by rw[rQ y hy];decide
  rw[hf] at k;exact⟨aV,λp hp=>k.refuse O rfl (s3.trans s4) hp⟩
theorem mL(l:List Nd):aT (encode (tellNodes l))=V.int (l.length:Nat)::aI (nums l):=by show aT (encode (tell (l.map λx=>x.number)))=_;rw[BJ,aS];rfl
theorem wN{as:List Addr}{o:O}(h:as.length=o.length)(c:Nd->Bool):((as.zip o).filterMap λp=>if c p.2=true then some (V.int (p.2.number:Nat)) else none)=aI (nums (o.filter c)):=by
 rw[C3 h (λx=>if c x=true then some (V.int (x.number:Nat)) else none)];unfold aI nums;rw[ip];induction o generalizing as with
 |nil=>rfl
 |cons x o ih=>
  cases as with
  |nil=>cases h
  |cons a as=>
   have ih:=ih (as:=as) (by simpa using h);by_cases hc:c x=true
   .rw[rT,rV,aq hc,aq hc,ih];rfl
   .rw[rT,rV,ak hc,ak hc,ih]
theorem Mj{r:O}(W:Wf s)(e:s.nodes=a++x::r):Vanbkn.step s (.referring (x.number:Int))=(s,tellNodes (s.nodes.filter λy=>(refs y.text).contains x.number)):=by show withNode s _ _=_;rw[aN W.n e rfl]
theorem fC:aG ["outline","number","nodes","node"] ["outline","number"] (ay j5):=eN
theorem Ml(F:bB K mg "referring_to" j5 ["outline","number"])(T:Tz Z)(ax:uv Z)(bM:bo Z 4 "numbers_referred" ["text"] zy)(bt:Kn Z):
 bo Z 5 "referring_to" ["outline","number"] (eW C CO .referring):=by
 refine F.fe fC λH Q E hr h=>?_;obtain⟨ob,dx,l,as,st,z,rfl,O,W,k⟩:=h;refine⟨_,(ae (bD 2 fC (aB (pv 0) rfl)) (ae (aM (bE bC (pc ax hr (aa (pv 2) (aa (pv 1) ag))) aZ) (aj (aw (aL (aa (eg T) ag)))) aA) (aj (aw (pc bt hr (aa (kH rfl fC.nd (bL (pv 2)) (own:=[("node",3)]) (Cb fC) (λ_ _ _ _ _=>(jB 3 fC)) (λ_ _ _ _ _=>(kG (bE (C2 (K:=K) rfl) (pv 1) (pc bM hr (aa (d8 (K:=K) rfl (pv 3) rfl) ag)) rfl))) (λ_ _ _ _ _=>(d8 (K:=K) rfl (pv 3) rfl))) ag)))))),?_⟩;refine⟨_,rfl,aU T O ?_⟩;refine⟨_,rfl,_,rfl,l,as,_,z,rfl,O.N,λH2 s2=>⟨rfl,_,rfl,?_⟩⟩;have O2:=O.same s2;rcases aX (o:=st.nodes) z with hp|⟨a,x,r,e,hp,kU⟩
 .rw[hp];refine aK (λ_=>?_) (λh=>absurd (aR rfl) h);exact⟨aV,λq hq=>k.refuse O (dM W hp) s2 hq⟩
 rw[hp];refine aK (λh=>nomatch (aH h)) (λ_=>?_);subst kU;rw[Mj W e] at k;refine⟨_,rfl,l,rfl,⟨_,bf.of O2.N.lst⟩,λD hD=>?_⟩;refine f9 (K:=K) (a:=l) (λq=>if(refs q.2.text).contains x.number=true then some (V.int (q.2.number:Nat)) else none) O2.N.zip hD O2.N.LH (λm q H4 hq s4 R R0 k1 k2=>?_) (λH4 s4 h4=>?_)
 .have hn:=(O2.N.at2 hq).same s4;have gR:q.2∈st.nodes:=cI (qm hq).2;refine⟨rfl,_,rfl,_,rfl,iQ T hn λt ht=>⟨t,_,rfl,ht,(W.txt gR).1,λH5 p5 s5 h5=>⟨p5,_,rfl, .inl (bf.of h5),rfl,sY _,_,rfl,?_⟩⟩⟩;rw[ak (show¬(false=true) by decide),wL];by_cases uH:x.number∈refs q.2.text
  .rw[aR uH];refine eD ⟨_,rfl,bW T (hn.same s5) (k1 _ _ s5 (aq ?_))⟩;simpa using uH
  .rw[cP uH];refine fL (k2 _ s5 (ak ?_));simpa using uH
 .rw[wN O2.N.len (λy=>(refs y.text).contains x.number)] at h4;have Mm:=lF (λy:Nd=>(refs y.text).contains x.number) st.nodes;have hw:=W.n.len;have NQ:(aI (nums (st.nodes.filter λy=>(refs y.text).contains x.number))).length=(st.nodes.filter λy=>(refs y.text).contains x.number).length:=by rw[aF];exact aS _
  refine⟨D,_,rfl,h4,by rw[NQ];exact bp Mm (by lia),λH5 p s5 Mg=>?_⟩;refine k.told O rfl ((s2.trans s4).trans s5) Mg ?_;rw[mL,NQ]
def kX(o:O)(t:List Nat):Bool:=(refs t).any λk=> !Vanbkn.has o k
inductive BL(C:Addr)(vs:List V)(H:Hp)(Q:VK)(_E:XK):Prop
 |mk (l r:Addr) (as:List Addr) (o:O) (t:List Nat) (h1:vs=[.ref l, .ref r]) (h2:NL C H l as o) (h3:H r=some (.lst (aI t))) (h4:t.length<=60) (h5:∀H',aD H H'->Q (.bl (kX o t)) H')
theorem wO(t:List Nat):(refs t).length<=t.length:=by rw[<-vX,aS];exact bp (DN _ _) (mI _ _ _)
theorem jM:aG ["nodes","text","number"] ["nodes","text"] (ay oy):=eN
theorem BM(F:bB K mg "is_broken" oy ["nodes","text"])(T:Tz Z)(ax:uv Z)(bM:bo Z 4 "numbers_referred" ["text"] zy):bo Z 5 "is_broken" ["nodes","text"] (BL C):=by
 refine F.fe jM λH Q E hr h=>?_;obtain⟨l,r,as,o,t,rfl,N,hR,hz,k⟩:=h;refine⟨_,(aj (aw (fM (Cs rfl) (by rfl) T.any C1 (aa (kH rfl jM.nd (bL (pc bM hr (aa (pv 1) ag))) (own:=[("number",2)]) (Cb jM) (λ_ _ _ _ _=>(jB 2 jM)) (λ_ _ _ _ _=>kF) (λ_ _ _ _ _=>(jF bC (pc ax hr (aa (pv 0) (aa (pv 2) ag))) aZ (k5 _)))) ag)))),?_⟩;refine⟨_,rfl,r,t,rfl,hR,hz,λH2 p s2 hP=>⟨p,rfl,⟨_,bf.of hP⟩,λD hD=>?_⟩⟩;have NB:=wO t;refine f9 (K:=K) (a:=p) (ys:=refs t) (v:=λc:Nat=>V.int (c:Int)) (λn=>some (V.bl (!Vanbkn.has o n))) (bf.of hP) hD (eM (by lia)) (λm q H4 hq s4 R R0 k1 k2=>?_) (λH4 s4 h4=>?_)
 .refine⟨rfl,Bk ⟨_,rfl,_,rfl,l,as,o,_,rfl,N.same (s2.trans s4),λH5 s5=>⟨rfl,?_⟩⟩⟩;refine k1 _ _ s5 ?_;rw[uJ];cases c9 o (q:Int) with
  |none=>rfl
  |some i=>rfl
 .rw[Nv (refs t) (λn=> !Vanbkn.has o n)] at h4;refine⟨D,_,rfl,bf.of h4,?_⟩;rw[qo];exact k _ (s2.trans s4)
theorem ig:aG ["outline","nodes","node"] ["outline"] (ay oz):=eN
theorem Gu(F:bB K mg "broken_in" oz ["outline"])(T:Tz Z)(qx:bo Z 5 "is_broken" ["nodes","text"] (BL C))(bt:Kn Z):bo Z 6 "broken_in" ["outline"] (lu C CO .broken):=by
 refine F.fe ig λH Q E hr h=>?_;obtain⟨ob,dx,l,as,st,rfl,O,W,k⟩:=h;refine⟨_,(ae (bD 1 ig (aB (pv 0) rfl)) (aj (aw (pc bt hr (aa (kH rfl ig.nd (bL (pv 1)) (own:=[("node",2)]) (Cb ig) (λ_ _ _ _ _=>(jB 2 ig)) (λ_ _ _ _ _=>(kG (gk (pc qx hr (aa (pv 1) (aa (d8 (K:=K) rfl (pv 2) rfl) ag)))))) (λ_ _ _ _ _=>(d8 (K:=K) rfl (pv 2) rfl))) ag))))),?_⟩;refine⟨_,rfl,aU T O ?_⟩;refine⟨_,rfl,l,rfl,⟨_,bf.of O.N.lst⟩,λD hD=>?_⟩;refine f9 (K:=K) (a:=l) (λq=>if kX st.nodes q.2.text=true then some (V.int (q.2.number:Nat)) else none) O.N.zip hD O.N.LH (λm q H4 hq s4 R R0 k1 k2=>?_) (λH4 s4 h4=>?_)
 .have hn:=(O.N.at2 hq).same s4;have gR:q.2∈st.nodes:=cI (qm hq).2;refine⟨rfl,_,rfl,_,rfl,iQ T hn λt ht=>⟨l,t,as,_,_,rfl,O.N.same s4,ht,(W.txt gR).1,λH5 s5=>⟨_,rfl,?_⟩⟩⟩;cases hb:kX st.nodes q.2.text with
  |true=>exact eD ⟨_,rfl,bW T (hn.same s5) (k1 _ _ s5 (aq hb))⟩
  |false=>exact fL (k2 _ s5 (ak (by rw[hb];decide)))
 .rw[wN O.N.len (λy=>kX st.nodes y.text)] at h4;have Mm:=lF (λy:Nd=>kX st.nodes y.text) st.nodes;have hw:=W.n.len;have NQ:(aI (nums (st.nodes.filter λy=>kX st.nodes y.text))).length=(st.nodes.filter λy=>kX st.nodes y.text).length:=by rw[aF];exact aS _
  refine⟨D,_,rfl,h4,by rw[NQ];exact bp Mm (by lia),λH5 p s5 Mg=>?_⟩;refine k.told O rfl (s4.trans s5) Mg ?_;show _=aT (encode (tellNodes (st.nodes.filter λy=>kX st.nodes y.text)));rw[mL,NQ]
inductive BN(vs:List V)(H:Hp)(Q:VK)(_E:XK):Prop
 |mk (a r:Addr) (t:List Int) (y:List Nat) (h1:vs=[.ref a, .ref r]) (h2:H a=some (.lst (aT t))) (h3:H r=some (.lst (aI y))) (h4:t.length<=10000) (h5:y.length<=10000) (h6:(∀c∈y,c<=255)) (h7:∀H',aD H H'->Q (.bl (holds (textOf t) y)) H')
theorem rH:aG ["run","row","start"] ["run","row"] (ay oA):=eN
theorem Gv(F:bB K mg "stands_in" oA ["run","row"])(T:Tz Z):bo Z 1 "stands_in" ["run","row"] BN:=by
 refine F.fe rH λH Q E hr h=>?_;obtain⟨a,r,t,y,rfl,hA,hR,Yl,WS,YD,k⟩:=h;refine⟨_,(ae (eB PassesOwn.never rfl (xN rfl T.range (aa (bc bO (bc gm (pd T (aa (pv 1) ag)) (pd T (aa (pv 0) ag))) au) ag)) (jB 2 rH) (aj (aM (bE (wC hr.units) (bh bz (pv 1) (aW (pv 2)) (aW (bc bO (pv 2) (pd T (aa (pv 0) ag))))) (pv 0)) (aj (aw D9)) aA))) (aj (aw D9))),?_⟩;refine⟨_,rfl,r,_,rfl, .inl (bf.of hR),_,rfl,a,_,rfl, .inl (bf.of hA),_,_,rfl,rfl,_,_,rfl,rfl,_,rfl,?_,?_,?_⟩
 .rw[aF,bA];lia
 .rw[aF,bA];lia
 rw[aF,bA];refine Fx (λi σ H'=>∃v2:Option V,σ=[some (.ref a),some (.ref r),v2]/\ aD H H'/\ ∀j,j<i->¬gj ((y.drop j).take t.length)=t) ⟨none,rfl,aD.refl _,λj hj=>by lia⟩ ?_ ?_
 .rintro i σ H' hi ⟨v2,rfl,s1,rQ⟩;refine⟨_,rfl,_,rfl,_,rfl,_,rfl,_,rfl,a,_,rfl, .inl (bf.of (s1 _ _ hA)),_,_,rfl,rfl,_,rfl,r,_,rfl,bf.of (s1 _ _ hR),λp hp=>?_⟩;rw[bA];have sT:d5 (aI y) (some ((0:Int)+(i:Nat))) (some ((0:Int)+(i:Nat)+(t.length:Nat)))=aI ((y.drop i).take t.length):=by rw[Int.zero_add,lV,gP,fT]
  rw[sT];have s2:=s1.new hp (u:= .lst (aI ((y.drop i).take t.length)));refine⟨_,rfl,p,a,gj ((y.drop i).take t.length),t,rfl,rfl,by rw[ah,i7],s2 _ _ hA,_,rfl,?_⟩;refine aK (λhc=>?_) (λhc=>?_)
  .have hc:=aH hc;have e:holds (textOf t) y=true:=(wc YD).mpr ⟨i,by lia,hc⟩;have q:=k _ s2;rw[e] at q;exact q
  .refine⟨_,rfl,s2,λj hj=>?_⟩;by_cases P7:j=i
   .rw[P7];exact cH hc
   .exact rQ j (by lia)
 .rintro σ H' ⟨v2,rfl,s1,rQ⟩;have e:holds (textOf t) y=false:=by
   cases h:holds (textOf t) y with
   |false=>rfl
   |true=>obtain⟨i,h1,h2⟩:=(wc YD).mp h;exact absurd h2 (rQ i (by lia))
  have q:=k _ s1;rw[e] at q;exact q
theorem gu:aG ["outline","told","labels","node"] ["outline","told"] (ay mD):=eN
theorem Gw(F:bB K mg "search_for" mD ["outline","told"])(T:Tz Z)(cq:bo Z 2 "labels_of" ["nodes"] (lZ C))(mK:bo Z 3 "shown" ["text","labels"] uP)(qy:bo Z 1 "stands_in" ["run","row"] BN)(bt:Kn Z):bo Z 4 "search_for" ["outline","told"] (E2 C CO .search):=by
 refine F.fe gu λH Q E hr h=>?_;obtain⟨ob,dx,l,r,as,st,t,rfl,O,W,hR,hz,k⟩:=h;refine⟨_,(ae (bD 2 gu (pc cq hr (aa (aB (pv 0) rfl) ag))) (aj (aw (pc bt hr (aa (kH rfl gu.nd (bL (aB (pv 0) rfl)) (own:=[("node",3)]) (Cb gu) (λ_ _ _ _ _=>(jB 3 gu)) (λ_ _ _ _ _=>(kG (gk (pc qy hr (aa (pv 1) (aa (pc mK hr (aa (d8 (K:=K) rfl (pv 3) rfl) (aa (pv 2) ag))) ag)))))) (λ_ _ _ _ _=>(d8 (K:=K) rfl (pv 3) rfl))) ag))))),?_⟩;refine⟨_,rfl,aU T O ⟨l,as,_,rfl,O.N,W.n,λH2 d a6 s2 LD Tg=>?_⟩⟩;have O2:=O.same s2;have wg:∀q∈labels st.nodes,q.2.length<=24:=λq hq=>(fZ W.n q hq).1;have hlb:∀q∈labels st.nodes,∀c∈q.2,35<=c/\ c<=57:=λq hq=>(fZ W.n q hq).2;refine⟨_,rfl,aU T O2 ⟨l,rfl,⟨_,bf.of O2.N.lst⟩,λD hD=>?_⟩⟩;refine f9 (K:=K) (a:=l) (λq=>if holds (textOf t) (shownWith (labels st.nodes) q.2.text)=true then some (V.int (q.2.number:Nat)) else none) O2.N.zip hD O2.N.LH (λm q H4 hq s4 R R0 k1 k2=>?_) (λH4 s4 h4=>?_)
 .have hn:=(O2.N.at2 hq).same s4;have gR:q.2∈st.nodes:=cI (qm hq).2;have pJ:=W.txt gR;have Uz:=o_ wg q.2.text pJ.1;refine⟨rfl,_,rfl,_,rfl,iQ T hn λtt Dh=>⟨_,rfl,tt,d,_,a6,_,rfl,Dh,pJ.1,LD.same s4,wg,λH5 p5 s5 h5=>⟨r,p5,t,_,rfl,s5 _ _ (s4 _ _ (s2 _ _ hR)),h5,hz,by lia,Bc hlb _ pJ.2,λH6 s6=>⟨_,rfl,?_⟩⟩⟩⟩;cases hb:holds (textOf t) (shownWith (labels st.nodes) q.2.text) with
  |true=>exact eD ⟨_,rfl,bW T ((hn.same s5).same s6) (k1 _ _ (s5.trans s6) (aq hb))⟩
  |false=>exact fL (k2 _ (s5.trans s6) (ak (by rw[hb];decide)))
 .rw[wN O2.N.len (λy=>holds (textOf t) (shownWith (labels st.nodes) y.text))] at h4;have Mm:=lF (λy:Nd=>holds (textOf t) (shownWith (labels st.nodes) y.text)) st.nodes;have hw:=W.n.len;have NQ:(aI (nums (st.nodes.filter λy=>holds (textOf t) (shownWith (labels st.nodes) y.text)))).length=(st.nodes.filter λy=>holds (textOf t) (shownWith (labels st.nodes) y.text)).length:=by rw[aF];exact aS _
  refine⟨D,_,rfl,h4,by rw[NQ];exact bp Mm (by lia),λH5 p s5 Mg=>?_⟩;refine k.told O rfl ((s2.trans s4).trans s5) Mg ?_;show _=aT (encode (tellNodes (st.nodes.filter λy=>holds (textOf t) (shownWith (labels st.nodes) y.text))));rw[mL,NQ]
theorem Gx{r:O}(W:Wf s)(e:s.nodes=a++x::r)(hz:(x.number:Int)=z):Vanbkn.step s (.references z)=(s,⟨((refs x.text).length:Nat),(refs x.text).flatMap λk:Nat=>[(k:Int),b2 (Vanbkn.has s.nodes k)]⟩):=by show withNode s _ _=_;rw[aN W.n e hz];rfl
theorem dE:aG ["outline","number","nodes","position","referred","answer","target"] ["outline","number"] (ay jk):=eN
theorem Gy(F:bB K mg "references_of" jk ["outline","number"])(T:Tz Z)(ax:uv Z)(bM:bo Z 4 "numbers_referred" ["text"] zy):
 bo Z 5 "references_of" ["outline","number"] (eW C CO .references):=by
 refine F.fe dE λH Q E hr h=>?_;obtain⟨ob,dx,l,as,st,z,rfl,O,W,k⟩:=h;refine⟨_,(ae (bD 2 dE (aB (pv 0) rfl)) (ae (bD 3 dE (pc ax hr (aa (pv 2) (aa (pv 1) ag)))) (ae (aM (bE bC (pv 3) aZ) (aj (aw (aL (aa (eg T) ag)))) aA) (ae (bD 4 dE (pc bM hr (aa (aB (c5 aJ (pv 2) (pv 3)) rfl) ag))) (ae (bD 5 dE (aL (aa (pd T (aa (pv 4) ag)) ag))) (ae (eB PassesOwn.never rfl (bL (pv 4)) (jB 6 dE) (ae (bF (e_ eL iW iX cw (pv 5) (aa (pv 6) ag))) (aj (bF (e_ eL iW iX cw (pv 5) (aa (gZ (bE bC (pc ax hr (aa (pv 2) (aa (pv 6) ag))) aZ) au au) ag)))))) (aj (aw (pv 5))))))))),?_⟩;refine⟨_,rfl,aU T O ?_⟩;refine⟨_,rfl,_,rfl,l,as,_,z,rfl,O.N,λH2 s2=>?_⟩;have O2:=O.same s2;refine⟨_,rfl,rfl,_,rfl,?_⟩;rcases aX (o:=st.nodes) z with hp|⟨a,x,r,e,hp,kU⟩
 .rw[hp];refine aK (λ_=>?_) (λh=>absurd (aR rfl) h);exact⟨aV,λq hq=>k.refuse O (dM W hp) s2 hq⟩
 rw[hp];refine aK (λh=>nomatch (aH h)) (λ_=>?_);rw[Gx W e kU] at k;have pJ:=W.txt (mem_of e);refine⟨_,rfl,_,rfl,cZ O2.N rfl (br e) λc _ hc=>iQ T hc λt ht=>?_⟩;rw[fJ e] at ht;refine⟨t,_,rfl,ht,pJ.1,λH3 p s3 hP=>?_⟩;refine⟨_,rfl,p,_,rfl, .inl (bf.of hP),aV,λb hb=>?_⟩;rw[aF];have jC:=s2.trans s3;have Ta:H b=none:=jC.free hb;have U3:p≠b:=ba hP hb;have NB:=wO x.text;have hf:∀i,(((refs x.text).take i).flatMap λk:Nat=>[(k:Int),b2 (Vanbkn.has st.nodes k)]).length<=2*(refs x.text).length:=λi=>pk _ 2 i λx _=>by simp
 refine⟨_,rfl,p,rfl,⟨_,bf.of (a7 hP hb)⟩,dG (K:=K) (a:=p) (xs:=aI (refs x.text)) (λi σ H'=>∃v6:Option V,σ=[some (.ref ob),some (.int z),some (.ref l),some (.int (a.length:Nat)),some (.ref p),some (.ref b),v6]/\ aD H H'/\ H' p=some (.lst (aI (refs x.text)))/\
  H' b=some (.lst (aT (((refs x.text).length:Int)::((refs x.text).take i).flatMap λk:Nat=>[(k:Int),b2 (Vanbkn.has st.nodes k)]))))
  ⟨none,rfl,jC.new hb,a7 hP hb,ah⟩ (λi σ H' _ ⟨_,_,_,Xa,_⟩=>bf.of Xa) ?_ ?_⟩
 .rintro i y σ H' hi ⟨v6,rfl,s4,Tb,hB⟩;obtain⟨n,hn,rfl⟩:=get_map hi;have Q8:=hf i;refine⟨_,rfl, .inl ⟨rfl,_,bf.of hB⟩,_,rfl,b,_,_,rfl,rfl,hB,eM (by rw[bA,cj];lia),?_⟩;have s5:=s4.put Ta (u:= .lst (aT (((refs x.text).length:Int)::((refs x.text).take i).flatMap λk:Nat=>[(k:Int),b2 (Vanbkn.has st.nodes k)])++[V.int (n:Nat)]));refine⟨_,rfl, .inl ⟨rfl,_,bf.of ah⟩,_,rfl,_,rfl,l,as,_,(n:Int),rfl,O.N.same s5,λH6 s6=>⟨rfl,_,rfl,?_⟩⟩;have fin:∀m:Int,m=b2 (Vanbkn.has st.nodes n)->∀D:Ends,D.nx=(λσ H'=>∃v6:Option V,σ=[some (.ref ob),some (.int z),some (.ref l),some (.int (a.length:Nat)),some (.ref p),some (.ref b),v6]/\ aD H H'/\ H' p=some (.lst (aI (refs x.text)))/\
   H' b=some (.lst (aT (((refs x.text).length:Int)::((refs x.text).take (i+1)).flatMap λk:Nat=>[(k:Int),b2 (Vanbkn.has st.nodes k)]))))->Eg (V.ref b) [V.int m] H6 λ_ H7=>D.nx [some (.ref ob),some (.int z),some (.ref l),some (.int (a.length:Nat)),some (.ref p),some (.ref b),some (V.int (n:Nat))] H7:=λm hm D hD=>by
   refine⟨b,_,_,rfl,rfl,s6 _ _ ah,eM (by rw[a_,bA,cj];show _+1<100000;lia),?_⟩;rw[hD];refine⟨_,rfl,(s5.trans s6).put Ta,?_,?_⟩
   .rw[az U3];refine s6 _ _ ?_;rw[az U3];exact Tb
   .rw[ah,pj _ hn,<-iT,<-fj,dQ,hm];rfl
  cases YE:c9 st.nodes (n:Int) with
  |none=>refine aK (λ_=>?_) (λh=>absurd (aR rfl) h);exact fin 0 (by rw[uJ,YE];rfl) _ rfl
  |some j=>refine aK (λh=>nomatch (aH h)) (λ_=>?_);exact fin 1 (by rw[uJ,YE];rfl) _ rfl
 .rintro σ H' ⟨v6,rfl,s4,Tb,hB⟩;rw[aF,fq] at hB;exact⟨_,rfl,k.told O rfl s4 hB rfl⟩
def mM(d:Int)(x:Nd):Bool:= !x.cell&&decide ((x.depth:Int)<=d)
def pK(ls:List (Nat×List Nat))(x:Nd):List Int:=(x.number:Int)::((((labelIn ls x.number).getD []).length:Nat):Int)::gj ((labelIn ls x.number).getD [])++(((shownWith ls x.text).length:Nat):Int)::gj (shownWith ls x.text)
theorem zF(s:Vanbkn.State)(d:Int):Vanbkn.step s (.contents d)=if 1<=d/\ d<=7 then(s,⟨((s.nodes.filter (mM d)).length:Nat),(s.nodes.filter (mM d)).flatMap (pK (labels s.nodes))⟩) else refused s (-12):=by
 show(if depthIn d=true then(s,Vanbkn.tellContents s d) else refused s (-12))=_;by_cases h:1<=d/\ d<=7
 .have h1:depthIn d=true:=by unfold depthIn;exact aR h
  rw[aq h,aq h1];rfl
 .have h1:¬depthIn d=true:=by unfold depthIn;exactλq=>h (iY q)
  rw[ak h,ak h1]
theorem wQ{o:O}(W:lO o)(hx:x∈o):∃qt,labelIn (labels o) x.number=some qt/\ qt.length<=24:=by
 obtain⟨a,r,e⟩:=Kw hx;obtain⟨qt,lX⟩:=JF W e;refine⟨qt,lX,?_⟩;unfold labelIn at lX;cases f:(labels o).find? (λy=>y.1==x.number) with
 |none=>rw[f] at lX;cases lX
 |some q=>rw[f] at lX;cases lX;exact(fZ W q (xC f)).1
theorem BO{o:O}(W:lO o)(hx:x∈o):(pK (labels o) x).length<=747:=by
 obtain⟨qt,h1,h2⟩:=wQ W hx;have wg:∀q∈labels o,q.2.length<=24:=λq hq=>(fZ W q hq).1;have h3:=Bb wg x.text;have h4:=(W.good x hx).txt.1;unfold pK gj;rw[h1];rw[a_,cj,cj,cj,aS,aS];show qt.length+1+1+((shownWith (labels o) x.text).length+1)<=747
 lia
theorem dI:aG ["outline","depth","labels","sections","answer","section","node"] ["outline","depth"] (ay lp):=eN
theorem BP(F:bB K mg "contents_to" lp ["outline","depth"])(T:Tz Z)(cq:bo Z 2 "labels_of" ["nodes"] (lZ C))(mK:bo Z 3 "shown" ["text","labels"] uP)(bt:Kn Z):
 bo Z 4 "contents_to" ["outline","depth"] (eW C CO .contents):=by
 refine F.fe dI λH Q E hr h=>?_;obtain⟨ob,dx,l,as,st,d,rfl,O,W,k⟩:=h;refine⟨_,(ae (aM (PW.pt (gh (bE g0 (pv 1) au) (gz (bE gK (pv 1) (eg T))))) (aj (aw (aL (aa (eg T) ag)))) aA) (ae (bD 2 dI (pc cq hr (aa (aB (pv 0) rfl) ag))) (ae (Aw (i:=3) rfl dI.nd rfl rfl (Ek rfl rfl rfl rfl) (bL (aB (pv 0) rfl)) (own:=[("node",6)]) (Cb dI) (λ_ _ _ _ _=>(jB 6 dI)) (λ_ _ _ _ _=>(kG (PW.pt (gY (bE bw (d8 (K:=K) rfl (pv 6) rfl) au) (fX (bE vj (d8 (K:=K) rfl (pv 6) rfl) (pv 1))))))) (λ_ _ _ _ _=>(pv 6))) (ae (bD 4 dI (aL (aa (pd T (aa (pv 3) ag)) ag))) (ae (eB PassesOwn.never rfl (bL (pv 3)) (jB 5 dI) (ae (bF (e_ eL iW iX cw (pv 4) (aa (aB (pv 5) rfl) ag))) (ae (bF (e_ eL qN qO fY (pv 4) (aa (pc bt hr (aa (uD (qY hr) (pv 2) (aB (pv 5) rfl) (λ_ _=>rfl)) ag)) ag))) (aj (bF (e_ eL qN qO fY (pv 4) (aa (pc bt hr (aa (pc mK hr (aa (aB (pv 5) rfl) (aa (pv 2) ag))) ag)) ag))))))) (aj (aw (pv 4)))))))),?_⟩;rw[zF] at k;refine⟨_,rfl,_,_,rfl,rfl,_,rfl,?_⟩;refine aK (λh1=>eD ?_) (λh1=>?_)
 .rw[ak (λh=>by have:=aH h1;lia)] at k;exact⟨aV,λq hq=>k.refuse O rfl (aD.refl _) hq⟩
 have h1:=cH h1;refine⟨_,rfl,_,_,rfl,rfl,_,rfl,?_⟩;refine aK (λh2=>?_) (λh2=>?_)
 .rw[ak (λh=>by have:=aH h2;lia)] at k;exact⟨aV,λq hq=>k.refuse O rfl (aD.refl _) hq⟩
 have h2:=cH h2;rw[aq (by lia)] at k;have hw:=W.n.len;have wg:∀q∈labels st.nodes,q.2.length<=24:=λq hq=>(fZ W.n q hq).1;refine⟨_,rfl,aU T O ⟨l,as,_,rfl,O.N,W.n,λH2 dd a6 s2 LD Tg=>?_⟩⟩;have O2:=O.same s2;refine⟨_,rfl,aU T O2 ⟨l,rfl,⟨_,bf.of O2.N.lst⟩,λD hD=>?_⟩⟩;refine f9 (K:=K) (a:=l) (λq=>if mM d q.2=true then some (V.ref q.1) else none) O2.N.zip hD O2.N.LH (λm q H4 hq s4 R R0 k1 k2=>?_) (λH4 s4 h4=>?_)
 .have hn:=(O2.N.at2 hq).same s4;refine⟨rfl,_,rfl,fI T hn ⟨rfl,_,rfl,?_⟩⟩;cases bR:q.2.cell with
  |true=>refine aK (λh=>absurd (aH h) (by intro e;cases e)) (λ_=>fL (k2 _ (aD.refl _) (ak ?_)));unfold mM;rw[bR];simp
  |false=>
   refine aK (λ_=>?_) (λh=>absurd (aR rfl) h);refine⟨_,rfl,bj T hn ⟨_,rfl,_,_,rfl,rfl,_,rfl,?_⟩⟩;refine aK (λh=>?_) (λh=>?_)
   .refine⟨_,rfl,k1 _ _ (aD.refl _) (aq ?_)⟩;unfold mM;rw[bR,aR (aH h)];rfl
   .refine k2 _ (aD.refl _) (ak ?_);unfold mM;rw[bR,cP (cH h)]
    decide
 .obtain⟨bs,M⟩:=O2.N.filter s4 (mM d) h4;have Mm:(st.nodes.filter (mM d)).length<=60:=bp (lF _ _) hw;have zK:∀x∈st.nodes.filter (mM d),(pK (labels st.nodes) x).length<=747:=λx hx=>BO W.n (gX.mp hx).1;have hf:∀i,(((st.nodes.filter (mM d)).take i).flatMap (pK (labels st.nodes))).length<=747*(st.nodes.filter (mM d)).length:=λi=>pk _ 747 i zK;have hf:∀i,(((st.nodes.filter (mM d)).take i).flatMap (pK (labels st.nodes))).length<=44820:=λi=>bp (hf i) (bp (DY _ Mm) (by decide));have Jm:=s2.trans s4;have NP:=LD.same s4;refine⟨_,rfl,D,_,rfl, .inl (bf.of M.lst),aV,λb hb=>?_⟩;rw[M.gV];have Ta:H b=none:=Jm.free hb;have M1:=M.same (aE hb (u:= .lst [V.int (st.nodes.filter (mM d)).length]));have hDb:D≠b:=ba M.lst hb;have kp:∀{H5:Hp}{xs ys:List V},aD H4 H5->H5 b=some (.lst xs)->aD H4 (upd H5 b (.lst ys)):=λ{H5 xs ys} s5 _=>s5.put hb;refine⟨_,rfl,D,rfl,⟨_,bf.of M1.lst⟩,dG (K:=K) (a:=D) (xs:=bs.map V.ref) (λi σ H'=>∃v5 v6:Option V,σ=[some (.ref ob),some (.int d),some (.ref dd),some (.ref D),some (.ref b),v5,v6]/\ aD H4 H'/\ H' b=some (.lst (aT (((st.nodes.filter (mM d)).length:Int)::((st.nodes.filter (mM d)).take i).flatMap (pK (labels st.nodes))))))
   ⟨none,none,rfl,aE hb,ah⟩ (λi σ H' _ ⟨_,_,_,s5,_⟩=>bf.of (s5 _ _ M.lst)) ?_ ?_⟩
  .rintro i y σ H' hi ⟨v5,v6,rfl,s5,hB⟩;obtain⟨c,x,rfl,hc,hx,hn⟩:=M.item hi;have Ko:=(gX.mp (cI hx)).1;obtain⟨qt,lX,PL⟩:=wQ W.n Ko;have pJ:=W.txt Ko;have Uz:=o_ wg x.text pJ.1;have Q8:=hf i;refine⟨_,rfl, .inl ⟨rfl,_,bf.of hB⟩,_,rfl,bW T (hn.same s5) ⟨b,_,_,rfl,rfl,hB,eM (by rw[bA,cj];lia),?_⟩⟩;generalize hA:aT (((st.nodes.filter (mM d)).length:Int)::((st.nodes.filter (mM d)).take i).flatMap (pK (labels st.nodes)))=A0 at hB⊢;have hA0:A0.length<=44821:=by rw[<-hA,bA,cj];lia
   have s6:=kp s5 hB (ys:=A0++[V.int (x.number:Nat)]);have Ra:=NP.same s6;rcases Ra.find x.number with⟨g1,_⟩|⟨Td,a',g1,g2,g3⟩
   .rw[lX] at g1;cases g1
   rw[lX] at g1;cases g1;refine⟨_,rfl, .inl ⟨rfl,_,bf.of ah⟩,_,rfl,_,rfl,bW T (hn.same s6) ⟨dd, .ref a',rfl,?_,a',_,rfl,g3,by rw[aF];lia,λH7 p7 s7 h7=>?_⟩⟩
   .have:=pS.k (k:=Sum.inl ((x.number:Nat):Int)) Ra.at_;rw[g2] at this;exact this
   rw[aF] at h7;refine⟨b,p7,_,_,rfl,rfl,s7 _ _ ah,h7,dB (by simp only[a_,cj,G6,aF];lia),?_⟩;have s8:=kp (s6.trans s7) (s7 _ _ ah) (ys:=A0++[V.int (x.number:Nat)]++(V.int (qt.length:Nat)::aI qt));have LD8:=NP.same s8;refine⟨_,rfl, .inl ⟨rfl,_,bf.of ah⟩,_,rfl,iQ T (hn.same s8) λt ht=>⟨_,rfl,t,dd,_,a6,_,rfl,ht,pJ.1,LD8,wg,λH9 p9 s9 h9=>⟨p9,_,rfl,h9,by rw[aF];lia,λUC p10 M_ Qp=>?_⟩⟩⟩;rw[aF] at Qp;refine⟨b,p10,_,_,rfl,rfl,M_ _ _ (s9 _ _ ah),Qp,dB (by simp only[a_,cj,G6,aF];lia),?_⟩;refine⟨_,_,rfl,kp ((s8.trans s9).trans M_) (M_ _ _ (s9 _ _ ah)),?_⟩;rw[ah,pj _ hx,<-iT,<-fj,hA];unfold pK;rw[lX];show some (HO.lst (A0++[V.int (x.number:Nat)]++(V.int (qt.length:Nat)::aI qt)++(V.int ((shownWith (labels st.nodes) x.text).length:Nat)::aI (shownWith (labels st.nodes) x.text))))=some (HO.lst (A0++aT ((x.number:Int)::(qt.length:Int)::gj qt++((shownWith (labels st.nodes) x.text).length:Int)::gj (shownWith (labels st.nodes) x.text))));rw[<-fj,qw,qw,qw,<-i7,<-i7];simp
  .rintro σ H' ⟨v5,v6,rfl,s5,hB⟩;rw[aS,M.len,fq] at hB;exact⟨_,rfl,k.told O rfl (Jm.trans s5) hB rfl⟩
structure Rows(H:Hp)(p:Addr)(as:List Addr)(ls:List (List Int)):Prop where
 lst:H p=some (.lst (as.map V.ref))
 len:as.length=ls.length
 at_:∀(i:Nat)(a:Addr)(l:List Int),as[i]?=some a->ls[i]?=some l->H a=some (.lst (aT l))
theorem Rows.same{p:Addr}{as:List Addr}(h:Rows H p as ls)(s:aD H H'):Rows H' p as ls:=⟨s _ _ h.lst,h.len,λi a l ha hl=>s _ _ (h.at_ i a l ha hl)⟩
theorem Rows.some_of{p:Addr}{as:List Addr}(h:Rows H p as ls){a:Addr}(ha:a∈as):∃xs,H a=some (.lst xs):=by
 obtain⟨i,hi⟩:=xm ha;have hl:i<ls.length:=by rw[<-h.len];exact(dm.mp hi).1
 exact⟨_,h.at_ i a _ hi (c8 hl)⟩
theorem Rows.put{p c:Addr}{u:HO}{as:List Addr}(h:Rows H p as ls)(hp:p≠c)(hc:c∉as):Rows (upd H c u) p as ls:=⟨by rw[az hp];exact h.lst,h.len,λi a l ha hl=>by rw[az (λe=>hc (by rw[<-e];exact cI ha))];exact h.at_ i a l ha hl⟩
theorem Rows.push{p c:Addr}{as:List Addr}{l:List Int}(h:Rows H p as ls)(Kp:p∉as)(Gg:p≠c)(hc:H c=some (.lst (aT l))):Rows (upd H p (.lst (as.map V.ref++[V.ref c]))) p (as++[c]) (ls++[l]) where
 lst:=by rw[ah,cV];rfl
 len:=by rw[a_,a_,h.len];rfl
 at_:=λi b m hb hm=>by
  by_cases hi:i<as.length
  .rw[nz hi] at hb;rw[nz (by rw[<-h.len];exact hi)] at hm;rw[az (λe=>Kp (by rw[<-e];exact cI hb))];exact h.at_ i b m hb hm
  .rw[k3 (by lia)] at hb;rw[k3 (by rw[<-h.len];lia),<-h.len] at hm;cases e:i - as.length with
   |zero=>rw[e] at hb hm;cases hb;cases hm;rw[az (λq=>Gg q.symm)];exact hc
   |succ n=>rw[e] at hb;simp at hb
theorem yB(a:List Int):bb (a++[10])=(bb a).dropLast++[(bb a).getLastD [],[]]:=by rw[nY];show(bb a).dropLast++((bb a).getLastD []++[])::[[]]=_;rw[pz]
theorem t8(a:List Int){c:Int}(h:c≠10):bb (a++[c])=(bb a).dropLast++[(bb a).getLastD []++[c]]:=by
 have e:bb [c]=[[c]]:=by show(if c=10 then _ else _)=_;rw[ak h];rfl
 rw[nY,e]
theorem t9(a:List Int):bb a=(bb a).dropLast++[(bb a).getLastD []]:=by
 obtain⟨l,m,e⟩:=f7 a;rw[e];have fo:l::m≠[]:=by simp
 rw[Rx,Rv fo];exact(N5 fo).symm
theorem Dl(a:List Int):(bb a).getLastD []∈bb a:=by
 obtain⟨l,m,e⟩:=f7 a;rw[e];have fo:l::m≠[]:=by simp
 rw[Rx,Rv fo];exact List.getLast_mem fo
theorem kY:∀(a:List Int),(bb a).length<=a.length+1
 |[]=>aQ _
 |c::r=>by
  have ih:=kY r;obtain⟨l,m,e⟩:=f7 r;show(if c=10 then[]::bb r else match bb r with
   |l::m=>(c::l)::m
   |[]=>[[c]]).length<=_
  rw[e] at ih⊢;split
  .simp at ih⊢;lia
  .simp at ih⊢;lia
theorem oO:∀(a:List Int),∀l∈bb a,l.length<=a.length
 |[],l,h=>by
  have:l=[]:=by simpa[bb] using h
  subst this;exact aQ _
 |c::r,l,h=>by
  have ih:=oO r;obtain⟨l',m,e⟩:=f7 r;have h:l∈(if c=10 then[]::bb r else match bb r with
   |l::m=>(c::l)::m
   |[]=>[[c]]):=h
  rw[e] at h ih;split at h
  .rcases bY.mp h with rfl|h
   .simp
   .have:=ih l h;simp
    lia
  .rcases bY.mp h with rfl|h
   .have:=ih l' (by simp);simp
    lia
   .have:=ih l (bu _ h);simp
    lia
inductive E3(vs:List V)(H:Hp)(Q:VK)(_E:XK):Prop
 |mk (r:Addr) (t:List Int) (h1:vs=[.ref r]) (h2:H r=some (.lst (aT t))) (h3:t.length<=10000) (h4:∀H' p as,aD H H'->Rows H' p as (bb t)->H p=none->p∉as->(∀a∈as,H a=none)->Q (.ref p) H')
theorem i9:aG ["row","lines","line","number"] ["row"] (ay qi):=eN
theorem JK(F:bB K mg "lines_of" qi ["row"])(T:Tz Z):bo Z 1 "lines_of" ["row"] E3:=by
 refine F.fe i9 λH Q E hr h=>?_;obtain⟨r,t,rfl,hR,hz,k⟩:=h;refine⟨_,(ae (bD 1 i9 (aL ag)) (ae (bD 2 i9 (aL ag)) (ae (eB PassesOwn.never rfl (bL (pv 0)) (jB 3 i9) (aj (aM (bE bw (pv 3) (eg T)) (ae (bF (e_ eL iW iX cw (pv 1) (aa (pv 2) ag))) (aj (bD 2 i9 (aL ag)))) (aj (bF (e_ eL iW iX cw (pv 2) (aa (pv 3) ag))))))) (ae (bF (e_ eL iW iX cw (pv 1) (aa (pv 2) ag))) (aj (aw (pv 1))))))),?_⟩;refine⟨a8 _,λp hp=>?_⟩;have s1:aD H (upd H p (.lst [])):=aE hp;refine⟨a8 _,λc0 IV=>?_⟩;have s2:=s1.new IV (u:= .lst []);have Xd:p≠c0:=λe=>by rw[e,ah] at IV;cases IV
 refine⟨_,rfl,r,rfl,⟨_,bf.of (s2 _ _ hR)⟩,dG (K:=K) (a:=r) (xs:=aT t) (λi σ H'=>∃(v3:Option V)(c:Addr)(as:List Addr),σ=[some (.ref r),some (.ref p),some (.ref c),v3]/\ aD H H'/\ H c=none/\ p≠c/\ p∉as/\ c∉as/\ (∀a∈as,H a=none)/\ H' c=some (.lst (aT ((bb (t.take i)).getLastD [])))/\ Rows H' p as (bb (t.take i)).dropLast)
  ⟨none,c0,[],rfl,s2,s1.free IV,Xd,by simp,by simp,by simp,ah,⟨a7 ah IV,rfl,λi a l h=>by simp at h⟩⟩ (λi σ H' _ ⟨_,_,_,_,s3,_⟩=>bf.of (s3 _ _ hR)) ?_ ?_⟩
 .rintro i y σ H' hi ⟨v3,c,as,rfl,s3,hc,Gg,Kp,Xe,FH,hC,RW⟩;obtain⟨z,K5,rfl⟩:=get_map hi;have EX:t.take (i+1)=t.take i++[z]:=take_snoc K5;have Th:(bb (t.take i)).dropLast.length<=10001:=by
   have:=kY (t.take i);rw[bg] at this;rw[G5]
   lia
  have JL:((bb (t.take i)).getLastD []).length<=10000:=by
   have:=oO (t.take i) _ (Dl (t.take i));rw[bg] at this
   lia
  refine⟨_,rfl,rfl,_,rfl,?_⟩;by_cases Qp:z=10
  .subst Qp;refine aK (λ_=>?_) (λh=>absurd (aR rfl) h);refine⟨_,rfl, .inl ⟨rfl,_,bf.of RW.lst⟩,_,rfl,p,_,_,rfl,rfl,RW.lst,eM (by rw[aS,RW.len];lia),?_⟩;have Mn:=RW.push Kp Gg hC;have s4:=s3.put hp (u:= .lst (as.map V.ref++[V.ref c]));refine⟨a8 _,λc2 zq=>?_⟩;have Xf:p≠c2:=λe=>by rw[e,ah] at zq;cases zq
   refine⟨_,c2,as++[c],rfl,s4.new zq,s4.free zq,Xf,?_,?_,(λa ha=>by rcases dY.mp ha with ha|ha;exact FH a ha;simp at ha;rw[ha];exact hc),?_,?_⟩
   .simp;exact⟨Kp,Gg⟩
   .intro hm;obtain⟨xs,e⟩:=Mn.some_of hm;rw[zq] at e;cases e
   .rw[EX,yB,ah];simp;rfl
   .rw[EX,yB];have e2:((bb (t.take i)).dropLast++[(bb (t.take i)).getLastD [],[]]).dropLast=(bb (t.take i)).dropLast++[(bb (t.take i)).getLastD []]:=by rw[show[(bb (t.take i)).getLastD [],[]]=[(bb (t.take i)).getLastD []]++[[]] from rfl,<-dQ,NZ]
    rw[e2];exact Mn.same (aE zq)
  .refine aK (λh=>?_) (λ_=>?_)
   .exfalso;have:=aH h;injection this;exact Qp (by assumption)
   refine⟨_,rfl, .inl ⟨rfl,_,bf.of hC⟩,_,rfl,c,_,_,rfl,rfl,hC,eM (by rw[bA];lia),?_⟩;refine⟨_,c,as,rfl,s3.put hc,hc,Gg,Kp,Xe,FH,?_,?_⟩
   .rw[EX,t8 _ Qp,ah];rw[show((bb (t.take i)).dropLast++[(bb (t.take i)).getLastD []++[z]]).getLastD []=(bb (t.take i)).getLastD []++[z] by simp,<-fj];rfl
   .rw[EX,t8 _ Qp,NZ];exact RW.put Gg Xe
 .rintro σ H' ⟨v3,c,as,rfl,s3,hc,Gg,Kp,Xe,FH,hC,RW⟩;rw[bA,fq] at hC RW;have Th:(bb t).dropLast.length<=10001:=by
   have:=kY t;rw[G5]
   lia
  refine⟨_,rfl, .inl ⟨rfl,_,bf.of RW.lst⟩,_,rfl,p,_,_,rfl,rfl,RW.lst,eM (by rw[aS,RW.len];lia),?_⟩;have Mn:=RW.push Kp Gg hC;rw[<-t9] at Mn;refine⟨_,rfl,k _ p (as++[c]) (s3.put hp) Mn hp ?_ (λa ha=>by rcases dY.mp ha with ha|ha;exact FH a ha;simp at ha;rw[ha];exact hc)⟩;simp;exact⟨Kp,Gg⟩
def kr(l:List Nat)(i:Nat)(x:List Nat):Bool:=decide ((l.drop i).take x.length=x)
inductive yC(vs:List V)(H:Hp)(Q:VK)(_E:XK):Prop
 |mk (r:Addr) (l:List Int) (i:Nat) (x:Str) (h1:vs=[.ref r, .int (i:Nat), .str x]) (h2:H r=some (.lst (aT l))) (h3:(tl x).length<=100) (h4:(∀c∈tl x,c<=255)) (h5:∀H',aD H H'->Q (.bl (kr (textOf l) i (tl x))) H')
theorem wR(l:List Int)(i n:Nat):((textOf l).drop i).take n=textOf ((l.drop i).take n):=by rw[dH,dH,mY,jR]
theorem pq(l:List Int)(i n:Nat):((aT l).drop i).take n=aT ((l.drop i).take n):=by unfold aT;rw[mY,jR]
theorem Gz:aG ["line","start","signs"] ["line","start","signs"] (ay wk):=eN
theorem Qq(F:bB K mg "has_at" wk ["line","start","signs"])(T:Tz Z)(cE:bo Z 1 "bytes_of" ["signs"] pf):bo Z 2 "has_at" ["line","start","signs"] yC:=by
 refine F.fe Gz λH Q E hr h=>?_;obtain⟨r,l,i,x,rfl,hR,hz,hb,k⟩:=h;refine⟨_,(aj (aw (jF (wC hr.units) (bh bz (pv 0) (aW (pv 1)) (aW (bc bO (pv 1) (fM me (by rfl) T.len Ad (aa (pv 2) ag))))) (pc cE hr (aa (pv 2) ag)) (k5 _)))),?_⟩;refine⟨_,rfl,_,rfl,_,rfl,_,rfl,_,rfl,x,rfl,dB (by rw[dq];lia),_,_,rfl,rfl,_,rfl,r,_,rfl,bf.of hR,λp hp=>?_⟩;have sT:d5 (aT l) (some (i:Int)) (some ((i:Int)+(x.length:Nat)))=aT ((l.drop i).take (tl x).length):=by rw[lV,pq,dq]
 rw[sT];have s1:=aE hp (u:= .lst (aT ((l.drop i).take (tl x).length)));refine⟨_,rfl,x,rfl,by lia,λH2 q s2 hq Ki=>?_⟩;refine⟨p,q,_,gj (tl x),rfl,rfl,s2 _ _ ah,by rw[hq,i7],?_⟩;have e:decide ((l.drop i).take (tl x).length=gj (tl x))=kr (textOf l) i (tl x):=by
  unfold kr;rw[qP,wR];have:=iu (t:=(l.drop i).take (tl x).length) hb;constructor
  .intro h;exact(this.mpr h.symm).symm
  .intro h;exact(this.mp h.symm).symm
 rw[e];exact k _ (s1.trans s2)
theorem E4(c:Int):digit (IC c)=true↔48<=c/\ c<=57:=by unfold digit IC;rw[dN];split<;>lia
theorem yD{l:List Int}{c:Int}(h:l[i]?=some c):(textOf l)[i]?=some (IC c):=by rw[dH,gW,h];rfl
theorem j_(l:List Int):(textOf l).length=l.length:=aS _
def eJ(l:List Int)(i:Nat):List Nat:=((textOf l).drop i).takeWhile digit
theorem GA{l:List Int}(hj:j<=(eJ l i).length):(∃c,l[i+j]?=some c/\ 48<=c/\ c<=57)↔j<(eJ l i).length:=by
 unfold eJ at*;rw[<-rp (p:=digit) (l:=(textOf l).drop i) hj];constructor
 .rintro⟨c,hc,hd⟩;exact⟨IC c,by rw[xl,yD hc],(E4 c).mpr hd⟩
 .rintro⟨y,hy,hd⟩;rw[xl,dH,gW] at hy;cases e:l[i+j]? with
  |none=>rw[e] at hy;cases hy
  |some c=>rw[e] at hy;cases hy;exact⟨c,rfl,(E4 c).mp hd⟩
theorem Mo(l:List Int)(i:Nat):(eJ l i).length<=l.length - i:=by have:=(pB digit (l:=(textOf l).drop i)).length_le;rw[dC,j_] at this;exact this
theorem JM(l:List Int)(i:Nat):gj (eJ l i)=(l.drop i).take (eJ l i).length:=by
 have h1:eJ l i=((textOf l).drop i).take (eJ l i).length:=zU.mp (Ha _);rw[wR] at h1;refine(iu (λc hc=>?_)).mp h1;have:=iY (takeWhile_all _ c hc)
 lia
inductive zG(vs:List V)(H:Hp)(Q:VK)(_E:XK):Prop
 |mk (r:Addr) (l:List Int) (i:Nat) (h1:vs=[.ref r, .int (i:Nat)]) (h2:H r=some (.lst (aT l))) (h3:l.length<=10000) (h4:(uq ((textOf l).drop i)=none->∀H',aD H H'->Q .eQ H')) (h5:∀n len:Nat,uq ((textOf l).drop i)=some (n,len)->∀H' t,aD H H'->H' t=some (.tup [.int (n:Nat), .int ((i+len:Nat):Int)])->Q (.ref t) H')
theorem jN:aG ["line","start","end","count"] ["line","start"] (ay oq):=eN
theorem JN(F:bB K mg "number_at" oq ["line","start"])(T:Tz Z)(iI:bo Z 1 "number_of" ["digits"] oI):bo Z 2 "number_at" ["line","start"] zG:=by
 refine F.fe jN λH Q E hr h=>?_;obtain⟨r,l,i,rfl,hR,hz,k1,k2⟩:=h;refine⟨_,(ae (bD 2 jN (pv 1)) (ae (ft PassesOwn.never (PW.pt (gY (bE g0 (pv 2) (pd T (aa (pv 0) ag))) (fX (Aj vj vj (eg T) (c5 aJ (pv 0) (pv 2)) (eg T))))) (aj (k4 (i:=2) jN.nd rfl (Or.inl rfl) au nG))) (ae (bD 3 jN (bc gm (pv 2) (pv 1))) (ae (aM (PW.pt (gh (bE g0 (pv 3) au) (gh (bE gK (pv 3) (eg T)) (gz (PW.pt (gY (bE gK (pv 3) au) (fX (bE bw (c5 aJ (pv 0) (pv 1)) (eg T))))))))) (aj (aw aZ)) aA) (aj (aw (md (aa (pc iI hr (aa (bh bz (pv 0) (aW (pv 1)) (aW (pv 2))) ag)) (aa (pv 2) ag))))))))),?_⟩;refine⟨_,rfl,?_⟩;refine fA (λ(j:Nat) σ H'=>j<=(eJ l i).length/\ σ=[some (.ref r),some (.int (i:Nat)),some (.int ((i+j:Nat):Int)),none]/\ aD H H') (λj=>(eJ l i).length - j) 0 ⟨a8 _,rfl,aD.refl _⟩ ?_;rintro j σ H' ⟨hj,rfl,s1⟩;have Km:=s1 _ _ hR;have m9:=GA hj;have Kk:=Mo l i;refine⟨_,rfl,_,rfl,r,_,rfl, .inl (bf.of Km),_,_,rfl,rfl,_,rfl,?_⟩;rw[bA];have fin:¬j<(eJ l i).length->∀D:Ends,D.rt=Q->ma (xq (qJ (xO λi j=>V.int (i - j)) (cv 2) (cv 1)) (fG 3)) (ma (uk (MX (iZ (qJ (xO λi j=>V.bl (decide (i<j))) (cv 3) (tC (.int 1)))) (MX (iZ (qJ (xO λi j=>V.bl (decide (j<i))) (cv 3) (tC (.int 4)))) (OA (iZ (qJ (xO λi j=>V.bl (decide (j<i))) (cv 3) (tC (.int 1)))) (iZ (qJ RT (qJ (FD K) (cv 0) (cv 1)) (tC (.int 48))))))) (yP (tC .eQ)) jz)
  (yP (OI (dk (pF oI [] E0 (dk (VV (ON K) (cv 0) (Ap (cv 1)) (Ap (cv 2))) k6)) (dk (cv 2) k6))))) D [some (.ref r),some (.int (i:Nat)),some (.int ((i+j:Nat):Int)),none] H':=λQO D hD=>by
  have hj:j=(eJ l i).length:=by lia
  have e0:uq ((textOf l).drop i)=if(eJ l i).length<1\/ 4<(eJ l i).length\/ (1<(eJ l i).length/\ ((textOf l).drop i).head?=some 48) then none else some (natOf (eJ l i),(eJ l i).length):=rfl;refine⟨_,rfl,_,rfl,_,_,rfl,rfl,?_⟩;have ec:((i+j:Nat):Int) - (i:Nat)=(j:Int):=by lia
  refine⟨_,rfl,_,_,rfl,rfl,_,rfl,?_⟩;show if decide (((i+j:Nat):Int) - (i:Nat)<1)=true then _ else _;rw[ec];refine aK (λh=>eD ?_) (λh1=>?_)
  .show D.rt _ _;rw[hD];exact k1 (by rw[e0,aq (.inl (by have:=aH h;lia))]) _ s1
  have h1:=cH h1;refine⟨_,rfl,_,_,rfl,rfl,_,rfl,?_⟩;refine aK (λh=>eD ?_) (λh2=>?_)
  .show D.rt _ _;rw[hD];exact k1 (by rw[e0,aq (.inr (.inl (by have:=aH h;lia)))]) _ s1
  have h2:=cH h2;have m_:i<l.length:=by lia
  have hg:l[i]?=some l[i]:=c8 m_;have NA:((textOf l).drop i).head?=some (IC l[i]):=by rw[Fl];exact yD hg
  have last:¬(1<(eJ l i).length/\ ((textOf l).drop i).head?=some 48)->yP (OI (dk (pF oI [] E0 (dk (VV (ON K) (cv 0) (Ap (cv 1)) (Ap (cv 2))) k6)) (dk (cv 2) k6))) D [some (.ref r),some (.int (i:Nat)),some (.int ((i+j:Nat):Int)),some (.int (j:Nat))] H':=λh3=>by
   rw[ak (by rintro(h|h|h);lia;lia;exact h3 h)] at e0;refine⟨_,rfl,_,rfl,_,rfl,_,rfl,_,rfl,r,_,rfl,bf.of Km,λp hp=>?_⟩;have sT:d5 (aT l) (some (i:Int)) (some ((i+j:Nat):Int))=aI (eJ l i):=by rw[rA _ (by rw[bA];lia) (by rw[bA];lia),xF,pq,hj,<-JM,i7]
   rw[sT];refine⟨p,_,rfl,ah,by lia,(λc hc=>iY (takeWhile_all _ c hc)),λH3 s3=>⟨_,rfl,(by show 2<=sizeLine;decide),λt ht=>?_⟩⟩;show D.rt _ _;rw[hD];refine k2 _ _ e0 _ t (((s1.new hp).trans s3).new ht) ?_;rw[ah,hj]
  refine⟨_,rfl,_,_,rfl,rfl,_,rfl,?_⟩;refine aK (λh3=>?_) (λh3=>fL (last λh=>h3 (aR (by lia))));have h3:=aH h3;refine⟨_,rfl,_,rfl,bG (i:=i) Km rfl (by show(aT l)[i]?=some (V.int l[i]);unfold aT;rw[gW,hg];rfl) ⟨rfl,_,rfl,?_⟩⟩;by_cases LM:l[i]=48
  .refine aK (λ_=>?_) (λh=>absurd (aR (by rw[LM])) h);show D.rt _ _;rw[hD];refine k1 (by rw[e0,aq (.inr (.inr ⟨by lia,by rw[NA,(vZ (n:=48) (by decide)).mpr LM]⟩))]) _ s1
  .refine aK (λh=>?_) (λ_=>last λh=>LM ((vZ (n:=48) (by decide)).mp (di (NA.symm.trans h.2))));exfalso;have:=aH h;injection this;exact LM (by assumption)
 refine aK (λNw=>?_) (λNw=>fL (fin (λh=>?_) _ rfl))
 .have hl:i+j<l.length:=by have:=aH Nw;lia
  have hg:l[i+j]?=some l[i+j]:=c8 hl;refine⟨_,rfl,_,rfl,bG (i:=i+j) Km rfl (by show(aT l)[i+j]?=some (V.int l[i+j]);unfold aT;rw[gW,hg];rfl) ⟨_,_,rfl,rfl,_,rfl,?_⟩⟩;refine aK (λzq=>?_) (λzq=>⟨_,rfl,fL (fin (λh=>?_) _ rfl)⟩)
  .refine⟨_,_,rfl,rfl,_,rfl,?_⟩;refine aK (λNy=>?_) (λNy=>fin (λh=>?_) _ rfl)
   .have h5:=m9.mp ⟨_,hg,aH zq,aH Ny⟩;refine nj j ?_;exact⟨_,rfl,_,_,rfl,rfl,j+1,(by show(eJ l i).length - (j+1)<(eJ l i).length - j;lia),by lia,rfl,s1⟩
   .obtain⟨c,hc,hd⟩:=m9.mpr h;rw[hg] at hc;cases hc;exact Ny (aR hd.2)
  .obtain⟨c,hc,hd⟩:=m9.mpr h;rw[hg] at hc;cases hc;exact zq (aR hd.1)
 .obtain⟨c,hc,_⟩:=m9.mpr h;have:=(dm.mp hc).1;exact Nw (aR (by lia))
theorem Qr{L:List Nat}{x:Nat×Nat}(h:uq L=some x):x.2<=L.length:=by
 simp only[uq] at h;split at h
 .cases h
 .cases h;exact(pB digit (l:=L)).length_le
theorem JO(L:List Nat):firstLine L=if kr L 0 (Vanbkn.b "outline ")=true then(match uq (L.drop 8) with
 |none=>none
 |some x=>if 8+x.2=L.length then some x.1 else none) else none:=by
 unfold firstLine;have hp:(Vanbkn.b "outline ").isPrefixOf L=true↔kr L 0 (Vanbkn.b "outline ")=true:=by
  unfold kr;rw[Ry,zU,dN];constructor
  .intro h;exact h.symm
  .intro h;exact h.symm
 by_cases h:kr L 0 (Vanbkn.b "outline ")=true
 .rw[aq h,aq (hp.mpr h),A9];have h8:8<=L.length:=by
   have:=iY h;have:=c_ List.length this;rw[bg,zP] at this;have e8:(Vanbkn.b "outline ").length=8:=rfl
   lia
  cases en:uq (L.drop 8) with
  |none=>rfl
  |some x=>
   show(if((L.drop 8).drop x.2).isEmpty=true then some x.1 else none)=if 8+x.2=L.length then some x.1 else none;have e:((L.drop 8).drop x.2).isEmpty=true↔L.length<=8+x.2:=by
    rw[Ol,<-DM,dC,dC]
    lia
   have hx:x.2<=L.length - 8:=by rw[<-dC];exact Qr en
   by_cases hq:8+x.2=L.length
   .rw[aq hq,aq (e.mpr (by lia))]
   .rw[ak hq,ak (λq=>hq (by have:=e.mp q;lia))]
 .rw[ak h,ak (λq=>h (hp.mp q))]
inductive JP(vs:List V)(H:Hp)(Q:VK)(_E:XK):Prop
 |mk (r:Addr) (l:List Int) (h1:vs=[.ref r]) (h2:H r=some (.lst (aT l))) (h3:l.length<=10000) (h4:∀H',aD H H'->Q (uu (firstLine (textOf l))) H')
theorem wU:tl ("outline ":Str)=Vanbkn.b "outline ":=by decide+kernel
theorem oP:("outline ":Str).length=8:=by decide+kernel
theorem kZ:aG ["line","found"] ["line"] (ay iz):=eN
theorem Mp(F:bB K mg "next_number_in" iz ["line"])(T:Tz Z)(iK:bo Z 2 "number_at" ["line","start"] zG)(gc:bo Z 2 "has_at" ["line","start","signs"] yC):bo Z 3 "next_number_in" ["line"] JP:=by
 refine F.fe kZ λH Q E hr h=>?_;obtain⟨r,l,rfl,hR,hz,k⟩:=h;refine⟨_,(ae (bD 1 kZ (pc iK hr (aa (pv 0) (aa (fM me (by rfl) T.len Ad (aa (kP rfl (T.gs rfl)) ag)) ag)))) (ae (aM (PW.pt (gh (vf (gk (pc gc hr (aa (pv 0) (aa au (aa (kP rfl (T.gs rfl)) ag)))))) (gh (bE bC (pv 1) aZ) (gz (bE lG (c5 dR (pv 1) au) (pd T (aa (pv 0) ag))))))) (aj (aw aZ)) aA) (aj (aw (c5 dR (pv 1) au))))),?_⟩;have e0:=JO (textOf l);refine⟨_,rfl,("outline ":Str),rfl,dB (by rw[oP];decide),r,l,8,by rw[oP];rfl,hR,hz,λhn H1 s1=>?_,λn len hn H1 t s1 ht=>?_⟩
 .refine⟨_,rfl,r,l,0,_,rfl,s1 _ _ hR,(by decide+kernel),(by decide+kernel),λH2 s2=>⟨_,rfl,?_⟩⟩;rw[hn] at e0;have q:=k H2 (s1.trans s2);have e1:firstLine (textOf l)=none:=by rw[e0];split<;>rfl
  rw[e1] at q;cases kr (textOf l) 0 (tl ("outline ":Str)) with
  |false=>exact eD q
  |true=>refine fL ?_;refine⟨_,rfl,rfl,_,rfl,?_⟩;exact aK (λ_=>q) (λh=>absurd (aR rfl) h)
 .refine⟨_,rfl,r,l,0,_,rfl,s1 _ _ hR,(by decide+kernel),(by decide+kernel),λH2 s2=>⟨_,rfl,?_⟩⟩;rw[hn] at e0;have q:=k H2 (s1.trans s2);rw[e0] at q;rw[wU];cases hh:kr (textOf l) 0 (Vanbkn.b "outline ") with
  |false=>rw[hh,ak (by decide)] at q;exact eD q
  |true=>
   rw[hh,aq rfl] at q;refine fL ?_;refine⟨_,rfl,rfl,_,rfl,?_⟩;refine aK (λh=>nomatch (aH h)) (λ_=>?_);refine⟨_,rfl,t,_,_,_,rfl,rfl,i_.of (s2 _ _ ht),bT (j:=1) rfl,?_⟩;refine⟨_,rfl,r,_,rfl, .inl (bf.of ((s1.trans s2) _ _ hR)),rfl,_,rfl,?_⟩;rw[bA];have q:Q (uu (if 8+len=(textOf l).length then some n else none)) H2:=q;rw[j_] at q;by_cases hl:8+len=l.length
   .rw[aq hl] at q;rw[hl];refine aK (λh=>?_) (λ_=>?_)
    .exfalso;simp at h
    .exact⟨_,rfl,t,_,_,_,rfl,rfl,i_.of (s2 _ _ ht),bT (j:=0) rfl,q⟩
   .rw[ak hl] at q;refine aK (λ_=>q) (λh=>?_);exfalso;apply h;show(!decide (V.int ((8+len:Nat):Int)=V.int ((l.length:Nat):Int)))=true;rw[cP]
    .rfl
    .intro e;injection e with e
     lia
theorem JQ{l:List Nat}{c:Nat}(hj:j<=sG l c):kr l j [c]=true↔j<sG l c:=by
 unfold sG at*;rw[<-rp (p:=λx=>x==c) (l:=l) hj];unfold kr;rw[dN];show(l.drop j).take 1=[c]↔_;cases e:l.drop j with
 |nil=>
  have:l[j]?=none:=by rw[<-Fl,e];rfl
  rw[this];simp
 |cons y r=>
  have:l[j]?=some y:=by rw[<-Fl,e];rfl
  rw[this];simp
inductive E5(vs:List V)(H:Hp)(Q:VK)(_E:XK):Prop
 |mk (r:Addr) (l:List Int) (x:Str) (c:Nat) (h1:vs=[.ref r, .str x]) (h2:tl x=[c]) (h3:c<=255) (h4:H r=some (.lst (aT l))) (h5:l.length<=10000) (h6:∀H',aD H H'->Q (.int ((sG (textOf l) c:Nat):Int)) H')
theorem oQ:aG ["line","sign","depth"] ["line","sign"] (ay qj):=eN
theorem JR(F:bB K mg "depth_in" qj ["line","sign"])(T:Tz Z)(gc:bo Z 2 "has_at" ["line","start","signs"] yC):bo Z 3 "depth_in" ["line","sign"] E5:=by
 refine F.fe oQ λH Q E hr h=>?_;obtain⟨r,l,x,c,rfl,hx,hc,hR,hz,k⟩:=h;refine⟨_,(ae (bD 2 oQ au) (ae (ft PassesOwn.never (gk (pc gc hr (aa (pv 0) (aa (pv 2) (aa (pv 1) ag))))) (aj (k4 (i:=2) oQ.nd rfl (Or.inl rfl) au nG))) (aj (aw (pv 2))))),?_⟩;refine fA (λ(j:Nat) σ H'=>j<=sG (textOf l) c/\ σ=[some (.ref r),some (.str x),some (.int (j:Nat))]/\ aD H H') (λj=>sG (textOf l) c - j) 0 ⟨a8 _,rfl,aD.refl _⟩ ?_;rintro j σ H' ⟨hj,rfl,s1⟩;have m9:=JQ hj;refine⟨_,rfl,_,rfl,_,rfl,r,l,j,x,rfl,s1 _ _ hR,(by rw[hx];show 1<=100;decide),(λd hd=>by rw[hx] at hd;simp at hd;lia),λH2 s2=>⟨_,rfl,?_⟩⟩;rw[hx];refine aK (λh=>?_) (λh=>?_)
 .have h5:=m9.mp h;refine nj j ?_;exact⟨_,rfl,_,_,rfl,rfl,j+1,(by show sG (textOf l) c - (j+1)<sG (textOf l) c - j;lia),by lia,rfl,s1.trans s2⟩
 .have QO:j=sG (textOf l) c:=by
   have:¬j<sG (textOf l) c:=λq=>h (m9.mpr q)
   lia
  rw[<-QO] at k;exact⟨_,rfl,k _ (s1.trans s2)⟩
theorem Mq(o:O)(h:0<o.length):jb 1 o=if(nd o (o.length - 1)).cell=true then(nd o (o.length - 1)).depth else(nd o (o.length - 1)).depth+1:=by
 rw[sH];have:o.getLast?=some (nd o (o.length - 1)):=by rw[List.getLast?_eq_getElem?];exact C5 (by lia)
 rw[this];rfl
inductive E6(C:Addr)(vs:List V)(H:Hp)(Q:VK)(_E:XK):Prop
 |mk (l:Addr) (as:List Addr) (o:O) (h1:vs=[.ref l]) (h2:NL C H l as o) (h3:∀H',aD H H'->Q (.int ((jb 1 o:Nat):Int)) H')
theorem zH{K:Frag}{C:Addr}{R:V->Prop}{as:List Addr}{o:O}(N:NL C H l as o)(hi:0<o.length)(q:∀a,bV C H a (nd o (o.length - 1))->R (.ref a)):
 HB K (V.ref l) (V.int (-1)) H R:=by
 obtain⟨a,h1,h2,h3⟩:=N.get (C5 (o:=o) (i:=o.length - 1) (by lia));refine⟨l,_,_, .ref a,rfl,rfl,bf.of N.lst,?_,q a h3⟩;obtain⟨ys,y,e⟩:∃ys y,as.map V.ref=ys++[y]:=by
  have fo:as.map V.ref≠[]:=λq=>by
   have:=N.gV;rw[q] at this;have:0=o.length:=this
   lia
  exact⟨_,_,(N5 fo).symm⟩
 have hl:o.length=ys.length+1:=by rw[<-N.gV,e,a_];rfl
 rw[e,hl,Nat.add_sub_cancel,List.getElem?_concat_length] at h2;cases h2;rw[e];exact HA _ _
theorem rJ:aG ["nodes"] ["nodes"] (ay iA):=eN
theorem JS(F:bB K mg "greatest_depth" iA ["nodes"])(T:Tz Z):bo Z 1 "greatest_depth" ["nodes"] (E6 C):=by
 refine F.fe rJ λH Q E hr h=>?_;obtain⟨l,as,o,rfl,N,k⟩:=h;refine⟨_,(ae (aM (bE bw (pd T (aa (pv 0) ag)) au) (aj (aw au)) aA) (aj (aw (gZ (bE bw (aB (c5 aJ (pv 0) (vi pR au)) rfl) au) (aB (c5 aJ (pv 0) (vi pR au)) rfl) (bc bO (aB (c5 aJ (pv 0) (vi pR au)) rfl) au))))),?_⟩;refine⟨_,rfl,l,_,rfl, .inl (bf.of N.lst),rfl,_,rfl,?_⟩;rw[N.gV];have q:=k _ (aD.refl _);by_cases h0:o.length=0
 .have:o=[]:=zQ h0;subst this;exact aK (λ_=>q) (λh=>absurd (aR rfl) h)
 refine aK (λh=>?_) (λ_=>?_)
 .exfalso;have:=aH h;injection this with e
  lia
 rw[Mq _ (by lia)] at q;refine⟨_,rfl,_,rfl,zH N (by lia) λa hn=>fI T hn ⟨rfl,_,rfl,?_⟩⟩;cases hc:(nd o (o.length - 1)).cell with
 |true=>rw[hc,aq rfl] at q;refine aK (λ_=>?_) (λh=>absurd rfl h);exact⟨_,rfl,_,rfl,zH N (by lia) λa hn=>bj T hn q⟩
 |false=>rw[hc,ak (by decide)] at q;refine aK (λh=>by cases h) (λh=>?_);exact⟨_,rfl,_,rfl,zH N (by lia) λa hn=>bj T hn ⟨_,_,rfl,rfl,q⟩⟩
def TR(t:TT)(σ:L2.St)(H:Hp)(b:Bool):Prop:=∀R:Bool->Hp->Prop,(∀H',aD H H'->R b H')->t σ H R
theorem TR.and{tb:TT}{a b:Bool}(ha:TR ta σ H a)(hb:a=true->∀H',aD H H'->TR tb σ H' b):TR (OA ta tb) σ H (a&&b):=λR hR=>by
 refine ha _ λH1 s1=>?_;cases a with
 |true=>exact eD (hb rfl H1 s1 R λH2 s2=>hR H2 (s1.trans s2))
 |false=>exact fL (hR H1 s1)
theorem TR.or{tb:TT}{a b:Bool}(ha:TR ta σ H a)(hb:a=false->∀H',aD H H'->TR tb σ H' b):TR (MX ta tb) σ H (a||b):=λR hR=>by
 refine ha _ λH1 s1=>?_;cases a with
 |true=>exact eD (hR H1 s1)
 |false=>exact fL (hb rfl H1 s1 R λH2 s2=>hR H2 (s1.trans s2))
theorem TR.not{a:Bool}(ha:TR ta σ H a):TR (OB ta) σ H (!a):=λR hR=>ha _ λH1 s1=>hR H1 s1
theorem TR.Kq{t:TT}{b:Bool}(h:TR t σ H b)(h1:b=true->∀H',aD H H'->tx {D with nx:=u D} σ H')(h2:b=false->∀H',aD H H'->ty {D with nx:=u D} σ H'):ma (uk t tx ty) u D σ H:=by
 refine h _ λH1 s1=>?_;cases b with
 |true=>exact eD (h1 rfl H1 s1)
 |false=>exact fL (h2 rfl H1 s1)
theorem Mr(o:O)(n:Nat):(o.any λy=>y.number==n)=(c9 o (n:Int)).isSome:=by
 rw[<-uJ];unfold Vanbkn.has Vanbkn.find;induction o with
 |nil=>rfl
 |cons y r ih=>rw[uU,rW,ih];cases hy:y.number==n<;>rfl
inductive E7(C CO:Addr)(vs:List V)(H:Hp)(Q:VK)(_E:XK):Prop
 |mk (ob dx l a:Addr) (as:List Addr) (s:Vanbkn.State) (x:Nd) (h1:vs=[.ref ob, .ref a]) (h2:a9 C CO H ob dx l as s) (h3:bV C H a x) (h4:s.next<=1000) (h5:∀H',aD H H'->Q (.int ((nodeFault s.next s.nodes x:Nat):Int)) H')
theorem ly:aG ["outline","node","nodes","number"] ["outline","node"] (ay mB):=eN
theorem JT(F:bB K mg "node_fault" mB ["outline","node"])(T:Tz Z)(ax:uv Z)(jq:bo Z 1 "greatest_depth" ["nodes"] (E6 C)):bo Z 2 "node_fault" ["outline","node"] (E7 C CO):=by
 refine F.fe ly λH Q E hr h=>?_;obtain⟨ob,dx,l,a,as,st,x,rfl,O,N,xh,k⟩:=h;refine⟨_,(ae (bD 2 ly (aB (pv 0) rfl)) (ae (bD 3 ly (aB (pv 1) rfl)) (ae (aM (PW.pt (gh (bE g0 (pv 3) au) (gh (bE nH (pv 3) (aB (pv 0) rfl)) (gz (bE uC (pc ax hr (aa (pv 2) (aa (pv 3) ag))) aZ))))) (aj (aw (eg T))) aA) (ae (aM (PW.pt (gY (bE bw (aB (pv 1) rfl) au) (fX (bE gK (aB (pv 1) rfl) (eg T))))) (aj (aw (eg T))) aA) (ae (aM (bE gK (aB (pv 1) rfl) (pc jq hr (aa (pv 2) ag))) (aj (aw (eg T))) aA) (ae (aM (bE nH (pd T (aa (pv 2) ag)) (eg T)) (aj (aw (eg T))) aA) (aj (aw au)))))))),?_⟩;have e0:=mr st.next st.nodes x;rw[Mr] at e0;generalize nodeFault st.next st.nodes x=nf0 at e0 k;refine⟨_,rfl,aU T O ?_⟩;refine⟨_,rfl,bW T N ?_⟩;dsimp only[fG,jz];refine TR.Kq (b:=(decide ((x.number:Int)<1)||(decide ((st.next:Int)<=(x.number:Int))|| !decide (uu (c9 st.nodes (x.number:Int))= .eQ)))) ?_ (λh H1 s1=>?_) (λh H1 s1=>?_)
 .exact TR.or (λR hR=>⟨_,rfl,_,_,rfl,rfl,_,rfl,hR _ (aD.refl _)⟩) λ_ H1 s1=>TR.or (λR hR=>⟨_,rfl,_,rfl,mF T (O.same s1) ⟨_,_,rfl,rfl,_,rfl,hR _ (aD.refl _)⟩⟩) λ_ H2 s2 R hR=>⟨_,rfl,_,rfl,l,as,_,_,rfl,(O.same (s1.trans s2)).N,λH3 s3=>⟨rfl,_,rfl,hR _ s3⟩⟩
 .rw[aq] at e0
  .subst e0;exact k H1 s1
  .rw[rR,rR,dN,dN] at h;rcases h with h|h|h
   .exact .inl (by lia)
   .exact .inr (.inr (.inl (by lia)))
   .refine .inr (.inr (.inr (.inl ?_)));cases hp:c9 st.nodes (x.number:Int) with
    |none=>rw[hp] at h;cases h
    |some i=>rfl
 .rw[MK,MK,m6,m6] at h;obtain⟨h1,h2,h3⟩:=h;have hp:c9 st.nodes (x.number:Int)=none:=by
   cases hp:c9 st.nodes (x.number:Int) with
   |none=>rfl
   |some i=>rw[hp] at h3;cases h3
  rw[hp] at e0;have O1:=O.same s1;have N1:=N.same s1;dsimp only[fG,jz];refine TR.Kq (b:=((decide (V.int (b2 x.cell)=V.int 0))&&decide ((6:Int)<(x.depth:Int)))) ?_ (λh H2 s2=>?_) (λh H2 s2=>?_)
  .exact TR.and (λR hR=>⟨_,rfl,fI T N1 ⟨rfl,_,rfl,hR _ (aD.refl _)⟩⟩) λ_ H2 s2 R hR=>⟨_,rfl,bj T (N1.same s2) ⟨_,_,rfl,rfl,_,rfl,hR _ (aD.refl _)⟩⟩
  .rw[uA,dN,dN] at h;rw[aq] at e0
   .subst e0;exact k _ (s1.trans s2)
   .refine .inr (.inr (.inr (.inr ⟨?_,by lia⟩)));cases hc:x.cell with
    |false=>rfl
    |true=>rw[hc] at h;exact nomatch h.1
  .have hn:¬(x.cell=false/\ 6<x.depth):=λq=>by
    rw[q.1,Bool.and_eq_false_iff,m6,m6] at h;rcases h with h|h
    .exact h rfl
    .exact h (by lia)
   rw[ak (by rintro(q|q|q|q|q);lia;lia;lia;cases q;exact hn q)] at e0;have O2:=O1.same s2;refine⟨_,rfl,bj T (N1.same s2) ⟨_,rfl,l,as,_,rfl,O2.N,λH3 s3=>⟨_,_,rfl,rfl,_,rfl,?_⟩⟩⟩;have jC:=(s1.trans s2).trans s3;have O3:=O2.same s3;refine aK (λh=>?_) (λh=>?_)
   .rw[aq (by have:=aH h;lia)] at e0;subst e0;exact k _ jC
   .have h:=cH h;rw[ak (by lia)] at e0;refine⟨_,rfl,l,_,rfl, .inl (bf.of O3.N.lst),_,_,rfl,rfl,_,rfl,?_⟩;rw[O3.N.gV];refine aK (λh=>?_) (λh=>?_)
    .rw[aq (by have:=aH h;lia)] at e0;subst e0;exact k _ jC
    .have h:=cH h;rw[ak (by lia)] at e0;subst e0;exact k _ jC
def mO(l:List Nat):Nat:=match firstLine l with
 |none=>2
 |some n=>if n<1\/ 1000<n then 3 else 0
def sZ(l:List Nat)(n:Nat):Nat:=if mO l=0 then(firstLine l).getD 0 else n
inductive E8(C CO:Addr)(vs:List V)(H:Hp)(Q:VK)(_E:XK):Prop
 |mk (ob dx l r:Addr) (as:List Addr) (s:Vanbkn.State) (t:List Int) (h1:vs=[.ref ob, .ref r]) (h2:a9 C CO H ob dx l as s) (h3:H r=some (.lst (aT t))) (h4:t.length<=10000) (h5:∀H',qp [ob] H H'->a9 C CO H' ob dx l as ⟨s.nodes,sZ (textOf t) s.next⟩->Q (.int ((mO (textOf t):Nat):Int)) H')
theorem ka:aG ["outline","line","number"] ["outline","line"] (ay ia):=eN
theorem JU(F:bB K mg "take_first_line" ia ["outline","line"])(T:Tz Z)(jr:bo Z 3 "next_number_in" ["line"] JP):bo Z 4 "take_first_line" ["outline","line"] (E8 C CO):=by
 refine F.fe ka λH Q E hr h=>?_;obtain⟨ob,dx,l,r,as,st,t,rfl,O,hR,hz,k⟩:=h;refine⟨_,(ae (bD 2 ka (pc jr hr (aa (pv 1) ag))) (ae (aM (bE bC (pv 2) aZ) (aj (aw (eg T))) aA) (ae (aM (PW.pt (gh (bE g0 (pv 2) au) (gz (bE gK (pv 2) (bc bO (eg T) au))))) (aj (aw (eg T))) aA) (ae (df (pv 0) (pv 2) rfl) (aj (aw au)))))),?_⟩;refine⟨_,rfl,r,t,rfl,hR,hz,λH2 s2=>?_⟩;have O2:=O.same s2;unfold sZ mO at k;refine⟨_,rfl,rfl,_,rfl,?_⟩;cases hn:firstLine (textOf t) with
 |none=>rw[hn] at k;exact aK (λ_=>k _ (qp.of_same s2) O2) (λh=>absurd rfl h)
 |some n=>
  rw[hn] at k;refine aK (λh=>nomatch (aH h)) (λ_=>?_);dsimp only[fG,jz];refine TR.Kq (b:=(decide ((n:Int)<1)||decide ((1000:Int)<(n:Int)))) ?_ (λh H3 s3=>?_) (λh H3 s3=>?_)
  .exact TR.or (λR hR=>⟨_,rfl,_,_,rfl,rfl,_,rfl,hR _ (aD.refl _)⟩) λ_ H1 s1 R hR=>⟨_,rfl,_,_,rfl,rfl,_,_,rfl,rfl,_,rfl,hR _ (aD.refl _)⟩
  .have hh:n<1\/ 1000<n:=by
    rw[rR,dN,dN] at h
    lia
   simp only[aq hh] at k;exact k _ (qp.of_same (s2.trans s3)) (O2.same s3)
  .have hh:¬(n<1\/ 1000<n):=by
    rw[MK,m6,m6] at h
    lia
   simp only[ak hh] at k;have O3:=O2.same s3;refine⟨_,rfl,_,rfl,ob,CO,dx,_,rfl,O3.at_,T.zM,T.wq,(by show 2<1000;decide),?_⟩;have O4:=O3.put T.ne1 (s':=⟨st.nodes,n⟩) O3.N;exact k _ (qp.qv (s2.trans s3) mJ) O4
theorem TR.ifB{t:TT}{b:Bool}(h:TR t σ H b)(h1:b=true->∀H',aD H H'->tx D σ H')(h2:b=false->∀H',aD H H'->ty D σ H'):uk t tx ty D σ H:=by
 refine h _ λH1 s1=>?_;cases b with
 |true=>exact eD (h1 rfl H1 s1)
 |false=>exact fL (h2 rfl H1 s1)
theorem GB(xs:List V)(a:Nat):d5 xs (some (a:Int)) none=xs.drop a:=by
 unfold d5;rw[show HT.qK xs.length 0 (some (a:Int))=min a xs.length from HT.kD _ _ _,show HT.qK xs.length xs.length none=xs.length from rfl];by_cases h:a<=xs.length
 .rw[iV h,<-dC,fq]
 .rw[z0 (by lia),tK,List.take_zero,uV (by lia)]
theorem pL(t:List Int):isText t=goodText (textOf t):=by unfold isText goodText;rw[j_];congr 1;rw[dH,Kv];refine List.all_congr rfl λc=>?_;show _=textByte (IC c);unfold textByte IC;rw[qP];split<;>lia
def t_(cell:Bool)(k n:Nat)(r:List Nat):List Str->Nat->Option Nd
 |[],_=>none
 |m::ms,i=>if kr r 0 (tl m)=true/\ goodText (r.drop (tl m).length)=true then some ⟨n,k,cell,i==1,r.drop (tl m).length⟩ else t_ cell k n r ms (i+1)
def fk(cell:Bool):List Str:=if cell=true then[" "] else[" + "," - "]
theorem pM:tl (" ":Str)=[32]:=by decide+kernel
theorem rK:tl (" + ":Str)=[32,43,32]:=by decide+kernel
theorem oR:tl (" - ":Str)=[32,45,32]:=by decide+kernel
theorem Dm(cell:Bool)(k n:Nat)(r:List Nat):nZ cell k n r=t_ cell k n r (fk cell) 0:=by
 cases cell with
 |true=>simp only[nZ,fk,t_,pM,kr,m8,dN];rfl
 |false=>simp only[nZ,fk,t_,rK,oR,kr,dN,Kd,m7];rfl
def rL(L:List Nat)(cell:Bool)(k:Nat):Option Nd:=if k<1\/ 7<k\/ (L.drop k).take 1≠[32] then none
 else match uq (L.drop (k+1)) with
  |none=>none
  |some x=>nZ cell k x.1 (L.drop (k+1+x.2))
def mP(C:Addr)(H H':Hp)(a:Addr)(x:Nd):Prop:=H a=none/\ ∃dx t,H' a=some (.ins C dx (nf x t))/\ H' t=some (.lst (aI x.text))/\ H t=none
theorem mP.back{C:Addr}{H0:Hp}{a:Addr}(n:mP C H H' a x)(s:aD H0 H):mP C H0 H' a x:=by obtain⟨h1,dx,t,h2,h3,h4⟩:=n;exact⟨s.free h1,dx,t,h2,h3,s.free h4⟩
theorem mP.at_{C:Addr}{a:Addr}(n:mP C H H' a x):bV C H' a x:=let ⟨_,dx,t,h2,h3,_⟩:=n;⟨dx,t,h2,h3⟩
inductive JV(C:Addr)(vs:List V)(H:Hp)(Q:VK)(_E:XK):Prop
 |mk (r m:Addr) (l:List Int) (cell:Bool) (d:Nat) (h1:vs=[.ref r, .int (b2 cell), .int (d:Nat), .ref m]) (h2:H r=some (.lst (aT l))) (h3:l.length<=10000) (h4:H m=some (.tup ((fk cell).map V.str))) (h5:(rL (textOf l) cell d=none->∀H',aD H H'->Q .eQ H')) (h6:∀x,rL (textOf l) cell d=some x->∀H' a,aD H H'->mP C H H' a x->Q (.ref a) H')
theorem GC{cell:Bool}{m:Str}(h:m∈fk cell):(tl m).length<=3/\ (∀c∈tl m,c<=255)/\ m.length=(tl m).length:=by
 refine⟨?_,?_,(dq m).symm⟩
 .cases cell<;>simp[fk] at h
  .rcases h with rfl|rfl
   .rw[rK];decide
   .rw[oR];decide
  .subst h;rw[pM];decide
 .cases cell<;>simp[fk] at h
  .rcases h with rfl|rfl
   .rw[rK];decide
   .rw[oR];decide
  .subst h;rw[pM];decide
theorem GD(cell:Bool):(fk cell).length<=2:=by cases cell<;>decide
theorem gd:aG ["line","cell","depth","marks","found","folded","mark","text","node"] ["line","cell","depth","marks"] (ay ot):=eN
theorem Ms(F:bB K mg "node_with" ot ["line","cell","depth","marks"])(T:Tz Z)(iK:bo Z 2 "number_at" ["line","start"] zG)(gc:bo Z 2 "has_at" ["line","start","signs"] yC)(ic:bo Z 1 "is_text" ["row"] rC)(rE:EM P w K mg base 1 "Node" C ["self","number","cell","depth","text"] (rD C)):bo Z 3 "node_with" ["line","cell","depth","marks"] (JV C):=by
 refine F.fe gd λH Q E hr h=>?_;obtain⟨r,m,l,cell,d,rfl,hR,hz,hM,k1,k2⟩:=h;refine⟨_,(ae (bD 4 gd (pc iK hr (aa (pv 0) (aa (bc bO (pv 2) au) ag)))) (ae (aM (PW.pt (gh (bE g0 (pv 2) au) (gh (bE gK (pv 2) (eg T)) (gh (vf (gk (pc gc hr (aa (pv 0) (aa (pv 2) (aa bN ag)))))) (gz (bE bC (pv 4) aZ)))))) (aj (aw aZ)) aA) (ae (eB PassesOwn.never rfl (IK rfl T.enumerate (aa (pv 3) ag)) (nF rfl (bZ (jB 5 gd) (bZ (jB 6 gd) jE))) (ae (bD 7 gd (bh bz (pv 0) (aW (bc bO (c5 dR (pv 4) au) (fM me (by rfl) T.len Ad (aa (pv 6) ag)))) eR)) (aj (aM (PW.pt (gY (gk (pc gc hr (aa (pv 0) (aa (c5 dR (pv 4) au) (aa (pv 6) ag))))) (fX (gk (pc ic hr (aa (pv 7) ag)))))) (ae (bD 8 gd (rE.make (hr.mono (by decide)) rfl (aa (c5 dR (pv 4) au) (aa (pv 1) (aa (pv 2) (aa (pv 7) ag)))))) (ae (df (pv 8) (pv 5) rfl) (aj (aw (pv 8))))) aA)))) (aj (aw aZ))))),?_⟩;have hed:((d:Nat):Int)+1=((d+1:Nat):Int):=by lia
 have PB:kr (textOf l) d (tl (" ":Str))=decide (((textOf l).drop d).take 1=[32]):=by rw[pM];rfl
 have test:∀(v:V)(σ:L2.St)(H1:Hp),aD H H1->σ[0]?=some (some (.ref r))->σ[2]?=some (some (.int (d:Nat)))->σ[4]?=some (some v)->TR (MX (iZ (qJ (xO λi j=>V.bl (decide (i<j))) (cv 2) (tC (.int 1)))) (MX (iZ (qJ (xO λi j=>V.bl (decide (j<i))) (cv 2) (tC (.int 7))))
  (MX (OB (tB (pF yC [] E0 (dk (cv 0) (dk (cv 2) (dk (tC (.str " ")) k6)))))) (iZ (qJ KP (cv 4) (tC V.eQ)))))) σ H1
  (decide ((d:Int)<1)||(decide ((7:Int)<(d:Int))||(!(decide (((textOf l).drop d).take 1=[32]))||decide (v=V.eQ)))):=by
  intro v σ H1 s1 h0 h2 h4;refine TR.or (λR hR=>⟨_,h2,_,_,rfl,rfl,_,rfl,hR _ (aD.refl _)⟩) λ_ H2 s2=>TR.or (λR hR=>⟨_,h2,_,_,rfl,rfl,_,rfl,hR _ (aD.refl _)⟩) λ_ H3 s3=>TR.or (TR.not λR Ti=>?_) λ_ H4 s4 R hR=>⟨_,h4,rfl,_,rfl,hR _ (aD.refl _)⟩;refine⟨_,h0,_,h2,r,l,d,_,rfl,((s1.trans s2).trans s3) _ _ hR,(by rw[pM];decide),(by rw[pM];decide),λH4 s4=>⟨_,rfl,?_⟩⟩;rw[PB];exact Ti _ s4
 have none_of:∀{b:Bool},(decide ((d:Int)<1)||(decide ((7:Int)<(d:Int))||(!(decide (((textOf l).drop d).take 1=[32]))||b)))=true->b=false->rL (textOf l) cell d=none:=by
  intro b h hb;subst hb;unfold rL;rw[aq];rw[rR,rR,rR,dN,dN,Bool.not_eq_true',m6] at h;rcases h with h|h|h|h
  .exact .inl (by lia)
  .exact .inr (.inl (by lia))
  .exact .inr (.inr h)
  .cases h
 refine⟨_,rfl,_,rfl,_,_,rfl,rfl,r,l,d+1,by show[V.ref r,V.int ((d:Int)+1)]=_;rw[hed],hR,hz,λhn H1 s1=>?_,λn len hn H1 t s1 ht=>?_⟩
 ·
  have hw:rL (textOf l) cell d=none:=by unfold rL;rw[hn];split<;>rfl
  dsimp only[fG,jz];refine TR.Kq (test .eQ _ H1 s1 rfl rfl rfl) (λh H2 s2=>k1 hw _ (s1.trans s2)) (λh H2 s2=>?_);exfalso;rw[aR (p:=V.eQ=V.eQ) rfl] at h;simp at h
 .dsimp only[fG,jz];refine TR.Kq (test (.ref t) _ H1 s1 rfl rfl rfl) (λh H2 s2=>k1 (none_of h (cP (by intro q;cases q))) _ (s1.trans s2)) (λh H2 s2=>?_);rw[cP (p:=V.ref t=V.eQ) (by intro q;cases q)] at h;rw[MK,MK,MK,m6,m6,Bool.not_eq_false',dN] at h;obtain⟨g1,g2,g3,_⟩:=h;have hw:rL (textOf l) cell d=t_ cell d n ((textOf l).drop (d+1+len)) (fk cell) 0:=by unfold rL;rw[hn,ak (by rintro(q|q|q);lia;lia;exact q g3),<-Dm]
  rw[hw] at k1 k2;have xj:=s1.trans s2;have P6:=s2 _ _ ht;refine⟨_,rfl,m,_,rfl,i_.of (xj _ _ hM),F5 (K:=K) (a:=m) (xs:=(fk cell).map V.str) (λi σ H'=>∃(v5 v6 v7:Option V),σ=[some (.ref r),some (.int (b2 cell)),some (.int (d:Nat)),some (.ref m),some (.ref t),v5,v6,v7,none]/\ aD H2 H'/\ t_ cell d n ((textOf l).drop (d+1+len)) (fk cell) 0=t_ cell d n ((textOf l).drop (d+1+len)) ((fk cell).drop i) i)
   ⟨none,none,none,rfl,aD.refl _,rfl⟩ (λi σ H' _ ⟨_,_,_,_,s3,_⟩=>i_.of ((xj.trans s3) _ _ hM)) ?_ ?_⟩
  .rintro i y σ H' tt hi ⟨v5,v6,v7,rfl,s3,Rc⟩ Dh;obtain⟨x,hx,rfl⟩:=get_map hi;have Ko:=cI hx;obtain⟨hx3,Tj,hxl⟩:=GC Ko;have IH:i<2:=dF (dm.mp hx).1 (GD cell);have y0:(fk cell).drop i=x::(fk cell).drop (i+1):=by rw[rS (dm.mp hx).1,(dm.mp hx).2]
   rw[y0] at Rc;have s4:=s3.new Dh (u:= .tup [.int (i:Nat), .str x]);have S0:=(xj.trans s4) _ _ hR;have U7:=s4 _ _ P6;refine⟨tt,_,rfl,i_.of ah,rfl,_,_,rfl,_,_,rfl,rfl,?_⟩;refine⟨_,rfl,_,rfl,t,_,_,_,rfl,rfl,i_.of U7,bT (j:=1) rfl,_,rfl,x,rfl,dB (by lia),_,_,rfl,rfl,_,rfl,r,_,rfl,bf.of S0,λp hp=>?_⟩;generalize Tn:d+1+len=ps at*;have sT:d5 (aT l) (some ((ps:Nat)+(x.length:Nat):Int)) none=aT (l.drop (ps+(tl x).length)):=by rw[show((ps:Nat)+(x.length:Nat):Int)=((ps+(tl x).length:Nat):Int) by lia,GB];unfold aT;rw[jR]
   rw[sT];have s5:=s4.new hp (u:= .lst (aT (l.drop (ps+(tl x).length))));dsimp only[fG,jz];refine TR.ifB (b:=(kr ((textOf l).drop ps) 0 (tl x))&&goodText (textOf (l.drop (ps+(tl x).length)))) ?_ (λh H5 s6=>?_) (λh H5 s6=>?_)
   .refine TR.and (λR Ti=>⟨_,rfl,_,rfl,t,_,_,_,rfl,rfl,i_.of (s5 _ _ P6),bT (j:=1) rfl,_,rfl,r,l,ps,x,rfl,(xj.trans s5) _ _ hR,by lia,Tj,λH6 s6=>⟨_,rfl,Ti _ s6⟩⟩) λ_ H6 s6 R Ti=>⟨_,rfl,p,_,rfl,s6 _ _ ah,?_,λH7 s7=>⟨_,rfl,?_⟩⟩
    .rw[dC];lia
    .rw[pL];exact Ti _ s7
   .rw[uA] at h;have Iv:isText (l.drop (ps+(tl x).length))=true:=by rw[pL];exact h.2
    have U8:((textOf l).drop ps).drop (tl x).length=textOf (l.drop (ps+(tl x).length)):=by rw[nt,dH,dH,jR]
    have Xg:t_ cell d n ((textOf l).drop ps) (fk cell) 0=some ⟨n,d,cell,i==1,textOf (l.drop (ps+(tl x).length))⟩:=by rw[Rc];show(if _ then _ else _)=_;rw[aq ⟨h.1,by rw[U8];exact h.2⟩,U8]
    have s7:=s5.trans s6;refine⟨_,rfl,t,_,_,_,rfl,rfl,i_.of (s7 _ _ P6),bT (j:=0) rfl,_,rfl,_,rfl,_,rfl,λxa xd hx Gh fo=>⟨xa,xd,_,_,_,p,rfl,ah,λH7 h7 hk=>⟨rfl,?_⟩⟩⟩;have s8:aD H5 H7:=ph hx Gh hk;refine⟨_,rfl,_,rfl,xa,C,xd,_,rfl,h7,T.cl,T.mE,(by show 5<1000;decide),?_⟩;have s9:=(xj.trans s7).trans s8;have NR:H xa=none:=(xj.trans s7).free hx;refine⟨_,rfl,k2 _ Xg _ xa (s9.put NR) ⟨NR,xd,p,?_,?_,(xj.trans s4).free hp⟩⟩
    .rw[ah];have hb:((i:Nat):Int)=b2 (i==1):=by rcases(by lia:i=0\/ i=1) with rfl|rfl<;>rfl
     rw[hb];rfl
    .have Xh:p≠xa:=λq=>by have:=s6 _ _ (ah (H:=_) (a:=p));rw[q,hx] at this;cases this
     rw[az Xh,s8 _ _ (s6 _ _ ah),gN,kL Iv]
   .refine⟨_,_,_,rfl,s5.trans s6,?_⟩;rw[Rc];show(if _ then _ else _)=_;rw[ak];rintro⟨q1,q2⟩;have U8:((textOf l).drop ps).drop (tl x).length=textOf (l.drop (ps+(tl x).length)):=by rw[nt,dH,dH,jR]
    rw[U8] at q2;rw[q1,q2] at h;cases h
  .rintro σ H' ⟨v5,v6,v7,rfl,s3,Rc⟩;rw[aS,Ky] at Rc;exact k1 Rc _ (xj.trans s3)
theorem zI(L:List Nat):n9 L=rL L (kr L 0 [61]) (sG L (if kr L 0 [61]=true then 61 else 35)):=by
 have e:kr L 0 [61]=decide (signOf L=61):=by
  unfold kr signOf;rw[qP];cases L with
  |nil=>simp
  |cons c r=>by_cases h:c=61<;>simp[h]
 have e2:(if kr L 0 [61]=true then 61 else 35)=signOf L:=by rw[e];unfold signOf;split<;>simp_all
 rw[e2,e];rfl
inductive BQ(C:Addr)(vs:List V)(H:Hp)(Q:VK)(_E:XK):Prop
 |mk (r:Addr) (l:List Int) (h1:vs=[.ref r]) (h2:H r=some (.lst (aT l))) (h3:l.length<=10000) (h4:(n9 (textOf l)=none->∀H',aD H H'->Q .eQ H')) (h5:∀x,n9 (textOf l)=some x->∀H' a,aD H H'->mP C H H' a x->Q (.ref a) H')
theorem yE:tl ("=":Str)=[61]:=by decide+kernel
theorem uR:tl ("#":Str)=[35]:=by decide+kernel
theorem Dq:aG ["line"] ["line"] (ay sP):=eN
theorem GF(F:bB K mg "node_in" sP ["line"])(T:Tz Z)(mQ:bo Z 3 "node_with" ["line","cell","depth","marks"] (JV C))(gc:bo Z 2 "has_at" ["line","start","signs"] yC)(pw:bo Z 3 "depth_in" ["line","sign"] E5):bo Z 4 "node_in" ["line"] (BQ C):=by
 refine F.fe Dq λH Q E hr h=>?_;obtain⟨r,l,rfl,hR,hz,k1,k2⟩:=h;refine⟨_,(ae (aM (gk (pc gc hr (aa (pv 0) (aa au (aa (kP rfl (T.gs rfl)) ag))))) (aj (aw (pc mQ hr (aa (pv 0) (aa au (aa (pc pw hr (aa (pv 0) (aa (kP rfl (T.gs rfl)) ag))) (aa (md (aa (kP rfl (T.gs rfl)) ag)) ag))))))) aA) (aj (aw (pc mQ hr (aa (pv 0) (aa au (aa (pc pw hr (aa (pv 0) (aa (kP rfl (T.gs rfl)) ag))) (aa (md (aa (kP rfl (T.gs rfl)) (aa (kP rfl (T.gs rfl)) ag))) ag)))))))),?_⟩;have e0:=zI (textOf l);refine⟨_,rfl,r,l,0,_,rfl,hR,(by rw[yE];decide),(by rw[yE];decide),λH1 s1=>⟨_,rfl,?_⟩⟩;rw[yE];cases hh:kr (textOf l) 0 [61] with
 |true=>rw[hh,aq rfl] at e0;rw[e0] at k1 k2;refine eD ?_;refine⟨_,rfl,_,rfl,r,l,_,61,rfl,yE,by decide,s1 _ _ hR,hz,λH2 s2=>⟨aV,λp hp=>?_⟩⟩;have s3:=(s1.trans s2).new hp (u:= .tup [V.str " "]);exact⟨r,p,l,true,_,rfl,s3 _ _ hR,hz,ah,λh H' s4=>k1 h _ (s3.trans s4),λx h H' a s4 hn=>k2 x h _ a (s3.trans s4) (hn.back s3)⟩
 |false=>rw[hh,ak (by decide)] at e0;rw[e0] at k1 k2;refine fL ?_;refine⟨_,rfl,_,rfl,r,l,_,35,rfl,uR,by decide,s1 _ _ hR,hz,λH2 s2=>⟨(by show 2<=sizeLine;decide),λp hp=>?_⟩⟩;have s3:=(s1.trans s2).new hp (u:= .tup [V.str " + ",V.str " - "]);exact⟨r,p,l,false,_,rfl,s3 _ _ hR,hz,ah,λh H' s4=>k1 h _ (s3.trans s4),λx h H' a s4 hn=>k2 x h _ a (s3.trans s4) (hn.back s3)⟩
def ua(s:Vanbkn.State)(L:List Nat):Nat:=match n9 L with
 |none=>2
 |some x=>nodeFault s.next s.nodes x
def yF(s:Vanbkn.State)(L:List Nat):Vanbkn.State:=match n9 L with
 |none=>s
 |some x=>if nodeFault s.next s.nodes x=0 then⟨s.nodes++[x],s.next⟩ else s
theorem GG{n:Nat}{o:O}(h:nodeFault n o x=0):o.length<60:=by
 rw[mr] at h;split at h
 .cases h
 .split at h
  .cases h
  .split at h
   .cases h
   .lia
theorem NL.push{a t:Addr}{as:List Addr}{o:O}(N:NL C H l as o)(hz:o.length<1000)(h1:H a=some (.ins C dx (nf x t)))(h2:H t=some (.lst (aI x.text)))(ht:t≠l):NL C (upd H l (.lst (as.map V.ref++[V.ref a]))) l (as++[a]) (o++[x]):=by
 refine⟨by rw[ah,cV];rfl,by rw[a_,a_,N.len];rfl,by rw[a_];exact hz,λi b y hb hy=>?_⟩;have GH:=N.lst;have keep:∀{c:Addr}{y:Nd},bV C H c y->as≠[]->bV C (upd H l (.lst (as.map V.ref++[V.ref a]))) c y:=λ{c y} ⟨xP,t',g1,g2⟩ fo=>by
  refine⟨xP,t',?_,?_⟩
  .rw[az (λq=>by rw[q,GH] at g1;cases g1)];exact g1
  .rw[az (λq=>?_)]
   .exact g2
   .rw[q,GH] at g2;injection g2 with g2;injection g2 with g2;cases as with
    |nil=>exact fo rfl
    |cons c cs=>
     cases hy:y.text with
     |nil=>rw[hy] at g2;cases g2
     |cons z zs=>rw[hy] at g2;cases g2
 by_cases hi:i<as.length
 .rw[nz hi] at hb;rw[nz (by rw[<-N.len];exact hi)] at hy;exact keep (N.at_ i b y hb hy) (λq=>by rw[q] at hi;cases hi)
 .rw[k3 (by lia)] at hb;rw[k3 (by rw[<-N.len];lia),<-N.len] at hy;cases e:i - as.length with
  |zero=>rw[e] at hb hy;cases hb;cases hy;exact⟨dx,t,by rw[az (λq=>by rw[q,GH] at h1;cases h1)];exact h1,by rw[az ht];exact h2⟩
  |succ n=>rw[e] at hb;simp at hb
inductive E9(C CO:Addr)(vs:List V)(H:Hp)(Q:VK)(_E:XK):Prop
 |mk (ob dx l r:Addr) (as:List Addr) (s:Vanbkn.State) (t:List Int) (h1:vs=[.ref ob, .ref r]) (h2:a9 C CO H ob dx l as s) (h3:H r=some (.lst (aT t))) (h4:t.length<=10000) (h5:s.next<=1000) (h6:∀H' ko,qp [l] H H'->a9 C CO H' ob dx l ko (yF s (textOf t))->Q (.int ((ua s (textOf t):Nat):Int)) H')
theorem ij:aG ["outline","line","node","fault"] ["outline","line"] (ay iB):=eN
theorem JW(F:bB K mg "take_node_line" iB ["outline","line"])(T:Tz Z)(wV:bo Z 4 "node_in" ["line"] (BQ C))(oS:bo Z 2 "node_fault" ["outline","node"] (E7 C CO)):bo Z 5 "take_node_line" ["outline","line"] (E9 C CO):=by
 refine F.fe ij λH Q E hr h=>?_;obtain⟨ob,dx,l,r,as,st,t,rfl,O,hR,hz,xh,k⟩:=h;refine⟨_,(ae (bD 2 ij (pc wV hr (aa (pv 1) ag))) (ae (aM (bE bC (pv 2) aZ) (aj (aw (eg T))) aA) (ae (bD 3 ij (pc oS hr (aa (pv 0) (aa (pv 2) ag)))) (ae (aM (bE bw (pv 3) au) (aj (bF (e_ eL iW iX cw (aB (pv 0) rfl) (aa (pv 2) ag)))) aA) (aj (aw (pv 3))))))),?_⟩;unfold yF ua at k;refine⟨_,rfl,r,t,rfl,hR,hz,λhn H1 s1=>?_,λx hx H1 a s1 hW=>?_⟩
 .rw[hn] at k;refine⟨_,rfl,rfl,_,rfl,?_⟩;exact aK (λ_=>k _ as (qp.of_same s1) (O.same s1)) (λh=>absurd rfl h)
 .rw[hx] at k;dsimp only at k;refine⟨_,rfl,rfl,_,rfl,?_⟩;refine aK (λh=>nomatch (aH h)) (λ_=>?_);have hN:=hW.at_;refine⟨_,rfl,_,rfl,ob,dx,l,a,as,st,x,rfl,O.same s1,hN,xh,λH2 s2=>?_⟩;have xj:=s1.trans s2;have O2:=O.same xj;have hN2:=hN.same s2;dsimp only[fG,jz];refine TR.Kq (b:=decide (nodeFault st.next st.nodes x=0)) (λR hR=>⟨_,rfl,rfl,_,rfl,?_⟩) (λh H3 s3=>?_) (λh H3 s3=>?_)
  .have e:decide (V.int ((nodeFault st.next st.nodes x:Nat):Int)=V.int 0)=decide (nodeFault st.next st.nodes x=0):=by
    rw[qP];constructor
    .intro h;injection h with h;lia
    .intro h;rw[h];rfl
   rw[e];exact hR _ (aD.refl _)
  .have h:=aH h;have O3:=O2.same s3;have hN3:=hN2.same s3;refine⟨_,rfl,ob,CO,dx,_,_,rfl,O3.at_,T.zM,T.j6,rfl, .inl ⟨rfl,_,bf.of O3.N.lst⟩,_,rfl,l,_,_,rfl,rfl,O3.N.lst,O3.N.sz,?_⟩;rw[aq h] at k;obtain⟨US,xd,tx,g1,g2,g3⟩:=hW;have NO:tx≠l:=λq=>by rw[q,O.N.lst] at g3;cases g3
   have YF:=s2.trans s3;have N4:=O3.N.push (by have:=GG h;lia) (YF _ _ g1) (YF _ _ g2) NO;have S9:ob≠l:=λq=>by have:=O3.N.lst;rw[<-q,O3.at_] at this;cases this
   refine⟨_,rfl,k _ (as++[a]) (qp.qv (xj.trans s3) mJ) ⟨by rw[az S9];exact O3.at_,N4⟩⟩
  .have h:=cH (by rw[h];decide);rw[ak h] at k;exact⟨_,rfl,k _ as (qp.of_same (xj.trans s3)) (O2.same s3)⟩
def BR(i:Nat)(s:Vanbkn.State)(ls:List (List Nat)):Except (Nat×Nat) Vanbkn.State:=match readNodes s.next i s.nodes ls with
 | .ok o=> .ok ⟨o,s.next⟩
 | .error f=> .error f
theorem Dr{T:List Nat}{l:List Nat}{r:List (List Nat)}(h:Vanbkn.linesOf T=l::m::r):(mO l≠0->Vanbkn.load T= .error (mO l,0))/\ (mO l=0->∀n,1<=sZ l n/\ sZ l n<=1000/\ Vanbkn.load T=BR 1 ⟨[],sZ l n⟩ (m::r)):=by
 unfold Vanbkn.load sZ;rw[h];dsimp only;unfold mO;cases e:firstLine l with
 |none=>exact⟨λ_=>rfl,λq=>by cases q⟩
 |some n=>
  by_cases hn:n<1\/ 1000<n
  .have RE:n=0\/ 1000<n:=by lia
   refine⟨λ_=>?_,λq=>?_⟩
   .dsimp only;rw[aq RE,aq hn]
   .dsimp only at q;rw[aq hn] at q;cases q
  .have RE:¬(n=0\/ 1000<n):=by lia
   refine⟨λq=>?_,λq m=>?_⟩
   .dsimp only at q;rw[ak hn] at q;exact absurd rfl q
   .simp only[ak hn,aq,ak RE,u7];refine⟨by lia,by lia,rfl⟩
theorem JX{l:List Nat}{r:List (List Nat)}:(ua s l≠0->BR i s (l::m::r)= .error (ua s l,i))/\ (ua s l=0->BR i s (l::m::r)=BR (i+1) (yF s l) (m::r)):=by
 unfold BR ua yF;have e:readNodes s.next i s.nodes (l::m::r)=match readNode l with
  |none=> .error (2,i)
  |some x=>if nodeFault s.next s.nodes x≠0 then .error (nodeFault s.next s.nodes x,i) else readNodes s.next (i+1) (s.nodes++[x]) (m::r):=by
  conv=>lhs;unfold readNodes
  rfl
 rw[e,yh];cases n9 l with
 |none=>exact⟨λ_=>rfl,λq=>by cases q⟩
 |some x=>
  dsimp only;by_cases hf:nodeFault s.next s.nodes x=0
  .refine⟨λq=>absurd hf q,λ_=>?_⟩;rw[ak (λq=>q hf),aq hf]
  .refine⟨λ_=>?_,λq=>absurd q hf⟩;rw[aq hf]
theorem BS{l:List Nat}:BR i s [l]=if l.length=0 then .ok s else .error (1,i):=by
 unfold BR;rw[readNodes];cases l with
 |nil=>rfl
 |cons a b=>rfl
theorem wW(s:Vanbkn.State)(L:List Nat):(yF s L).next=s.next:=by
 unfold yF;split
 .rfl
 .split<;>rfl
inductive JY(C CO:Addr)(vs:List V)(H:Hp)(Q:VK)(_E:XK):Prop
 |mk (ob dx l r:Addr) (as:List Addr) (s:Vanbkn.State) (t:List Int) (h1:vs=[.ref ob, .ref r]) (h2:a9 C CO H ob dx l as s) (h3:Wf s) (h4:H r=some (.lst (aT t))) (h5:t.length<=10000) (h6:d_ C CO H ob (Vanbkn.step s (.load t)) Q)
theorem yG(s:Vanbkn.State)(t:List Int):Vanbkn.step s (.load t)=match Vanbkn.load (textOf t) with
 | .ok u=>(u,(⟨0,[]⟩:Answer))
 | .error f=>(s,⟨ofNat f.1,[ofNat f.2]⟩):=rfl
theorem qp.JZ(h:qp S H1 H2)(s:aD H H1)(hS:∀b∈S,H b=none):aD H H2:=λb u e=>h b u (s b u e) λq=>by rw[hS b q] at e;cases e
theorem Rows.but{p:Addr}{as:List Addr}(h:Rows H p as ls)(b:qp S H H')(hp:p∉S)(ha:∀a∈as,a∉S):Rows H' p as ls:=⟨b _ _ h.lst hp,h.len,λi a l hi hl=>b _ _ (h.at_ i a l hi hl) (ha a (cI hi))⟩
theorem dg:aG ["outline","row","loaded","lines","rest","place","line","fault"] ["outline","row"] (ay j4):=eN
theorem Mt(F:bB K mg "load_outline" j4 ["outline","row"])(T:Tz Z)(l7:EM P w K mg base 1 "Outline" CO ["self"] (zz CO))(s_:bo Z 1 "lines_of" ["row"] E3)(iL:bo Z 4 "take_first_line" ["outline","line"] (E8 C CO))(js:bo Z 5 "take_node_line" ["outline","line"] (E9 C CO)):bo Z 6 "load_outline" ["outline","row"] (JY C CO):=by
 refine F.fe dg λH Q E hr h=>?_;obtain⟨ob,dx,l,r,as,st,t,rfl,O,W,hR,hz,k⟩:=h;rw[yG] at k;refine⟨_,(ae (bD 2 dg (l7.Nm (hr.mono (by decide)) rfl)) (ae (bD 3 dg (pc s_ hr (aa (pv 1) ag))) (ae (bD 4 dg (OQ eL PySem.F.slot_list_pop PySem.F.type_list_pop OT (pv 3))) (ae (eB PassesOwn.never rfl (yX rfl T.enumerate (aa (pv 3) ag)) (nF rfl (bZ (jB 5 dg) (bZ (jB 6 dg) jE))) (ae (bD 7 dg (gZ (bE bw (pv 5) au) (pc iL hr (aa (pv 2) (aa (pv 6) ag))) (pc js hr (aa (pv 2) (aa (pv 6) ag))))) (aj (aM (bE lG (pv 7) au) (aj (aw (aL (aa (pv 7) (aa (pv 5) ag))))) aA)))) (ae (aM (PW.pt (gh (bE gK (pd T (aa (pv 4) ag)) au) (gz (bE bw (pd T (aa (pv 3) ag)) au)))) (aj (aw (aL (aa (eg T) (aa (pd T (aa (pv 3) ag)) ag))))) aA) (ae (df (pv 0) (aB (pv 2) rfl) rfl) (ae (df (pv 0) (aB (pv 2) rfl) rfl) (aj (aw (aL (aa au ag))))))))))),?_⟩;refineλxo xd hx Gh fo=>⟨xo,xd,rfl,ah,λH2 l2 Ca Qs h1 h2 hk=>⟨rfl,?_⟩⟩;have Qt:l2≠xd:=λq=>by rw[q,az fo,ah] at Ca;cases Ca
 have Mu:H l2=none:=by rw[az Qs,az Qt] at Ca;exact Ca
 have s2:aD H H2:=λb o e=>by have b1:=ba e hx;have b2:=ba e Gh;have b3:=ba e Mu;rw[hk b b1 b3,az b1,az b2];exact e
 have OL:a9 C CO H2 xo xd l2 [] ⟨[],1⟩:=⟨h2,⟨h1,rfl,by simp,by simp⟩⟩;refine⟨_,rfl,r,t,rfl,s2 _ _ hR,by lia,λH3 p ps s3 RW hp Kp FH=>?_⟩;obtain⟨BU,pl,rfl⟩:∃BU pl,ps=BU++[pl]:=by
  have fo:ps≠[]:=λq=>by have:=RW.len;obtain⟨a,b,e⟩:=f7 t;rw[q,e] at this;cases this
  exact⟨_,_,(N5 fo).symm⟩
 have Rf:=t9 t;generalize UU:(bb t).dropLast=ls at Rf;generalize hla:(bb t).getLastD []=la at Rf;have JL:∀x∈ls++[la],x.length<=10000:=λx hx=>by
  have:=oO t x (by rw[Rf];exact hx)
  lia
 have Th:ls.length<=10000:=by
  have:=kY t;rw[Rf,a_] at this;have:ls.length+1<=t.length+1:=this
  lia
 have YG:Vanbkn.linesOf (textOf t)=ls.map textOf++[textOf la]:=by rw[<-v_,Rf,cV];rfl
 rw[Rf] at RW;have hlen:BU.length=ls.length:=by have:=RW.len;rw[a_,a_] at this;exact Nat.succ.inj this
 have J0:H3 p=some (.lst (BU.map V.ref++[V.ref pl])):=by rw[RW.lst,cV];rfl
 refine⟨_,rfl, .inl ⟨rfl,_,bf.of J0⟩,p,_, .ref pl,rfl,rfl,J0,(by simp),?_⟩;rw[NZ];have To:∀a∈BU++[pl],a≠p:=λa ha q=>Kp (q▸ha);have Xi:p≠l2:=λq=>by rw[q,h1] at hp;cases hp
 have Xj:p≠xo:=λq=>by rw[q,h2] at hp;cases hp
 have Tp:∀a∈BU++[pl],a≠l2:=λa ha q=>by have:=FH a ha;rw[q,h1] at this;cases this
 have Tq:∀a∈BU++[pl],a≠xo:=λa ha q=>by have:=FH a ha;rw[q,h2] at this;cases this
 have s4:aD H2 (upd H3 p (.lst (BU.map V.ref))):=s3.put hp;have Mn:Rows (upd H3 p (.lst (BU.map V.ref))) p BU ls:=⟨ah,hlen,λi a x ha hx=>by
  rw[az (To a (dz _ (cI ha)))];refine RW.at_ i a x ?_ ?_
  .rw[nz (dm.mp ha).1];exact ha
  .rw[nz (dm.mp hx).1];exact hx⟩
 have Tr:(upd H3 p (.lst (BU.map V.ref))) pl=some (.lst (aT la)):=by
  rw[az (To pl (by simp))];refine RW.at_ BU.length pl la ?_ ?_
  .rw[k3 (aQ _),tK];rfl
  .rw[hlen,k3 (aQ _),tK];rfl
 generalize upd H3 p (.lst (BU.map V.ref))=H4 at s4 Mn Tr;clear J0 RW;refine⟨_,rfl,p,_,rfl,bf.of Mn.lst,wo (K:=K) (a:=p) (xs:=BU.map V.ref) (λi σ H'=>∃(v5 v6 v7:Option V)(ko:List Addr)(s':Vanbkn.State),σ=[some (.ref ob),some (.ref r),some (.ref xo),some (.ref p),some (.ref pl),v5,v6,v7]/\ aD H H'/\ a9 C CO H' xo xd l2 ko s'/\ Rows H' p BU ls/\ H' pl=some (.lst (aT la))/\
  ((i=0/\ s'=⟨[],1⟩)\/ (1<=i/\ 1<=s'.next/\ s'.next<=1000/\ Vanbkn.load (textOf t)=BR i s' ((ls.map textOf++[textOf la]).drop i))))
  ⟨none,none,none,[],⟨[],1⟩,rfl,s2.trans s4,OL.same s4,Mn,Tr, .inl ⟨rfl,rfl⟩⟩ (λi σ H' _ ⟨_,_,_,_,_,_,_,_,FE,_⟩=>bf.of FE.lst) ?_ ?_⟩
 .rintro i y σ H' tt hi ⟨v5,v6,v7,ko,s',rfl,s5,O5,U9,Qu,m9⟩ Dh;obtain⟨a,ha,rfl⟩:=get_map hi;have m_:i<ls.length:=by rw[<-hlen];exact(dm.mp ha).1
  have SJ:ls[i]?=some ls[i]:=c8 m_;have ham:a∈BU:=cI ha;obtain⟨m,rr,y0⟩:∃m rr,(ls.map textOf++[textOf la]).drop (i+1)=m::rr:=by
   cases e:(ls.map textOf++[textOf la]).drop (i+1) with
   |nil=>
    have:=c_ List.length e;simp at this
    lia
   |cons m rr=>exact⟨m,rr,rfl⟩
  have Ts:(ls.map textOf++[textOf la]).drop i=textOf ls[i]::m::rr:=by rw[<-y0,rS (by simp;lia)];congr 1;rw[List.getElem_append_left (by simpa using m_),G4]
  have s6:=aE Dh (u:= .tup [.int (i:Nat), .ref a]);have O6:=O5.same s6;have Xk:=U9.same s6;have Tt:=s6 _ _ Qu;have YH:=s5.trans s6;have YI:=Xk.at_ i a _ ha SJ;have U_:ls[i].length<=10000:=JL _ (dz _ (Oj m_));refine⟨tt,_,rfl,i_.of ah,rfl,_,_,rfl,_,_,rfl,rfl,?_⟩;generalize upd H' tt (.tup [.int (i:Nat), .ref a])=H6 at*;refine⟨_,rfl,rfl,_,rfl,?_⟩;have yH:∀(fl:Nat)(H7:Hp),aD H H7->Vanbkn.load (textOf t)= .error (fl,i)->X0 [.int (fl:Nat), .int (i:Nat)] H7 Q:=λfl H7 s7 e=>⟨(by show 2<=sizeLine;decide),λq hq=>by rw[e] at k;exact k.told O rfl (s7.new hq) ah rfl⟩
  rcases m9 with⟨rfl,rfl⟩|⟨YJ,GW,Ak,ub⟩
  .refine aK (λ_=>?_) (λh=>absurd rfl h);obtain⟨f1,f2⟩:=Dr (T:=textOf t) (l:=textOf ls[0]) (m:=m) (r:=rr) (by rw[YG];exact Ts);refine⟨_,rfl,_,rfl,xo,xd,l2,a,ko,_,ls[0],rfl,O6,YI,U_,λH7 b7 O7=>?_⟩;have s7:aD H H7:=b7.JZ YH (λb hb=>by simp at hb;rw[hb];exact hx);refine⟨_,rfl,rfl,_,rfl,?_⟩;by_cases hf:mO (textOf ls[0])=0
   .rw[hf];refine aK (λh=>by cases h) (λ_=>?_);obtain⟨g1,g2,g3⟩:=f2 hf 1;exact⟨_,_,_,ko,_,rfl,s7,O7,Xk.but b7 (by simpa using Xj) (λc hc=>by simpa using Tq c (dz _ hc)),b7 _ _ Tt (by simpa using Tq pl (by simp)), .inr ⟨aQ _,g1,g2,by rw[g3,y0]⟩⟩
   .refine aK (λ_=>?_) (λh=>?_)
    .exact⟨_,rfl,_,rfl,yH _ H7 s7 (f1 hf)⟩
    .exfalso;apply h;show(!decide (V.int ((mO (textOf ls[0]):Nat):Int)=V.int 0))=true;rw[cP]
     .rfl
     .intro q;injection q with q
      lia
  .refine aK (λh=>?_) (λ_=>?_)
   .exfalso;have:=aH h;injection this with this
    lia
   rw[Ts] at ub;obtain⟨f1,f2⟩:=JX (i:=i) (s:=s') (l:=textOf ls[i]) (m:=m) (r:=rr);refine⟨_,rfl,_,rfl,xo,xd,l2,a,ko,s',ls[i],rfl,O6,YI,U_,Ak,λH7 as7 b7 O7=>?_⟩;have s7:aD H H7:=b7.JZ YH (λb hb=>by simp at hb;rw[hb];exact Mu);refine⟨_,rfl,rfl,_,rfl,?_⟩;by_cases hf:ua s' (textOf ls[i])=0
   .rw[hf];refine aK (λh=>by cases h) (λ_=>?_);exact⟨_,_,_,as7,_,rfl,s7,O7,Xk.but b7 (by simpa using Xi) (λc hc=>by simpa using Tp c (dz _ hc)),b7 _ _ Tt (by simpa using Tp pl (by simp)), .inr ⟨by lia,by rw[wW];exact GW,by rw[wW];exact Ak,by rw[ub,f2 hf,y0]⟩⟩
   .refine aK (λ_=>?_) (λh=>?_)
    .exact⟨_,rfl,_,rfl,yH _ H7 s7 (by rw[ub];exact f1 hf)⟩
    .exfalso;apply h;show(!decide (V.int ((ua s' (textOf ls[i]):Nat):Int)=V.int 0))=true;rw[cP]
     .rfl
     .intro q;injection q with q
      lia
 .rintro σ H' ⟨v5,v6,v7,ko,s',rfl,s5,O5,U9,Qu,m9⟩;rw[aS,hlen] at m9;have pG:(BU.map V.ref).length=ls.length:=by rw[aS,hlen]
  dsimp only[fG,jz];refine TR.Kq (b:=(decide ((0:Int)<((la.length:Nat):Int))||decide (V.int ((ls.length:Nat):Int)=V.int 0))) ?_ (λh H6 s6=>?_) (λh H6 s6=>?_)
  .refine TR.or (λR hR=>⟨_,rfl,pl,_,rfl, .inl (bf.of Qu),_,_,rfl,rfl,_,rfl,?_⟩) λ_ H6 s6 R hR=>⟨_,rfl,p,_,rfl, .inl (bf.of (s6 _ _ U9.lst)),rfl,_,rfl,?_⟩
   .rw[bA];exact hR _ (aD.refl _)
   .rw[pG];exact hR _ (aD.refl _)
  ·
   have e:Vanbkn.load (textOf t)= .error (1,ls.length):=by
    rcases m9 with⟨h0,_⟩|⟨YJ,GW,Ak,ub⟩
    .unfold Vanbkn.load;rw[YG,zQ h0];rfl
    .rw[ub,Rn (by simp),uV (by simp),uZ,BS,j_,ak];rw[rR,dN,dN] at h;rcases h with h|h
     .lia
     .injection h with h;lia
   rw[e] at k;refine⟨_,rfl,p,_,rfl, .inl (bf.of (s6 _ _ U9.lst)),(by show 2<=sizeLine;decide),λq hq=>?_⟩;rw[pG];exact k.told O rfl ((s5.trans s6).new hq) ah rfl
  .rw[MK,m6,m6] at h;obtain⟨g1,g2⟩:=h;have g2:ls.length≠0:=λq=>g2 (by rw[q];rfl);rcases m9 with⟨h0,_⟩|⟨YJ,GW,Ak,ub⟩
   .exact absurd h0 g2
   rw[Rn (by simp),uV (by simp),uZ,BS,j_,aq (by lia)] at ub;rw[ub] at k;have O6:=(O.same s5).same s6;have L6:=O5.same s6;refine⟨_,rfl,xo,CO,xd,_,_,rfl,L6.at_,T.zM,T.j6,rfl,_,rfl,ob,CO,dx,_,rfl,O6.at_,T.zM,T.j6,(by show 2<1000;decide),?_⟩;have QY:xo≠ob:=(ba O.at_ hx).symm;refine⟨_,rfl,xo,CO,xd,_,_,rfl,(by rw[az QY];exact L6.at_),T.zM,T.wq,rfl,_,rfl,ob,CO,dx,_,rfl,ah,T.zM,T.wq,(by show 2<1000;decide),?_⟩;refine⟨aV,λq hq=>?_⟩;have e2:∀(u v:HO),upd (upd H6 ob u) ob v=upd H6 ob v:=λu v=>by
    funext b;by_cases hb:b=ob
    .rw[hb,ah,ah]
    .rw[az hb,az hb,az hb]
   rw[e2] at hq⊢;have O7:=O6.put T.ne1 (s':=s') L6.N;have hF:Fr C CO H6 (upd H6 ob (.ins CO dx (yn s'.next l2))):=(mJ (a:=ob)).fr (BC O6);exact k _ q dx l2 ko (((s5.trans s6).fr.trans hF).trans (aE hq).fr) (O7.same (aE hq)) ah
theorem TR.meet{t:TT}{b:Bool}(σ':L2.St)(h:TR t σ H b)(hx:b=true->∀H',u D σ' H'->tx {D with nx:=u D} σ H')(hy:b=false->∀H',u D σ' H'->ty {D with nx:=u D} σ H')(k:∀H',aD H H'->u D σ' H'):ma (uk t tx ty) u D σ H:=
 TR.Kq h (λe H' s=>hx e H' (k H' s)) (λe H' s=>hy e H' (k H' s))
theorem TR.val{t:TT}{ta tb:TE}{b:Bool}(v:V)(h:TR t σ H b)(hx:b=true->∀H',Q v H'->ta σ H' Q)(hy:b=false->∀H',Q v H'->tb σ H' Q)(k:∀H',aD H H'->Q v H'):VJ t ta tb σ H Q:=by
 refine h _ λH1 s1=>?_;cases b with
 |true=>exact eD (hx rfl H1 (k H1 s1))
 |false=>exact fL (hy rfl H1 (k H1 s1))
theorem J1{v:V}(h:u D (σ.set i (some v)) H):ma (xq (tC v) (fG i)) u D σ H:=h
theorem TR.Tu{t:TT}{ta tb:TE}{b:Bool}(v:V)(h:TR t σ H b)(hx:b=true->∀H' (R:VK),R v H'->ta σ H' R)(hy:b=false->∀H' (R:VK),R v H'->tb σ H' R)(k:∀H',aD H H'->u D (σ.set i (some v)) H'):ma (xq (VJ t ta tb) (fG i)) u D σ H:=
 TR.val v h (λe H' q=>hx e H' _ q) (λe H' q=>hy e H' _ q) k
theorem J2(c:Bool):decide (V.int (b2 c)=V.int 1)=c:=by cases c<;>rfl
def uc(x:Nd):Str:=if x.cell=true then"=" else"#"
def Ds(x:Nd):Str:=if x.cell=true then" " else if x.folded=true then" - " else" + "
def yI(x:Nd):List Nat:=List.replicate x.depth (if x.cell=true then 61 else 35)++32::decimal x.number++32::(if x.cell=true then x.text else(if x.folded=true then 45 else 43)::32::x.text)
theorem tj(x:Nd):nodeLine x=yI x++[10]:=rfl
theorem E_(x:Nd):tl (Bi (uc x) x.depth++(" ":Str)++Str.ofString (toString ((x.number:Nat):Int))++Ds x)++x.text=yI x:=by
 rw[fD,fD,fD,uL,lq,pM];unfold yI uc Ds;have e:∀c:Nat,(List.replicate x.depth [c]).flatten=List.replicate x.depth c:=λc=>by
  induction x.depth with
  |zero=>rfl
  |succ n ih=>rw[G',Cf,ih];rfl
 cases hc:x.cell with
 |true=>simp only[m8,yE,pM,e];simp
 |false=>
  cases hf:x.folded with
  |true=>simp only[m8,Kd,m7,uR,oR,e];simp
  |false=>simp only[Kd,m7,uR,rK,e];simp
theorem BV(x:Nd):(Ds x).length<=3:=by
 rw[dq];unfold Ds;split
 .rw[pM];decide
 .split
  .rw[oR];decide
  .rw[rK];decide
theorem yJ(x:Nd):(uc x).length=1:=by
 rw[dq];unfold uc;split
 .rw[yE];rfl
 .rw[uR];rfl
theorem len_app(x y:Str):(x++y).length=x.length+y.length:=by rw[dq,dq,dq,fD,a_]
theorem len_str(n:Nat)(h:n<1000):(Str.ofString (toString ((n:Nat):Int))).length<=3:=by rw[dq,lq];exact iP h
theorem len_rep(x:Nd):(Bi (uc x) x.depth).length=x.depth:=by have:=yJ x;rw[dq] at this;rw[dq,uL,List.length_flatten,List.map_replicate,List.sum_replicate_nat,this,Nat.mul_one]
theorem tm:(" ":Str).length=1:=by rw[dq,pM];rfl
theorem BW(hd:x.depth<=7)(hn:x.number<=999)(ht:x.text.length<=60):(yI x).length<=80:=by
 rw[<-E_,a_,<-dq,len_app,len_app,len_app,len_rep,tm];have:=len_str x.number (by lia);have:=BV x
 lia
inductive BX(C:Addr)(vs:List V)(H:Hp)(Q:VK)(_E:XK):Prop
 |mk (a:Addr) (x:Nd) (h1:vs=[.ref a]) (h2:bV C H a x) (h3:1<=x.depth) (h4:x.depth<=7) (h5:x.number<=999) (h6:x.text.length<=60) (h7:∀H' p,aD H H'->H' p=some (.lst (aI (yI x)))->H p=none->Q (.ref p) H')
theorem kb:aG ["node","sign","before_text"] ["node"] (ay sO):=eN
theorem Mv(F:bB K mg "line_of" sO ["node"])(T:Tz Z)(cE:bo Z 1 "bytes_of" ["signs"] pf):bo Z 2 "line_of" ["node"] (BX C):=by
 refine F.fe kb λH Q E hr h=>?_;obtain⟨a,x,rfl,N,Qo,hd7,hn,ht,k⟩:=h;refine⟨_,(ae (bD 1 kb (kP rfl (T.gs rfl))) (ae (bD 2 kb (gZ (bE bw (aB (pv 0) rfl) au) (kP rfl (T.gs rfl)) (kP rfl (T.gs rfl)))) (ae (aM (bE bw (aB (pv 0) rfl) au) (ae (bD 1 kb (kP rfl (T.gs rfl))) (aj (bD 2 kb (kP rfl (T.gs rfl))))) aA) (aj (aw (bc g8 (pc cE hr (aa (bc jU (bc jU (bc jU (bc Lw (pv 1) (aB (pv 0) rfl)) bN) (lI g7 (by rfl) T.str wm (aa (aB (pv 0) rfl) ag))) (pv 2)) ag)) (aB (pv 0) rfl))))))),?_⟩;have hs1:=yJ x;have hb3:=BV x;have Te:=len_str x.number (by lia);have hr:=len_rep x;refine J1 ?_;refine TR.Tu (b:=x.folded) (V.str (if x.folded=true then" - " else" + ")) (λR hR=>⟨_,rfl,iG T N ⟨rfl,_,rfl,by rw[J2];exact hR _ (aD.refl _)⟩⟩) (λe H' R q=>by rw[e] at q;exact q) (λe H' R q=>by rw[e] at q;exact q) λH1 s1=>?_;have N1:=N.same s1;dsimp only[fG,jz];refine TR.meet (b:=x.cell) [some (.ref a),some (.str (uc x)),some (.str (Ds x))] (λR hR=>⟨_,rfl,fI T N1 ⟨rfl,_,rfl,by rw[J2];exact hR _ (aD.refl _)⟩⟩) (λe H' q=>?_) (λe H' q=>?_) λH2 s2=>?_
 .unfold uc Ds at q;simp only[e,m8] at q;exact q
 .unfold uc Ds at q;simp only[e,Kd,m7] at q;exact q
 have N2:=N1.same s2;have xj:=s1.trans s2;refine⟨_,rfl,_,rfl,bj T N2 ⟨_,x.depth,rfl,rfl,Qo,by lia,by lia,_,_,rfl,rfl,?_,_,rfl,bW T N2 ⟨_,rfl,wz (by lia),_,_,rfl,rfl,?_,_,rfl,_,_,rfl,rfl,?_,_,rfl,?_,λH3 p s3 hp Bp=>?_⟩⟩⟩
 .exact dB (by rw[hr,tm];lia)
 .exact dB (by rw[len_app,hr,tm];lia)
 .exact dB (by rw[len_app,len_app,hr,tm];lia)
 .rw[<-dq,len_app,len_app,len_app,hr,tm];lia
 .refine⟨_,rfl,iQ T (N2.same s3) λtx pJ=>⟨p,tx,_,_,rfl,rfl,hp,pJ,?_,λq hq=>?_⟩⟩
  .rw[aF,aF,<-dq,len_app,len_app,len_app,hr,tm];exact dB (by lia)
  .refine k _ q ((xj.trans s3).new hq) ?_ ((xj.trans s3).free hq);rw[ah,<-E_];unfold aI;rw[cV]
theorem J3:∀{o:O}{m:Nat},m<=7->cG m o->(∀x∈o,Good x)->∀x∈o,x.depth<=7
 |[],_,_,_,_,x,h=>by cases h
 |y::r,m,hm,hD,hg,x,h=>by
  obtain⟨d1,d2,d3⟩:=hD;have hl:lim y<=7:=by
   unfold lim;cases hc:y.cell with
   |true=>rw[aq rfl];lia
   |false=>
    rw[ak (by decide)];have:=(hg y (by simp)).sec hc
    lia
  rcases bY.mp h with rfl|h
  .lia
  .exact J3 hl d3 (λz hz=>hg z (bu _ hz)) x h
theorem lO.Qv{o:O}(W:lO o)(x:Nd)(h:x∈o):1<=x.depth/\ x.depth<=7:=⟨lP W.dep x h,J3 (by decide) W.dep W.good x h⟩
theorem Dt{α β:Type}(f:α->List β){l:List α}{x:α}(h:l[i]?=some x):(l.take (i+1)).flatMap f=(l.take i).flatMap f++f x:=by rw[take_snoc h,Ce];simp
theorem iM{α β:Type}(f:α->List β)(m:Nat):∀(l:List α),(∀x∈l,(f x).length<=m)->(l.flatMap f).length<=m*l.length
 |[],_=>by simp
 |x::r,h=>by
  have:=iM f m r λy hy=>h y (bu _ hy);have:=h x (by simp);rw[ny,a_,cj,Aa]
  lia
theorem Tv{n:Nat}(h:n<=1000):(decimal n).length<=4:=by
 by_cases e:n=1000
 .subst e
  decide+kernel
 .have:=iP (n:=n) (by lia)
  lia
theorem Mw(s:Vanbkn.State):Vanbkn.step s .save=(s,tell (Vanbkn.save s)):=rfl
theorem jt:aG ["outline","saved","node"] ["outline"] (ay j3):=eN
theorem Mx(F:bB K mg "save_outline" j3 ["outline"])(T:Tz Z)(cE:bo Z 1 "bytes_of" ["signs"] pf)(wX:bo Z 2 "line_of" ["node"] (BX C))(bt:Kn Z):bo Z 3 "save_outline" ["outline"] (lu C CO .save):=by
 refine F.fe jt λH Q E hr h=>?_;obtain⟨ob,dx,l,as,st,rfl,O,W,k⟩:=h;refine⟨_,(ae (bD 1 jt (bc g8 (pc cE hr (aa (bc jU (kP rfl (T.gs rfl)) (lI g7 (by rfl) T.str wm (aa (aB (pv 0) rfl) ag))) ag)) (aL (aa (eg T) ag)))) (ae (eB PassesOwn.never rfl (bL (aB (pv 0) rfl)) (jB 2 jt) (ae (bF (e_ eL qN qO fY (pv 1) (aa (pc wX hr (aa (pv 2) ag)) ag))) (aj (bF (e_ eL iW iX cw (pv 1) (aa (eg T) ag)))))) (aj (aw (pc bt hr (aa (pv 1) ag)))))),?_⟩;rw[Mw] at k;have xh:st.next<=1000:=W.nx.2;have hw:=W.n.len;have hd4:=Tv xh;have e1:tl (("outline ":Str)++Str.ofString (toString ((st.next:Nat):Int)))=Vanbkn.b "outline "++decimal st.next:=by rw[fD,lq,wU]
 have hb8:(Vanbkn.b "outline ").length=8:=rfl;have UU:(Str.ofString (toString ((st.next:Nat):Int))).length<=4:=by rw[dq,lq];exact hd4
 refine⟨_,rfl,mF T O ⟨_,rfl,wz (by lia),_,_,rfl,rfl,dB (by rw[oP];lia),_,rfl,?_,λH1 p s1 hp Bp=>⟨aV,λq hq=>?_⟩⟩⟩
 .rw[e1,a_];lia
 rw[e1] at hp;refine⟨p,q,_,_,rfl,rfl,a7 hp hq,ah,dB ?_,λv hv=>?_⟩
 .rw[aF,a_];show _+1<=_;lia
 have s2:=(s1.new hq (u:= .lst [V.int 10])).new hv (u:= .lst (aI (Vanbkn.b "outline "++decimal st.next)++[V.int 10]));have YK:H v=none:=(s1.new hq).free hv;have PL:∀x∈st.nodes,(yI x).length<=80:=λx hx=>by have:=W.n.good x hx;have:=W.n.Qv x hx;exact BW (by lia) (W.n.good x hx).num.2 (W.n.good x hx).txt.1
 have hf:∀i,((st.nodes.take i).flatMap nodeLine).length<=81*st.nodes.length:=λi=>bp (iM nodeLine 81 _ λx hx=>by
  have hx:=ku hx;rw[tj,a_];have:=PL x hx;show _+1<=81
  lia) (DY _ (by rw[bg];exact z_ _ _))
 have hf:∀i,((st.nodes.take i).flatMap nodeLine).length<=4860:=λi=>bp (hf i) (bp (DY _ hw) (by decide));have O2:=O.same s2;refine⟨_,rfl,aU T O2 ⟨l,rfl,⟨_,bf.of O2.N.lst⟩,dG (K:=K) (a:=l) (xs:=as.map V.ref) (λi σ H'=>∃v2:Option V,σ=[some (.ref ob),some (.ref v),v2]/\ aD H H'/\ H' v=some (.lst (aI (Vanbkn.b "outline "++decimal st.next++10::(st.nodes.take i).flatMap nodeLine))))
  ⟨none,rfl,s2,?_⟩ (λi σ H' _ ⟨_,_,s5,_⟩=>bf.of (s5 _ _ O.N.lst)) ?_ ?_⟩⟩
 .rw[ah];unfold aI;simp
 .rintro i y σ H' hi ⟨v2,rfl,s5,hB⟩;obtain⟨c,x,rfl,hc,hx,hn⟩:=O.N.item hi;have Ko:=cI hx;have hg:=W.n.good x Ko;have hd:=W.n.Qv x Ko;have Q8:=hf i;have hl8:=PL x Ko;generalize hA:Vanbkn.b "outline "++decimal st.next++10::(st.nodes.take i).flatMap nodeLine=A0 at hB;have hA0:A0.length<=5000:=by
   rw[<-hA,a_,a_,cj]
   lia
  refine⟨_,rfl, .inl ⟨rfl,_,bf.of hB⟩,_,rfl,c,x,rfl,hn.same s5,hd.1,hd.2,hg.num.2,hg.txt.1,λH6 p6 s6 h6 _=>?_⟩;refine⟨v,p6,_,_,rfl,rfl,s6 _ _ hB,h6,dB (by rw[aF,aF];lia),?_⟩;refine⟨_,rfl, .inl ⟨rfl,_,bf.of ah⟩,v,_,_,rfl,rfl,ah,eM (by rw[a_,aF,aF];lia),?_⟩;refine⟨_,rfl,((s5.trans s6).put YK).put YK,?_⟩;rw[ah,Dt _ hx,tj,<-iT,<-dQ,hA];unfold aI;simp
 .rintro σ H' ⟨v2,rfl,s5,hB⟩;rw[aS,O.N.len,fq] at hB;have Q8:=hf st.nodes.length;rw[fq] at Q8;refine⟨_,rfl,v,_,rfl,hB,?_,λH6 p6 s6 h6=>?_⟩
  .rw[aF,a_,a_,cj];lia
  .refine k.told O rfl (s5.trans s6) h6 ?_;rw[BJ,aF];rfl
theorem My{t:O}{nx:Nat}(h:x.number∉nums t)(n:Nat):mN (t++[x]) nx n=if n=x.number then some (nx+t.length) else mN t nx n:=by
 unfold mN;rw[cY,List.findIdx?_append];by_cases e:n=x.number
 .rw[aq e,e];have h1:(nums t).findIdx? (λm=>m==x.number)=none:=by rw[G3];intro m hm;simp;intro q;exact h (q▸hm)
  rw[h1];have h2:(nums [x]).findIdx? (λm=>m==x.number)=some 0:=by simp[nums]
  rw[h2];simp[nums]
 .rw[ak e];have h2:(nums [x]).findIdx? (λm=>m==n)=none:=by rw[G3];intro m hm;simp[nums] at hm;subst hm;simpa usingλq=>e q.symm
  rw[h2];simp
def Cc(t:O)(nx fr to:Nat)(x:Nd):Nd:={Ip t nx x with depth:=x.depth - fr+to}
theorem Du(t:O)(nx fr to:Nat):shifted (sA t nx) fr to=t.map (Cc t nx fr to):=by unfold shifted sA;rw[ip];rfl
inductive BY(C:Addr)(vs:List V)(H:Hp)(Q:VK)(_E:XK):Prop
 |mk (r:Addr) (as:List Addr) (t:O) (nx fr to:Nat) (h1:vs=[.ref r, .int (nx:Nat), .int ((to:Int) - (fr:Int))]) (h2:NL C H r as t) (h3:(nums t).Nodup) (h4:t.length<=60) (h5:nx+t.length<=1000) (h6:(∀x∈t,fr<=x.depth/\ x.text.length<=60)) (h7:∀H' p bs,aD H H'->NL C H' p bs (t.map (Cc t nx fr to))->Q (.ref p) H')
theorem fm:aG ["tree","first_number","shift","numbers","place","node","copies","twin"] ["tree","first_number","shift"] (ay oe):=eN
theorem GJ(F:bB K mg "copies_of" oe ["tree","first_number","shift"])(T:Tz Z)(rE:EM P w K mg base 1 "Node" C ["self","number","cell","depth","text"] (rD C))(oT:bo Z 4 "renumbered" ["text","numbers"] ND):bo Z 5 "copies_of" ["tree","first_number","shift"] (BY C):=by
 refine F.fe fm λH Q E hr h=>?_;obtain⟨r,as,t,nx,fr,to,rfl,N,vE,hz,xh,ht,k⟩:=h;refine⟨_,(ae (bD 3 fm AA) (ae (eB PassesOwn.never rfl (yX rfl T.enumerate (aa (pv 0) ag)) (nF rfl (bZ (jB 4 fm) (bZ (jB 5 fm) jE))) (aj (yW (qY hr) (pv 3) (aB (pv 5) rfl) (bc bO (pv 1) (pv 4)) rfl))) (ae (bD 6 fm (aL ag)) (ae (eB PassesOwn.never rfl (bL (pv 0)) (jB 5 fm) (ae (bD 7 fm (rE.make (hr.mono (by decide)) rfl (aa (uD (qY hr) (pv 3) (aB (pv 5) rfl) (λ_ _=>rfl)) (aa (aB (pv 5) rfl) (aa (bc bO (aB (pv 5) rfl) (pv 2)) (aa (pc oT hr (aa (aB (pv 5) rfl) (aa (pv 3) ag))) ag)))))) (ae (df (pv 7) (aB (pv 5) rfl) rfl) (aj (bF (e_ eL iW iX cw (pv 6) (aa (pv 7) ag))))))) (aj (aw (pv 6))))))),?_⟩;refineλd hd=>?_;have s1:aD H (upd H d (.dK [])):=aE hd;refine⟨_,rfl,r,_,rfl,bf.of (s1 _ _ N.lst),wo (K:=K) (a:=r) (xs:=as.map V.ref) (λi σ H'=>∃(v4 v5:Option V)(a6:List (Key×V)),σ=[some (.ref r),some (.int (nx:Nat)),some (.int ((to:Int) - (fr:Int))),some (.ref d),v4,v5,none,none]/\ aD H H'/\ H' d=some (.dK a6)/\ a6.length<=i/\ ∀n:Nat,gT a6 (Sum.inl (n:Int))=(mN (t.take i) nx n).map λv=>V.int (v:Nat))
  ⟨none,none,[],rfl,s1,ah,aQ _,λn=>rfl⟩ (λi σ H' _ ⟨_,_,_,_,s2,_⟩=>bf.of (s2 _ _ N.lst)) ?_ ?_⟩
 .rintro i y σ H' tt hi ⟨v4,v5,a6,rfl,s2,hD,Xc,wF⟩ Dh;obtain⟨a,x,rfl,ha,hx,hn⟩:=N.item hi;have s3:=s2.new Dh (u:= .tup [.int (i:Nat), .ref a]);have m_:i<t.length:=(dm.mp hx).1;refine⟨tt,_,rfl,i_.of ah,rfl,_,_,rfl,_,_,rfl,rfl,?_⟩;have hD3:=a7 (u:= .tup [.int (i:Nat), .ref a]) hD Dh;refine⟨_,rfl,_,rfl,_,_,rfl,rfl,_,rfl,_,rfl,bW T (hn.same s3) ⟨d,_,rfl,Cu.k (k:=Sum.inl ((x.number:Nat):Int)) hD3 (eM (by lia)),?_⟩⟩;refine⟨_,_,_,rfl,s3.put hd,ah,?_,λn=>?_⟩
  .unfold putK;split
   .rw[aS];lia
   .rw[a_];show _+1<=_;lia
  .rw[HK,take_snoc hx,My (λhm=>?_)]
   .rw[wF,bg,iV (eX m_)];by_cases e:n=x.number
    .rw[aq e,aq (by rw[e])];rfl
    .rw[ak e,ak (by intro q;injection q with q;lia)]
   .have e:t=t.take i++x::t.drop (i+1):=by rw[<-(dm.mp hx).2];simp
    rw[e,cY] at vE;exact(xD.mp vE).2.2 _ hm _ (by simp[nums]) rfl
 .rintro σ H1 ⟨v4,v5,a6,rfl,s2,hD,Xc,wF⟩;rw[aS,N.len,fq] at wF;refine⟨a8 _,λc hc=>?_⟩;have IV:H c=none:=s2.free hc;have s3:=aE hc (u:= .lst []);have hm:∀n v,mN t nx n=some v->v<1000:=λn v h=>by have:=Nh h;lia
  refine⟨_,rfl,r,rfl,⟨_,bf.of ((s2.trans s3) _ _ N.lst)⟩,dG (K:=K) (a:=r) (xs:=as.map V.ref) (λi σ H'=>∃(v5 v7:Option V)(bs:List Addr),σ=[some (.ref r),some (.int (nx:Nat)),some (.int ((to:Int) - (fr:Int))),some (.ref d),v4,v5,some (.ref c),v7]/\ aD H1 H'/\ NL C H' c bs ((t.take i).map (Cc t nx fr to)))
   ⟨v5,none,[],rfl,s3,⟨ah,rfl,by simp,by simp⟩⟩ (λi σ H' _ ⟨_,_,_,_,s4,_⟩=>bf.of ((s2.trans s4) _ _ N.lst)) ?_ ?_⟩
  .rintro i y σ H' hi ⟨v5,v7,bs,rfl,s4,M⟩;obtain⟨a,x,rfl,ha,hx,hn⟩:=N.item hi;have Ko:=cI hx;obtain⟨FH,pJ⟩:=ht x Ko;have m_:i<t.length:=(dm.mp hx).1;have UY:=s2.trans s4;have L7:=hn.same UY;have YL:=s4 _ _ hD;have YM:mN t nx x.number=some (nx+i):=Ir vE hx;refine⟨_,rfl,_,rfl,bW T L7 ⟨d,V.int ((nx+i:Nat):Int),rfl,?_,_,rfl,fI T L7 ⟨_,rfl,bj T L7 ⟨_,rfl,_,_,rfl,rfl,_,rfl,iQ T L7 λtx Xl=>⟨_,rfl,tx,d,_,a6,mN t nx,rfl,Xl,pJ,YL,wF,hm,λH5 p s5 hp Bp=>?_⟩⟩⟩⟩⟩
   .have:=pS.k (k:=Sum.inl ((x.number:Nat):Int)) YL;rw[wF,YM] at this;exact this
   rw[Lj] at hp;refineλxa xd NR Gh fo=>⟨xa,xd,_,_,_,p,rfl,ah,λH6 h6 hk=>⟨rfl,?_⟩⟩;have s6:aD H5 H6:=ph NR Gh hk;have YN:=s5.trans s6;have hn6:=L7.same YN;refine⟨_,rfl,iG T hn6 ⟨_,rfl,xa,C,xd,_,rfl,h6,T.cl,T.mE,(by show 5<1000;decide),?_⟩⟩;have Xm:H' xa=none:=s5.free NR;have s7:=YN.put Xm (u:= .ins C xd (eY "folded" (.int (b2 x.folded)) [("number", .int ((nx+i:Nat):Int)),("cell", .int (b2 x.cell)),("depth", .int ((x.depth:Int)+((to:Int) - (fr:Int)))),("text", .ref p),("folded", .int 0)]));have M7:=M.same s7;have Gg:p≠c:=λq=>by rw[q,M.lst] at Bp;cases Bp
   have Xh:p≠xa:=λq=>by rw[q,NR] at hp;cases hp
   have zK:((t.take i).map (Cc t nx fr to)).length<1000:=by rw[aS,bg];lia
   have h7:(upd H6 xa (.ins C xd (eY "folded" (.int (b2 x.folded)) [("number", .int ((nx+i:Nat):Int)),("cell", .int (b2 x.cell)),("depth", .int ((x.depth:Int)+((to:Int) - (fr:Int)))),("text", .ref p),("folded", .int 0)]))) xa=some (.ins C xd (nf (Cc t nx fr to x) p)):=by
    rw[ah];have e1:(Cc t nx fr to x).number=nx+i:=by show(mN t nx x.number).getD x.number=_;rw[YM];rfl
    have e2:((Cc t nx fr to x).depth:Int)=(x.depth:Int)+((to:Int) - (fr:Int)):=by
     show((x.depth - fr+to:Nat):Int)=_
     lia
    unfold nf;rw[e1,e2];rfl
   have hp7:(upd H6 xa (.ins C xd (eY "folded" (.int (b2 x.folded)) [("number", .int ((nx+i:Nat):Int)),("cell", .int (b2 x.cell)),("depth", .int ((x.depth:Int)+((to:Int) - (fr:Int)))),("text", .ref p),("folded", .int 0)]))) p=some (.lst (aI (Cc t nx fr to x).text)):=by rw[az Xh];exact s6 _ _ hp
   refine⟨_,rfl, .inl ⟨rfl,_,bf.of M7.lst⟩,_,rfl,c,_,_,rfl,rfl,M7.lst,M7.sz,?_⟩;refine⟨_,_,bs++[xa],rfl,(s4.trans s7).put hc,?_⟩;rw[take_snoc hx,cV];exact M7.push zK h7 hp7 Gg
  .rintro σ H' ⟨v5,v7,bs,rfl,s4,M⟩;rw[aS,N.len,fq] at M;exact⟨_,rfl,k _ c bs (s2.trans s4) M⟩
inductive J4(C CO:Addr)(vs:List V)(H:Hp)(Q:VK)(_E:XK):Prop
 |mk (ob dx l:Addr) (as:List Addr) (s:Vanbkn.State) (z p a:Int) (h1:vs=[.ref ob, .int z, .int p, .int a]) (h2:a9 C CO H ob dx l as s) (h3:Wf s) (h4:d_ C CO H ob (Vanbkn.step s (.copy z p a)) Q)
theorem Qw(t:O)(nx fr to:Nat):((t.map (Cc t nx fr to)).any λy=>decide (60<y.text.length))=((sA t nx).any λy=>decide (60<y.text.length)):=by unfold sA;rw[Cd,Cd];rfl
theorem NL.Tw{fs:List (Str×V)}{us:List Addr}{o:O}(N:NL C H b us o)(fo:C≠CO)(ho:H ob=some (.ins CO dx fs)):NL C (upd H ob v) b us o:=by
 refine⟨?_,N.len,N.sm,λi a x ha hx=>?_⟩
 .rw[az (λq=>by have:=N.lst;rw[q,ho] at this;cases this)];exact N.lst
 .obtain⟨d,t,h1,h2⟩:=N.at_ i a x ha hx;refine⟨d,t,?_,?_⟩
  .rw[az (λq=>by rw[q,ho] at h1;injection h1 with h1;injection h1 with h1 _ _;exact fo h1.symm)];exact h1
  .rw[az (λq=>by rw[q,ho] at h2;cases h2)];exact h2
theorem cU:aG ["outline","number","parent","after","nodes","start","place","tree","shift","copies","twin"] ["outline","number","parent","after"] (ay og):=eN
theorem Mz(F:bB K mg "copy_tree" og ["outline","number","parent","after"])(T:Tz Z)(ax:uv Z)(aP:C7 Z)(gb:bo Z 3 "place_at" ["nodes","parent","after"] (uO C))(dW:bo Z 1 "too_deep" ["nodes","shift"] (jP C))(qz:bo Z 5 "copies_of" ["tree","first_number","shift"] (BY C))(f_:bo Z 1 "inserted" ["nodes","position","run"] EV):
 bo Z 6 "copy_tree" ["outline","number","parent","after"] (J4 C CO):=by
 refine F.fe cU λH Q E hr h=>?_;obtain⟨ob,dx,l,as,st,z,p,af,rfl,O,W,k⟩:=h;refine⟨_,(ae (bD 4 cU (aB (pv 0) rfl)) (ae (bD 5 cU (pc ax hr (aa (pv 4) (aa (pv 1) ag)))) (ae (aM (bE bC (pv 5) aZ) (aj (aw (aL (aa (eg T) ag)))) aA) (ae (bD 6 cU (pc gb hr (aa (pv 4) (aa (pv 2) (aa (pv 3) ag))))) (ae (aM (bE bC (pv 6) aZ) (aj (aw (aL (aa (eg T) ag)))) aA) (ae (bD 7 cU (bh bz (pv 4) (aW (pv 5)) (aW (pc aP hr (aa (pv 4) (aa (pv 5) ag)))))) (ae (bD 8 cU (bc gm (c5 dR (pv 6) au) (aB (c5 aJ (pv 4) (pv 5)) rfl))) (ae (aM (bE gK (bc bO (pd T (aa (pv 4) ag)) (pd T (aa (pv 7) ag))) (eg T)) (aj (aw (aL (aa (eg T) ag)))) aA) (ae (aM (gk (pc dW hr (aa (pv 7) (aa (pv 8) ag)))) (aj (aw (aL (aa (eg T) ag)))) aA) (ae (aM (bE gK (bc gm (bc bO (aB (pv 0) rfl) (pd T (aa (pv 7) ag))) au) (eg T)) (aj (aw (aL (aa (eg T) ag)))) aA) (ae (bD 9 cU (pc qz hr (aa (pv 7) (aa (aB (pv 0) rfl) (aa (pv 8) ag))))) (ae (aM (gk (fM (Cs rfl) (by rfl) T.any C1 (aa (kH rfl cU.nd (bL (pv 9)) (own:=[("twin",10)]) (Cb cU) (λ_ _ _ _ _=>(jB 10 cU)) (λ_ _ _ _ _=>kF) (λ_ _ _ _ _=>(jF gK (fM (xA (K:=K) rfl) (by rfl) T.len Ad (aa (d8 (K:=K) rfl (pv 10) rfl) ag)) (eg T) (k5 _)))) ag))) (aj (aw (aL (aa (eg T) ag)))) aA) (ae (df (pv 0) (pc f_ hr (aa (pv 4) (aa (c5 dR (pv 6) au) (aa (pv 9) ag)))) rfl) (ae (rZ (pv 0) (pd T (aa (pv 9) ag)) Cm) (aj (aw (aL (aa (aB (c5 aJ (pv 9) au) rfl) ag)))))))))))))))))),?_⟩;refine⟨_,rfl,aU T O ?_⟩;refine⟨_,rfl,_,rfl,l,as,_,z,rfl,O.N,λH2 s2=>?_⟩;have O2:=O.same s2;refine⟨_,rfl,rfl,_,rfl,?_⟩;rcases aX (o:=st.nodes) z with hp|⟨a,x,r,e,hp,kU⟩
 .rw[hp];refine aK (λ_=>?_) (λh=>absurd (aR rfl) h);exact⟨aV,λq hq=>k.refuse O (dM W hp) s2 hq⟩
 rw[hp];refine aK (λh=>nomatch (aH h)) (λ_=>?_);rw[copy_eq W e kU] at k;have yr:=jG (br e);have hw:=W.n.len;have xh:=W.nx;refine⟨_,rfl,_,rfl,_,rfl,l,as,_,p,af,rfl,O2.N,λhn H3 s3=>?_,λi d hs H3 tt s3 Dh=>?_⟩
 .unfold A3 at k;rw[hn] at k;refine⟨_,rfl,rfl,_,rfl,?_⟩;refine aK (λ_=>?_) (λh=>absurd (aR rfl) h);exact⟨aV,λq hq=>k.refuse O rfl (s2.trans s3) hq⟩
 have m_:=BF W.n hs;unfold A3 at k;rw[hs] at k;dsimp only at k;generalize hT:x::inside x.depth r=tr at k;have jC:=s2.trans s3;have O3:=O2.same s3;refine⟨_,rfl,rfl,_,rfl,?_⟩;refine aK (λh=>nomatch (aH h)) (λ_=>?_);refine⟨_,rfl,_,rfl,_,rfl,_,rfl,_,rfl,l,as,_,a.length,rfl,O3.N,br e,λH4 s4=>⟨_,rfl,l,_,rfl,bf.of (O3.same s4).N.lst,λt ht=>?_⟩⟩;have Jm:=jC.trans s4;have NM:=(O3.same s4).N.cut (a:=a.length) (b:=aO st.nodes a.length) (eX (br e)) yr (aD.refl _) ht;rw[lY e,hT] at NM;have s5:aD H (upd H4 t (.lst (d5 (as.map V.ref) (some ((a.length:Nat):Int)) (some ((aO st.nodes a.length:Nat):Int))))):=Jm.new ht;have Qx:=a7 (u:= .lst (d5 (as.map V.ref) (some ((a.length:Nat):Int)) (some ((aO st.nodes a.length:Nat):Int)))) (s4 _ _ Dh) ht;generalize upd H4 t (.lst (d5 (as.map V.ref) (some ((a.length:Nat):Int)) (some ((aO st.nodes a.length:Nat):Int))))=H5 at NM s5 Qx⊢;have O5:=O.same s5;refine⟨_,rfl,tt,_,_,_,rfl,rfl,i_.of Qx,bT (j:=1) rfl,_,rfl,_,rfl,cZ O5.N rfl (br e) λc _ hc=>bj T hc ⟨_,_,rfl,rfl,?_⟩⟩;rw[fJ e];have NO:tr.length<=60:=by
  rw[<-hT,cj];have:(inside x.depth r).length<=r.length:=(pB _).length_le;rw[e,a_,cj] at hw
  lia
 refine⟨_,rfl,l,_,rfl, .inl (bf.of O5.N.lst),_,rfl,t,_,rfl, .inl (bf.of NM.lst),_,_,rfl,rfl,_,_,rfl,rfl,_,rfl,?_⟩;rw[O5.N.gV,NM.gV];by_cases h4:60<st.nodes.length+tr.length
 .rw[aq h4] at k;refine aK (λ_=>⟨aV,λq hq=>k.refuse O rfl s5 hq⟩) (λh=>absurd (aR (by lia)) h)
 rw[ak h4] at k;refine aK (λh=>absurd (aH h) (by lia)) (λ_=>?_);refine⟨_,rfl,_,rfl,t,_,tr,_,rfl,NM,λH6 s6=>⟨_,rfl,?_⟩⟩;have hdq:tZ tr ((d:Int) - (x.depth:Int))=cp tr x.depth d:=by rw[<-hT];exact oM
 rw[hdq];have NI:=s5.trans s6;have O6:=O5.same s6;have S':=NM.same s6;cases NJ:cp tr x.depth d with
 |true=>rw[NJ,aq rfl] at k;exact eD ⟨aV,λq hq=>k.refuse O rfl NI hq⟩
 |false=>
  rw[NJ,ak (by decide)] at k;refine fL ?_;refine⟨_,rfl,mF T O6 ⟨_,rfl,t,_,rfl, .inl (bf.of S'.lst),_,_,rfl,rfl,_,_,rfl,rfl,_,_,rfl,rfl,_,rfl,?_⟩⟩;rw[S'.gV];by_cases h6:1000<st.next+tr.length
  .rw[aq h6] at k;refine aK (λ_=>⟨aV,λq hq=>k.refuse O rfl NI hq⟩) (λh=>absurd (aR (by lia)) h)
  rw[ak h6] at k;refine aK (λh=>absurd (aH h) (by lia)) (λ_=>?_);have Ll:∀y∈tr,y∈st.nodes:=λy hy=>by rw[<-hT] at hy;rw[e];exact(gA a r x).mem_iff.mpr (dz _ hy)
  have SD:(nums tr).Nodup:=by rw[<-hT];have W':=W.n.nd;rw[e] at W';exact lS ((List.Sublist.cons_cons x (pB _)).trans (MM _ _)) W'
  have kK:∀y∈tr,x.depth<=y.depth:=λy hy=>by rw[<-hT] at hy;exact hZ (x:=x) (r:=r) y hy
  refine⟨_,rfl,_,rfl,mF T O6 ⟨_,rfl,t,_,tr,st.next,x.depth,d,rfl,S',SD,NO,by lia,λy hy=>⟨kK y hy,(W.txt (Ll y hy)).1⟩,λH7 c bs s7 M=>?_⟩⟩;have UZ:=NI.trans s7;have O7:=O6.same s7;have U':(tr.map (Cc tr st.next x.depth d)).length=tr.length:=aS _;refine⟨_,rfl,c,rfl,⟨_,bf.of M.lst⟩,λD hD=>?_⟩;refine f9 (K:=K) (a:=c) (λq=>some (V.bl (decide (60<q.2.text.length)))) M.zip hD M.LH (λm q H8 hq s8 R R0 k1 k2=>?_) (λH8 s8 h8=>?_)
  .have hn:=(M.at2 hq).same s8;refine⟨rfl,Bk ⟨_,rfl,iQ T hn λtx pJ=>⟨tx,_,rfl, .inl (bf.of pJ),_,_,rfl,rfl,?_⟩⟩⟩;rw[aF];refine k1 _ _ (aD.refl _) ?_;have:decide ((60:Int)<((q.2.text.length:Nat):Int))=decide (60<q.2.text.length):=by rw[qP];lia
   rw[<-this]
  .rw[C8 M.len (λy=>decide (60<y.text.length))] at h8;refine⟨D,_,rfl,bf.of h8,?_⟩;rw[qo,Qw];have GY:=UZ.trans s8;refine⟨_,rfl,?_⟩;cases YO:(sA tr st.next).any λy=>decide (60<y.text.length) with
   |true=>rw[YO,aq rfl] at k;exact eD ⟨aV,λq hq=>k.refuse O rfl GY hq⟩
   |false=>
    rw[YO,ak (by decide),Du] at k;refine fL ?_;have O8:=O7.same s8;have M8:=M.same s8;have Xn:=((s6.trans s7).trans s8) _ _ Qx;refine⟨_,rfl,_,rfl,tt,_,_,_,rfl,rfl,i_.of Xn,bT (j:=0) rfl,_,rfl,l,c,_,_,i,rfl,O8.N.lst,M8.lst,by rw[O8.N.gV];exact m_,by rw[O8.N.gV,M8.gV,U'];lia,λH9 q s9 hq=>?_⟩;have O9:=O8.same s9;have M9:=M8.same s9;refine⟨_,rfl,ob,CO,dx,_,rfl,O9.at_,T.zM,T.j6,(by show 2<1000;decide),?_⟩;have YQ:=M9.Tw (v:= .ins CO dx (eY "nodes" (.ref q) (yn st.next l))) T.ne1 O9.at_;refine⟨_,rfl,ob,CO,dx,_,_,rfl,ah,T.zM,T.wq,rfl,_,rfl,c,_,rfl, .inl (bf.of YQ.lst),_,_,rfl,rfl,dx,_,ah,(by show 2<1000;decide),?_⟩;rw[kz,YQ.gV,U'];have M11:=M9.Tw (v:= .ins CO dx (eY "next_number" (.int ((st.next:Int)+(tr.length:Nat))) (eY "nodes" (.ref q) (yn st.next l)))) T.ne1 O9.at_;have Tn:0<(tr.map (Cc tr st.next x.depth d)).length:=by rw[U',<-hT,cj];lia
    refine⟨_,rfl,cZ M11 (i:=0) rfl Tn λb _ hb=>bW T hb ⟨aV,λv hv=>?_⟩⟩;have Qa:(nd (tr.map (Cc tr st.next x.depth d)) 0).number=st.next:=by
     have h0:(tr.map (Cc tr st.next x.depth d))[0]?=some (Cc tr st.next x.depth d x):=by rw[<-hT];rfl
     rw[vU h0];show(mN tr st.next x.number).getD x.number=_;rw[Ir (i:=0) SD (by rw[<-hT];rfl)];rfl
    rw[Qa];have hN9:NL C H9 q (as.take i++bs++as.drop i) (st.nodes.take i++tr.map (Cc tr st.next x.depth d)++st.nodes.drop i):=by
     refine(((O9.N.sV.take i).append M9.sV).append (O9.N.sV.drop i)).nl ?_ ?_
     .rw[hq,cV,cV,mY,jR]
     .rw[a_,a_,bg,dC,U']
      lia
    have W7:=O9.put T.ne1 (s':=⟨st.nodes.take i++tr.map (Cc tr st.next x.depth d)++st.nodes.drop i,st.next+tr.length⟩) hN9;have Xo:eY "next_number" (.int ((st.next:Int)+(tr.length:Nat))) (eY "nodes" (.ref q) (yn st.next l))=yn (st.next+tr.length) q:=by rw[wH,yy _ _ _ (st.next+tr.length) (by lia)]
    rw[Xo] at hv⊢;have hF:Fr C CO H9 (upd H9 ob (.ins CO dx (yn (st.next+tr.length) q))):=(mJ (a:=ob)).fr (BC O9);exact k _ v dx q _ (((GY.trans s9).fr.trans hF).trans (aE hv).fr) (W7.same (aE hv)) ah
theorem E'{r:O}(W:Wf s)(e:s.nodes=a++x::r)(hz:(x.number:Int)=z):Vanbkn.step s (.path z)=(s,tellNodes ((x::upFrom x.depth a.reverse).reverse)):=by show withNode s _ _=_;rw[aN W.n e hz];show(s,tellNodes (Vanbkn.ancestors s.nodes x.number++[x]))=_;rw[u0];congr 3;rw[e];exact lR (by rw[<-e];exact W.n.nd)
theorem ke:aG ["outline","number","nodes","position","upwards"] ["outline","number"] (ay sN):=eN
theorem MA(F:bB K mg "path_to" sN ["outline","number"])(T:Tz Z)(ax:uv Z)(bq:bo Z 1 "parent_position" ["nodes","position"] (Bo C))(bt:Kn Z):
 bo Z 2 "path_to" ["outline","number"] (eW C CO .path):=by
 refine F.fe ke λH Q E hr h=>?_;obtain⟨ob,dx,l,as,st,z,rfl,O,W,k⟩:=h;refine⟨_,(ae (bD 2 ke (aB (pv 0) rfl)) (ae (bD 3 ke (pc ax hr (aa (pv 2) (aa (pv 1) ag)))) (ae (aM (bE bC (pv 3) aZ) (aj (aw (aL (aa (eg T) ag)))) aA) (ae (bD 4 ke (aL ag)) (ae (ft PassesOwn.never (bE uC (pv 3) aZ) (ae (bF (e_ eL iW iX cw (pv 4) (aa (aB (c5 aJ (pv 2) (pv 3)) rfl) ag))) (aj (bD 3 ke (pc bq hr (aa (pv 2) (aa (pv 3) ag))))))) (aj (aw (pc bt hr (aa (LA rfl rfl T.list rfl T.reversed (aa (pv 4) ag)) ag))))))))),?_⟩;refine⟨_,rfl,aU T O ?_⟩;refine⟨_,rfl,_,rfl,l,as,_,z,rfl,O.N,λH2 s2=>?_⟩;have O2:=O.same s2;refine⟨_,rfl,rfl,_,rfl,?_⟩;rcases aX (o:=st.nodes) z with hp|⟨a,x,r,e,hp,kU⟩
 .rw[hp];refine aK (λ_=>?_) (λh=>absurd (aR rfl) h);exact⟨aV,λq hq=>k.refuse O (dM W hp) s2 hq⟩
 rw[hp];refine aK (λh=>nomatch (aH h)) (λ_=>?_);rw[E' W e kU] at k;refine⟨a8 _,λc hc=>?_⟩;have IV:H c=none:=s2.free hc;have hUl:(x::upFrom x.depth a.reverse).length<=60:=by
  have:=(wK a.reverse x.depth).length_le;have hw:=W.n.len;rw[e,a_,cj] at hw;rw[tE] at this;rw[cj]
  lia
 refine fA (λ(U:List Nd×List Nd) σ H'=>x::upFrom x.depth a.reverse=U.1++U.2/\ ∃(ab:Option Nat),Qm st.nodes U.2 ab/\ σ=[some (.ref ob),some (.int z),some (.ref l),some (uu ab),some (.ref c)]/\ aD H H'/\ H' c=some (.lst (aI (nums U.1)))) (λU=>U.2.length) ([],x::upFrom x.depth a.reverse)
  ⟨rfl,some a.length, .inr ⟨a,x,r,e,rfl,rfl⟩,rfl,s2.new hc,ah⟩ ?_
 rintro⟨U1,U2⟩ σ H' ⟨hU,ab,W8,rfl,s3,hC⟩;have O3:=O.same s3;have hU:x::upFrom x.depth a.reverse=U1++U2:=hU;have hC:H' c=some (.lst (aI (nums U1))):=hC;have hU1:U1.length<=60:=by
  have:=c_ List.length hU;rw[a_] at this
  lia
 have GW:(nums U1).length=U1.length:=aS _;refine⟨_,rfl,rfl,_,rfl,?_⟩;rcases W8 with⟨zm,rfl⟩|⟨b,q,d,eo,zm,rfl⟩
 .refine aK (λh=>?_) (λ_=>?_)
  .cases h
  have zm:U2=[]:=zm;subst zm;rw[pz] at hU;refine⟨_,rfl,c,_,rfl,bf.of hC,λv hv=>?_⟩;refine⟨v,_,rfl,ah,by rw[tE,aF];show(nums U1).length<=90000;lia,λH5 p s5 Mg=>?_⟩;refine k.told O rfl ((s3.new hv).trans s5) Mg ?_;rw[hU,mL,tE,aF,GW,tE];congr 1;unfold aI nums;rw[<-DO,<-DO]
 .refine aK (λ_=>?_) (λh=>absurd rfl h);have zm:U2=q::upFrom q.depth b.reverse:=zm;rw[zm] at hU;refine nj (U1,U2) ?_;refine⟨_,rfl, .inl ⟨rfl,_,bf.of hC⟩,_,rfl,_,rfl,cZ O3.N rfl (br eo) λcc _ MW=>bW T MW ⟨c,_,_,rfl,rfl,hC,eM (by rw[aF];lia),?_⟩⟩;rw[fJ eo];have s4:=s3.put IV (u:= .lst (aI (nums U1)++[V.int (q.number:Nat)]));refine⟨_,rfl,_,rfl,l,as,_,b.length,rfl,(O.same s4).N,br eo,λH5 s5=>?_⟩;refine⟨(U1++[q],upFrom q.depth b.reverse),(by show(upFrom q.depth b.reverse).length<U2.length;rw[zm,cj];exact m4 _),?_,nv st.nodes b.length,Jx eo,rfl,s4.trans s5,?_⟩
  .show _=(U1++[q])++upFrom q.depth b.reverse;rw[hU];simp
  .show H5 c=some (.lst (aI (nums (U1++[q]))));rw[s5 _ _ ah,cY];unfold aI;rw[cV];rfl
def ju(x:Str)(ws row:List Int):Vanbkn.Call->Prop
 | .section_ a b t=>x="section"/\ ws=[a,b]/\ row=t/\ t.length<=200
 | .cell a b t=>x="cell"/\ ws=[a,b]/\ row=t/\ t.length<=200
 | .write a t=>x="write"/\ ws=[a]/\ row=t/\ t.length<=200
 | .move a b d=>x="move"/\ ws=[a,b,d]
 | .drop a=>x="drop"/\ ws=[a]
 | .dissolve a=>x="dissolve"/\ ws=[a]
 | .promote a=>x="promote"/\ ws=[a]
 | .demote a=>x="demote"/\ ws=[a]
 | .wrap a b t=>x="wrap"/\ ws=[a,b]/\ row=t/\ t.length<=200
 | .raise a=>x="raise"/\ ws=[a]
 | .sort a=>x="sort"/\ ws=[a]
 | .copy a b d=>x="copy"/\ ws=[a,b,d]
 | .fold a b=>x="fold"/\ ws=[a,b]
 | .foldFrom a=>x="foldFrom"/\ ws=[a]
 | .reveal a=>x="reveal"/\ ws=[a]
 | .order=>x="order"/\ ws=[]
 | .view=>x="view"/\ ws=[]
 | .label a=>x="label"/\ ws=[a]
 | .find t=>x="find"/\ ws=[]/\ row=t/\ t.length<=200
 | .text a=>x="text"/\ ws=[a]
 | .shown a=>x="shown"/\ ws=[a]
 | .contents a=>x="contents"/\ ws=[a]
 | .info a=>x="info"/\ ws=[a]
 | .path a=>x="path"/\ ws=[a]
 | .references a=>x="references"/\ ws=[a]
 | .referring a=>x="referring"/\ ws=[a]
 | .broken=>x="broken"/\ ws=[]
 | .search t=>x="search"/\ ws=[]/\ row=t/\ t.length<=200
 | .step a b=>x="step"/\ ws=[a,b]
 | .save=>x="save"/\ ws=[]
 | .load t=>x="load"/\ ws=[]/\ row=t/\ t.length<=10000
 | .state=>x="state"/\ ws=[]
def bX:Vanbkn.Call->Nat
 | .section_ _ _ _=>1
 | .cell _ _ _=>1
 | .write _ _=>1
 | .move _ _ _=>2
 | .drop _=>1
 | .dissolve _=>1
 | .promote _=>2
 | .demote _=>2
 | .wrap _ _ _=>1
 | .raise _=>2
 | .sort _=>2
 | .copy _ _ _=>1
 | .fold _ _=>3
 | .foldFrom _=>3
 | .reveal _=>3
 | .order=>4
 | .view=>4
 | .label _=>5
 | .find _=>5
 | .text _=>5
 | .shown _=>5
 | .contents _=>5
 | .info _=>4
 | .path _=>4
 | .references _=>5
 | .referring _=>5
 | .broken=>5
 | .search _=>5
 | .step _ _=>4
 | .save=>6
 | .load _=>7
 | .state=>4
theorem Dv{x:Str}(h:ju x ws row c)(hg:bX c≠1):x≠"section"/\ x≠"cell"/\ x≠"write"/\ x≠"drop"/\ x≠"dissolve"/\ x≠"wrap"/\ x≠"copy":=by
 cases c<;>first
  |exact absurd rfl hg
  |(have h:=h.1;rw[h];decide+kernel)
theorem Dx{x:Str}(h:ju x ws row c)(hg:bX c≠2):x≠"move"/\ x≠"promote"/\ x≠"demote"/\ x≠"raise"/\ x≠"sort":=by
 cases c<;>first
  |exact absurd rfl hg
  |(have h:=h.1;rw[h];decide+kernel)
theorem BZ{x:Str}(h:ju x ws row c)(hg:bX c≠3):x≠"fold"/\ x≠"foldFrom"/\ x≠"reveal":=by
 cases c<;>first
  |exact absurd rfl hg
  |(have h:=h.1;rw[h];decide+kernel)
theorem B0{x:Str}(h:ju x ws row c)(hg:bX c≠4):x≠"order"/\ x≠"view"/\ x≠"info"/\ x≠"path"/\ x≠"step"/\ x≠"state":=by
 cases c<;>first
  |exact absurd rfl hg
  |(have h:=h.1;rw[h];decide+kernel)
theorem B1{x:Str}(h:ju x ws row c)(hg:bX c≠5):x≠"label"/\ x≠"find"/\ x≠"text"/\ x≠"shown"/\ x≠"contents"/\ x≠"references"/\ x≠"referring"/\ x≠"broken"/\ x≠"search":=by
 cases c<;>first
  |exact absurd rfl hg
  |(have h:=h.1;rw[h];decide+kernel)
theorem J5{x:Str}(h:ju x ws row c)(hg:bX c≠6):x≠"save":=by
 cases c<;>first
  |exact absurd rfl hg
  |(have h:=h.1;rw[h];decide+kernel)
theorem J6{x:Str}(h:ju x ws row c)(hg:bX c≠7):x≠"load":=by
 cases c<;>first
  |exact absurd rfl hg
  |(have h:=h.1;rw[h];decide+kernel)
theorem Dy{x:Str}(h:x≠y)(b:B):if decide (V.str x=V.str y)=true then A else B:=by
 rw[ak]
 .exact b
 .intro q;have:=aH q;injection this with this;exact h this
theorem zJ{x:Str}(a:A):if decide (V.str x=V.str x)=true then A else B:=by rw[aq (aR rfl)];exact a
inductive MB(C CO:Addr)(g:Nat)(vs:List V)(H:Hp)(Q:VK)(_E:XK):Prop
 |mk (ob dx l wl rl:Addr) (as:List Addr) (s:Vanbkn.State) (x:Str) (ws row:List Int) (c:Vanbkn.Call) (h1:vs=[.ref ob, .str x, .ref wl, .ref rl]) (h2:a9 C CO H ob dx l as s) (h3:Wf s) (h4:H wl=some (.lst (aT ws))) (h5:H rl=some (.lst (aT row))) (h6:ju x ws row c) (h7:(bX c=g->d_ C CO H ob (Vanbkn.step s c) Q)) (h8:(bX c≠g->∀H',aD H H'->Q .eQ H'))
inductive MC(C CO:Addr)(g:Nat)(vs:List V)(H:Hp)(Q:VK)(_E:XK):Prop
 |mk (ob dx l wl:Addr) (as:List Addr) (s:Vanbkn.State) (x:Str) (ws row:List Int) (c:Vanbkn.Call) (h1:vs=[.ref ob, .str x, .ref wl]) (h2:a9 C CO H ob dx l as s) (h3:Wf s) (h4:H wl=some (.lst (aT ws))) (h5:ju x ws row c) (h6:(bX c=g->d_ C CO H ob (Vanbkn.step s c) Q)) (h7:(bX c≠g->∀H',aD H H'->Q .eQ H'))
inductive NS(C CO TP:Addr)(g:Nat)(vs:List V)(H:Hp)(Q:VK)(_E:XK):Prop
 |mk (ob dx l wl:Addr) (as:List Addr) (s:Vanbkn.State) (x:Str) (ws row:List Int) (c:Vanbkn.Call) (h1:vs=[.ref ob, .str x, .ref wl]) (h2:a9 C CO H ob dx l as s) (h3:Wf s) (h4:sR H TP) (h5:H wl=some (.lst (aT ws))) (h6:ju x ws row c) (h7:(bX c=g->d_ C CO H ob (Vanbkn.step s c) Q)) (h8:(bX c≠g->∀H',aD H H'->Q .eQ H'))
theorem bH{x:Str}(k:u D σ H)(hv:σ[i]?=some (some (V.str x)):=by rfl)(h:x≠y:=by decide+kernel):ma (uk (iZ (qJ RT (cv i) (tC (V.str y)))) tx jz) u D σ H:=
 ⟨_,hv,rfl,_,rfl,Dy h k⟩
theorem dP{x:Str}(k:tx {D with nx:=u D} σ H)(hv:σ[i]?=some (some (V.str x)):=by rfl):ma (uk (iZ (qJ RT (cv i) (tC (V.str x)))) tx ty) u D σ H:=
 ⟨_,hv,rfl,_,rfl,zJ k⟩
inductive J7(C CO TP:Addr)(vs:List V)(H:Hp)(Q:VK)(_E:XK):Prop
 |mk (ob dx l:Addr) (as:List Addr) (s:Vanbkn.State) (z:Int) (h1:vs=[.ref ob, .int z]) (h2:a9 C CO H ob dx l as s) (h3:Wf s) (h4:sR H TP) (h5:d_ C CO H ob (Vanbkn.step s (.sort z)) Q)
theorem tp:aG ["outline","name","wholes","row"] ["outline","name","wholes","row"] (ay jl):=eN
theorem GK(F:bB K mg "answer_making" jl ["outline","name","wholes","row"])(T:Tz Z)(px:bo Z 4 "add_node" ["outline","cell","parent","after","text"] (NG C CO))(oU:bo Z 2 "write_text" ["outline","number","text"] (EY C CO))(qA:bo Z 2 "drop_tree" ["outline","number"] (Jk C CO))(ik:bo Z 3 "dissolve_section" ["outline","number"] (wI C CO))(kf:bo Z 4 "wrap_siblings" ["outline","first","last","title"] (Jo C CO))(qB:bo Z 6 "copy_tree" ["outline","number","parent","after"] (J4 C CO)):bo Z 7 "answer_making" ["outline","name","wholes","row"] (MB C CO 1):=by
 refine F.fe tp λH Q E hr h=>?_;obtain⟨ob,dx,l,wl,rl,as,st,x,ws,row,c,rfl,O,W,hW,hR,hc,k1,k2⟩:=h;refine⟨_,(ae (aM (bE bw (pv 1) bN) (aj (aw (pc px hr (aa (pv 0) (aa au (aa (c5 aJ (pv 2) au) (aa (c5 aJ (pv 2) au) (aa (pv 3) ag)))))))) aA) (ae (aM (bE bw (pv 1) bN) (aj (aw (pc px hr (aa (pv 0) (aa au (aa (c5 aJ (pv 2) au) (aa (c5 aJ (pv 2) au) (aa (pv 3) ag)))))))) aA) (ae (aM (bE bw (pv 1) bN) (aj (aw (pc oU hr (aa (pv 0) (aa (c5 aJ (pv 2) au) (aa (pv 3) ag)))))) aA) (ae (aM (bE bw (pv 1) bN) (aj (aw (pc qA hr (aa (pv 0) (aa (c5 aJ (pv 2) au) ag))))) aA) (ae (aM (bE bw (pv 1) bN) (aj (aw (pc ik hr (aa (pv 0) (aa (c5 aJ (pv 2) au) ag))))) aA) (ae (aM (bE bw (pv 1) bN) (aj (aw (pc kf hr (aa (pv 0) (aa (c5 aJ (pv 2) au) (aa (c5 aJ (pv 2) au) (aa (pv 3) ag))))))) aA) (ae (aM (bE bw (pv 1) bN) (aj (aw (pc qB hr (aa (pv 0) (aa (c5 aJ (pv 2) au) (aa (c5 aJ (pv 2) au) (aa (c5 aJ (pv 2) au) ag))))))) aA) (aj (aw aZ))))))))),?_⟩;by_cases hg:bX c=1
 .have k:=k1 hg;cases c with
  |section_ a b t=>obtain⟨rfl,rfl,rfl,hz⟩:=hc;refine dP ?_;exact⟨_,rfl,_,rfl,bG (i:=0) hW rfl rfl ⟨_,rfl,bG (i:=1) hW rfl rfl ⟨_,rfl,ob,dx,l,rl,as,st,false,a,b,row,rfl,O,W,hR,hz,k⟩⟩⟩
  |cell a b t=>obtain⟨rfl,rfl,rfl,hz⟩:=hc;refine bH ?_;refine dP ?_;exact⟨_,rfl,_,rfl,bG (i:=0) hW rfl rfl ⟨_,rfl,bG (i:=1) hW rfl rfl ⟨_,rfl,ob,dx,l,rl,as,st,true,a,b,row,rfl,O,W,hR,hz,k⟩⟩⟩
  |write a t=>
   obtain⟨rfl,rfl,rfl,hz⟩:=hc
   iterate 2 refine bH ?_
   refine dP ?_;exact⟨_,rfl,_,rfl,bG (i:=0) hW rfl rfl ⟨_,rfl,ob,dx,l,rl,as,st,a,row,rfl,O,W,hR,hz,k⟩⟩
  |drop a=>
   obtain⟨rfl,rfl⟩:=hc
   iterate 3 refine bH ?_
   refine dP ?_;exact⟨_,rfl,_,rfl,bG (i:=0) hW rfl rfl ⟨ob,dx,l,as,st,a,rfl,O,W,k⟩⟩
  |dissolve a=>
   obtain⟨rfl,rfl⟩:=hc
   iterate 4 refine bH ?_
   refine dP ?_;exact⟨_,rfl,_,rfl,bG (i:=0) hW rfl rfl ⟨ob,dx,l,as,st,a,rfl,O,W,k⟩⟩
  |wrap a b t=>
   obtain⟨rfl,rfl,rfl,hz⟩:=hc
   iterate 5 refine bH ?_
   refine dP ?_;exact⟨_,rfl,_,rfl,bG (i:=0) hW rfl rfl ⟨_,rfl,bG (i:=1) hW rfl rfl ⟨_,rfl,ob,dx,l,rl,as,st,a,b,row,rfl,O,W,hR,hz,k⟩⟩⟩
  |copy a b d=>
   obtain⟨rfl,rfl⟩:=hc
   iterate 6 refine bH ?_
   refine dP ?_;exact⟨_,rfl,_,rfl,bG (i:=0) hW rfl rfl ⟨_,rfl,bG (i:=1) hW rfl rfl ⟨_,rfl,bG (i:=2) hW rfl rfl ⟨ob,dx,l,as,st,a,b,d,rfl,O,W,k⟩⟩⟩⟩
  |_=>exact absurd hg (Ab rfl)
 .obtain⟨n0,n1,n2,n3,n4,n5,n6⟩:=Dv hc hg;refine bH ?_ rfl n0;refine bH ?_ rfl n1;refine bH ?_ rfl n2;refine bH ?_ rfl n3;refine bH ?_ rfl n4;refine bH ?_ rfl n5;refine bH ?_ rfl n6;exact k2 hg _ (aD.refl _)
theorem tq:aG ["outline","name","wholes"] ["outline","name","wholes"] (ay jm):=eN
theorem GL{TP:Addr}(F:bB K mg "answer_moving" jm ["outline","name","wholes"])(T:Tz Z)(qC:bo Z 4 "move_tree" ["outline","number","parent","after"] (Js C CO))(lz:bo Z 3 "promote_tree" ["outline","number"] (Jt C CO))(mR:bo Z 2 "demote_tree" ["outline","number"] (NN C CO))(oV:bo Z 3 "raise_tree" ["outline","number"] (EZ C CO))(kg:bo Z 4 "sort_children" ["outline","parent"] (J7 C CO TP)):bo Z 5 "answer_moving" ["outline","name","wholes"] (NS C CO TP 2):=by
 refine F.fe tq λH Q E hr h=>?_;obtain⟨ob,dx,l,wl,as,st,x,ws,row,c,rfl,O,W,hT,hW,hc,k1,k2⟩:=h;refine⟨_,(ae (aM (bE bw (pv 1) bN) (aj (aw (pc qC hr (aa (pv 0) (aa (c5 aJ (pv 2) au) (aa (c5 aJ (pv 2) au) (aa (c5 aJ (pv 2) au) ag))))))) aA) (ae (aM (bE bw (pv 1) bN) (aj (aw (pc lz hr (aa (pv 0) (aa (c5 aJ (pv 2) au) ag))))) aA) (ae (aM (bE bw (pv 1) bN) (aj (aw (pc mR hr (aa (pv 0) (aa (c5 aJ (pv 2) au) ag))))) aA) (ae (aM (bE bw (pv 1) bN) (aj (aw (pc oV hr (aa (pv 0) (aa (c5 aJ (pv 2) au) ag))))) aA) (ae (aM (bE bw (pv 1) bN) (aj (aw (pc kg hr (aa (pv 0) (aa (c5 aJ (pv 2) au) ag))))) aA) (aj (aw aZ))))))),?_⟩;by_cases hg:bX c=2
 .have k:=k1 hg;cases c with
  |move a b d=>obtain⟨rfl,rfl⟩:=hc;refine dP ?_;exact⟨_,rfl,_,rfl,bG (i:=0) hW rfl rfl ⟨_,rfl,bG (i:=1) hW rfl rfl ⟨_,rfl,bG (i:=2) hW rfl rfl ⟨ob,dx,l,as,st,a,b,d,rfl,O,W,k⟩⟩⟩⟩
  |promote a=>obtain⟨rfl,rfl⟩:=hc;refine bH ?_;refine dP ?_;exact⟨_,rfl,_,rfl,bG (i:=0) hW rfl rfl ⟨ob,dx,l,as,st,a,rfl,O,W,k⟩⟩
  |demote a=>
   obtain⟨rfl,rfl⟩:=hc
   iterate 2 refine bH ?_
   refine dP ?_;exact⟨_,rfl,_,rfl,bG (i:=0) hW rfl rfl ⟨ob,dx,l,as,st,a,rfl,O,W,k⟩⟩
  |raise a=>
   obtain⟨rfl,rfl⟩:=hc
   iterate 3 refine bH ?_
   refine dP ?_;exact⟨_,rfl,_,rfl,bG (i:=0) hW rfl rfl ⟨ob,dx,l,as,st,a,rfl,O,W,k⟩⟩
  |sort a=>
   obtain⟨rfl,rfl⟩:=hc
   iterate 4 refine bH ?_
   refine dP ?_;exact⟨_,rfl,_,rfl,bG (i:=0) hW rfl rfl ⟨ob,dx,l,as,st,a,rfl,O,W,hT,k⟩⟩
  |_=>exact absurd hg (Ab rfl)
 .obtain⟨n0,n1,n2,n3,n4⟩:=Dx hc hg;refine bH ?_ rfl n0;refine bH ?_ rfl n1;refine bH ?_ rfl n2;refine bH ?_ rfl n3;refine bH ?_ rfl n4;exact k2 hg _ (aD.refl _)
theorem rM:aG ["outline","name","wholes"] ["outline","name","wholes"] (ay iD):=eN
theorem Dz(F:bB K mg "answer_folding" iD ["outline","name","wholes"])(T:Tz Z)(lA:bo Z 2 "fold_section" ["outline","number","mark"] (Jv C CO))(qD:bo Z 1 "fold_from" ["outline","depth"] (wJ C CO))(mS:bo Z 2 "reveal_node" ["outline","number"] (BI C CO)):bo Z 3 "answer_folding" ["outline","name","wholes"] (MC C CO 3):=by
 refine F.fe rM λH Q E hr h=>?_;obtain⟨ob,dx,l,wl,as,st,x,ws,row,c,rfl,O,W,hW,hc,k1,k2⟩:=h;refine⟨_,(ae (aM (bE bw (pv 1) bN) (aj (aw (pc lA hr (aa (pv 0) (aa (c5 aJ (pv 2) au) (aa (c5 aJ (pv 2) au) ag)))))) aA) (ae (aM (bE bw (pv 1) bN) (aj (aw (pc qD hr (aa (pv 0) (aa (c5 aJ (pv 2) au) ag))))) aA) (ae (aM (bE bw (pv 1) bN) (aj (aw (pc mS hr (aa (pv 0) (aa (c5 aJ (pv 2) au) ag))))) aA) (aj (aw aZ))))),?_⟩;by_cases hg:bX c=3
 .have k:=k1 hg;cases c with
  |fold a b=>obtain⟨rfl,rfl⟩:=hc;refine dP ?_;exact⟨_,rfl,_,rfl,bG (i:=0) hW rfl rfl ⟨_,rfl,bG (i:=1) hW rfl rfl ⟨ob,dx,l,as,st,a,b,rfl,O,W,k⟩⟩⟩
  |foldFrom a=>obtain⟨rfl,rfl⟩:=hc;refine bH ?_;refine dP ?_;exact⟨_,rfl,_,rfl,bG (i:=0) hW rfl rfl ⟨ob,dx,l,as,st,a,rfl,O,W,k⟩⟩
  |reveal a=>
   obtain⟨rfl,rfl⟩:=hc
   iterate 2 refine bH ?_
   refine dP ?_;exact⟨_,rfl,_,rfl,bG (i:=0) hW rfl rfl ⟨ob,dx,l,as,st,a,rfl,O,W,k⟩⟩
  |_=>exact absurd hg (Ab rfl)
 .obtain⟨n0,n1,n2⟩:=BZ hc hg;refine bH ?_ rfl n0;refine bH ?_ rfl n1;refine bH ?_ rfl n2;exact k2 hg _ (aD.refl _)
theorem rN:aG ["outline","name","wholes"] ["outline","name","wholes"] (ay iE):=eN
theorem DA(F:bB K mg "answer_reading" iE ["outline","name","wholes"])(T:Tz Z)(tu:bo Z 1 "order_of" ["outline"] (lu C CO .order))(wY:bo Z 3 "view_of" ["outline"] (lu C CO .view))(wZ:bo Z 3 "info_of" ["outline","number"] (eW C CO .info))(w6:bo Z 2 "path_to" ["outline","number"] (eW C CO .path))(qE:bo Z 3 "step_from" ["outline","number","direction"] (JB C CO))(tw:bo Z 1 "state_of" ["outline"] (lu C CO .state)):bo Z 4 "answer_reading" ["outline","name","wholes"] (MC C CO 4):=by
 refine F.fe rN λH Q E hr h=>?_;obtain⟨ob,dx,l,wl,as,st,x,ws,row,c,rfl,O,W,hW,hc,k1,k2⟩:=h;refine⟨_,(ae (aM (bE bw (pv 1) bN) (aj (aw (pc tu hr (aa (pv 0) ag)))) aA) (ae (aM (bE bw (pv 1) bN) (aj (aw (pc wY hr (aa (pv 0) ag)))) aA) (ae (aM (bE bw (pv 1) bN) (aj (aw (pc wZ hr (aa (pv 0) (aa (c5 aJ (pv 2) au) ag))))) aA) (ae (aM (bE bw (pv 1) bN) (aj (aw (pc w6 hr (aa (pv 0) (aa (c5 aJ (pv 2) au) ag))))) aA) (ae (aM (bE bw (pv 1) bN) (aj (aw (pc qE hr (aa (pv 0) (aa (c5 aJ (pv 2) au) (aa (c5 aJ (pv 2) au) ag)))))) aA) (ae (aM (bE bw (pv 1) bN) (aj (aw (pc tw hr (aa (pv 0) ag)))) aA) (aj (aw aZ)))))))),?_⟩;by_cases hg:bX c=4
 .have k:=k1 hg;cases c with
  |order=>obtain⟨rfl,rfl⟩:=hc;refine dP ?_;exact⟨_,rfl,ob,dx,l,as,st,rfl,O,W,k⟩
  |view=>obtain⟨rfl,rfl⟩:=hc;refine bH ?_;refine dP ?_;exact⟨_,rfl,ob,dx,l,as,st,rfl,O,W,k⟩
  |info a=>
   obtain⟨rfl,rfl⟩:=hc
   iterate 2 refine bH ?_
   refine dP ?_;exact⟨_,rfl,_,rfl,bG (i:=0) hW rfl rfl ⟨ob,dx,l,as,st,a,rfl,O,W,k⟩⟩
  |path a=>
   obtain⟨rfl,rfl⟩:=hc
   iterate 3 refine bH ?_
   refine dP ?_;exact⟨_,rfl,_,rfl,bG (i:=0) hW rfl rfl ⟨ob,dx,l,as,st,a,rfl,O,W,k⟩⟩
  |step a b=>
   obtain⟨rfl,rfl⟩:=hc
   iterate 4 refine bH ?_
   refine dP ?_;exact⟨_,rfl,_,rfl,bG (i:=0) hW rfl rfl ⟨_,rfl,bG (i:=1) hW rfl rfl ⟨ob,dx,l,as,st,a,b,rfl,O,W,k⟩⟩⟩
  |state=>
   obtain⟨rfl,rfl⟩:=hc
   iterate 5 refine bH ?_
   refine dP ?_;exact⟨_,rfl,ob,dx,l,as,st,rfl,O,W,k⟩
  |_=>exact absurd hg (Ab rfl)
 .obtain⟨n0,n1,n2,n3,n4,n5⟩:=B0 hc hg;refine bH ?_ rfl n0;refine bH ?_ rfl n1;refine bH ?_ rfl n2;refine bH ?_ rfl n3;refine bH ?_ rfl n4;refine bH ?_ rfl n5;exact k2 hg _ (aD.refl _)
theorem rO:aG ["outline","name","wholes","row"] ["outline","name","wholes","row"] (ay iF):=eN
theorem DB(F:bB K mg "answer_telling" iF ["outline","name","wholes","row"])(T:Tz Z)(tD:bo Z 3 "label_of" ["outline","number"] (eW C CO .label))(oW:bo Z 3 "find_label" ["outline","told"] (E2 C CO .find))(w8:bo Z 2 "text_of" ["outline","number"] (eW C CO .text))(kh:bo Z 4 "shown_text_of" ["outline","number"] (eW C CO .shown))(mT:bo Z 4 "contents_to" ["outline","depth"] (eW C CO .contents))(ki:bo Z 5 "references_of" ["outline","number"] (eW C CO .references))(lB:bo Z 5 "referring_to" ["outline","number"] (eW C CO .referring))(qF:bo Z 6 "broken_in" ["outline"] (lu C CO .broken))(oX:bo Z 4 "search_for" ["outline","told"] (E2 C CO .search)):bo Z 7 "answer_telling" ["outline","name","wholes","row"] (MB C CO 5):=by
 refine F.fe rO λH Q E hr h=>?_;obtain⟨ob,dx,l,wl,rl,as,st,x,ws,row,c,rfl,O,W,hW,hR,hc,k1,k2⟩:=h;refine⟨_,(ae (aM (bE bw (pv 1) bN) (aj (aw (pc tD hr (aa (pv 0) (aa (c5 aJ (pv 2) au) ag))))) aA) (ae (aM (bE bw (pv 1) bN) (aj (aw (pc oW hr (aa (pv 0) (aa (pv 3) ag))))) aA) (ae (aM (bE bw (pv 1) bN) (aj (aw (pc w8 hr (aa (pv 0) (aa (c5 aJ (pv 2) au) ag))))) aA) (ae (aM (bE bw (pv 1) bN) (aj (aw (pc kh hr (aa (pv 0) (aa (c5 aJ (pv 2) au) ag))))) aA) (ae (aM (bE bw (pv 1) bN) (aj (aw (pc mT hr (aa (pv 0) (aa (c5 aJ (pv 2) au) ag))))) aA) (ae (aM (bE bw (pv 1) bN) (aj (aw (pc ki hr (aa (pv 0) (aa (c5 aJ (pv 2) au) ag))))) aA) (ae (aM (bE bw (pv 1) bN) (aj (aw (pc lB hr (aa (pv 0) (aa (c5 aJ (pv 2) au) ag))))) aA) (ae (aM (bE bw (pv 1) bN) (aj (aw (pc qF hr (aa (pv 0) ag)))) aA) (ae (aM (bE bw (pv 1) bN) (aj (aw (pc oX hr (aa (pv 0) (aa (pv 3) ag))))) aA) (aj (aw aZ))))))))))),?_⟩;by_cases hg:bX c=5
 .have k:=k1 hg;cases c with
  |label a=>obtain⟨rfl,rfl⟩:=hc;refine dP ?_;exact⟨_,rfl,_,rfl,bG (i:=0) hW rfl rfl ⟨ob,dx,l,as,st,a,rfl,O,W,k⟩⟩
  |find t=>obtain⟨rfl,rfl,rfl,hz⟩:=hc;refine bH ?_;refine dP ?_;exact⟨_,rfl,_,rfl,ob,dx,l,rl,as,st,row,rfl,O,W,hR,by lia,k⟩
  |text a=>
   obtain⟨rfl,rfl⟩:=hc
   iterate 2 refine bH ?_
   refine dP ?_;exact⟨_,rfl,_,rfl,bG (i:=0) hW rfl rfl ⟨ob,dx,l,as,st,a,rfl,O,W,k⟩⟩
  |shown a=>
   obtain⟨rfl,rfl⟩:=hc
   iterate 3 refine bH ?_
   refine dP ?_;exact⟨_,rfl,_,rfl,bG (i:=0) hW rfl rfl ⟨ob,dx,l,as,st,a,rfl,O,W,k⟩⟩
  |contents a=>
   obtain⟨rfl,rfl⟩:=hc
   iterate 4 refine bH ?_
   refine dP ?_;exact⟨_,rfl,_,rfl,bG (i:=0) hW rfl rfl ⟨ob,dx,l,as,st,a,rfl,O,W,k⟩⟩
  |references a=>
   obtain⟨rfl,rfl⟩:=hc
   iterate 5 refine bH ?_
   refine dP ?_;exact⟨_,rfl,_,rfl,bG (i:=0) hW rfl rfl ⟨ob,dx,l,as,st,a,rfl,O,W,k⟩⟩
  |referring a=>
   obtain⟨rfl,rfl⟩:=hc
   iterate 6 refine bH ?_
   refine dP ?_;exact⟨_,rfl,_,rfl,bG (i:=0) hW rfl rfl ⟨ob,dx,l,as,st,a,rfl,O,W,k⟩⟩
  |broken=>
   obtain⟨rfl,rfl⟩:=hc
   iterate 7 refine bH ?_
   refine dP ?_;exact⟨_,rfl,ob,dx,l,as,st,rfl,O,W,k⟩
  |search t=>
   obtain⟨rfl,rfl,rfl,hz⟩:=hc
   iterate 8 refine bH ?_
   refine dP ?_;exact⟨_,rfl,_,rfl,ob,dx,l,rl,as,st,row,rfl,O,W,hR,by lia,k⟩
  |_=>exact absurd hg (Ab rfl)
 .obtain⟨n0,n1,n2,n3,n4,n5,n6,n7,n8⟩:=B1 hc hg;refine bH ?_ rfl n0;refine bH ?_ rfl n1;refine bH ?_ rfl n2;refine bH ?_ rfl n3;refine bH ?_ rfl n4;refine bH ?_ rfl n5;refine bH ?_ rfl n6;refine bH ?_ rfl n7;refine bH ?_ rfl n8;exact k2 hg _ (aD.refl _)
def cf(x:Str)(wl rl:Addr):List (Str×V):=[("name", .str x),("wholes", .ref wl),("row", .ref rl)]
structure lC(CC:Addr)(H:Hp)(a:Addr)(c:Vanbkn.Call)(x:Str)(ws row:List Int)(cd wl rl:Addr):Prop where
 at_:H a=some (.ins CC cd (cf x wl rl))
 w:H wl=some (.lst (aT ws))
 r:H rl=some (.lst (aT row))
 is:ju x ws row c
theorem lC.same{CC:Addr}{a:Addr}{x:Str}{cd:Addr}(h:lC CC H a c x ws row cd wl rl)(s:aD H H'):lC CC H' a c x ws row cd wl rl:=⟨s _ _ h.at_,s _ _ h.w,s _ _ h.r,h.is⟩
section
variable{H:Hp}{R:V->Prop}{a:Addr}{c:Vanbkn.Call}{x:Str}{ws row:List Int}{cd wl rl:Addr}
theorem mU(T:Txt K mg C CO CC)(h:lC CC H a c x ws row cd wl rl)(q:R (.str x)):lH K "name" (V.ref a) H R:=⟨a,CC,cd,_,_,rfl,h.at_,T.Q1,T.nName,rfl,q⟩
theorem l8(T:Txt K mg C CO CC)(h:lC CC H a c x ws row cd wl rl)(q:R (.ref wl)):lH K "wholes" (V.ref a) H R:=⟨a,CC,cd,_,_,rfl,h.at_,T.Q1,T.ER,rfl,q⟩
theorem DC(T:Txt K mg C CO CC)(h:lC CC H a c x ws row cd wl rl)(q:R (.ref rl)):lH K "row" (V.ref a) H R:=⟨a,CC,cd,_,_,rfl,h.at_,T.Q1,T.SS,rfl,q⟩
end
theorem GN(c:Vanbkn.Call):bX c=1\/ bX c=2\/ bX c=3\/ bX c=4\/ bX c=5\/ bX c=6\/ bX c=7:=by
 cases c<;>first
  |exact .inl rfl
  |exact .inr (.inl rfl)
  |exact .inr (.inr (.inl rfl))
  |exact .inr (.inr (.inr (.inl rfl)))
  |exact .inr (.inr (.inr (.inr (.inl rfl))))
  |exact .inr (.inr (.inr (.inr (.inr (.inl rfl)))))
  |exact .inr (.inr (.inr (.inr (.inr (.inr rfl)))))
inductive Tx(C CO CC TP:Addr)(vs:List V)(H:Hp)(Q:VK)(_E:XK):Prop
 |mk (ob dx l cl cd wl rl:Addr) (as:List Addr) (s:Vanbkn.State) (x:Str) (ws row:List Int) (c:Vanbkn.Call) (h1:vs=[.ref ob, .ref cl]) (h2:a9 C CO H ob dx l as s) (h3:Wf s) (h4:sR H TP) (h5:lC CC H cl c x ws row cd wl rl) (h6:d_ C CO H ob (Vanbkn.step s c) Q)
theorem gf:aG ["outline","call","answer"] ["outline","call"] (ay oB):=eN
theorem TC{TP:Addr}(F:bB K mg "answer_to" oB ["outline","call"])(T:Tz Z)(lD:bo Z 3 "save_outline" ["outline"] (lu C CO .save))(lE:bo Z 6 "load_outline" ["outline","row"] (JY C CO))(kj:bo Z 7 "answer_making" ["outline","name","wholes","row"] (MB C CO 1))(kl:bo Z 5 "answer_moving" ["outline","name","wholes"] (NS C CO TP 2))(jv:bo Z 3 "answer_folding" ["outline","name","wholes"] (MC C CO 3))(jw:bo Z 4 "answer_reading" ["outline","name","wholes"] (MC C CO 4))(jx:bo Z 7 "answer_telling" ["outline","name","wholes","row"] (MB C CO 5)):bo Z 8 "answer_to" ["outline","call"] (Tx C CO CC TP):=by
 refine F.fe gf λH Q E hr h=>?_;obtain⟨ob,dx,l,cl,cd,wl,rl,as,st,x,ws,row,c,rfl,O,W,hT,CA,k⟩:=h;refine⟨_,(ae (aM (bE bw (aB (pv 1) rfl) bN) (aj (aw (pc lD hr (aa (pv 0) ag)))) aA) (ae (aM (bE bw (aB (pv 1) rfl) bN) (aj (aw (pc lE hr (aa (pv 0) (aa (aB (pv 1) rfl) ag))))) aA) (ae (bD 2 gf (pc kj hr (aa (pv 0) (aa (aB (pv 1) rfl) (aa (aB (pv 1) rfl) (aa (aB (pv 1) rfl) ag)))))) (ae (aM (bE bC (pv 2) aZ) (aj (bD 2 gf (pc kl hr (aa (pv 0) (aa (aB (pv 1) rfl) (aa (aB (pv 1) rfl) ag)))))) aA) (ae (aM (bE bC (pv 2) aZ) (aj (bD 2 gf (pc jv hr (aa (pv 0) (aa (aB (pv 1) rfl) (aa (aB (pv 1) rfl) ag)))))) aA) (ae (aM (bE bC (pv 2) aZ) (aj (bD 2 gf (pc jw hr (aa (pv 0) (aa (aB (pv 1) rfl) (aa (aB (pv 1) rfl) ag)))))) aA) (ae (aM (bE bC (pv 2) aZ) (aj (bD 2 gf (pc jx hr (aa (pv 0) (aa (aB (pv 1) rfl) (aa (aB (pv 1) rfl) (aa (aB (pv 1) rfl) ag))))))) aA) (aj (aw (pv 2)))))))))),?_⟩;refine⟨_,rfl,mU T CA ⟨rfl,_,rfl,?_⟩⟩;by_cases h6:bX c=6
 .cases c with
  |save=>obtain⟨rfl,_⟩:=CA.is;refine zJ ?_;exact⟨_,rfl,ob,dx,l,as,st,rfl,O,W,k⟩
  |_=>cases h6
 refine Dy (J5 CA.is h6) ?_;refine⟨_,rfl,mU T CA ⟨rfl,_,rfl,?_⟩⟩;by_cases h7:bX c=7
 .cases c with
  |load t=>obtain⟨rfl,_,rfl,hz⟩:=CA.is;refine zJ ?_;exact⟨_,rfl,_,rfl,DC T CA ⟨ob,dx,l,rl,as,st,row,rfl,O,W,CA.r,hz,k⟩⟩
  |_=>cases h7
 refine Dy (J6 CA.is h7) ?_;refine⟨_,rfl,_,rfl,mU T CA ⟨_,rfl,l8 T CA ⟨_,rfl,DC T CA ⟨ob,dx,l,wl,rl,as,st,x,ws,row,c,rfl,O,W,CA.w,CA.r,CA.is,λh1 H' p xP l' ko f' o' h'=>?_,λh1 H1 s1=>?_⟩⟩⟩⟩
 .iterate 4 (refine⟨_,rfl,rfl,_,rfl,?_⟩;refine aK (λh=>nomatch (aH h)) (λ_=>?_))
  exact⟨_,rfl,k _ p xP l' ko f' o' h'⟩
 (refine⟨_,rfl,rfl,_,rfl,?_⟩;refine aK (λ_=>?_) (λh=>absurd rfl h))
 have TF:=CA.same s1;have O1:=O.same s1;refine⟨_,rfl,_,rfl,mU T TF ⟨_,rfl,l8 T TF ⟨ob,dx,l,wl,as,st,x,ws,row,c,rfl,O1,W,hT.same s1,TF.w,TF.is,λh2 H' p xP l' ko f' o' h'=>?_,λh2 H2 s2=>?_⟩⟩⟩
 .iterate 3 (refine⟨_,rfl,rfl,_,rfl,?_⟩;refine aK (λh=>nomatch (aH h)) (λ_=>?_))
  exact⟨_,rfl,k _ p xP l' ko (s1.fr.trans f') o' h'⟩
 (refine⟨_,rfl,rfl,_,rfl,?_⟩;refine aK (λ_=>?_) (λh=>absurd rfl h))
 have TH:=TF.same s2;have O2:=O1.same s2;have xj:=s1.trans s2;refine⟨_,rfl,_,rfl,mU T TH ⟨_,rfl,l8 T TH ⟨ob,dx,l,wl,as,st,x,ws,row,c,rfl,O2,W,TH.w,TH.is,λh3 H' p xP l' ko f' o' h'=>?_,λh3 H3 s3=>?_⟩⟩⟩
 .iterate 2 (refine⟨_,rfl,rfl,_,rfl,?_⟩;refine aK (λh=>nomatch (aH h)) (λ_=>?_))
  exact⟨_,rfl,k _ p xP l' ko (xj.fr.trans f') o' h'⟩
 (refine⟨_,rfl,rfl,_,rfl,?_⟩;refine aK (λ_=>?_) (λh=>absurd rfl h))
 have TJ:=TH.same s3;have O3:=O2.same s3;have jC:=xj.trans s3;refine⟨_,rfl,_,rfl,mU T TJ ⟨_,rfl,l8 T TJ ⟨ob,dx,l,wl,as,st,x,ws,row,c,rfl,O3,W,TJ.w,TJ.is,λh4 H' p xP l' ko f' o' h'=>?_,λh4 H4 s4=>?_⟩⟩⟩
 ·(refine⟨_,rfl,rfl,_,rfl,?_⟩;refine aK (λh=>nomatch (aH h)) (λ_=>?_))
  exact⟨_,rfl,k _ p xP l' ko (jC.fr.trans f') o' h'⟩
 (refine⟨_,rfl,rfl,_,rfl,?_⟩;refine aK (λ_=>?_) (λh=>absurd rfl h))
 have Rg:=TJ.same s4;have O4:=O3.same s4;have Jm:=jC.trans s4;refine⟨_,rfl,_,rfl,mU T Rg ⟨_,rfl,l8 T Rg ⟨_,rfl,DC T Rg ⟨ob,dx,l,wl,rl,as,st,x,ws,row,c,rfl,O4,W,Rg.w,Rg.r,Rg.is,λh5 H' p xP l' ko f' o' h'=>?_,λh5 H5 s5=>?_⟩⟩⟩⟩
 .exact⟨_,rfl,k _ p xP l' ko (Jm.fr.trans f') o' h'⟩
 .exfalso;rcases GN c with h|h|h|h|h|h|h
  .exact h1 h
  .exact h2 h
  .exact h3 h
  .exact h4 h
  .exact h5 h
  .exact h6 h
  .exact h7 h
def mV:List (Str×Nat×Nat):=[("section",2,1),("cell",2,1),("write",1,1),("move",3,0),("drop",1,0),("dissolve",1,0),("promote",1,0),("demote",1,0),("wrap",2,1),("raise",1,0),("sort",1,0),("copy",3,0),("fold",2,0),("foldFrom",1,0),("reveal",1,0),("order",0,0),("view",0,0),("label",1,0),("find",0,1),("text",1,0),("shown",1,0),("contents",1,0),("info",1,0),("path",1,0),("references",1,0),("referring",1,0),("broken",0,0),("search",0,1),("step",2,0),("save",0,0),("load",0,1),("state",0,0)]
def Va(p:Int)(n:Nat):List (Str×Nat×Nat)->Option (Nat×Nat)
 |[]=>none
 |q::r=>if p=(n:Int) then some q.2 else Va p (n+1) r
theorem J8{p:Int}{v:Nat×Nat}:∀(L:List (Str×Nat×Nat))(n:Nat),Va p n L=some v->∃(j:Nat)(x:Str),p=((n+j:Nat):Int)/\ L[j]?=some (x,v)
 |[],_,h=>by cases h
 |q::r,n,h=>by
  unfold Va at h;by_cases e:p=(n:Int)
  .rw[aq e] at h;cases h;exact⟨0,q.1,e,rfl⟩
  .rw[ak e] at h;obtain⟨j,x,h1,h2⟩:=J8 r (n+1) h;exact⟨j+1,x,by rw[h1];congr 1;lia,h2⟩
theorem B2{p:Int}{n k:Nat}(h:shape p=some (n,k)):∃(j:Nat)(x:Str),p=(j:Int)/\ mV[j]?=some (x,n,k):=by obtain⟨j,x,h1,h2⟩:=J8 (v:=(n,k)) mV 0 (show Va p 0 mV=some (n,k) from h);exact⟨j,x,by rw[h1,Nat.zero_add],h2⟩
theorem len0(h:ws.length=0):ws=[]:=zQ h
theorem oY(h:ws.length=1):∃a,ws=[a]:=List.length_eq_one_iff.mp h
theorem J9(h:ws.length=2):∃a b,ws=[a,b]:=match ws,h with
 |[a,b],_=>⟨a,b,rfl⟩
theorem TK(h:ws.length=3):∃a b d,ws=[a,b,d]:=match ws,h with
 |[a,b,d],_=>⟨a,b,d,rfl⟩
def rowsOf(k:Nat)(row:List Int):List (List Int):=if k=1 then[row] else[]
theorem MD{n k:Nat}{x:Str}(hj:mV[j]?=some (x,n,k))(hw:ws.length=n)(ha:asked1 (PyVanbkn.whole (((j:Int)::ws)::rowsOf k row))=true):∃c,callOf (PyVanbkn.whole (((j:Int)::ws)::rowsOf k row))=some c/\ ju x ws row c:=by
 match j,hj with
 |0,hj=>cases hj;obtain⟨a,b,rfl⟩:=J9 hw;have ha:(whole60 a&&(whole60 b&&((row.all (λ(z:Int)=>whole60 z))&&decide (row.length<=200))))=true:=ha;simp only[uA,qQ] at ha;exact⟨.section_ a b row,rfl,rfl,rfl,rfl,ha.2.2.2⟩
 |1,hj=>cases hj;obtain⟨a,b,rfl⟩:=J9 hw;have ha:(whole60 a&&(whole60 b&&((row.all (λ(z:Int)=>whole60 z))&&decide (row.length<=200))))=true:=ha;simp only[uA,qQ] at ha;exact⟨.cell a b row,rfl,rfl,rfl,rfl,ha.2.2.2⟩
 |2,hj=>cases hj;obtain⟨a,rfl⟩:=oY hw;have ha:(whole60 a&&((row.all (λ(z:Int)=>whole60 z))&&decide (row.length<=200)))=true:=ha;simp only[uA,qQ] at ha;exact⟨.write a row,rfl,rfl,rfl,rfl,ha.2.2⟩
 |3,hj=>cases hj;obtain⟨a,b,d,rfl⟩:=TK hw;exact⟨.move a b d,rfl,rfl,rfl⟩
 |4,hj=>cases hj;obtain⟨a,rfl⟩:=oY hw;exact⟨.drop a,rfl,rfl,rfl⟩
 |5,hj=>cases hj;obtain⟨a,rfl⟩:=oY hw;exact⟨.dissolve a,rfl,rfl,rfl⟩
 |6,hj=>cases hj;obtain⟨a,rfl⟩:=oY hw;exact⟨.promote a,rfl,rfl,rfl⟩
 |7,hj=>cases hj;obtain⟨a,rfl⟩:=oY hw;exact⟨.demote a,rfl,rfl,rfl⟩
 |8,hj=>cases hj;obtain⟨a,b,rfl⟩:=J9 hw;have ha:(whole60 a&&(whole60 b&&((row.all (λ(z:Int)=>whole60 z))&&decide (row.length<=200))))=true:=ha;simp only[uA,qQ] at ha;exact⟨.wrap a b row,rfl,rfl,rfl,rfl,ha.2.2.2⟩
 |9,hj=>cases hj;obtain⟨a,rfl⟩:=oY hw;exact⟨.raise a,rfl,rfl,rfl⟩
 |10,hj=>cases hj;obtain⟨a,rfl⟩:=oY hw;exact⟨.sort a,rfl,rfl,rfl⟩
 |11,hj=>cases hj;obtain⟨a,b,d,rfl⟩:=TK hw;exact⟨.copy a b d,rfl,rfl,rfl⟩
 |12,hj=>cases hj;obtain⟨a,b,rfl⟩:=J9 hw;exact⟨.fold a b,rfl,rfl,rfl⟩
 |13,hj=>cases hj;obtain⟨a,rfl⟩:=oY hw;exact⟨.foldFrom a,rfl,rfl,rfl⟩
 |14,hj=>cases hj;obtain⟨a,rfl⟩:=oY hw;exact⟨.reveal a,rfl,rfl,rfl⟩
 |15,hj=>cases hj;obtain rfl:=len0 hw;exact⟨.order,rfl,rfl,rfl⟩
 |16,hj=>cases hj;obtain rfl:=len0 hw;exact⟨.view,rfl,rfl,rfl⟩
 |17,hj=>cases hj;obtain⟨a,rfl⟩:=oY hw;exact⟨.label a,rfl,rfl,rfl⟩
 |18,hj=>cases hj;obtain rfl:=len0 hw;have ha:((row.all (λ(z:Int)=>whole60 z))&&decide (row.length<=200))=true:=ha;simp only[uA,qQ] at ha;exact⟨.find row,rfl,rfl,rfl,rfl,ha.2⟩
 |19,hj=>cases hj;obtain⟨a,rfl⟩:=oY hw;exact⟨.text a,rfl,rfl,rfl⟩
 |20,hj=>cases hj;obtain⟨a,rfl⟩:=oY hw;exact⟨.shown a,rfl,rfl,rfl⟩
 |21,hj=>cases hj;obtain⟨a,rfl⟩:=oY hw;exact⟨.contents a,rfl,rfl,rfl⟩
 |22,hj=>cases hj;obtain⟨a,rfl⟩:=oY hw;exact⟨.info a,rfl,rfl,rfl⟩
 |23,hj=>cases hj;obtain⟨a,rfl⟩:=oY hw;exact⟨.path a,rfl,rfl,rfl⟩
 |24,hj=>cases hj;obtain⟨a,rfl⟩:=oY hw;exact⟨.references a,rfl,rfl,rfl⟩
 |25,hj=>cases hj;obtain⟨a,rfl⟩:=oY hw;exact⟨.referring a,rfl,rfl,rfl⟩
 |26,hj=>cases hj;obtain rfl:=len0 hw;exact⟨.broken,rfl,rfl,rfl⟩
 |27,hj=>cases hj;obtain rfl:=len0 hw;have ha:((row.all (λ(z:Int)=>whole60 z))&&decide (row.length<=200))=true:=ha;simp only[uA,qQ] at ha;exact⟨.search row,rfl,rfl,rfl,rfl,ha.2⟩
 |28,hj=>cases hj;obtain⟨a,b,rfl⟩:=J9 hw;exact⟨.step a b,rfl,rfl,rfl⟩
 |29,hj=>cases hj;obtain rfl:=len0 hw;exact⟨.save,rfl,rfl,rfl⟩
 |30,hj=>cases hj;obtain rfl:=len0 hw;have ha:((row.all (λ(z:Int)=>whole60 z))&&decide (row.length<=10000))=true:=ha;simp only[uA,qQ] at ha;exact⟨.load row,rfl,rfl,rfl,rfl,ha.2⟩
 |31,hj=>cases hj;obtain rfl:=len0 hw;exact⟨.state,rfl,rfl,rfl⟩
 |n+32,hj=>cases hj
theorem TR.join{t:TT}{b:Bool}(Pj:L2.St->Hp->Prop)(h:TR t σ H b)(hx:b=true->∀H',aD H H'->∀R:L2.St->Hp->Prop,(∀σ' H2,Pj σ' H2->R σ' H2)->tx {D with nx:=R} σ H')(hy:b=false->∀H',aD H H'->∀R:L2.St->Hp->Prop,(∀σ' H2,Pj σ' H2->R σ' H2)->ty {D with nx:=R} σ H')(k:∀σ' H',Pj σ' H'->u D σ' H'):ma (uk t tx ty) u D σ H:=
 TR.Kq h (λe H' s=>hx e H' s _ k) (λe H' s=>hy e H' s _ k)
structure YR(K:Frag)(mg:Str->Option Value)(SA:Addr):Prop where
 at_:mg "SHAPES"=some (.ref SA)
 sq:∃bs:List Addr,bs.length=32/\ (∀H,i_ K H SA (bs.map V.ref))/\ ∀(i:Nat)(b:Addr)(q:Str×Nat×Nat),bs[i]?=some b->mV[i]?=some q->∀H,i_ K H b [.str q.1, .int (q.2.1:Nat), .int (q.2.2:Nat)]
structure fV(CC:Addr)(H:Hp)(p:Addr)(as:List Addr)(cs:List (List (List Int))):Prop where
 lst:H p=some (.lst (as.map V.ref))
 len:as.length=cs.length
 at_:∀(i:Nat)(a:Addr)(c:List (List Int)),as[i]?=some a->cs[i]?=some c->∃k x ws row cd wl rl,callOf (PyVanbkn.whole c)=some k/\ lC CC H a k x ws row cd wl rl
theorem fV.same{H H':Hp}{p:Addr}{as:List Addr}{cs:List (List (List Int))}(h:fV CC H p as cs)(s:aD H H'):fV CC H' p as cs:=⟨s _ _ h.lst,h.len,λi a c ha hc=>by obtain⟨k,x,ws,row,cd,wl,rl,h1,h2⟩:=h.at_ i a c ha hc;exact⟨k,x,ws,row,cd,wl,rl,h1,h2.same s⟩⟩
theorem fV.push{p a:Addr}{as:List Addr}{c:List (List Int)}{k:Vanbkn.Call}{x:Str}{cd:Addr}(h:fV CC H p as cs)(h1:callOf (PyVanbkn.whole c)=some k)(h2:lC CC H a k x ws row cd wl rl)(hw:wl≠p)(hr:rl≠p):
 fV CC (upd H p (.lst (as.map V.ref++[V.ref a]))) p (as++[a]) (cs++[c]):=by
 refine⟨by rw[ah,cV];rfl,by rw[a_,a_,h.len];rfl,λi b d hb hd=>?_⟩;have GH:=h.lst;have keep:∀{t:Addr}{ns:List Int},H t=some (.lst (aT ns))->as≠[]->upd H p (.lst (as.map V.ref++[V.ref a])) t=some (.lst (aT ns)):=λ{t ns} g fo=>by
  rw[az (λq=>?_)]
  .exact g
  .rw[q,GH] at g;injection g with g;injection g with g;cases as with
   |nil=>exact fo rfl
   |cons c0 cs0=>
    cases ns with
    |nil=>cases g
    |cons z zs=>cases g
 have NT:∀{t cd:Addr}{fs:List (Str×V)},H t=some (.ins CC cd fs)->upd H p (.lst (as.map V.ref++[V.ref a])) t=some (.ins CC cd fs):=λ{t cd fs} g=>by rw[az (λq=>by rw[q,GH] at g;cases g)];exact g
 by_cases hi:i<as.length
 .rw[nz hi] at hb;rw[nz (by rw[<-h.len];exact hi)] at hd;have fo:as≠[]:=λq=>by rw[q] at hi;cases hi
  obtain⟨k',x',ws',Xp,cd',wl',NU,g1,g2⟩:=h.at_ i b d hb hd;exact⟨k',x',ws',Xp,cd',wl',NU,g1,⟨NT g2.at_,keep g2.w fo,keep g2.r fo,g2.is⟩⟩
 .rw[k3 (by lia)] at hb;rw[k3 (by rw[<-h.len];lia),<-h.len] at hd;cases e:i - as.length with
  |zero=>rw[e] at hb hd;cases hb;cases hd;exact⟨k,x,ws,row,cd,wl,rl,h1,⟨NT h2.at_,by rw[az hw];exact h2.w,by rw[az hr];exact h2.r,h2.is⟩⟩
  |succ n=>rw[e] at hb;simp at hb
theorem GO{f:Nat}(h:PyFlat.calls shape f []=some cs):cs=[]:=by cases f<;>(cases h;rfl)
theorem DD{f:Nat}{p:Int}{r:List Int}(h:PyFlat.calls shape f (p::r)=some cs):∃(f' n k:Nat)(row t:List Int)(rest:List (List (List Int))),shape p=some (n,k)/\ n<=r.length/\ cs=((p::r.take n)::rowsOf k row)::rest/\ PyFlat.calls shape f' t=some rest/\
 ((k=0/\ t=r.drop n/\ row=[])\/ (k=1/\ ∃m r2,r.drop n=m::r2/\ 0<=m/\ m.toNat<=r2.length/\ row=r2.take m.toNat/\ t=r2.drop m.toNat)):=by
 cases f with
 |zero=>cases h
 |succ f=>
  have h:(match PyFlat.call shape (p::r) with
   |none=>none
   |some (c,t)=>match PyFlat.calls shape f t with
    |none=>none
    |some cs=>some (c::cs))=some cs:=h
  cases hc:PyFlat.call shape (p::r) with
  |none=>rw[hc] at h;cases h
  |some ct=>
   obtain⟨c,t⟩:=ct;rw[hc] at h;dsimp only at h;cases hr:PyFlat.calls shape f t with
   |none=>rw[hr] at h;cases h
   |some rest=>
    rw[hr] at h;cases h;have hc:(match shape p with
     |none=>none
     |some (n,k)=>if r.length<n then none else match rows k (r.drop n) with
      |none=>none
      |some (xs,t)=>some ((p::r.take n)::xs,t))=some (c,t):=hc
    cases hs:shape p with
    |none=>rw[hs] at hc;cases hc
    |some nk=>
     obtain⟨n,k⟩:=nk;rw[hs] at hc;dsimp only at hc;by_cases hn:r.length<n
     .rw[aq hn] at hc;cases hc
     rw[ak hn] at hc;obtain⟨j,x,hj,hx⟩:=B2 hs;have hk:k=0\/ k=1:=by
      have:∀q∈mV,q.2.2=0\/ q.2.2=1:=by decide+kernel
      exact this _ (cI hx)
     rcases hk with rfl|rfl
     .cases hc;exact⟨f,n,0,[],_,rest,rfl,by lia,rfl,hr, .inl ⟨rfl,rfl,rfl⟩⟩
     .have e:rows 1 (r.drop n)=match PyFlat.row (r.drop n) with
       |none=>none
       |some (x,s)=>some ([x],s):=rfl
      rw[e] at hc;cases hd:r.drop n with
      |nil=>rw[hd] at hc;cases hc
      |cons m r2=>
       rw[hd] at hc;have e2:PyFlat.row (m::r2)=if 0<=m/\ m.toNat<=r2.length then some (r2.take m.toNat,r2.drop m.toNat) else none:=rfl;rw[e2] at hc;by_cases hm:0<=m/\ m.toNat<=r2.length
       .rw[aq hm] at hc;cases hc;exact⟨f,n,1,_,_,rest,rfl,by lia,rfl,hr, .inr ⟨rfl,m,r2,hd,hm.1,hm.2,rfl,rfl⟩⟩
       .rw[ak hm] at hc;cases hc
def J_(K:Frag)(CC:Addr):Sp:=λvs H Q _=>∃(r:Addr)(l:List Int)(cs:List (List (List Int))),vs=[.ref r]/\ bf K H r (aT l)/\ PyFlat.calls shape l.length l=some cs/\ cs.length<=200/\ (∀c∈cs,asked1 (PyVanbkn.whole c)=true)/\ ∀H' p as,aD H H'->fV CC H' p as cs->Q (.ref p) H'
theorem cA:aG ["numbers","found","position","shape","row_start","wholes","row"] ["numbers"] (ay mv):=eN
theorem ME{SA:Addr}(F:bB K mg "read_calls" mv ["numbers"])(T:Tz Z)(S:YR K mg SA)(J':EM P w K mg base 1 "Call" CC ["self","name","wholes","row"] (zA CC)):bo Z 3 "read_calls" ["numbers"] (J_ K CC):=by
 refine F.ok cA (λvs H Q E h=>?_) (λ_ _ _ _ _ H _ Q E hr h=>?_)
 .obtain⟨_,_,_,rfl,_⟩:=h;rfl
 .obtain⟨r,l,cs,rfl,hR,Xq,hz,DE,k⟩:=h;refine⟨_,(ae (bD 1 cA (aL ag)) (ae (bD 2 cA au) (ae (ft PassesOwn.never (bE g0 (pv 2) (pd T (aa (pv 0) ag))) (ae (bD 3 cA (c5 dR (yO (v:= .ref SA) rfl S.at_ rfl) (c5 aJ (pv 0) (pv 2)))) (ae (bD 4 cA (bc bO (bc bO (pv 2) au) (c5 dR (pv 3) au))) (ae (bD 5 cA (bh bz (pv 0) (aW (bc bO (pv 2) au)) (aW (pv 4)))) (ae (bD 6 cA (aL ag)) (ae (bD 2 cA (pv 4)) (ae (aM (bE bw (c5 dR (pv 3) au) au) (ae (bD 2 cA (bc bO (bc bO (pv 4) au) (c5 aJ (pv 0) (pv 4)))) (aj (bD 6 cA (bh bz (pv 0) (aW (bc bO (pv 4) au)) (aW (pv 2)))))) aA) (aj (bF (e_ eL iW iX cw (pv 1) (aa (J'.make (hr.mono (by decide)) rfl (aa (c5 dR (pv 3) au) (aa (pv 5) (aa (pv 6) ag)))) ag))))))))))) (aj (aw (pv 1)))))),?_⟩;obtain⟨bs,W9,hSA,hbs⟩:=S.sq;refine⟨a8 _,λc hc=>?_⟩;have s1:aD H (upd H c (.lst [])):=aE hc;refine fA (λ(U:Nat×List (List (List Int))×List (List (List Int))) σ H'=>∃(f:Nat)(as:List Addr)(v3 v4 v5 v6:Option V),σ=[some (.ref r),some (.ref c),some (.int (U.1:Nat)),v3,v4,v5,v6]/\ PyFlat.calls shape f (l.drop U.1)=some U.2.2/\ cs=U.2.1++U.2.2/\ aD H H'/\ fV CC H' c as U.2.1) (λU=>U.2.2.length) (0,[],cs)
   ⟨l.length,[],none,none,none,none,rfl,Xq,rfl,s1,⟨ah,rfl,λi a d h=>by simp at h⟩⟩ ?_
  rintro⟨i,dn,rest⟩ σ H' ⟨f,as,v3,v4,v5,v6,rfl,zK,DF,s2,CL⟩;have zK:PyFlat.calls shape f (l.drop i)=some rest:=zK;have DF:cs=dn++rest:=DF;have CL:fV CC H' c as dn:=CL;have Q6:=s2.seq hR;refine⟨_,rfl,_,rfl,r,_,rfl, .inl Q6,_,_,rfl,rfl,_,rfl,?_⟩;rw[bA];by_cases m_:i<l.length
  .refine aK (λ_=>?_) (λh=>absurd (aR (by show((i:Nat):Int)<_;lia)) h);have y0:l.drop i=l[i]::l.drop (i+1):=rS m_;rw[y0] at zK;obtain⟨f',n,kk,row,t,yK,U_,hn,TM,Xr,TN⟩:=DD zK;subst TM;obtain⟨j,x,hj,hx⟩:=B2 U_;have abi:j<32:=(dm.mp hx).1;have Xs:bs[j]?=some (bs[j]'(by lia)):=c8 _;have hB:=hbs j _ _ Xs hx;generalize bs[j]'(by lia)=b at Xs hB;have hgi:(aT l)[i]?=some (V.int l[i]):=by unfold aT;rw[gW,c8 m_];rfl
   refine nj (i,dn,(((l[i]::(l.drop (i+1)).take n)::rowsOf kk row)::yK)) ?_;refine⟨_,rfl,_,rfl,r,_,_,_,rfl,rfl,Q6,bT hgi,SA,_,_,V.ref b,rfl,rfl,hSA _,?_,?_⟩
   .rw[hj];exact bT (by rw[gW,Xs];rfl)
   refine⟨_,rfl,_,_,rfl,rfl,_,rfl,b,_,_,_,rfl,rfl,hB _,bT (j:=1) rfl,_,_,rfl,rfl,?_⟩;have e1:((i:Nat):Int)+1+((n:Nat):Int)=((i+1+n:Nat):Int):=by lia
   refine⟨_,rfl,_,rfl,_,_,rfl,rfl,_,rfl,_,rfl,_,rfl,r,_,rfl,Q6,λwl MF=>?_⟩;have e0:((i:Nat):Int)+1=((i+1:Nat):Int):=by lia
   have sT:d5 (aT l) (some (((i:Nat):Int)+1)) (some (((i:Nat):Int)+1+((n:Nat):Int)))=aT ((l.drop (i+1)).take n):=by rw[e0,lV,pq]
   have s3:=aE MF (u:= .lst (d5 (aT l) (some (((i:Nat):Int)+1)) (some (((i:Nat):Int)+1+((n:Nat):Int)))));have YS:upd H' wl (.lst (d5 (aT l) (some (((i:Nat):Int)+1)) (some (((i:Nat):Int)+1+((n:Nat):Int))))) wl=some (.lst (aT ((l.drop (i+1)).take n))):=by rw[ah,sT]
   generalize upd H' wl (.lst (d5 (aT l) (some (((i:Nat):Int)+1)) (some (((i:Nat):Int)+1+((n:Nat):Int)))))=H3 at s3 YS⊢;refine⟨a8 _,λrl NB=>?_⟩;have s4:=s3.new NB (u:= .lst []);have YT:=a7 (u:= .lst []) YS NB;have TQ:=s4 _ _ CL.lst;have TU:upd H3 rl (.lst []) rl=some (.lst []):=ah;have hwc:wl≠c:=λq=>by rw[q,CL.lst] at MF;cases MF
   have hrc:rl≠c:=λq=>by rw[q,s3 _ _ CL.lst] at NB;cases NB
   generalize upd H3 rl (.lst [])=H4 at s4 YT TQ TU⊢;have S0:=s4.seq Q6;refine⟨_,rfl,?_⟩;dsimp only[fG,jz];refine TR.join (b:=decide (V.int ((kk:Nat):Int)=V.int 1)) (λσ' H2=>∃(NU:Addr)(i':Nat)(z:Int),σ'=[some (.ref r),some (.ref c),some (.int z),some (.ref b),some (.int (((i:Nat):Int)+1+((n:Nat):Int))),some (.ref wl),some (.ref NU)]/\ z=(i':Int)/\ aD H4 H2/\ H2 NU=some (.lst (aT row))/\ NU≠c/\ l.drop i'=t) ?_ ?_ ?_ ?_
   .exactλR hR=>⟨_,rfl,b,_,_,_,rfl,rfl,hB _,bT (j:=2) rfl,rfl,_,rfl,hR _ (aD.refl _)⟩
   .intro hk H5 s5 R Xt;have Nj:kk=1:=by
     have:=aH hk;injection this with this
     lia
    rcases TN with⟨h0,_⟩|⟨_,m,r2,hd,hm0,UM,Xu,ht⟩
    .lia
    have YU:=s5.seq S0;rw[nt] at hd;have hgm:l[i+1+n]?=some m:=by rw[<-Fl,hd];rfl
    have YV:l.drop (i+1+n+1)=r2:=by rw[<-nt,hd];rfl
    have hgv:(aT l)[i+1+n]?=some (V.int m):=by unfold aT;rw[gW,hgm];rfl
    have Gf:GU (aT l) (((i:Nat):Int)+1+((n:Nat):Int))=some (V.int m):=by rw[e1];exact bT hgv
    refine⟨_,rfl,_,_,rfl,rfl,_,rfl,_,rfl,r,_,_,V.int m,rfl,rfl,YU,Gf,_,_,rfl,rfl,?_⟩;refine⟨_,rfl,_,rfl,_,_,rfl,rfl,_,rfl,_,rfl,_,rfl,r,_,rfl,YU,λYW Qy=>?_⟩;have TV:d5 (aT l) (some (((i:Nat):Int)+1+((n:Nat):Int)+1)) (some (((i:Nat):Int)+1+((n:Nat):Int)+1+m))=aT row:=by rw[show((i:Nat):Int)+1+((n:Nat):Int)+1=((i+1+n+1:Nat):Int) by lia,show m=((m.toNat:Nat):Int) by lia,lV,pq,YV,Xu]
    have TX:YW≠c:=λq=>by rw[q,s5 _ _ TQ] at Qy;cases Qy
    refine Xt _ _ ⟨YW,i+1+n+1+m.toNat,_,rfl,by lia,s5.new Qy,by rw[ah,TV],TX,?_⟩;rw[<-nt,YV,ht]
   .intro hk H5 s5 R Xt;rcases TN with⟨h0,ht,Xu⟩|⟨h1,_⟩
    .refine Xt _ _ ⟨rl,i+1+n,_,rfl,e1,s5,by rw[s5 _ _ TU,Xu];rfl,hrc,?_⟩;rw[ht,nt]
    .exfalso;rw[h1] at hk;cases hk
   .rintro σ' H5 ⟨NU,i',z,rfl,K5,s5,Xv,Xw,Xx⟩;have TY:((l.drop (i+1)).take n).length=n:=by rw[bg];exact iV hn
    have gR:((l[i]::(l.drop (i+1)).take n)::rowsOf kk row)∈cs:=by rw[DF];simp
    obtain⟨kc,TZ,T2⟩:=MD hx TY (by rw[<-hj];exact DE _ gR);rw[<-hj] at TZ;have Kk:dn.length<200:=by
     have:=c_ List.length DF;rw[a_,cj] at this
     lia
    have YX:=s4.trans s5;have T3:=CL.same YX;refine⟨_,rfl, .inl ⟨rfl,_,bf.of T3.lst⟩,_,rfl,b,_,_,_,rfl,rfl,hB _,bT (j:=0) rfl,_,rfl,_,rfl,λxa xd NR Gh fo=>⟨xa,xd,x,wl,NU,rfl,ah,λH6 h6 hk=>⟨rfl,?_⟩⟩⟩;have s6:aD H5 H6:=ph NR Gh hk;have Xy:=T3.same s6;refine⟨c,_,_,rfl,rfl,Xy.lst,eM (by rw[aS,Xy.len];show dn.length<_;lia),?_⟩;have CA:lC CC H6 xa kc x ((l.drop (i+1)).take n) row xd wl NU:=⟨h6,s6 _ _ (s5 _ _ YT),s6 _ _ Xv,T2⟩;have CL7:=Xy.push TZ CA hwc Xw;subst K5;refine⟨(i',dn++[((l[i]::(l.drop (i+1)).take n)::rowsOf kk row)],yK),(by show yK.length<(_::yK).length;rw[cj];exact m4 _),f',as++[xa],_,_,_,_,rfl,?_,?_,?_,CL7⟩
    .show PyFlat.calls shape f' (l.drop i')=some yK;rw[Xx];exact Xr
    .show cs=(dn++[_])++yK;rw[DF];simp
    .exact((s2.trans YX).trans s6).put hc
  .refine aK (λh=>absurd (aH h) (by show¬((i:Nat):Int)<_;lia)) (λ_=>?_);rw[uV (by lia)] at zK;have:=GO zK;subst this;rw[pz] at DF;rw[DF] at k;exact⟨_,rfl,k _ c as s2 CL⟩
theorem MG(s:Vanbkn.State)(l:List (Bool×Int))(o:O)(n:Nat)(a:Int):(checked s l o n a).2.more.length=0:=by unfold checked;split<;>rfl
theorem dw{n:Int}{f:Nd->Vanbkn.State×Answer}{m:Nat}(h:∀x∈s.nodes,(f x).2.more.length<=m):(withNode s n f).2.more.length<=m:=by
 unfold withNode;split
 .next x hx=>exact h x (xC hx)
 .exact a8 _
theorem l9(l:List Nat):(tell l).more.length=l.length:=aS _
theorem mW(l:List Nd):(tellNodes l).more.length=l.length:=by show(tell _).more.length=_;rw[l9,aS]
theorem B3(W:Wf s)(c:Vanbkn.Call):(Vanbkn.step s c).2.more.length<=44820:=by
 have hw:=W.n.len;have ck:∀(l:List (Bool×Int))(o:O)(n:Nat)(a:Int),(checked s l o n a).2.more.length<=44820:=λl o n a=>by rw[MG];lia
 cases c with
 |section_ a b t=>exact ck _ _ _ _
 |cell a b t=>exact ck _ _ _ _
 |write a t=>exact dw λx _=>ck _ _ _ _
 |move a b d=>exact dw λx _=>ck _ _ _ _
 |drop a=>exact dw λx _=>a8 _
 |dissolve a=>exact dw λx _=>ck _ _ _ _
 |promote a=>exact dw λx _=>ck _ _ _ _
 |demote a=>
  refine dw λx _=>?_;split
  .exact a8 _
  .exact ck _ _ _ _
 |wrap a b t=>exact dw λx _=>dw λy _=>ck _ _ _ _
 |raise a=>refine dw λx _=>?_;split<;>exact a8 _
 |sort a=>exact ck _ _ _ _
 |copy a b d=>exact dw λx _=>ck _ _ _ _
 |fold a b=>exact dw λx _=>ck _ _ _ _
 |foldFrom a=>exact ck _ _ _ _
 |reveal a=>exact dw λx _=>a8 _
 |order=>
  show(s.nodes.flatMap λx=>[ofNat x.number,ofNat x.depth]).length<=_;refine bp (iM _ 2 _ λx _=>aQ _) ?_
  lia
 |view=>
  show((visible s.nodes).flatMap _).length<=_;refine bp (iM _ 3 _ λx _=>aQ _) ?_;have:(visible s.nodes).length<=s.nodes.length:=lF _ _
  lia
 |label a=>
  refine dw λx hx=>?_;show(tell _).more.length<=_;obtain⟨qt,h1,h2⟩:=wQ W.n hx;rw[l9,h1];show qt.length<=_
  lia
 |find l=>
  show(match (labels s.nodes).find? λ(x:Nat×List Nat)=>x.2==textOf l with
   |some x=>(s,(⟨ofNat x.1,[]⟩:Answer))
   |none=>refused s (-13)).2.more.length<=_
  split<;>exact a8 _
 |text a=>
  refine dw λx hx=>?_;show(tell _).more.length<=_;rw[l9];have:=(W.n.good x hx).txt.1
  lia
 |shown a=>
  refine dw λx hx=>?_;show(tell (shownWith (labels s.nodes) x.text)).more.length<=_;rw[l9];have:=o_ (λq hq=>(fZ W.n q hq).1) x.text (W.n.good x hx).txt.1
  lia
 |contents d=>
  rw[zF];split
  .show((s.nodes.filter (mM d)).flatMap (pK (labels s.nodes))).length<=_;refine bp (iM _ 747 _ λx hx=>BO W.n (gX.mp hx).1) ?_;have:=lF (mM d) s.nodes
   lia
  .exact a8 _
 |info a=>exact dw λx _=>(by show 5<=44820;decide)
 |path a=>
  rcases aX (o:=s.nodes) a with hp|⟨u,x,r,e,hp,kU⟩
  .show(withNode s a _).2.more.length<=_;rw[bx W.n hp];exact a8 _
  .rw[E' W e kU];show(tellNodes _).more.length<=_;rw[mW,tE,cj];have:=(wK u.reverse x.depth).length_le;rw[tE] at this;rw[e,a_] at hw
   lia
 |references a=>
  refine dw λx hx=>?_;show((refs x.text).flatMap _).length<=_;refine bp (iM _ 2 _ λx _=>aQ _) ?_;have:=wO x.text;have:=(W.n.good x hx).txt.1
  lia
 |referring a=>refine dw λx hx=>?_;show(tellNodes _).more.length<=_;rw[mW];exact bp (lF _ _) (by lia)
 |broken=>show(tellNodes _).more.length<=_;rw[mW];exact bp (lF _ _) (by lia)
 |search t=>show(tellNodes _).more.length<=_;rw[mW];exact bp (lF _ _) (by lia)
 |step a b=>
  refine dw λx hx=>?_;show(tellStep s x b).more.length<=_;unfold tellStep;dsimp only;split
  .exact a8 _
  .split<;>exact a8 _
 |save=>
  show(tell (Vanbkn.save s)).more.length<=_;rw[l9];unfold Vanbkn.save;rw[a_,a_,cj];have h1:=Tv W.nx.2;have h2:(Vanbkn.b "outline ").length=8:=rfl;have h3:(s.nodes.flatMap nodeLine).length<=81*s.nodes.length:=iM _ 81 _ λx hx=>by
   rw[tj,a_];have:=W.n.Qv x hx;have:=BW (by lia) (W.n.good x hx).num.2 (W.n.good x hx).txt.1;show _+1<=81
   lia
  lia
 |load t=>
  rw[yG];split
  .exact a8 _
  .show 1<=44820
   decide
 |state=>show 3<=44820;decide
theorem oZ{n:Int}{f:Nd->Vanbkn.State×Answer}(h:∀x,(f x).1=s):(withNode s n f).1=s:=by
 unfold withNode;split
 .exact h _
 .rfl
theorem Fb(W:Wf s)(c:Vanbkn.Call):Wf (Vanbkn.step s c).1:=by
 have keep:(Vanbkn.step s c).1=s->Wf (Vanbkn.step s c).1:=λe=>by rw[e];exact W
 cases c with
 |section_ a b t=>show Wf (doNew s a b false t).1;rw[CF W];exact Ib W a b false t
 |cell a b t=>show Wf (doNew s a b true t).1;rw[CF W];exact Ib W a b true t
 |write a t=>exact Ie W a t
 |move a b d=>exact za W a b d
 |drop a=>exact Ld W a
 |dissolve a=>exact AW W a
 |promote a=>exact CJ W a
 |demote a=>exact FU W a
 |wrap a b t=>exact Lf W a b t
 |raise a=>exact Ih W a
 |sort a=>exact Lg W a
 |copy a b d=>exact Lk W a b d
 |fold a b=>exact Lc W a b
 |foldFrom a=>exact AU W a
 |reveal a=>exact FR W a
 |order=>exact W
 |view=>exact W
 |label a=>exact keep (oZ λ_=>rfl)
 |find l=>
  refine keep ?_;show(match (labels s.nodes).find? λ(x:Nat×List Nat)=>x.2==textOf l with
   |some x=>(s,(⟨ofNat x.1,[]⟩:Answer))
   |none=>refused s (-13)).1=s
  split<;>rfl
 |text a=>exact keep (oZ λ_=>rfl)
 |shown a=>exact keep (oZ λ_=>rfl)
 |contents d=>refine keep ?_;rw[zF];split<;>rfl
 |info a=>exact keep (oZ λ_=>rfl)
 |path a=>exact keep (oZ λ_=>rfl)
 |references a=>exact keep (oZ λ_=>rfl)
 |referring a=>exact keep (oZ λ_=>rfl)
 |broken=>exact W
 |search t=>exact W
 |step a b=>exact keep (oZ λ_=>rfl)
 |save=>exact W
 |load t=>exact Lm W t
 |state=>exact W
theorem B4:Wf Vanbkn.start:=⟨⟨by simp[Vanbkn.start],by simp[Vanbkn.start,nums],trivial,by simp[Vanbkn.start]⟩,by simp[Vanbkn.start],by decide⟩
def uw(s:Vanbkn.State):List (List (List Int))->Vanbkn.State
 |[]=>s
 |c::r=>uw (VanbknNeutral.step s c).1 r
theorem ud:∀(s:Vanbkn.State)(a b:List (List (List Int))),uw s (a++b)=uw (uw s a) b
 |_,[],_=>rfl
 |s,c::r,b=>ud (VanbknNeutral.step s c).1 r b
theorem pN:∀(s:Vanbkn.State)(a b:List (List (List Int))),played VanbknNeutral.step s (a++b)=played VanbknNeutral.step s a++played VanbknNeutral.step (uw s a) b
 |_,[],_=>rfl
 |s,c::r,b=>by show _::played VanbknNeutral.step (VanbknNeutral.step s c).1 (r++b)=_;rw[pN];rfl
theorem ue(a b:List (List Int)):PyFlat.told (a++b)=PyFlat.told a++PyFlat.told b:=by unfold PyFlat.told;rw[Ce]
theorem T4{c:List (List Int)}{k:Vanbkn.Call}(h:callOf c=some k):VanbknNeutral.step s c=((Vanbkn.step s k).1,encode (Vanbkn.step s k).2):=by unfold VanbknNeutral.step;rw[h]
theorem Fc:∀(s:Vanbkn.State)(cs:List (List (List Int))),Wf s->Wf (uw s cs)
 |_,[],W=>W
 |s,c::r,W=>by
  refine Fc _ r ?_;unfold VanbknNeutral.step;split
  .exact Fb W _
  .exact W
theorem w9:∀(s:Vanbkn.State)(cs:List (List (List Int))),Wf s->(PyFlat.told (played VanbknNeutral.step s cs)).length<=44822*cs.length
 |_,[],_=>by simp[played,PyFlat.told]
 |s,c::r,W=>by
  show(PyFlat.told ([(VanbknNeutral.step s c).2]++played VanbknNeutral.step (VanbknNeutral.step s c).1 r)).length<=_;rw[ue,a_,cj];have hW:Wf (VanbknNeutral.step s c).1:=by
   unfold VanbknNeutral.step;split
   .exact Fb W _
   .exact W
  have h1:=w9 _ r hW;have h2:(PyFlat.told [(VanbknNeutral.step s c).2]).length<=44822:=by
   have e:PyFlat.told [(VanbknNeutral.step s c).2]=(((VanbknNeutral.step s c).2.length:Int)::(VanbknNeutral.step s c).2):=by simp[PyFlat.told]
   rw[e,cj];unfold VanbknNeutral.step;split
   .next k hk=>
    show(encode (Vanbkn.step s k).2).length+1<=_;have:=B3 W k;show(Vanbkn.step s k).2.more.length+1+1<=_
    lia
   .show 1+1<=44822
    decide
  rw[Aa]
  lia
theorem a9.off{as:List Addr}{u:HO}(O:a9 C CO H ob dx l as s)(hb:H b=some (.jO od u)):a9 C CO (upd H b v) ob dx l as s:=by
 have ne:∀{a:Addr}{o:HO},H a=some o->(∀o' u',o≠ .jO o' u')->a≠b:=λ{a o} h hn q=>by rw[q,hb] at h;exact hn _ _ (di h).symm
 refine⟨by rw[az (ne O.at_ (by intros;intro q;cases q))];exact O.at_,⟨by rw[az (ne O.N.lst (by intros;intro q;cases q))];exact O.N.lst,O.N.len,O.N.sm,λi a x ha hx=>?_⟩⟩;obtain⟨d,t,h1,h2⟩:=O.N.at_ i a x ha hx;exact⟨d,t,by rw[az (ne h1 (by intros;intro q;cases q))];exact h1,by rw[az (ne h2 (by intros;intro q;cases q))];exact h2⟩
theorem fV.off{p:Addr}{as:List Addr}{u:HO}(h:fV CC H p as cs)(hb:H b=some (.jO od u)):fV CC (upd H b v) p as cs:=by
 have ne:∀{a:Addr}{o:HO},H a=some o->(∀o' u',o≠ .jO o' u')->a≠b:=λ{a o} h hn q=>by rw[q,hb] at h;exact hn _ _ (di h).symm
 refine⟨by rw[az (ne h.lst (by intros;intro q;cases q))];exact h.lst,h.len,λi a c ha hc=>?_⟩;obtain⟨k,x,ws,row,cd,wl,rl,h1,h2⟩:=h.at_ i a c ha hc;exact⟨k,x,ws,row,cd,wl,rl,h1,⟨by rw[az (ne h2.at_ (by intros;intro q;cases q))];exact h2.at_,by rw[az (ne h2.w (by intros;intro q;cases q))];exact h2.w,by rw[az (ne h2.r (by intros;intro q;cases q))];exact h2.r,h2.is⟩⟩
theorem sR.off{P:Addr}{u:HO}(h:sR H P)(hb:H b=some (.jO od u)):sR (upd H b v) P:=by
 have ne:∀{a:Addr}{o:HO},H a=some o->(∀o' u',o≠ .jO o' u')->a≠b:=λ{a o} h hn q=>by rw[q,hb] at h;exact hn _ _ (di h).symm
 obtain⟨ps,h1,h2,h3⟩:=h;refine⟨ps,by rw[az (ne h1 (by intros;intro q;cases q))];exact h1,h2,?_⟩;rcases h3 with h3|⟨c,h3,h4⟩
 .exact .inl h3
 .exact .inr ⟨c,h3,by rw[az (ne h4 (by intros;intro q;cases q))];exact h4⟩
theorem fV.fr{p:Addr}{as:List Addr}(h:fV CC H p as cs)(n1:CC≠C)(n2:CC≠CO)(f:Fr C CO H H'):fV CC H' p as cs:=⟨f.lst h.lst,h.len,λi a c ha hc=>by obtain⟨k,x,ws,row,cd,wl,rl,h1,h2⟩:=h.at_ i a c ha hc;exact⟨k,x,ws,row,cd,wl,rl,h1,⟨f.keep _ _ h2.at_ (λ_ _ q=>by injection q with q _ _;exact n1 q) (λ_ _ q=>by injection q with q _ _;exact n2 q) (λ_ q=>nomatch q),f.lst h2.w,f.lst h2.r,h2.is⟩⟩⟩
def Fd(TP:Addr)(K:Frag):Sp:=λvs H Q _=>∃(r:Addr)(l:List Int)(cs:List (List (List Int))),vs=[.ref r]/\ sR H TP/\ bf K H r (aT l)/\ PyFlat.calls shape l.length l=some cs/\ cs.length<=200/\ (∀c∈cs,asked1 (PyVanbkn.whole c)=true)/\
 ∀H' p,H' p=some (.lst (aT (PyFlat.told (played VanbknNeutral.step VanbknNeutral.start (cs.map PyVanbkn.whole)))))->Q (.ref p) H'
theorem Qz{u:HO}(h:H b=some u):upd H b u=H:=by
 funext x;by_cases e:x=b
 .rw[e,ah,h]
 .rw[az e]
theorem w_{u:HO}(s:aD (upd H b u) H')(v:HO):aD (upd H b v) (upd H' b v):=λx o e=>by
 by_cases hx:x=b
 .rw[hx,ah] at e⊢;exact e
 .rw[az hx] at e⊢;exact s x o (by rw[az hx];exact e)
theorem QA{TP:Addr}{K:Frag}{r:Addr}{l:List Int}(hT:sR H TP)(hs:bf K H r (l.map V.int))(ha:answers_asked l=true)(k:∀H' p,H' p=some (.lst ((PyVanbkn.answers l).map V.int))->Q (.ref p) H'):Fd TP K [.ref r] H Q λ_ _ _=>False:=by
 unfold answers_asked PyVanbkn.calls at ha;unfold PyVanbkn.answers PyVanbkn.calls at k;cases e:PyFlat.calls shape l.length l with
 |none=>rw[e] at ha;cases ha
 |some cs=>rw[e] at ha k;dsimp only at ha k;rw[uA] at ha;obtain⟨h1,h2⟩:=ha;have h1:=iY h1;rw[aS] at h1;unfold VanbknNeutral.asked at h2;rw[uA,yN] at h2;exact⟨r,l,cs,rfl,hT,hs,e,h1,λc hc=>h2.1 _ (zR hc),k⟩
theorem mX:aG ["calls","outline","told","call"] ["calls"] (ay gM):=eN
theorem DG{TP:Addr}(F:HU K "answers" "answers" gM f fd)(T:Tz Z)(l7:EM P w K mg base 1 "Outline" CO ["self"] (zz CO))(o1:bo Z 3 "read_calls" ["numbers"] (J_ K CC))(qG:bo Z 8 "answer_to" ["outline","call"] (Tx C CO CC TP))(bt:Kn Z):k7 P w K mg base zL 9 f fd ["calls"] (Fd TP K):=by
 refine F.ok mX (λvs H Q E h=>?_) (λl_ A outer s H vs Q E hr h=>?_)
 .obtain⟨_,_,_,rfl,_⟩:=h;rfl
 .obtain⟨r,l,cs,rfl,Vb,hR,Xq,hz,DE,k⟩:=h;refine⟨_,(ae (bD 1 mX (l7.Nm (hr.mono (by decide)) rfl)) (ae (bD 2 mX (aL ag)) (ae (eB PassesOwn.never rfl (bL (En (pc o1 hr (aa (pv 0) ag)))) (jB 3 mX) (aj (bF (e_ eL qN qO fY (pv 2) (aa (pc bt hr (aa (En (pc qG hr (aa (pv 1) (aa (pv 3) ag)))) ag)) ag))))) (aj (aw (pv 2)))))),?_⟩;refineλxo xd hx Gh fo=>⟨xo,xd,rfl,ah,λH2 l2 Ca Qs h1 h2 hk=>⟨rfl,?_⟩⟩;have Qt:l2≠xd:=λq=>by rw[q,az fo,ah] at Ca;cases Ca
  have Mu:H l2=none:=by rw[az Qs,az Qt] at Ca;exact Ca
  have s2:aD H H2:=λb o e=>by have b1:=ba e hx;have b2:=ba e Gh;have b3:=ba e Mu;rw[hk b b1 b3,az b1,az b2];exact e
  have OL:a9 C CO H2 xo xd l2 [] Vanbkn.start:=⟨h2,⟨h1,rfl,by simp[Vanbkn.start],by simp⟩⟩;refine⟨a8 _,λb hb=>?_⟩;have OL3:∀v:HO,a9 C CO (upd H2 b v) xo xd l2 [] Vanbkn.start:=λv=>OL.same (aE hb);have LO:∀v:HO,bf K (upd H2 b v) r (aT l):=λv=>(s2.new hb).seq hR;refine⟨b, .lst [],ah,trivial,λod=>?_⟩;rw[kz];refine⟨_,rfl,r,l,cs,rfl,LO _,Xq,hz,DE,λH4 p as s4 CL=>⟨s4 _ _ ah,?_⟩⟩;have Xz:=s4 _ _ (ah (H:=H2) (a:=b) (o:=HO.jO od (.lst [])));have T3:∀v:HO,fV CC (upd H4 b v) p as cs:=λv=>CL.off Xz;have XA:∀v:HO,sR (upd H4 b v) TP:=λv=>((Vb.same (s2.new hb)).same s4).off Xz;have OL5:∀v:HO,a9 C CO (upd H4 b v) xo xd l2 [] Vanbkn.start:=λv=>((OL3 _).same s4).off Xz;refine⟨p,rfl,⟨_,bf.of (T3 _).lst⟩,dG (K:=K) (a:=p) (xs:=as.map V.ref) (λi σ H'=>∃(v3:Option V)(dx l0:Addr)(ko:List Addr),σ=[some (.ref r),some (.ref xo),some (.ref b),v3]/\ (∀v:HO,a9 C CO (upd H' b v) xo dx l0 ko (uw VanbknNeutral.start ((cs.map PyVanbkn.whole).take i)))/\ (∀v:HO,fV CC (upd H' b v) p as cs)/\ (∀v:HO,sR (upd H' b v) TP)/\
   H' b=some (.lst (aT (PyFlat.told (played VanbknNeutral.step VanbknNeutral.start ((cs.map PyVanbkn.whole).take i))))))
   ⟨none,xd,l2,[],rfl,λv=>by rw[kz];exact OL5 v,λv=>by rw[kz];exact T3 v,λv=>by rw[kz];exact XA v,ah⟩ (λi σ H' _ ⟨_,_,_,_,_,_,Rh,_,hB⟩=>by have:=(Rh (.lst (aT (PyFlat.told (played VanbknNeutral.step VanbknNeutral.start ((cs.map PyVanbkn.whole).take i)))))).lst;rw[Qz hB] at this;exact bf.of this) ?_ ?_⟩
  .rintro i y σ H' hi ⟨v3,dx,l0,ko,rfl,OO,Rh,XB,hB⟩;obtain⟨a,ha,rfl⟩:=get_map hi;have m_:i<cs.length:=by rw[<-CL.len];exact(dm.mp ha).1
   have T2:cs[i]?=some cs[i]:=c8 m_;have T5:(cs.map PyVanbkn.whole)[i]?=some (PyVanbkn.whole cs[i]):=by rw[gW,T2];rfl
   have Ws:Wf (uw VanbknNeutral.start ((cs.map PyVanbkn.whole).take i)):=Fc _ _ B4;have NO:∀j,(PyFlat.told (played VanbknNeutral.step VanbknNeutral.start ((cs.map PyVanbkn.whole).take j))).length<=8964400:=λj=>by
    refine bp (w9 _ _ B4) ?_;rw[bg,aS];have:min j cs.length<=200:=bp (z_ _ _) hz
    lia
   have T6:uw VanbknNeutral.start ((cs.map PyVanbkn.whole).take (i+1))=(VanbknNeutral.step (uw VanbknNeutral.start ((cs.map PyVanbkn.whole).take i)) (PyVanbkn.whole cs[i])).1:=by rw[take_snoc T5,ud];rfl
   have hpl:PyFlat.told (played VanbknNeutral.step VanbknNeutral.start ((cs.map PyVanbkn.whole).take (i+1)))=PyFlat.told (played VanbknNeutral.step VanbknNeutral.start ((cs.map PyVanbkn.whole).take i))++PyFlat.told [(VanbknNeutral.step (uw VanbknNeutral.start ((cs.map PyVanbkn.whole).take i)) (PyVanbkn.whole cs[i])).2]:=by rw[take_snoc T5,pN,ue];rfl
   have T7:=NO (i+1);obtain⟨kc,x,ws,row,cd,wl,rl,TZ,_⟩:=(Rh (.lst [])).at_ i a cs[i] ha T2;rw[T4 TZ] at T6 hpl;rw[hpl] at T7;rw[T6,hpl];generalize PyFlat.told (played VanbknNeutral.step VanbknNeutral.start ((cs.map PyVanbkn.whole).take i))=T0 at hB T7⊢;generalize uw VanbknNeutral.start ((cs.map PyVanbkn.whole).take i)=si at Ws OO T7⊢;have pG:=B3 Ws kc;refine⟨_,rfl, .inl ⟨rfl,_,bf.of hB⟩,b,_,hB,trivial,λod=>?_⟩;obtain⟨kc2,x,ws,row,cd,wl,rl,T8,CA⟩:=(Rh (.jO od (.lst (aT T0)))).at_ i a cs[i] ha T2;rw[TZ] at T8;cases T8;refine⟨_,rfl,_,rfl,xo,dx,l0,a,cd,wl,rl,ko,si,x,ws,row,kc,rfl,OO _,Ws,XB _,CA,λH5 p5 dx5 l5 as5 f5 O5 h5=>?_⟩;have LS:H5 b=some (.jO od (.lst (aT T0))):=f5.keep _ _ ah (λ_ _ q=>nomatch q) (λ_ _ q=>nomatch q) (λ_ q=>nomatch q);have S1:p5≠b:=λq=>by rw[q,LS] at h5;cases h5
   refine⟨LS,p5,_,rfl,(by rw[az S1];exact h5),?_,λH6 p6 s6 h6=>?_⟩
   .rw[bA];show(Vanbkn.step si kc).2.more.length+1<=90000
    lia
   have hb6:=s6 _ _ (ah (H:=H5) (a:=b));have e1:PyFlat.told [encode (Vanbkn.step si kc).2]=(((encode (Vanbkn.step si kc).2).length:Int)::encode (Vanbkn.step si kc).2):=by simp[PyFlat.told]
   rw[e1,a_,cj] at T7;refine⟨b,p6,_,_,rfl,rfl,hb6,h6,?_,?_⟩
   .rw[cj,bA,bA];exact bp T7 (by decide)
   refine⟨_,dx5,l5,as5,rfl,λv=>?_,λv=>?_,λv=>?_,?_⟩
   .rw[kz];exact(O5.off LS).same (w_ s6 v)
   .rw[kz];exact(((Rh _).fr T.ne2 T.ne3 f5).off LS).same (w_ s6 v)
   .rw[kz];exact((f5.tab _ (XB _)).off LS).same (w_ s6 v)
   .rw[ah,e1,<-fj,bA];rfl
  .rintro σ H' ⟨v3,dx,l0,ko,rfl,OO,Rh,XB,hB⟩;have T9:(as.map V.ref).length=(cs.map PyVanbkn.whole).length:=by rw[aS,aS,CL.len]
   rw[T9,fq] at hB;exact⟨_,rfl,k _ b hB⟩
structure Tk.Ok(C:Addr)(H:Hp)(x:Tk):Prop where
 N:NL C H x.p x.as x.o
 hd:∃a dx bs n r,x.as=a::bs/\ x.o=n::r/\ H a=some (.ins C dx (nf n x.t))/\ H x.t=some (.lst (aI n.text))/\ x.key=n.text.map λc:Nat=>(c:Int)
theorem Tk.Ok.same{H H':Hp}{x:Tk}(h:x.Ok C H)(s:aD H H'):x.Ok C H':=by refine⟨h.N.same s,?_⟩;obtain⟨a,dx,bs,n,r,h1,h2,h3,h4,h5⟩:=h.hd;exact⟨a,dx,bs,n,r,h1,h2,s _ _ h3,s _ _ h4,h5⟩
theorem uf:∀(n m:Nat)(l:O),l.length<=n->l.length<=m->gB n l=gB m l
 |0,0,_,_,_=>rfl
 |0,m+1,[],_,_=>rfl
 |n+1,0,[],_,_=>rfl
 |n+1,m+1,[],_,_=>rfl
 |0,m+1,x::r,h,_=>absurd h (by simp)
 |n+1,0,x::r,_,h=>absurd h (by simp)
 |n+1,m+1,x::r,h1,h2=>by have:=kN (d:=x.depth) (l:=r);simp at h1 h2;show(x::inside x.depth r)::gB n (outside x.depth r)=(x::inside x.depth r)::gB m (outside x.depth r);rw[uf n m _ (by lia) (by lia)]
theorem DH(x:Nd)(r:O):trees (x::r)=(x::inside x.depth r)::trees (outside x.depth r):=by have:=kN (d:=x.depth) (l:=r);show(x::inside x.depth r)::gB r.length (outside x.depth r)=_;unfold trees;rw[uf r.length (outside x.depth r).length _ this (aQ _)]
theorem xb{d:Nat}{post:O}(h:hd post<=d):∀r:O,inside d (r++post)=inside d r
 |[]=>by
  cases post with
  |nil=>rfl
  |cons y q=>have h:y.depth<=d:=h;show List.takeWhile _ (y::q)=[];rw[DR (by simp;lia)]
 |x::r=>by show List.takeWhile _ (x::(r++post))=List.takeWhile _ (x::r);rw[mZ,mZ];have ih:List.takeWhile _ (r++post)=List.takeWhile _ r:=xb h r;rw[ih]
inductive Fe(C:Addr)(vs:List V)(H:Hp)(Q:VK)(_E:XK):Prop
 |mk (l:Addr) (as:List Addr) (o pre seg post:O) (d a b:Nat) (h1:vs=[.ref l, .int (a:Nat), .int (b:Nat)]) (h2:NL C H l as o) (h3:o=pre++seg++post) (h4:a=pre.length) (h5:b=(pre++seg).length) (h6:(∀z∈seg,d<=z.depth)) (h7:hd seg<=d) (h8:hd post<=d) (h9:∀H' p (ts:List Tk),aD H H'->H' p=some (.lst (ts.map λx=>V.ref x.p))->(∀x∈ts,x.Ok C H')->ts.map (·.o)=trees seg->Q (.ref p) H')
theorem gg:aG ["nodes","start","end","trees","behind"] ["nodes","start","end"] (ay ji):=eN
theorem Ka(F:bB K mg "trees_between" ji ["nodes","start","end"])(T:Tz Z)(aP:C7 Z):bo Z 2 "trees_between" ["nodes","start","end"] (Fe C):=by
 refine F.fe gg λH Q E hr h=>?_;obtain⟨l,as,o,pre,seg,post,d,a,b,rfl,N,eo,ea,eb,kK,hh,YY,k⟩:=h;refine⟨_,(ae (bD 3 gg (aL ag)) (ae (ft PassesOwn.never (bE g0 (pv 1) (pv 2)) (ae (bD 4 gg (pc aP hr (aa (pv 0) (aa (pv 1) ag)))) (ae (bF (e_ eL iW iX cw (pv 3) (aa (bh bz (pv 0) (aW (pv 1)) (aW (pv 4))) ag))) (aj (bD 1 gg (pv 4)))))) (aj (aw (pv 3))))),?_⟩;refine⟨a8 _,λp hp=>?_⟩;have L4:=N.sm;refine fA (λ(m:Nat) σ H'=>∃(v4:Option V)(pr rest:O)(dn:List Tk),σ=[some (.ref l),some (.int (pr.length:Nat)),some (.int (b:Nat)),some (.ref p),v4]/\ aD H H'/\ H' p=some (.lst (dn.map λx=>V.ref x.p))/\ (∀x∈dn,x.p≠p/\ H' x.p=some (.lst (x.as.map V.ref))/\ ∀H2,aD H H2->H2 x.p=some (.lst (x.as.map V.ref))->x.Ok C H2)/\ dn.map (·.o)++trees rest=trees seg/\ o=pr++rest++post/\ b=(pr++rest).length/\ (∀z∈rest,d<=z.depth)/\ hd rest<=d/\ rest.length<=m/\ dn.length<=pr.length) (λm=>m) seg.length
  ⟨none,pre,seg,[],by rw[ea];rfl,aE hp,ah,by simp,rfl,eo,eb,kK,hh,aQ _,a8 _⟩ ?_
 rintro m σ H' ⟨v4,pr,rest,dn,rfl,s1,hP,GV,Il,YZ,XC,T_,hh1,hm,Kk⟩;have N1:=N.same s1;refine⟨_,rfl,_,rfl,_,_,rfl,rfl,_,rfl,?_⟩;refine aK (λhc=>?_) (λhc=>?_)
 .have fH:pr.length<b:=by have:=aH hc;lia
  obtain⟨x,r1,rfl⟩:∃x r1,rest=x::r1:=by
   cases rest with
   |nil=>simp at XC;lia
   |cons x r1=>exact⟨x,r1,rfl⟩
  obtain⟨m',rfl⟩:∃m',m=m'+1:=⟨m - 1,by simp at hm;lia⟩;have e2:o=pr++x::(r1++post):=by rw[YZ];simp
  have Gh:x.depth=d:=by
   have g1:=T_ x (cb ..);have g2:x.depth<=d:=hh1
   lia
  have yr:aO o pr.length=pr.length+1+(inside x.depth r1).length:=by rw[gw e2,xb (by lia)]
  refine nj (m'+1) ?_;refine⟨_,rfl,_,rfl,l,as,o,pr.length,rfl,N1,br e2,λH2 s2=>?_⟩;have N2:=N1.same s2;have Q9:=s2 _ _ hP;refine⟨_,rfl, .inl ⟨rfl,_,bf.of Q9⟩,?_⟩;refine⟨_,rfl,_,rfl,_,rfl,_,rfl,_,rfl,l,_,rfl,bf.of N2.lst,λq hq=>?_⟩;have Y0:q≠p:=λe=>by rw[e,Q9] at hq;cases hq
  have sq:aD H2 (upd H2 q (.lst (d5 (as.map V.ref) (some ((pr.length:Nat):Int)) (some ((aO o pr.length:Nat):Int))))):=aE hq;have zc:(o.drop pr.length).take (aO o pr.length - pr.length)=x::inside x.depth r1:=by
   have e3:o=pr++((x::inside x.depth r1)++(outside x.depth r1++post)):=by
    conv=>lhs;rw[e2,<-bP x.depth r1]
    simp
   rw[yr,e3,ug];apply DU;simp
   lia
  have Y1:d5 (as.map V.ref) (some ((pr.length:Nat):Int)) (some ((aO o pr.length:Nat):Int))=((as.drop pr.length).take (aO o pr.length - pr.length)).map V.ref:=by rw[rA _ (by rw[N.gV];exact eX (br e2)) (by rw[N.gV];exact jG (br e2)),mY,jR]
  rw[Y1];rw[Y1] at sq;obtain⟨a0,US,_,Gf⟩:=(N.get (i:=pr.length) (x:=x) (by rw[e2];exact cX));obtain⟨dx,t,h1,h2⟩:=Gf;have XD:(as.drop pr.length).take (aO o pr.length - pr.length)=a0::(as.drop (pr.length+1)).take (aO o pr.length - pr.length - 1):=by obtain⟨hi,ei⟩:=dm.mp US;rw[rS hi,ei,show aO o pr.length - pr.length=(aO o pr.length - pr.length - 1)+1 by lia,List.take_succ_cons];rfl
  have cu:∀H3,aD H H3->H3 q=some (.lst (((as.drop pr.length).take (aO o pr.length - pr.length)).map V.ref))->(Tk.mk q t (x.text.map λc:Nat=>(c:Int)) ((as.drop pr.length).take (aO o pr.length - pr.length)) (x::inside x.depth r1)).Ok C H3:=λH3 s3 h3=>by have NM:=N.sub s3 pr.length (aO o pr.length - pr.length) h3;rw[zc] at NM;exact⟨NM,a0,dx,_,x,_,XD,rfl,s3 _ _ h1,s3 _ _ h2,rfl⟩
  have hP3:=sq _ _ Q9;refine⟨p,_,_,rfl,rfl,hP3,eM (by rw[aS];have:=c_ List.length e2;simp at this;lia),?_⟩;refine⟨_,rfl,m',m4 _,some (.int (aO o pr.length:Nat)),pr++x::inside x.depth r1,outside x.depth r1,dn++[⟨q,t,x.text.map λc:Nat=>(c:Int),(as.drop pr.length).take (aO o pr.length - pr.length),x::inside x.depth r1⟩],?_,((s1.trans s2).trans sq).put hp,?_,?_,?_,?_,?_,?_,?_,?_,?_⟩
  .rw[yr,a_,cj];rw[show pr.length+((inside x.depth r1).length+1)=pr.length+1+(inside x.depth r1).length by lia];rfl
  .rw[ah,cV];rfl
  .intro z hz;rcases dY.mp hz with hz|hz
   .obtain⟨z1,z2,z3⟩:=GV z hz;exact⟨z1,by rw[az z1];exact sq _ _ (s2 _ _ z2),z3⟩
   .rw[G_] at hz;subst hz;exact⟨Y0,by rw[az Y0];exact ah,cu⟩
  .rw[cV,dQ,<-Il,DH];rfl
  .conv=>lhs;rw[YZ,<-bP x.depth r1]
   simp
  .rw[XC]
   conv=>lhs;rw[<-bP x.depth r1]
   simp
   try lia
  .exactλz hz=>T_ z (bu _ ((G1 _).subset hz))
  .rw[<-Gh];exact b_ _ _
  .have:=kN (d:=x.depth) (l:=r1);simp at hm
   lia
  .simp
   lia
 .have XE:rest=[]:=by
   have:¬(pr.length:Int)<b:=λh=>hc (aR h);apply zQ;simp at XC
   lia
  subst XE;refine⟨_,rfl,k _ p dn s1 hP (λx hx=>(GV x hx).2.2 _ s1 (GV x hx).2.1) ?_⟩;rw[<-Il];simp[trees,gB]
end
section
variable{P:Program}{w:World}{K:Frag}{mg:Str->Option Value}{base:Heap}{C CO CC:Addr}{Z:Tag P w K mg base C CO CC}
open PySem.W (CodeHd)
theorem xc:∀a b:List Nat,fR (a.map λc:Nat=>(c:Int)) (b.map λc:Nat=>(c:Int))=lessText a b
 |[],[]=>rfl
 |[],_::_=>rfl
 |_::_,[]=>rfl
 |x::xs,y::ys=>by
  show(if(x:Int)=(y:Int) then fR (xs.map _) (ys.map _) else decide ((x:Int)<(y:Int)))=(decide (x<y)||(x==y&&lessText xs ys));rw[xc xs ys];by_cases e:x=y
  .subst e;simp
  .rw[ak (by lia)];simp[e]
theorem yL(t:Tk):∀l:List Tk,(jI Tk.less t l).Perm (t::l)
 |[]=> .refl _
 |u::r=>by
  unfold jI;split
  .exact((yL t r).cons u).trans (.swap ..)
  .exact .refl _
theorem qH:∀l:List Tk,(l.foldr (jI Tk.less) []).Perm l
 |[]=> .refl _
 |t::l=>(yL t _).trans ((qH l).cons t)
def Tk.kd(x:Tk):Prop:=x.key=(kn x.o).text.map λc:Nat=>(c:Int)
theorem MH{x y:Tk}(h:x.kd)(g:y.kd):Tk.less x y=lessText (kn x.o).text (kn y.o).text:=by unfold Tk.less;rw[h,g,xc]
theorem B5{t:Tk}(ht:t.kd):∀l:List Tk,(∀x∈l,x.kd)->(jI Tk.less t l).map (·.o)=iN t.o (l.map (·.o))
 |[],_=>rfl
 |u::r,h=>by
  have hu:=h u (cb ..);show List.map (·.o) (if Tk.less u t=true then u::jI Tk.less t r else t::u::r)=(if lessText (kn u.o).text (kn t.o).text=true then u.o::iN t.o (r.map (·.o)) else t.o::u.o::r.map (·.o));rw[MH hu ht];split
  .rw[cy,B5 ht r λx hx=>h x (bu _ hx)]
  .rfl
theorem yM:∀l:List Tk,(∀x∈l,x.kd)->(l.foldr (jI Tk.less) []).map (·.o)=cz (l.map (·.o))
 |[],_=>rfl
 |t::l,h=>by have hl:=λx hx=>h x (bu t hx);show(jI Tk.less t (l.foldr (jI Tk.less) [])).map (·.o)=iN t.o (cz (l.map (·.o)));rw[B5 (h t (cb ..)) _ λx hx=>hl x ((qH l).mem_iff.mp hx),yM l hl]
theorem Tk.Ok.kd{H:Hp}{x:Tk}(h:x.Ok C H):x.kd:=by obtain⟨a,dx,bs,n,r,_,h2,_,_,h5⟩:=h.hd;unfold Tk.kd;rw[h2,h5];rfl
theorem Tk.Ok.at_{x:Tk}(T:Txt K mg C CO CC)(h:x.Ok C H):x.At K H:=by
 obtain⟨a,dx,bs,n,r,h1,h2,h3,h4,h5⟩:=h.hd;refine⟨a,bs.map V.ref,C,dx,_,?_,h3,T.cl,T.EO,rfl,?_⟩
 .rw[h.N.lst,h1];rfl
 .rw[h4,h5,gN]
theorem Ff{x:Tk}{R:V->Prop}(T:Txt K mg C CO CC)(h:x.Ok C H)(q:R (.int (kn x.o).number)):
 HB K (V.ref x.p) (V.int 0) H λv=>lH K "number" v H R:=by
 obtain⟨a,dx,bs,n,r,h1,h2,h3,h4,h5⟩:=h.hd;refine⟨x.p,_,0, .ref a,rfl,rfl,bf.of h.N.lst,by rw[h1];exact bT (j:=0) rfl,a,C,dx,_,_,rfl,h3,T.cl,T.zt,rfl,?_⟩;rw[h2] at q;exact q
theorem Itm.flat{H:Hp}:∀{us:List Tk},(∀x∈us,x.Ok C H)->Itm C H (us.flatMap (·.as)) (us.map (·.o)).flatten
 |[],_=>⟨rfl,λi a x ha _=>by simp at ha⟩
 |u::us,h=>by rw[ny,cy,Cf];exact(h u (cb ..)).N.sV.append (Itm.flat λx hx=>h x (bu _ hx))
section
variable{TP:Addr}{H H':Hp}
theorem oE.of(g:oE TP H H')(T:sR H TP){o:HO}(e:H b=some o)(n:∀ps,o≠ .o2 ps):H' b=some o:=g.keep b o e λz=>by obtain⟨ps,hP,_⟩:=T;rw[z,hP] at e;exact n _ (di e).symm
theorem bV.grow{a:Addr}(h:bV C H a x)(T:sR H TP)(g:oE TP H H'):bV C H' a x:=by obtain⟨dx,t,h1,h2⟩:=h;exact⟨dx,t,g.of T h1 (λ_ q=>nomatch q),g.of T h2 (λ_ q=>nomatch q)⟩
theorem NL.grow{l:Addr}{as:List Addr}{o:O}(h:NL C H l as o)(T:sR H TP)(g:oE TP H H'):NL C H' l as o:=
 ⟨g.of T h.lst (λ_ q=>nomatch q),h.len,h.sm,λi a x ha hx=>(h.at_ i a x ha hx).grow T g⟩
theorem a9.grow{ob dx l:Addr}{as:List Addr}{s:Vanbkn.State}(h:a9 C CO H ob dx l as s)(T:sR H TP)(g:oE TP H H'):a9 C CO H' ob dx l as s:=⟨g.of T h.at_ (λ_ q=>nomatch q),h.N.grow T g⟩
theorem Tk.Ok.grow{x:Tk}(h:x.Ok C H)(T:sR H TP)(g:oE TP H H'):x.Ok C H':=by refine⟨h.N.grow T g,?_⟩;obtain⟨a,dx,bs,n,r,h1,h2,h3,h4,h5⟩:=h.hd;exact⟨a,dx,bs,n,r,h1,h2,g.of T h3 (λ_ q=>nomatch q),g.of T h4 (λ_ q=>nomatch q),h5⟩
theorem oE.fr(g:oE TP H H')(T:sR H TP):Fr C CO H H':=by
 refine⟨λb o e _ _ n=>g.of T e n,λQ t=>?_⟩;by_cases z:Q=TP
 .rw[z];exact g.tab
 .obtain⟨ps,h1,h2,h3⟩:=t;refine⟨ps,g.keep _ _ h1 z,h2,?_⟩;rcases h3 with h3|⟨c,h3,h4⟩
  .exact .inl h3
  .exact .inr ⟨c,h3,g.of T h4 (λ_ q=>nomatch q)⟩
end
theorem DI(W:Wf s)(z:Int):(z≠0/\ c9 s.nodes z=none/\ Vanbkn.step s (.sort z)=refused s (-1))\/ (¬(z≠0/\ c9 s.nodes z=none)/\ runM s.nodes z=none/\ Vanbkn.step s (.sort z)=refused s (-7))\/
 (¬(z≠0/\ c9 s.nodes z=none)/\ ∃(pre seg post:O)(d:Nat),s.nodes=pre++seg++post/\ runM s.nodes z=some (pre.length,(pre++seg).length,d)/\ (∀y∈seg,d<=y.depth)/\ hd seg<=d/\ hd post<=d/\
  Vanbkn.step s (.sort z)=(⟨pre++(cz (trees seg)).flatten++post,s.next⟩,⟨(chg (trees seg) (cz (trees seg)):Nat),[]⟩)):=by
 by_cases h0:z=0
 .subst h0;refine .inr (.inr ⟨λh=>h.1 rfl,[],s.nodes,[],1,by simp,?_,λy hy=>lP W.n.dep y hy,vB W.n.dep,a8 _,?_⟩)
  .unfold runM;rw[aq rfl];simp
  .rw[(AY W).1];simp
 .rcases aX (o:=s.nodes) z with h|⟨a,x,r,e,h,hz⟩
  .exact .inl ⟨h0,h,sv W h0 h⟩
  .have hs:=yd W e hz;have hr:runM s.nodes z=if x.cell=true then none else some (a.length+1,aO s.nodes a.length,x.depth+1):=by unfold runM;rw[ak h0,h];simp only;rw[fJ e]
   have Y2:¬(z≠0/\ c9 s.nodes z=none):=λq=>by rw[h] at q;exact nomatch q.2
   by_cases hc:x.cell=true
   .rw[aq hc] at hs hr;exact .inr (.inl ⟨Y2,hr,hs⟩)
   .rw[ak hc] at hs hr;have W':=W.n;rw[e] at W';have xM:x.cell=false:=by simpa using hc
    have el:lim x=x.depth+1:=by unfold lim;rw[xM];rfl
    have uH:hd (inside x.depth r)<=x.depth+1:=by have:=(gv W'.dep).2.2.2;rw[<-bP x.depth r,a5,el] at this;exact vB this.1
    refine .inr (.inr ⟨Y2,a++[x],inside x.depth r,outside x.depth r,x.depth+1,?_,?_,λy hy=>cg y hy,uH,u4 (b_ _ _),?_⟩)
    .conv=>lhs;rw[e,<-bP x.depth r]
     simp
    .rw[hr,gw e];simp
     try lia
    .rw[hs];simp
def T'(K:Frag)(mg:Str->Option Value)(base:Heap)(x:Str)(st:Stmt)(ps:List Str)(TP:Addr):Prop:=∃(f:Addr)(oc:Value)(od:Option Addr)(kV doc pm:Value)(an:Option Addr)(c:Addr)(ct:Value)(Hy:Array (Option Value)),
 K.lookup f=some ⟨oc,od, .func (fnOf x x (eU st) (da st) (ay st) .none kV doc pm an (.ref c) ct),Hy⟩/\ codeIn K (.ref c) x=true/\ keepIn K (.ref f)=true/\ mg x=some (.ref f)/\
 Binds K (fnOf x x (eU st) (da st) (ay st) .none kV doc pm an (.ref c) ct) ps []/\ CodeHd base c TP
theorem bK:aG ["outline","parent","nodes","run","trees","ordered","others","joined","tree","place"] ["outline","parent"] (ay fz):=eN
theorem MI{TP:Addr}(F:T' K mg base "sort_children" fz ["outline","parent"] TP)(B:xB mg base)(T:Tz Z)(ax:uv Z)(fE:bo Z 2 "children_run" ["nodes","parent"] (I_ C))(km:bo Z 2 "trees_between" ["nodes","start","end"] (Fe C)):
 bo Z 4 "sort_children" ["outline","parent"] (J7 C CO TP):=by
 obtain⟨f,oc,od,kV,doc,pm,an,c,ct,Hy,lk,Hj,kp,hm,hb,CH⟩:=F;refine⟨f,_,M3 (k:=3) lk Hj bK (λvs H Q E h=>?_) (λA outer s H vs Q E hr h=>?_),hm,kp,hb⟩
 .obtain⟨_,_,_,_,_,_,rfl,_⟩:=h;rfl
 .obtain⟨ob,dx,l,as,st,z,rfl,O,W,TB,k⟩:=h
  suffices hX:∃t,B8 (vp zL P w K mg base ["outline","parent","nodes","run","trees","ordered","others","joined","tree","place"] "sort_children" (ay fz) f (.ref c) A outer s H E).MZ (da fz) t/\ t {nx:=λ_ H'=>Q .eQ H',rt:=Q} (start ["outline","parent","nodes","run","trees","ordered","others","joined","tree","place"] [.ref ob, .int z]) H by obtain⟨t,h,q⟩:=hX;exact⟨t,h.MZ,q⟩
  refine⟨_,(ae (bD 2 bK (aB (pv 0) rfl)) (ae (aM (PW.pt (gY (bE lG (pv 1) au) (fX (bE bC (pc ax hr (aa (pv 2) (aa (pv 1) ag))) aZ)))) (aj (aw (aL (aa (eg T) ag)))) aA) (ae (bD 3 bK (pc fE hr (aa (pv 2) (aa (pv 1) ag)))) (ae (aM (bE bC (pv 3) aZ) (aj (aw (aL (aa (eg T) ag)))) aA) (ae (bD 4 bK (pc km hr (aa (pv 2) (aa (c5 dR (pv 3) au) (aa (c5 dR (pv 3) au) ag))))) (ae (bD 5 bK (IY (k:=0) rfl T.sorted hr rfl CH rfl B (pv 4))) (ae (Aw (i:=6) rfl bK.nd rfl rfl (Ek rfl rfl rfl rfl) (xN rfl T.range (aa (pd T (aa (pv 4) ag)) ag)) (own:=[("place",9)]) (Cb bK) (λ_ _ _ _ _=>(jB 9 bK)) (λ_ _ _ _ _=>(kG (bE lG (d8 (K:=K) rfl (c5 (oC (K:=K) rfl) (c5 (oC (K:=K) rfl) (pv 4) (pv 9)) au) rfl) (d8 (K:=K) rfl (c5 (oC (K:=K) rfl) (c5 (oC (K:=K) rfl) (pv 5) (pv 9)) au) rfl)))) (λ_ _ _ _ _=>(pv 9))) (ae (bD 7 bK (aL ag)) (ae (eB PassesOwn.never rfl (bL (pv 5)) (jB 8 bK) (aj (bF (e_ eL qN qO fY (pv 7) (aa (pv 8) ag))))) (ae (df (pv 0) (bc g8 (bc g8 (bh bz (pv 2) eR (aW (c5 dR (pv 3) au))) (pv 7)) (bh bz (pv 2) (aW (c5 dR (pv 3) au)) eR)) rfl) (aj (aw (aL (aa (pd T (aa (pv 6) ag)) ag)))))))))))))),?_⟩;refine⟨_,rfl,aU T O ?_⟩;have hw:=W.n.len;have cs:=DI W z;dsimp only[fG];refine TR.Kq (b:=(!decide (V.int z=V.int 0))&&decide (uu (c9 st.nodes z)= .eQ)) ?_ (λh H1 s1=>?_) (λh H1 s1=>?_)
  .exact TR.and (λR hR=>⟨_,rfl,rfl,_,rfl,hR _ (aD.refl _)⟩) λ_ H1 s1 R hR=>⟨_,rfl,_,rfl,l,as,_,z,rfl,O.N.same s1,λH2 s2=>⟨rfl,_,rfl,hR _ s2⟩⟩
  .have h1:z≠0/\ c9 st.nodes z=none:=by
    rw[uA] at h;refine⟨λe=>?_,?_⟩
    .rw[e] at h;exact absurd h.1 (by decide)
    .have:=aH h.2;cases e:c9 st.nodes z with
     |none=>rfl
     |some i=>rw[e] at this;exact nomatch this
   exact⟨aV,λq hq=>k.refuse O (sv W h1.1 h1.2) s1 hq⟩
  .have h1:¬(z≠0/\ c9 st.nodes z=none):=λe=>by rw[e.2] at h;rw[cP (λq=>e.1 (V.int.inj q))] at h;exact absurd h (by decide)
   have O1:=O.same s1;refine⟨_,rfl,_,rfl,l,as,_,z,rfl,O1.N,λhn H2 s2=>?_,λra rb rd hn H2 t s2 ht=>?_⟩
   .refine⟨_,rfl,rfl,_,rfl,?_⟩;refine aK (λ_=>?_) (λh=>absurd (aR rfl) h);rcases cs with⟨c1,c2,_⟩|⟨_,_,e⟩|⟨_,pre,seg,post,d,_,e,_⟩
    .exact absurd ⟨c1,c2⟩ h1
    .exact⟨aV,λq hq=>k.refuse O e (s1.trans s2) hq⟩
    .rw[hn] at e;cases e
   .rcases cs with⟨c1,c2,_⟩|⟨_,e,_⟩|⟨_,pre,seg,post,d,eo,er,kK,hh,YY,GX⟩
    .exact absurd ⟨c1,c2⟩ h1
    .rw[hn] at e;cases e
    rw[hn] at er;cases er;rw[GX] at k;have xj:=s1.trans s2;have O2:=O.same xj;have Pk:sR H2 TP:=TB.same xj;refine⟨_,rfl,rfl,_,rfl,?_⟩;refine aK (λh=>nomatch (aH h)) (λ_=>?_);refine⟨_,rfl,_,rfl,t,_,_,_,rfl,rfl,i_.of ht,bT (j:=0) rfl,_,rfl,t,_,_,_,rfl,rfl,i_.of ht,bT (j:=1) rfl,l,as,_,pre,seg,post,rd,pre.length,(pre++seg).length,rfl,O2.N,eo,rfl,rfl,kK,hh,YY,λH3 p ts s3 hp Il Q_=>?_⟩;have O3:=O2.same s3;have Kl:=Pk.same s3;have hlen:seg.length<=60:=by rw[eo] at hw;simp at hw;lia
    have th:=nX kK hh;have NO:ts.length<=seg.length:=by
     have e1:ts.length=(trees seg).length:=by rw[<-Q_,aS]
     have e2:((trees seg).map kn).length<=seg.length:=by rw[th.1];exact lF _ _
     rw[aS] at e2
     lia
    refine⟨_,rfl,p,ts,rfl,hp,by lia,Kl,λx hx=>(Il x hx).at_ T,λH4 D g hD h4=>?_⟩;have pm:=qH ts;have OU:(ts.foldr (jI Tk.less) []).map (·.o)=cz (trees seg):=by rw[yM ts λx hx=>(Il x hx).kd,Q_]
    have hul:(ts.foldr (jI Tk.less) []).length=ts.length:=pm.length_eq;have cu:∀x∈ts.foldr (jI Tk.less) [],x.Ok C H4:=λx hx=>(Il x (pm.mem_iff.mp hx)).grow Kl g;have XF:∀x∈ts,x.Ok C H4:=λx hx=>(Il x hx).grow Kl g;generalize ts.foldr (jI Tk.less) []=us at h4 pm OU hul cu;have O4:=O3.grow Kl g;have Rb:=g.of Kl hp λ_ q=>nomatch q;have U7:=g.of Kl (s3 _ _ ht) λ_ q=>nomatch q;have f4:Fr C CO H H4:=((xj.trans s3).fr).trans (g.fr Kl);have Mm:(us.map (·.o)).flatten.length<=seg.length:=by
     have e1:(us.map (·.o)).Perm (trees seg):=by rw[OU];exact pU _
     have e2:=e1.flatten.length_eq;rw[th.2.1] at e2
     lia
    refine⟨_,rfl,p,_,rfl, .inl (bf.of Rb),_,rfl,by simp<;>lia,by simp<;>lia,λD6 Y3=>?_⟩;refine HI (λi H'=>aD H4 H'/\ ∃acc:List V,H' D6=some (.lst acc)/\ acc.length=((((trees seg).zip (cz (trees seg))).take i).filter λp=>(kn p.1).number !=(kn p.2).number).length) ⟨aE Y3,[],ah,rfl⟩ (λi H5 hi ⟨sm,acc,ha,hl⟩=>?_) (λH5 ⟨sm,acc,ha,hl⟩=>?_)
    .have Kj:i<ts.length:=by simpa using hi
     have hx:ts[i]?=some ts[i]:=c8 Kj;have hu:us[i]?=some (us[i]'(by lia)):=c8 (by lia);generalize ts[i]=x at hx;generalize us[i]'(by lia)=u at hu;have ox:=(XF x (cI hx)).same sm;have ou:=(cu u (cI hu)).same sm;have hz:((trees seg).zip (cz (trees seg)))[i]?=some (x.o,u.o):=by rw[<-OU,<-Q_,Oi,gW,gW,hx,hu];exact⟨rfl,rfl⟩
     have F4:acc.length<=60:=by
      rw[hl];refine bp (lF _ _) ?_;rw[bg]
      lia
     refine⟨rfl,_,rfl,_,rfl,p,_,_,_,rfl,rfl,bf.of (sm _ _ Rb),at_of (j:=i) (Int.zero_add _) (show(ts.map λx=>V.ref x.p)[i]?=some (V.ref x.p) by rw[gW,hx];rfl),Ff T ox ?_⟩;refine⟨_,rfl,_,rfl,D,_,_,_,rfl,rfl,bf.of (sm _ _ h4),at_of (j:=i) (Int.zero_add _) (show(us.map λx=>V.ref x.p)[i]?=some (V.ref u.p) by rw[gW,hu];rfl),Ff T ou ⟨rfl,_,rfl,?_⟩⟩;refine aK (λh=>?_) (λh=>?_)
     .have hb:((kn x.o).number !=(kn u.o).number)=true:=by rw[bne_iff_ne];intro e;rw[e] at h;exact absurd h (by simp)
      refine⟨_,rfl,acc,ha,eM (by lia),sm.put Y3,_,ah,?_⟩;rw[take_snoc hz,qM,xk (p:=λp:Ob.O×Ob.O=>(kn p.1).number !=(kn p.2).number) hb,a_,a_,hl];rfl
     .have hb:((kn x.o).number !=(kn u.o).number)=false:=by
       cases e:((kn x.o).number !=(kn u.o).number) with
       |false=>rfl
       |true=>rw[bne_iff_ne] at e;refine absurd ?_ h;rw[cP (λq=>e (by injection q with q;lia))];rfl
      refine⟨sm,acc,ha,?_⟩;rw[take_snoc hz,qM,List.filter_cons_of_neg (p:=λp:Ob.O×Ob.O=>(kn p.1).number !=(kn p.2).number) (by show¬((kn x.o).number !=(kn u.o).number)=true;rw[hb];decide),hl];simp
    .have C0:acc.length=chg (trees seg) (cz (trees seg)):=by
      rw[hl];unfold chg;rw[pC];rw[<-OU,<-Q_,List.length_zip,aS,aS,aS];simp
      lia
     have O5:=O4.same sm;have ht5:=sm _ _ U7;have Y4:=sm _ _ h4;refine⟨a8 _,λJ hJ=>?_⟩;refine⟨_,rfl,D,rfl,⟨_,bf.of (a7 Y4 hJ)⟩,dG (K:=K) (a:=D) (xs:=us.map λx=>V.ref x.p) (λi σ H'=>∃v8:Option V,σ=[some (.ref ob),some (.int z),some (.ref l),some (.ref t),some (.ref p),some (.ref D),some (.ref D6),some (.ref J),v8,none]/\ aD H5 H'/\ H' J=some (.lst (((us.take i).flatMap (·.as)).map V.ref))) ⟨none,rfl,aE hJ,ah⟩ (λi σ H' _ ⟨_,_,QB,_⟩=>bf.of (QB _ _ Y4)) (λi x σ H' hx ⟨v8,e,QB,hj⟩=>?_) (λσ H' ⟨v8,e,QB,hj⟩=>?_)⟩
     .obtain⟨u,hu,rfl⟩:=get_map hx;subst e;have ou:=(cu u (cI hu)).same (sm.trans QB);have hsz:(((us.take i).flatMap (·.as)).map V.ref).length+(u.as.map V.ref).length<=sizeLine:=by
       have e1:(us.take (i+1)).flatMap (·.as)++(us.drop (i+1)).flatMap (·.as)=us.flatMap (·.as):=by rw[<-Ce,DT]
       have e2:=c_ List.length e1;have e3:([u].flatMap (·.as)).length=u.as.length:=by simp
       rw[take_snoc hu,Ce,a_,a_,(Itm.flat cu).len,e3] at e2;refine dB ?_;rw[aS,aS]
       lia
      refine⟨_,rfl, .inl ⟨rfl,_,bf.of hj⟩,_,rfl,J,u.p,_,_,rfl,rfl,hj,ou.N.lst,hsz,some (.ref u.p),rfl,QB.put hJ,?_⟩;rw[ah,take_snoc hu,Ce,cV];simp
     .subst e;rw[aS,fq] at hj;have MJ:=sm.trans QB;have O6:=O4.same MJ;have Y5:=MJ _ _ U7;have XG:∀x∈us,x.Ok C H':=λx hx=>(cu x hx).same MJ;have IJ:=Itm.flat XG;have pG:=O6.N.gV;have ln:st.nodes.length=pre.length+seg.length+post.length:=by rw[eo,a_,a_]
      have lJ:(us.flatMap (·.as)).length<=seg.length:=by rw[IJ.len];exact Mm
      refine⟨_,rfl,_,rfl,t,_,_,_,rfl,rfl,i_.of Y5,bT (j:=0) rfl,_,rfl,l,_,rfl,bf.of O6.N.lst,λp1 h1=>?_⟩;rw[sS _ (by rw[pG];lia)];have SO:=aE h1 (u:= .lst ((as.map V.ref).take pre.length));refine⟨_,rfl,p1,J,_,_,rfl,rfl,ah,SO _ _ hj,dB (by rw[bg,pG,aS];lia),λp2 h2=>?_⟩;have XH:=SO.new h2 (u:= .lst ((as.map V.ref).take pre.length++(us.flatMap (·.as)).map V.ref));refine⟨_,rfl,_,rfl,t,_,_,_,rfl,rfl,i_.of (XH _ _ Y5),bT (j:=1) rfl,_,rfl,l,_,rfl,bf.of (XH _ _ O6.N.lst),λp3 h3=>?_⟩;rw[j8 _ (by rw[pG,a_];lia)];have s3':=XH.new h3 (u:= .lst ((as.map V.ref).drop (pre++seg).length));refine⟨p2,p3,_,_,rfl,rfl,a7 ah h3,ah,dB (by rw[a_,bg,dC,pG,aS];lia),λp4 h5=>?_⟩;have Vc:=s3'.new h5 (u:= .lst ((as.map V.ref).take pre.length++(us.flatMap (·.as)).map V.ref++(as.map V.ref).drop (pre++seg).length));have O7:=O6.same Vc;have N7:NL C _ p4 (as.take pre.length++us.flatMap (·.as)++as.drop (pre++seg).length) (st.nodes.take pre.length++(us.map (·.o)).flatten++st.nodes.drop (pre++seg).length):=
       (((O7.N.sV.take pre.length).append (IJ.same Vc)).append (O7.N.sV.drop (pre++seg).length)).nl (by rw[ah,cV,cV,mY,jR]) (by rw[a_,a_,bg,dC];lia)
      have e7:st.nodes.take pre.length++(us.map (·.o)).flatten++st.nodes.drop (pre++seg).length=pre++(cz (trees seg)).flatten++post:=by
       have e8:st.nodes.take pre.length=pre:=by rw[eo,dQ];exact tI ..
       have e9:st.nodes.drop (pre++seg).length=post:=by rw[eo];exact ug ..
       rw[OU,e8,e9]
      rw[e7] at N7;refine⟨_,rfl,ob,CO,dx,_,rfl,O7.at_,T.zM,T.j6,(by show 2<1000;decide),?_⟩;have O8:=O7.put T.ne1 (s':=⟨pre++(cz (trees seg)).flatten++post,st.next⟩) N7;have Y6:=Vc _ _ (QB _ _ ha);have ho8:D6≠ob:=jy Y6 O7.at_ (by intro q;cases q);refine⟨_,rfl,D6,_,rfl, .inl (bf.of (by rw[az ho8];exact Y6)),aV,λq hq=>?_⟩;refine k _ q dx p4 _ (((f4.trans (MJ.trans Vc).fr).trans (zC O7)).trans (aE hq).fr) (O8.same (aE hq)) ?_;rw[ah,C0];rfl
end
end Ob
section
variable{Kb:Addr}{CX:KW}{ps:List Str}
variable{x:Str}{q:Program}{loose:List Str}{YP:World->Heap->Prop}{d:DefRec}{K:Params->Frag}
namespace L2
open PySem PySem.Spec PyProof.Rows
open PySem.W (WData Codec OpenSpec Well WellAll ReadsW ReadsAllW)
theorem DJ{TP:Addr}{P:Program}{w:World}{K:Frag}{mg mb:Str->Option Value}{k:Nat}{fa:Addr}{fd:FuncData}{sp:Sp}{s₁:Shared}{vals:List Value}{ds:List WData}{R:WRecords}{cl:Str->Option Addr}{d0:WData}(KX:K.In s₁.heap)(Y7:s₁.heap.Ns mainGlobals mg)(hb:s₁.heap.Ns builtinsNs mb)(hbb:∀x:Str,x≠"__name__"->mb x=bootBuiltins x)(XI:s₁.heap.NoLimit)(hg:s₁.gens=#[])(MF:WellAll w.params s₁.heap vals ds)(hpl:um ds=true)(hwt:∀d∈ds,d.weight<=1048576)(hr:fK k callerA)(Vd:PySem.W.CodeHd s₁.heap Kb TP)(NV:s₁.heap.get? TP=some (PySem.W.tabObj #[]))(Ri:K.lookup TP=none)(XJ:Ob.xB mg s₁.heap)(F:∀base:Heap,K.In base->base.Ns mainGlobals mg->PySem.W.CodeHd base Kb TP->Ob.xB mg base->k7 P w K mg base CX k fa fd ps sp)(Ua:∀(s:Shared)(us:List Value),us.length=ps.length->BindsTo s fd ⟨us,[]⟩ (ps.zip us))(hlen:ds.length=ps.length)(B_:∀(H:Hp)(xs:List V),H TP=none->nc K H xs ds->sp xs (upd H TP (.o2 #[])) (λv H'=>Dw K H' v d0) λ_ _ _=>False)(Ub:∀H e s',CX [] H s₁ (λ_ _ _=>False) e s'->False):
 codeAny (model P w) callerA (.call (.ref fa) ⟨vals,[]⟩) (λr s'=>∃u as,r= .ok (.ret u)/\ ReadsW R cl s'.heap u d0 as/\ OldK s₁.heap s'.heap/\ s'.os=s₁.os/\ AllBare s'.gens) s₁:=by
 obtain⟨A,ho,ar⟩:=qZ ds vals MF hpl hwt;have hO:Nc (k9 K s₁.heap A):=FO ar;have cu:nu P w (k9 K s₁.heap A) s₁.heap:=K' ar;have hS:=yY KX ar ds vals MF hpl ho;have hV:=lN ho;have hK:∀b u,k9 K s₁.heap A b=some u->K.lookup b=none:=λb u q=>(q0 ar q).1;have K0:∀{b:Addr}{o:Obj}{es:Array DictEntry}{ep:Nat},s₁.heap.get? b=some o->o.data= .dict es ep->k9 K s₁.heap A b=none:=λ{b o es ep} e d=>by
  cases q:k9 K s₁.heap A b with
  |none=>rfl
  |some u=>
   obtain⟨_,vs,_,_,⟨e2,_⟩|⟨e2,_⟩⟩:=q0 ar q
   .rw[e2] at e;cases e;have d':Data.seq vs.toArray _=Data.dict es ep:=d;cases d'
   .rw[e2] at e;cases e;have d':Data.seq vs.toArray _=Data.dict es ep:=d;cases d'
 have QC:∀{b:Addr}{o:Obj},s₁.heap.get? b=some o->o.cls≠ .type "list"->o.cls≠ .type "tuple"->k9 K s₁.heap A b=none:=λ{b o} e d1 d2=>by
  cases q:k9 K s₁.heap A b with
  |none=>rfl
  |some u=>
   obtain⟨_,vs,_,_,⟨e2,_⟩|⟨e2,_⟩⟩:=q0 ar q
   .rw[e2] at e;cases e;exact absurd rfl d1
   .rw[e2] at e;cases e;exact absurd rfl d2
 generalize k9 K s₁.heap A=H0 at hO cu hS hK K0 QC;have Vb:H0 TP=none:=QC NV (λz=>by cases z) (λz=>by cases z);have Uc:=B_ H0 (vals.map toV) Vb hS;have Y8:aD H0 (upd H0 TP (.o2 #[])):=Ob.aE Vb;have XM:upd H0 TP (.o2 #[]) TP=some (.o2 #[]):=ah;have Ud:∀b,b≠TP->upd H0 TP (.o2 #[]) b=H0 b:=λb n=>az n;replace hK:∀b u,upd H0 TP (.o2 #[]) b=some u->K.lookup b=none:=λb u q=>by
  by_cases z:b=TP
  .rw[z];exact Ri
  .rw[Ud b z] at q;exact hK b u q
 replace cu:nu P w (upd H0 TP (.o2 #[])) s₁.heap:=λb u q=>by
  by_cases z:b=TP
  .rw[z,XM] at q;cases q;rw[z];exact NV
  .rw[Ud b z] at q;exact(cu b u q).ui (λ_ _ _ q=>q) (λa q=>Y8 _ _ q) λa xs q=>Y8 _ _ q
 replace hO:∀b,b≠TP->upd H0 TP (.o2 #[]) b=none\/ ∃o u,upd H0 TP (.o2 #[]) b=some (.jO o u):=λb z=>by rw[Ud b z];exact hO b
 replace K0:∀{b:Addr}{o:Obj}{es:Array DictEntry}{ep:Nat},s₁.heap.get? b=some o->o.data= .dict es ep->upd H0 TP (.o2 #[]) b=none:=λ{b o es ep} e d=>by rw[Ud b λz=>by rw[z,NV] at e;cases e;cases d];exact K0 e d
 replace QC:∀{b:Addr}{o:Obj},s₁.heap.get? b=some o->o.cls≠ .type "list"->o.cls≠ .type "tuple"->b≠TP->upd H0 TP (.o2 #[]) b=none:=λ{b o} e d1 d2 z=>by rw[Ud b z];exact QC e d1 d2
 generalize upd H0 TP (.o2 #[])=H at Uc cu hO K0 QC hK XM;have uS:∀{b:Addr}{o:Obj},s₁.heap.get? b=some o->H b=none->(vc s₁.heap H).get? b=some o:=λe n=>Hg e n;have Ve:∀{b:Addr}{m:Str->Option Value},s₁.heap.Ns b m->(vc s₁.heap H).Ns b m:=λ{b m} ⟨o,es,ep,e,d,r⟩=>⟨o,es,ep,uS e (K0 e d),d,r⟩;have nK:∀b o,K.lookup b=some o->H b=none:=λb o e=>by
  cases q:H b with
  |none=>rfl
  |some u=>rw[hK b u q] at e;cases e
 have Y9:K.In (vc s₁.heap H):=λb o e=>uS (KX b o e) (nK b o e);have hM:Mod K mg (vc s₁.heap H):=⟨Y9,Ve Y7,⟨mb,Ve hb,hbb⟩,let ⟨mc,h1,h2⟩:=XI;⟨mc,Ve h1,h2⟩⟩;have e0:vo P w K mg (vc s₁.heap H) callerA [] s₁ H:=⟨rfl,hM,λb o e=>KJ e,xG (Fo _ _),trivial,λb hb=>absurd (show b∈([]:List Addr) from hb) (by simp),cu, .of_eq hg⟩;have hCb:PySem.W.CodeHd (vc s₁.heap H) Kb TP:=by obtain⟨o,vs,file,tf,flags,tg,inF,text,tt,e1,r1,r2,r3,r4,r5,r6,r7,r8,fo⟩:=Vd;exact⟨o,vs,file,tf,flags,tg,inF,text,tt,uS e1 (QC e1 (λz=>by rw[r1] at z;exact absurd (xI z) (by decide)) (λz=>by rw[r1] at z;exact absurd (xI z) (by decide)) fo),r1,r2,r3,r4,r5,r6,r7,r8,fo⟩
 have hBb:Ob.xB mg (vc s₁.heap H):=by obtain⟨bm,ob,b1,b2,b3,b4,b5,b6⟩:=XJ;refine⟨bm,ob,b1,b2,uS b3 (QC b3 (λz=>by rw[b4] at z;exact absurd (xI z) (by decide)) (λz=>by rw[b4] at z;exact absurd (xI z) (by decide)) λz=>?_),b4,b5,b6⟩;rw[z,NV] at b3;cases b3;cases b4
 have hl:vals.length=ps.length:=by rw[kI MF];exact hlen
 refine Af ((F _ Y9 (Ve Y7) hCb hBb).run callerA [] s₁ H ⟨vals,[]⟩ vals (vals.map toV) _ _ hr e0 (Ua s₁ vals hl) hV Uc) λr s' x=>?_;cases r with
 |error e=>exact(Ub H e s' x).elim
 |ok fl=>
  cases fl with
  |next=>exact False.elim x
  |brk=>exact False.elim x
  |cont=>exact False.elim x
  |ret u=>
   obtain⟨v,H',os,bare,un,QD,r',q⟩:=x;have kept:∀b o,b≠TP->s₁.heap.get? b=some o->s'.heap.get? b=some o:=λb o Q2 e=>by
    cases q2:H b with
    |none=>exact un.keep b o e q2 (by intro z;exact absurd (show b∈([]:List Addr) from z) (by simp)) (by simp)
    |some u2=>
     rcases hO b Q2 with z|⟨ob,u3,z⟩
     .rw[q2] at z;cases z
     .have z2:=un.uj b ob _ z;obtain⟨e1,_⟩:=cu b _ z;obtain⟨e2,_⟩:=QD b _ z2;rw[e] at e1;cases e1;exact e2
   have KX':K.In s'.heap:=λb o e=>kept b o (λz=>by rw[z,Ri] at e;cases e) (KX b o e);obtain⟨as,Y_⟩:=Dw.reads (R:=R) (cl:=cl) QD KX' d0 v u q r';obtain⟨more,hm⟩:=un.vb TP _ XM;have Ue:s'.heap.get? TP=some (PySem.W.tabObj (#[]++more)):=QD TP _ hm;refine⟨u,as,rfl,Y_,⟨λb o e=>?_,λb o e=>?_⟩,os,bare⟩
   .by_cases z:b=TP
    .rw[z,NV] at e;cases e;rw[z];exact .inr (.inl ⟨(Vd.tab NV).isCodeTable,rfl,#[],more,rfl,Ue⟩)
    .exact .inl (kept b o z e)
   .by_cases z:b=TP
    .exact⟨_,by rw[z];exact Ue⟩
    .exact⟨o,kept b o z e⟩
theorem DK{TP:Addr}{r:OpenSpec}{k:Nat}{XP:(Str->Option Value)->Heap->Prop}{CX:World->KW}{sp:World->Sp}(Kc:r.wellSaid=true)(S8:d.params.defaults=[])(hlen:r.args.length=ps.length)(hr:fK k callerA)(hY:∀(w:World)(h:Heap),YP w h->(K w.params).In h)(IW:((recsOf q).find? λe=>e.name==x).isSome=true)(QE:∀w:World,tabIn (K w.params) x=some (Kb,TP))(Ri:∀w:World,(K w.params).lookup TP=none)(F:∀(w:World)(mg:Str->Option Value)(fa:Addr)(h:Heap),YP w h->(K w.params).In h->h.Ns mainGlobals mg->mg d.name=some (.ref fa)->
 ∃fd:FuncData,(∀(s:Shared)(us:List Value),us.length=ps.length->BindsTo s fd ⟨us,[]⟩ (ps.zip us))/\
  ∀base:Heap,(K w.params).In base->base.Ns mainGlobals mg->PySem.W.CodeHd base Kb TP->Ob.xB mg base->k7 r.prog w (K w.params) mg base (CX w) k fa fd ps (sp w))(B_:∀(w:World)(H:Hp)(xs:List V)(a:Codec.denoteAll r.args),H TP=none->Codec.withinAll r.args a=true->Codec.app r.args r.asked a=true->nc (K w.params) H xs (Codec.encAll r.args a)->
 sp w xs (upd H TP (.o2 #[])) (λv H'=>Dw (K w.params) H' v (r.ret.enc (Codec.app r.args r.f a))) λ_ _ _=>False)(Ub:∀(w:World)(H:Hp)(s:Shared)(e:Value)(s':Shared),CX w [] H s (λ_ _ _=>False) e s'->False):
 WalkOS q loose XP YP r d [] (λf vs=>PySem.call f vs):=by
 intro w xg s₁ mg mb G Y fa o pm cd doc dV kV ho hd Hj hD XN hg args vals as XO XQ Y_ MF S9;obtain⟨a,e1,e2⟩:=PySem.W.os_pre_some XO;obtain⟨e3,XR⟩:=Codec.encAll_of_decAll r.args args a e1;subst e3;have KX:=hY w _ Y;obtain⟨fd,hb,hF⟩:=F w mg fa _ Y KX G.T.g XN;obtain⟨dr,y0⟩:=Hd.mp IW;obtain⟨Vd,NV⟩:=tab_of G.T KX y0 (QE w);have XJ:Ob.xB mg s₁.heap:=G.T.bmain;refine PySem.W.enter_call (Af (DJ (R:=[]) (cl:=classAt xg.heap) (d0:=r.ret.enc (Codec.app r.args r.f a)) KX G.T.g G.T.b G.T.builtins G.T.nolimit hg MF (x4 _ _) (vz XQ) hr Vd NV (Ri w) XJ hF hb (by rw[vA];exact hlen)
  (λH xs hO hS=>B_ w H xs a hO XR e2 hS) λH e s'=>Ub w H s₁ e s') λr' s' hq=>?_)
 obtain⟨u,ko,rfl,h1,h2,h3,h4⟩:=hq;exact⟨.inl ⟨u,_,ko,rfl,λ_=>rfl,h1,(OpenSpec.post_iff Kc XR _ _).mpr rfl,λz=>Bool.noConfusion (show false=true from z)⟩,h2,h3,h4⟩
theorem B6{TP:Addr}{r:OpenSpec}{k:Nat}{XP:(Str->Option Value)->Heap->Prop}{sp:Frag->Sp}(Kc:r.wellSaid=true)(S8:d.params.defaults=[])(hlen:r.args.length=ps.length)(hr:fK k callerA)(hY:∀(w:World)(h:Heap),YP w h->(K w.params).In h)(IW:((recsOf q).find? λe=>e.name==x).isSome=true)(QE:∀w:World,tabIn (K w.params) x=some (Kb,TP))(Ri:∀w:World,(K w.params).lookup TP=none)(F:∀(w:World)(mg:Str->Option Value)(fa:Addr)(h:Heap),YP w h->(K w.params).In h->h.Ns mainGlobals mg->mg d.name=some (.ref fa)->
 ∃fd:FuncData,(∀(s:Shared)(us:List Value),us.length=ps.length->BindsTo s fd ⟨us,[]⟩ (ps.zip us))/\
  ∀base:Heap,(K w.params).In base->base.Ns mainGlobals mg->PySem.W.CodeHd base Kb TP->Ob.xB mg base->k7 r.prog w (K w.params) mg base CX k fa fd ps (sp (K w.params)))(B_:∀(K:Frag)(H:Hp)(xs:List V)(a:Codec.denoteAll r.args),H TP=none->Codec.withinAll r.args a=true->Codec.app r.args r.asked a=true->nc K H xs (Codec.encAll r.args a)->
 sp K xs (upd H TP (.o2 #[])) (λv H'=>Dw K H' v (r.ret.enc (Codec.app r.args r.f a))) λ_ _ _=>False)(Ub:∀(H:Hp)(s:Shared)(e:Value)(s':Shared),CX [] H s (λ_ _ _=>False) e s'->False):
 WalkOS q loose XP YP r d [] (λf vs=>PySem.call f vs):=
 DK (K:=K) (CX:=λ_=>CX) (sp:=λw=>sp (K w.params)) Kc S8 hlen hr hY IW QE Ri F (λw H xs a h1 h2 h3 h4=>B_ (K w.params) H xs a h1 h2 h3 h4) λ_ H s e s'=>Ub H s e s'
end L2
end
namespace Ob
open PySem PySem.Spec PyProof.Rows L2
theorem mem_lookup{β:Type}{x:Str}{y:β}:∀{l:List (Str×β)},l.lookup x=some y->(x,y)∈l
 |[],h=>by cases h
 |(a,b)::r,h=>by
  rw[tF] at h;by_cases e:(x==a)=true
  .rw[e] at h;have ex:x=a:=eq_of_beq e;cases h;rw[ex];exact cb ..
  .have e:(x==a)=false:=by simpa using e
   rw[e] at h;exact bu _ (mem_lookup h)
variable{us:List Value}
theorem XS(h:us.length=1):∃a,us=[a]:=List.length_eq_one_iff.mp h
theorem ln2(h:us.length=2):∃a b,us=[a,b]:=by
 cases us with
 |nil=>cases h
 |cons a r=>obtain⟨b,rfl⟩:=XS (us:=r) (by simpa using h);exact⟨a,b,rfl⟩
theorem Y'(h:us.length=3):∃a b c,us=[a,b,c]:=by
 cases us with
 |nil=>cases h
 |cons a r=>obtain⟨b,c,rfl⟩:=ln2 (us:=r) (by simpa using h);exact⟨a,b,c,rfl⟩
theorem XT(h:us.length=4):∃a b c d,us=[a,b,c,d]:=by
 cases us with
 |nil=>cases h
 |cons a r=>obtain⟨b,c,d,rfl⟩:=Y' (us:=r) (by simpa using h);exact⟨a,b,c,d,rfl⟩
theorem Za(h:us.length=5):∃a b c d e,us=[a,b,c,d,e]:=by
 cases us with
 |nil=>cases h
 |cons a r=>obtain⟨b,c,d,e,rfl⟩:=XT (us:=r) (by simpa using h);exact⟨a,b,c,d,e,rfl⟩
def eO(K:Frag)(x:Str)(st:Stmt):Prop:=∃(f:Addr)(oc:Value)(od:Option Addr)(kV dc pm:Value)(an:Option Addr)(cd ct:Value)(sl:Array (Option Value)),nsIn K mainGlobals x=some (some (.ref f))/\
 K.lookup f=some ⟨oc,od, .func (fnOf x x (eU st) (da st) (ay st) .none kV dc pm an cd ct),sl⟩/\ codeIn K cd x=true/\ keepIn K (.ref f)=true
variable{K:Frag}{x:Str}{ps:List Str}
theorem eO.mk{h:Heap}{mg:Str->Option Value}{st:Stmt}(X:K.In h)(G:h.Ns mainGlobals mg)(F:eO K x st)(b:∀(kV doc pm:Value)(an:Option Addr)(l_ ct:Value)(us:List Value),us.length=ps.length->bindArgs (fnOf x x (eU st) (da st) (ay st) .none kV doc pm an l_ ct) ⟨us,[]⟩=pure (ps.zip us):=by first
 |(intro _ _ _ _ _ _ us hl;obtain⟨a,rfl⟩:=XS hl;rfl)
 |(intro _ _ _ _ _ _ us hl;obtain⟨a,b,rfl⟩:=ln2 hl;rfl)
 |(intro _ _ _ _ _ _ us hl;obtain⟨a,b,c,rfl⟩:=Y' hl;rfl)
 |(intro _ _ _ _ _ _ us hl;obtain⟨a,b,c,d,rfl⟩:=XT hl;rfl)
 |(intro _ _ _ _ _ _ us hl;obtain⟨a,b,c,d,e,rfl⟩:=Za hl;rfl)
 |(intro _ _ _ _ _ _ us hl;obtain⟨a,b,c,d,e,f,rfl⟩:=ln6 hl;rfl)):bB K mg x st ps:=by
 obtain⟨f,oc,od,kV,dc,pm,an,cd,ct,sl,a,l,c,k⟩:=F;exact⟨f,_,sj l c k,mg_of X G a,(sj l c k).binds b⟩
def ux(K:Frag)(C:Addr)(x qual:Str)(st:Stmt):Prop:=nsIn K mainGlobals x=some (some (.ref C))/\ plainGet K C Str.empty=true/\ hasDictIn K C=true/\ plainOver K C=true/\ findIn K (.ref C) "__setattr__"=some (some (.builtin "object.__setattr__"))/\ makesIn K C=true/\ keepIn K (.ref C)=true/\
 ∃(f:Addr)(oc:Value)(od:Option Addr)(kV dc pm:Value)(an:Option Addr)(cd ct:Value)(sl:Array (Option Value)),findIn K (.ref C) "__init__"=some (some (.ref f))/\ isFn K (.ref f)=true/\
  K.lookup f=some ⟨oc,od, .func (fnOf "__init__" qual (eU st) (da st) (ay st) .none kV dc pm an cd ct),sl⟩/\ codeIn K cd qual=true/\ keepIn K (.ref f)=true
variable{C:Addr}{qual:Str}
theorem ux.cls{st:Stmt}(h:ux K C x qual st):FC K C:=⟨h.2.1,h.2.2.1,h.2.2.2.1,h.2.2.2.2.1⟩
theorem ux.mk{K:Frag}{h:Heap}{mg:Str->Option Value}{C:Addr}{x qual:Str}{st:Stmt}{ps:List Str}{P:Program}{w:World}{base:Heap}{sp:Sp}(X:K.In h)(G:h.Ns mainGlobals mg)(F:ux K C x qual st)(b:∀(kV doc pm:Value)(an:Option Addr)(l_ ct:Value)(us:List Value),us.length=ps.length->bindArgs (fnOf "__init__" qual (eU st) (da st) (ay st) .none kV doc pm an l_ ct) ⟨us,[]⟩=pure (ps.zip us))(ok:∀{f:Addr}{fd:FuncData},HU K "__init__" qual st f fd->k7 P w K mg base zL 1 f fd ps sp):EM P w K mg base 1 x C ps sp:=by
 obtain⟨aC,_,_,_,_,mk,kc,f,oc,od,kV,dc,pm,an,cd,ct,sl,a,i,l,c,k⟩:=F;exact⟨f,_,⟨mk,a,i,kc⟩,ok (sj l c k),mg_of X G aC,(sj l c k).binds b⟩
def DL(K:Frag)(a:Addr)(its:List Value):Prop:=∃(od:Option Addr)(n:Nat)(sl:Array (Option Value)),K.lookup a=some ⟨.type "tuple",od, .seq its.toArray n,sl⟩
variable{a:Addr}{its:List Value}
theorem DL.sq{xs:List V}(h:DL K a its)(hl:its.length<=sizeLine)(r:Vals xs its)(H:Hp):i_ K H a xs:=by obtain⟨od,n,sl,l⟩:=h;exact .inr ⟨_,_,n,l,rfl,rfl,by simpa using hl,by simpa using r⟩
def XU(K:Frag)(b:Addr)(x:Str)(n k:Int):Prop:=∃(t u v:Tok),DL K b [.str x t, .int n u, .int k v]
theorem XU.sq{K:Frag}{b:Addr}{x:Str}{n k:Int}(h:XU K b x n k)(H:Hp):i_ K H b [.str x, .int n, .int k]:=by obtain⟨t,u,v,h⟩:=h;exact h.sq (xs:=[.str x, .int n, .int k]) (by show 3<=sizeLine;decide) (.cons ⟨_,rfl⟩ (.cons ⟨_,rfl⟩ (.cons ⟨_,rfl⟩ .nil))) H
theorem xf:∀bs:List Addr,Vals (bs.map V.ref) (bs.map Value.ref)
 |[]=> .nil
 |b::r=> .cons rfl (xf r)
variable{f:Addr}{oc dc pm:Value}{od an:Option Addr}{sl:Array (Option Value)}
theorem ux.by{st:Stmt}{kV:Value}{cd ct:Value}(h1:nsIn K mainGlobals x=some (some (.ref C)))(h2:plainGet K C Str.empty=true)(h3:hasDictIn K C=true)(h4:plainOver K C=true)(h5:findIn K (.ref C) "__setattr__"=some (some (.builtin "object.__setattr__")))(h6:makesIn K C=true)(h7:keepIn K (.ref C)=true)(a:findIn K (.ref C) "__init__"=some (some (.ref f)))(i:isFn K (.ref f)=true)(l:K.lookup f=some ⟨oc,od, .func (fnOf "__init__" qual (eU st) (da st) (ay st) .none kV dc pm an cd ct),sl⟩)(c:codeIn K cd qual=true)(k:keepIn K (.ref f)=true):ux K C x qual st:=
 ⟨h1,h2,h3,h4,h5,h6,h7,f,oc,od,kV,dc,pm,an,cd,ct,sl,a,i,l,c,k⟩
theorem DL.by{n:Nat}(l:K.lookup a=some ⟨.type "tuple",od, .seq its.toArray n,sl⟩):DL K a its:=⟨od,n,sl,l⟩
def Rj(K:Frag)(x:Str)(st:Stmt)(c:Addr):Prop:=∃(f:Addr)(oc:Value)(od:Option Addr)(kV dc pm:Value)(an:Option Addr)(ct:Value)(sl:Array (Option Value)),nsIn K mainGlobals x=some (some (.ref f))/\
 K.lookup f=some ⟨oc,od, .func (fnOf x x (eU st) (da st) (ay st) .none kV dc pm an (.ref c) ct),sl⟩/\ codeIn K (.ref c) x=true/\ keepIn K (.ref f)=true
variable{c:Addr}
theorem Rj.by{st:Stmt}{kV:Value}{ct:Value}(a:nsIn K mainGlobals x=some (some (.ref f)))(l:K.lookup f=some ⟨oc,od, .func (fnOf x x (eU st) (da st) (ay st) .none kV dc pm an (.ref c) ct),sl⟩)(c1:codeIn K (.ref c) x=true)(k:keepIn K (.ref f)=true):Rj K x st c:=⟨f,oc,od,kV,dc,pm,an,ct,sl,a,l,c1,k⟩
theorem Rj.mk{h base:Heap}{mg:Str->Option Value}{st:Stmt}{TP:Addr}(X:K.In h)(G:h.Ns mainGlobals mg)(F:Rj K x st c)(CH:PySem.W.CodeHd base c TP)(b:∀(kV doc pm:Value)(an:Option Addr)(l_ ct:Value)(us:List Value),us.length=ps.length->bindArgs (fnOf x x (eU st) (da st) (ay st) .none kV doc pm an l_ ct) ⟨us,[]⟩=pure (ps.zip us)):T' K mg base x st ps TP:=by obtain⟨f,oc,od,kV,dc,pm,an,ct,sl,a,l,c1,k⟩:=F;exact⟨f,oc,od,kV,dc,pm,an,c,ct,sl,l,c1,k,mg_of X G a,(sj l c1 k).binds b,CH⟩
theorem QF{P:Addr}{co:Value}{cod:Option Addr}{fd:FuncData}{csl:Array (Option Value)}{vs:Array Value}(a:nsIn K mainGlobals x=some (some (.ref f)))(l:K.lookup f=some ⟨oc,od, .func fd,sl⟩)(hc:fd.code= .ref c)(lc:K.lookup c=some ⟨co,cod, .fields vs,csl⟩)(hv:(vs[11]?:Option Value)=some (.ref P)):tabIn K x=some (c,P):=by unfold tabIn;rw[a];simp only;rw[l];simp only;rw[hc];simp only;rw[lc];simp only;rw[hv]
def fnL:List (Str×Stmt):=[(("position_of":Str),lh),(("tree_end":Str),p_),(("parent_position":Str),h_),(("sibling_before":Str),iw),(("children_run":Str),jZ),(("children_count":Str),iy),(("place_at":Str),qa),(("too_deep":Str),qb),(("deepen":Str),wj),(("inserted":Str),qc),(("is_text":Str),sJ),(("bytes_of":Str),qd),(("digits_of":Str),n_),(("number_of":Str),oa),(("reference_end":Str),jf),(("parts_of":Str),qe),(("references_in":Str),jg),(("numbers_referred":Str),gC),(("shown":Str),zr),(("renumbered":Str),mw),(("counted":Str),sI),(("new_node_refusal":Str),gD),(("put_new_node":Str),j1),(("add_node":Str),qf),(("write_text":Str),mx),(("drop_tree":Str),oj),(("dissolve_section":Str),gE),(("siblings_in_order":Str),gn),(("wrap_siblings":Str),jh),(("carry_tree":Str),my),(("move_tree":Str),om),(("promote_tree":Str),j2),(("demote_tree":Str),ll),(("raise_tree":Str),mz),(("fold_section":Str),j0),(("fold_from":Str),oh),(("reveal_node":Str),lj),(("order_of":Str),qg),(("state_of":Str),qh),(("visible_positions":Str),gp),(("view_of":Str),sL)]
def fnM:List (Str×Stmt):=[(("info_of":Str),sM),(("step_from":Str),oo),(("section_places":Str),iC),(("labels_of":Str),ow),(("label_of":Str),ql),(("text_of":Str),sQ),(("shown_text_of":Str),jj),(("find_label":Str),mC),(("referring_to":Str),j5),(("is_broken":Str),oy),(("broken_in":Str),oz),(("stands_in":Str),oA),(("search_for":Str),mD),(("references_of":Str),jk),(("contents_to":Str),lp),(("lines_of":Str),qi),(("has_at":Str),wk),(("number_at":Str),oq),(("next_number_in":Str),iz),(("depth_in":Str),qj),(("greatest_depth":Str),iA),(("node_fault":Str),mB),(("take_first_line":Str),ia),(("node_with":Str),ot),(("node_in":Str),sP),(("take_node_line":Str),iB),(("load_outline":Str),j4),(("line_of":Str),sO),(("save_outline":Str),j3),(("copies_of":Str),oe),(("copy_tree":Str),og),(("path_to":Str),sN),(("answer_making":Str),jl),(("answer_folding":Str),iD),(("answer_reading":Str),iE),(("answer_telling":Str),iF),(("read_calls":Str),mv),(("trees_between":Str),ji),(("answer_moving":Str),jm),(("answer_to":Str),oB),(("answers":Str),gM)]
def XW:List Str:=["len","enumerate","any","all","range","sorted","str","ord","list","reversed"]
def AllP{α:Type}(p:α->Prop):List α->Prop
 |[]=>True
 |a::r=>p a/\ AllP p r
theorem AllP.get{α:Type}{p:α->Prop}:∀{L:List α},AllP p L->∀(i:Nat){a:α},L[i]?=some a->p a
 |_::_,h,0,_,e=>by cases e;exact h.1
 |_::_,h,i+1,_,e=>AllP.get h.2 i e
theorem AllP.mem{α:Type}{p:α->Prop}:∀{L:List α},AllP p L->∀{a:α},a∈L->p a
 |_::_,h,_, .head _=>h.1
 |_::_,h,_, .tail _ m=>AllP.mem h.2 m
section
variable{K:Frag}{r:List (Str×Int)}{r1:List (Str×Str)}{r2:List (Str×Stmt)}{r3:List (Addr×Str)}{r4:List Str}{r5:List (Addr×Str×Nat×Nat)}
abbrev AI(K:Frag):=AllP λp:Str×Int=>∃t,nsIn K mainGlobals p.1=some (some (.int p.2 t))
abbrev AS(K:Frag):=AllP λp:Str×Str=>∃t,nsIn K mainGlobals p.1=some (some (.str p.2 t))
abbrev AF(K:Frag):=AllP λp:Str×Stmt=>eO K p.1 p.2
theorem AF.fn{L:List (Str×Stmt)}(h:AF K L)(i:Nat){st:Stmt}(e:L[i]?=some (x,st)):eO K x st:=AllP.get h i e
abbrev AN(K:Frag):=AllP λp:Addr×Str=>findIn K (.ref p.1) p.2=some none
abbrev AB(K:Frag):=AllP λp:Str=>nsIn K mainGlobals p=some none
abbrev AQ(K:Frag):=AllP λp:Addr×Str×Nat×Nat=>XU K p.1 p.2.1 (p.2.2.1:Nat) (p.2.2.2:Nat)
theorem ai{i:Int}{t:Tok}(h:nsIn K mainGlobals x=some (some (.int i t)))(g:AI K r):AI K ((x,i)::r):=⟨⟨t,h⟩,g⟩
theorem as_{y:Str}{t:Tok}(h:nsIn K mainGlobals x=some (some (.str y t)))(g:AS K r1):AS K ((x,y)::r1):=⟨⟨t,h⟩,g⟩
theorem an_(h:findIn K (.ref C) x=some none)(g:AN K r3):AN K ((C,x)::r3):=⟨h,g⟩
theorem ab_(h:nsIn K mainGlobals x=some none)(g:AB K r4):AB K (x::r4):=⟨h,g⟩
theorem aq_{b:Addr}{n k:Nat}{t u v:Tok}{m:Nat}(l:K.lookup b=some ⟨.type "tuple",od, .seq [Value.str x t, .int (n:Nat) u, .int (k:Nat) v].toArray m,sl⟩)(g:AQ K r5):AQ K ((b,x,n,k)::r5):=⟨⟨t,u,v,od,m,sl,l⟩,g⟩
theorem af{st:Stmt}{kV:Value}{cd ct:Value}(a:nsIn K mainGlobals x=some (some (.ref f)))(l:K.lookup f=some ⟨oc,od, .func (fnOf x x (eU st) (da st) (ay st) .none kV dc pm an cd ct),sl⟩)(c:codeIn K cd x=true)(k:keepIn K (.ref f)=true)(g:AF K r2):AF K ((x,st)::r2):=⟨⟨f,oc,od,kV,dc,pm,an,cd,ct,sl,a,l,c,k⟩,g⟩
end
theorem all_mk{P:Program}{w:World}{h:Heap}{mg:Str->Option Value}{fa CO CC SA TP Kb b0 b1 b2 b3 b4 b5 b6 b7 b8 b9 Q7 Vf Vg Vh Vi Vj Vk Vl Vm Vn Vo Vp Vq Vr Vs Vt Vu Vv Vw Vx Vy Vz:Addr}(X:K.In h)(G:h.Ns mainGlobals mg)(hfa:mg "answers"=some (.ref fa))(cN:ux K C "Node" "Node.__init__" p8)(cO:ux K CO "Outline" "Outline.__init__" lg)(cC:ux K CC "Call" "Call.__init__" p0)(hN:AN K [(C,"number"),(C,"cell"),(C,"depth"),(C,"text"),(C,"folded"),(CO,"nodes"),(CO,"next_number"),(CC,"name"),(CC,"wholes"),(CC,"row")])(ne1:C≠CO)(ne2:CC≠C)(ne3:CC≠CO)(hB:AB K XW)(hI:AI K IQ)(hS:AS K Nn)(sh:nsIn K mainGlobals "SHAPES"=some (some (.ref SA)))(shT:DL K SA [.ref b0, .ref b1, .ref b2, .ref b3, .ref b4, .ref b5, .ref b6, .ref b7, .ref b8, .ref b9, .ref Q7, .ref Vf, .ref Vg, .ref Vh, .ref Vi, .ref Vj, .ref Vk, .ref Vl, .ref Vm, .ref Vn, .ref Vo, .ref Vp, .ref Vq, .ref Vr, .ref Vs, .ref Vt, .ref Vu, .ref Vv, .ref Vw, .ref Vx, .ref Vy, .ref Vz])(hQ:AQ K ([b0,b1,b2,b3,b4,b5,b6,b7,b8,b9,Q7,Vf,Vg,Vh,Vi,Vj,Vk,Vl,Vm,Vn,Vo,Vp,Vq,Vr,Vs,Vt,Vu,Vv,Vw,Vx,Vy,Vz].zip mV))(hF:AF K fnL)(hG:AF K fnM)(hC:Rj K "sort_children" fz Kb):
 ∃fd:FuncData,(∀(s:Shared)(us:List Value),us.length=(["calls"]:List Str).length->BindsTo s fd ⟨us,[]⟩ ((["calls"]:List Str).zip us))/\ ∀base:Heap,K.In base->base.Ns mainGlobals mg->PySem.W.CodeHd base Kb TP->xB mg base->k7 P w K mg base zL 9 fa fd ["calls"] (Fd TP K):=by
 have T:Txt K mg C CO CC:=⟨cN.cls,cO.cls,cC.cls,hN.get 0 rfl,hN.get 1 rfl,hN.get 2 rfl,hN.get 3 rfl,hN.get 4 rfl,hN.get 5 rfl,hN.get 6 rfl,hN.get 7 rfl,hN.get 8 rfl,hN.get 9 rfl,ne1,ne2,ne3,pD X G (hB.get 0 rfl),pD X G (hB.get 1 rfl),pD X G (hB.get 2 rfl),pD X G (hB.get 3 rfl),pD X G (hB.get 4 rfl),pD X G (hB.get 5 rfl),pD X G (hB.get 6 rfl),pD X G (hB.get 7 rfl),pD X G (hB.get 8 rfl),pD X G (hB.get 9 rfl),λhx=>let ⟨t,e⟩:=hI.mem (mem_lookup hx);⟨t,mg_of X G e⟩,λhx=>let ⟨t,e⟩:=hS.mem (mem_lookup hx);⟨t,mg_of X G e⟩⟩;have S:YR K mg SA:=⟨mg_of X G sh,[b0,b1,b2,b3,b4,b5,b6,b7,b8,b9,Q7,Vf,Vg,Vh,Vi,Vj,Vk,Vl,Vm,Vn,Vo,Vp,Vq,Vr,Vs,Vt,Vu,Vv,Vw,Vx,Vy,Vz],rfl,shT.sq (by show 32<=sizeLine;decide) (xf [b0,b1,b2,b3,b4,b5,b6,b7,b8,b9,Q7,Vf,Vg,Vh,Vi,Vj,Vk,Vl,Vm,Vn,Vo,Vp,Vq,Vr,Vs,Vt,Vu,Vv,Vw,Vx,Vy,Vz]),λi b q hb hq H=>(hQ.get i (a:=(b,q)) (Oi.mpr ⟨hb,hq⟩)).sq H⟩;obtain⟨f0,oc,od,kV,dc,pm,an,cd,ct,sl,a0,l0,c0,k0⟩:eO K "answers" gM:=(hG.fn 40 rfl);have ee:=hfa.symm.trans (mg_of X G a0);cases ee;refine⟨fnOf "answers" "answers" (eU gM) (da gM) (ay gM) .none kV dc pm an cd ct,λs us hu=>match us,hu with|[_],_=> .of_eq rfl,λbase _ _ CH B=>?_⟩;have Z:Tag P w K mg base C CO CC:=⟨⟩;have uz:=hC.mk (ps:=["outline","parent"]) X G CH (by intro _ _ _ _ _ _ us hl;obtain⟨a,b,rfl⟩:=ln2 hl;rfl);have rE:EM P w K mg base 1 "Node" C ["self","number","cell","depth","text"] (rD C):=cN.mk X G (by intro _ _ _ _ _ _ us hl;obtain⟨a,b,c,d,e,rfl⟩:=Za hl;rfl) λF=>Jg F T;have l7:EM P w K mg base 1 "Outline" CO ["self"] (zz CO):=cO.mk X G (by intro _ _ _ _ _ _ us hl;obtain⟨a,rfl⟩:=XS hl;rfl) λF=>LR F T;have J':EM P w K mg base 1 "Call" CC ["self","name","wholes","row"] (zA CC):=cC.mk X G (by intro _ _ _ _ _ _ us hl;obtain⟨a,b,c,d,rfl⟩:=XT hl;rfl) λF=>Jh F T;have ax:=P0 (Z:=Z) (eO.mk X G (hF.fn 0 rfl)) T;have aP:=LK (Z:=Z) (eO.mk X G (hF.fn 1 rfl)) T;have bq:=P2 (Z:=Z) (eO.mk X G (hF.fn 2 rfl)) T;have dX:=P4 (Z:=Z) (eO.mk X G (hF.fn 3 rfl)) T;have fE:=P5 (Z:=Z) (eO.mk X G (hF.fn 4 rfl)) T ax aP;have dU:=LL (Z:=Z) (eO.mk X G (hF.fn 5 rfl)) T aP;have gb:=Ja (Z:=Z) (eO.mk X G (hF.fn 6 rfl)) T ax aP fE;have dW:=Br (Z:=Z) (eO.mk X G (hF.fn 7 rfl)) T;have gy:=F9 (Z:=Z) (eO.mk X G (hF.fn 8 rfl)) T;have f_:=P8 (Z:=Z) (eO.mk X G (hF.fn 9 rfl));have ic:=F' (Z:=Z) (eO.mk X G (hF.fn 10 rfl)) T;have cE:=Jb (Z:=Z) (eO.mk X G (hF.fn 11 rfl)) T;have qu:=Ga (Z:=Z) (eO.mk X G (hF.fn 12 rfl)) T cE;have iI:=Gb (Z:=Z) (eO.mk X G (hF.fn 13 rfl)) T;have j9:=Ge (Z:=Z) (eO.mk X G (hF.fn 14 rfl)) T;have jQ:=Je (Z:=Z) (eO.mk X G (hF.fn 15 rfl)) T j9 iI;have fb:=LP (Z:=Z) (eO.mk X G (hF.fn 16 rfl)) T jQ;have bM:=LQ (Z:=Z) (eO.mk X G (hF.fn 17 rfl)) T fb;have mK:=Jf (Z:=Z) (eO.mk X G (hF.fn 18 rfl)) T jQ;have oT:=P' (Z:=Z) (eO.mk X G (hF.fn 19 rfl)) T fb qu;have bt:=De (Z:=Z) (eO.mk X G (hF.fn 20 rfl)) T;have de:=Df (Z:=Z) (eO.mk X G (hF.fn 21 rfl)) T ic;have fF:=Qb (Z:=Z) (eO.mk X G (hF.fn 22 rfl)) T rE f_;have px:=Qc (Z:=Z) (eO.mk X G (hF.fn 23 rfl)) T gb de fF;have oU:=Jj (Z:=Z) (eO.mk X G (hF.fn 24 rfl)) T ax ic;have qA:=LV (Z:=Z) (eO.mk X G (hF.fn 25 rfl)) T ax aP;have ik:=BE (Z:=Z) (eO.mk X G (hF.fn 26 rfl)) T ax aP dU gy;have gH:=LX (Z:=Z) (eO.mk X G (hF.fn 27 rfl)) T;have kf:=L1 (Z:=Z) (eO.mk X G (hF.fn 28 rfl)) T ax aP gH de dW gy fF;have ez:=Jr (Z:=Z) (eO.mk X G (hF.fn 29 rfl)) T aP gy f_;have qC:=L3 (Z:=Z) (eO.mk X G (hF.fn 30 rfl)) T ax aP gb dW ez;have lz:=Di (Z:=Z) (eO.mk X G (hF.fn 31 rfl)) T ax aP bq ez;have mR:=Gi (Z:=Z) (eO.mk X G (hF.fn 32 rfl)) T ax aP dX dW gy;have oV:=Ju (Z:=Z) (eO.mk X G (hF.fn 33 rfl)) T ax dX ez;have lA:=L5 (Z:=Z) (eO.mk X G (hF.fn 34 rfl)) T ax;have qD:=BH (Z:=Z) (eO.mk X G (hF.fn 35 rfl)) T;have mS:=Gk (Z:=Z) (eO.mk X G (hF.fn 36 rfl)) T ax bq;have tu:=Jy (Z:=Z) (eO.mk X G (hF.fn 37 rfl)) T;have tw:=Jz (Z:=Z) (eO.mk X G (hF.fn 38 rfl)) T;have cM:=Qn (Z:=Z) (eO.mk X G (hF.fn 39 rfl)) T aP;have wY:=L' (Z:=Z) (eO.mk X G (hF.fn 40 rfl)) T aP cM;have wZ:=Mb (Z:=Z) (eO.mk X G (hG.fn 0 rfl)) T ax aP bq dU;have qE:=Mc (Z:=Z) (eO.mk X G (hG.fn 1 rfl)) T ax cM;have jo:=Md (Z:=Z) (eO.mk X G (hG.fn 2 rfl)) T;have cq:=Gq (Z:=Z) (eO.mk X G (hG.fn 3 rfl)) T cE jo;have tD:=JH (Z:=Z) (eO.mk X G (hG.fn 4 rfl)) T ax cq bt;have w8:=Mf (Z:=Z) (eO.mk X G (hG.fn 5 rfl)) T ax bt;have kh:=Gr (Z:=Z) (eO.mk X G (hG.fn 6 rfl)) T ax cq mK bt;have oW:=Mi (Z:=Z) (eO.mk X G (hG.fn 7 rfl)) T cq;have lB:=Ml (Z:=Z) (eO.mk X G (hG.fn 8 rfl)) T ax bM bt;have qx:=BM (Z:=Z) (eO.mk X G (hG.fn 9 rfl)) T ax bM;have qF:=Gu (Z:=Z) (eO.mk X G (hG.fn 10 rfl)) T qx bt;have qy:=Gv (Z:=Z) (eO.mk X G (hG.fn 11 rfl)) T;have oX:=Gw (Z:=Z) (eO.mk X G (hG.fn 12 rfl)) T cq mK qy bt;have ki:=Gy (Z:=Z) (eO.mk X G (hG.fn 13 rfl)) T ax bM;have mT:=BP (Z:=Z) (eO.mk X G (hG.fn 14 rfl)) T cq mK bt;have s_:=JK (Z:=Z) (eO.mk X G (hG.fn 15 rfl)) T;have gc:=Qq (Z:=Z) (eO.mk X G (hG.fn 16 rfl)) T cE;have iK:=JN (Z:=Z) (eO.mk X G (hG.fn 17 rfl)) T iI;have jr:=Mp (Z:=Z) (eO.mk X G (hG.fn 18 rfl)) T iK gc;have pw:=JR (Z:=Z) (eO.mk X G (hG.fn 19 rfl)) T gc;have jq:=JS (Z:=Z) (eO.mk X G (hG.fn 20 rfl)) T;have oS:=JT (Z:=Z) (eO.mk X G (hG.fn 21 rfl)) T ax jq;have iL:=JU (Z:=Z) (eO.mk X G (hG.fn 22 rfl)) T jr;have mQ:=Ms (Z:=Z) (eO.mk X G (hG.fn 23 rfl)) T iK gc ic rE;have wV:=GF (Z:=Z) (eO.mk X G (hG.fn 24 rfl)) T mQ gc pw;have js:=JW (Z:=Z) (eO.mk X G (hG.fn 25 rfl)) T wV oS;have lE:=Mt (Z:=Z) (eO.mk X G (hG.fn 26 rfl)) T l7 s_ iL js;have wX:=Mv (Z:=Z) (eO.mk X G (hG.fn 27 rfl)) T cE;have lD:=Mx (Z:=Z) (eO.mk X G (hG.fn 28 rfl)) T cE wX bt;have qz:=GJ (Z:=Z) (eO.mk X G (hG.fn 29 rfl)) T rE oT;have qB:=Mz (Z:=Z) (eO.mk X G (hG.fn 30 rfl)) T ax aP gb dW qz f_;have w6:=MA (Z:=Z) (eO.mk X G (hG.fn 31 rfl)) T ax bq bt;have kj:=GK (Z:=Z) (eO.mk X G (hG.fn 32 rfl)) T px oU qA ik kf qB;have jv:=Dz (Z:=Z) (eO.mk X G (hG.fn 33 rfl)) T lA qD mS;have jw:=DA (Z:=Z) (eO.mk X G (hG.fn 34 rfl)) T tu wY wZ w6 qE tw;have jx:=DB (Z:=Z) (eO.mk X G (hG.fn 35 rfl)) T tD oW w8 kh mT ki lB qF oX;have o1:=ME (Z:=Z) (eO.mk X G (hG.fn 36 rfl)) T S J';have km:=Ka (Z:=Z) (eO.mk X G (hG.fn 37 rfl)) T aP;have kg:=MI (Z:=Z) uz B T ax fE km;have kl:=GL (Z:=Z) (eO.mk X G (hG.fn 38 rfl)) T qC lz mR oV kg;have qG:=TC (Z:=Z) (eO.mk X G (hG.fn 39 rfl)) T lD lE kj kl jv jw jx;exact DG (sj (st:=gM) l0 c0 k0) T l7 o1 qG bt
theorem QG(H:Hp)(P:Addr):sR (upd H P (.o2 #[])) P:=⟨#[],ah,trivial, .inl rfl⟩
end Ob
end
open PySem PySem.W PyProof.Rows
set_option maxHeartbeats 0 in
theorem PySem.Challenge.cw_outlinebook_s01_answers_holds : PySem.Challenge.rw_outlinebook_s01_answers.Holds := by
  w_on
  refine cw_outlinebook_s01_answers_head ?_
  k_fillS
  refine L2.B6 (TP := 383) (Kb := 385) (x := "sort_children") (r := PySem.Challenge.rw_outlinebook_s01_answers) (k := 9) (CX := L2.zL) (ps := ["calls"]) (sp := Ob.Fd 383) (by decide +kernel) rfl rfl ⟨rfl, by decide, by decide⟩ (fun w h Y => PySem.W.kIn_of Y) (by decide +kernel) ?hT1 ?hN1 ?hF1 ?hS1 (fun _ _ _ _ z => z)
  case hT1 =>
    intro w
    refine' Ob.QF ?a ?l ?c ?m ?v
    (case a => k_is)
    (case l => k_is)
    (case c => rfl)
    (case m => k_is)
    (case v => rfl)
  case hN1 =>
    intro w
    kernel_rfl
  case hF1 =>
    intro w mg fa h Y KX G XN
    refine' Ob.all_mk KX G XN ?z1 ?z2 ?z3 ?z4 ?z5 ?z6 ?z7 ?z8 ?z9 ?y1 ?y2 ?y3 ?y4 ?y5 ?y7 ?y6
    (case z1 => (refine' Ob.ux.by ?a ?b ?c ?d ?e ?f ?g ?h ?i ?j ?k ?l; (case a => k_is); (case b => k_is); (case c => k_is); (case d => k_is); (case e => k_is); (case f => k_is); (case g => k_is); (case h => k_is); (case i => k_is); (case j => k_is); (case k => k_is); (case l => k_is)))
    (case z2 => (refine' Ob.ux.by ?a ?b ?c ?d ?e ?f ?g ?h ?i ?j ?k ?l; (case a => k_is); (case b => k_is); (case c => k_is); (case d => k_is); (case e => k_is); (case f => k_is); (case g => k_is); (case h => k_is); (case i => k_is); (case j => k_is); (case k => k_is); (case l => k_is)))
    (case z3 => (refine' Ob.ux.by ?a ?b ?c ?d ?e ?f ?g ?h ?i ?j ?k ?l; (case a => k_is); (case b => k_is); (case c => k_is); (case d => k_is); (case e => k_is); (case f => k_is); (case g => k_is); (case h => k_is); (case i => k_is); (case j => k_is); (case k => k_is); (case l => k_is)))
    case z4 =>
      iterate 10 (refine Ob.an_ (by k_is) ?_)
      exact trivial
    (case z5 => decide)
    (case z6 => decide)
    (case z7 => decide)
    case z8 =>
      iterate 10 (refine Ob.ab_ (by k_is) ?_)
      exact trivial
    case z9 =>
      iterate 35 (refine Ob.ai (by k_is) ?_)
      exact trivial
    case y1 =>
      iterate 6 (refine Ob.as_ (by k_is) ?_)
      exact trivial
    (case y2 => k_is)
    (case y3 => (refine' Ob.DL.by ?a; (case a => k_is)))
    case y4 =>
      iterate 32 (refine Ob.aq_ (by k_is) ?_)
      exact trivial
    case y5 =>
      iterate 41 (refine Ob.af (by k_is) (by k_is) (by k_is) (by k_is) ?_)
      exact trivial
    case y7 =>
      iterate 41 (refine Ob.af (by k_is) (by k_is) (by k_is) (by k_is) ?_)
      exact trivial
    (case y6 => (refine' Ob.Rj.by ?a ?b ?c ?d; (case a => k_is); (case b => k_is); (case c => k_is); (case d => k_is)))
  case hS1 =>
    intro K H xs a hO XR DE hx
    cases hx with
    | cons h1 h2 =>
      cases h2
      cases h1 with
      | lst hs ha =>
        have e := L2.Er a.1 _ ha
        subst e
        have DE : PyVanbkn.answers_asked a.1 = true := DE
        exact Ob.QA (Ob.QG _ _) ((Ob.aE hO).seq hs) DE fun H' p hp => .lst (L2.bf.of hp) (L2.Ep _)
