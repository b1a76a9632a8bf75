import PyProof.Rows.All
import OpenK.KLine
import Wide.Line
import Wide.FinOn
import KE.KTryMore
import KE.KIsAll
import KE.KItem
import KE.KPar
import KE.KStar
import KE.KDictOf
import PySem.Challenge.RW_leastblame_k32_known_chances
set_option Elab.async false
set_option linter.all false
set_option maxRecDepth 100000
/-! These names are taken, so that no quick twins are laid for the heap's greatest trees: with their proofs the compiled file would pass the house's bound. Nothing rests on them. -/
inductive PySem.W.Fast:Prop|tw16177177438813283458|tw6359645876654233599|tw13124755415407203920|tw1908366817364263859|tw11153436510561008777|tw1020091233291596122|tw2855087897086737247|tw14735092469664522608|tw11215312807971052675|tw11383778558442048839|tw15675109213180817510|tw5209017808462113533|tw11742592032698867849|tw1097063552086188319|tw11306486614422716402|tw3872618941703929440|tw5493447258325285394|tw17391089751043671175|tw13099571310868741525|tw7397513196948476215|tw14905128905063293127|tw16559992033651791677|tw13360295084511416613|tw5810272610719139209|tw17322993690383425693|tw16271942955250651161|tw63384330774751820|tw16399854700359764101|tw383047896990131767|tw7452597069458362238|tw12871835920524930294|tw3078241618300999936|tw7674867549055749660|tw16350039976077277261|tw15506775287759704546|tw11512990953701455937|tw16775017917507927788|tw16022291151706454333|tw3642209811783823290|tw12559668751870010886|tw9335480281791551516|tw13623480737455347568|tw6249205908744855173|tw10330291283568272080|tw187349243657514572|tw18410160181550935721|tw5127669442625332363|tw9174780758660641441|tw14797269005837323478|tw5949373416446669526|tw18310360958251683860|tw10936178923440428717|tw10848660185356909857|tw17890039597002399139|tw2983010667233996660|tw9288583395958115540|tw1709823633007757860|tw8461980191122992792|tw6984548390170653643|tw3079352511408872110|tw7823647048811650918|tw44245226123043050|tw13509410942416266861|tw14818436166146993203|tw12617670264627968289|tw12150932329632856868|tw6493673569669250370|tw5846892531657363649|tw10895860707135023414|tw6677983806856892103|tw7123050993694218647|tw1644333869668151010|tw11990452889781796185|tw17234606662280573767|tw6951197171014262514|tw14529727834783416926|tw8498557201771061106|tw11754486726290536062|tw15147231398979798046|tw15901653649903482202|tw14590619458194064988|tw8134006450440995999|tw14989225879457535754|tw7984006286376855405|tw6502480073259101432|tw16713587702445631649|tw16553751212954899452|tw462991378849519155|tw13997836187831962356|tw1078567139570171518|tw14670924365640346223|tw1094915812630581257|tw18381843684437280793|tw15733548248073621359|tw3695890432742839618|tw16767619134515422449|tw270230397182511473|tw11884732676894460589|tw7107028313327123053|tw1162319402406649236
section
open PySem PySem.W PyProof.Rows
/-! The head comes first, while memory is free: what is left of the law behind it is the package's own proposition, and the package says that it is enough. -/
local macro_rules
  | `(tactic| refine $t) => do
    let u ← t.raw.replaceM fun s => pure (if s.isOfKind ``Lean.Parser.Term.syntheticHole && s[1].getId.eraseMacroScopes == `hc then some (Lean.mkIdent `hP) else none)
    if u == t.raw then Lean.Macro.throwUnsupported else `(tactic| refine $(⟨u⟩))
set_option maxHeartbeats 0 in
noncomputable def K32Head : { P : Prop // P → PySem.Challenge.rw_leastblame_k32_known_chances.Holds } := by
  apply Subtype.mk
  intro hP
  w_on; o_law; k_head; (case hw => w_witness2)
end

open Array renaming getElem?_eq_getElem→aS,getD_eq_getD_getElem?→bW,length_toList→cH,getElem?_toList→eK,getElem?_eq_none→ng,getElem_toList→pV
open Bool renaming and_eq_true→ag,false_ne_true→aH,false_eq_true→aY,or_eq_true→cz,not_eq_true'→aF,eq_iff_iff→jD,false_and→pT,and_false→pU,or_true→uh,or_false→D7
open Int renaming toNat_natCast→cU,fdiv_eq_ediv_of_nonneg→eJ,fmod_eq_emod_of_nonneg→km,emod_lt_of_pos→tD,emod_nonneg→y9
open List renaming size_toArray→az,mem_append_right→aD,not_mem_nil→aE,mem_cons_of_mem→aJ,map_cons→aM,length_map→aP,mem_cons_self→aR,mem_cons→aV,getElem?_append_left→ba,replicate→bg,length_cons→aN,getElem?_eq_getElem→bB,length_append→bE,mem_of_getElem?→bH,append_nil→bN,getElem?_map→bS,drop_eq_getElem_cons→bU,map_nil→bV,mem_append_left→cm,lookup→cw,contains_cons→cM,lookup_cons→cP,length_nil→cY,any_cons→cX,range→di,getElem?_set_self→dj,getElem?_append_right→dm,getD_eq_getElem?_getD→dr,replicate_succ→d6,sum_cons→ez,nodup_nil→eI,length_take→fm,drop_length→fq,take_of_length_le→fJ,getElem?_set→fU,flatten_cons→fV,length_set→gM,find?_cons→gN,prefix_append→gX,getElem?_replicate→hU,map_map→iI,eraseIdxIfInBounds_toArray→iP,length_drop→jf,getElem?_set_ne→ji,filterMap_cons→jF,getElem?_take→kl,length_range→kM,filter_cons→mr,cons_append→mw,sum_nil→nc,prefix_rfl→ni,length_replicate→oB,getElem?_eq_none→oC,getElem?_of_mem→pS,lookup_append→tz,append_assoc→ug,all_eq_true→xi,of_mem_zip→y4,map_append→y6,forIn_cons→y8,forIn_nil→Bg,all_cons→D5
open Nat renaming le_refl→aw,le_of_ble_eq_true→aG,lt_of_lt_of_le→aO,ne_of_lt→aT,lt_irrefl→bw,zero_le→bG,gcd→bL,le_trans→b8,lt_succ_self→cF,lt_succ_of_lt→cS,le_succ→cT,div_eq_of_eq_mul_right→dh,mul_pos→bx,mul_one→dC,ne_of_gt→d9,le_of_dvd→dM,lt_trans→eh,lt_of_le_of_lt→fG,le_of_lt→fH,gcd_dvd_right→fT,mul_lt_mul_of_lt_of_lt→gj,gcd_pos_of_pos_right→gH,add_mul→hJ,not_lt_zero→jC,coprime_div_gcd_div_gcd→jT,le_add_right→mo,gcd_dvd_left→mq,div_le_self→y3
open Option renaming map_some→cy,bind_some→je,getD_none→mn,isSome_map→uf
open PyProof renaming noPylong_small→iH
open PyProof.Rows renaming Call_→qQ,assignInOrder_cons→tu,Subscript_→tw,tail_any→Bb,boot_range→Bf,Constant_none→D6
open PySem renaming Value→af,wpAny_bind→aa,Shared→ah,wpAny_pure→ak,wpAny→aq,sizeLine→au,Program→aI,starEach→ay,Around→br,FuncData→aK,World→aZ,wpAny_mono→aX,mainGlobals→a8,wpAny_holding→a9,compareOp→bc,wpAny_newObj_type→bC,wpAny_Call_Name_kw→bM,sizeLine_eq→bT,wpAny_field→bX,wpAny_callSpecial?_slot→cb,wpAny_standAt→cg,wpAny_call_entry→cj,wpAny_truthy_bool→cC,cellsFrom→bj,wpAny_comprehension_free→cW,wpAny_setField→dg,codeAny_mono→dJ,wpAny_loadPart_at→dQ,wpAny_call→dX,codeAny_builtin→dY,mem_of_lookup→dZ,tupleKind_room_in1→eG,wpAny_specialOf→eQ,wpAny_attempt→eV,wpAny_seqItems→fj,call_meetsIn→fF,wpAny_updateSeq→fM,wpAny_passesOwn→fN,builtinLookup_eq_fast→fR,wpAny_setState_of→fS,wpAny_rule→gc,codeAny_call_builtin→gf,wpAny_typeOf→gu,wpAny_setEntries_of→gD,plainId_quiet→gG,wpAny_pyIter_tuple→gU,call_meets→gW,wpAny_pyIter_list→iF,wpAny_Call_method→iG,plainObj_wpAny_Assign_Attribute→iO,wpAny_askSetting→i9,typeLookup_type→jA,codeAny_of_tree→jB,wpAny_isSubtype_exc→jE,wpAny_loadPart→ki,repr_of_reads'→kj,wpAny_pyIter_enum→kJ,wpAny_of_eq→kK,wpAny_isInstance→mj,wpAny_nextOf_list_item→m8,codeAny_loop→m9,wpAny_execs_nil→nh,wpAny_noted→pP,wpAny_loadName_local→pQ,wpAny_fieldsOf→pR,wpAny_loadName_cell→qw,wpAny_Name→tm,wpAny_assign_Name→uc,fits_of_scanBound→ue,wpAny_pyIter_zip→w9,wpAny_madeBy_exc→xa,wpAny_lookBehind→xb,pastItsLine_dict→xg,noFill_tuple_add→xh,wpAny_BinOp→xj,wpAny_loadPart'→y1,wpAny_load→A8,wpAny_listPart→A9,wpAny_Compare1→Ba,isSubtype_stop→Bc,fitsIndex_both→Bd,wpAny_handled→D1,seq_tuple_add→D2,rangeSize_one→D3,intBits_le_64→D4
open PySem.Around renaming under_plainId→c7
open PySem.Calls renaming spliced_cons→cD,callWith_builtin→cQ,spliced_nil→dw,evalArgs_plain→dO
open PySem.Code renaming quiet_builtin→gZ
open PySem.F renaming slot_tuple_iterator_next→gm,plain_extend_loop→gE,slot_zip_next→nj
open PySem.Heap renaming get?_push_of_some→aj,lt_size→ax,get?_push_size→aB,get?_update_self→bt,size_push→bI,get?_update_other→bK
open PySem.Obj renaming data_mapFields→cL,isFreed_of_fields→cV
open PySem.PyData renaming noDict_hsm→kL
open PySem.W renaming looks_findIn→gx,kia_tup→jS,mg_of→ud,fd_plain→Be
namespace L2
open PySem PySem.Spec PyProof.Rows
abbrev Key:=Sum Int Str
def sx:Key->af->Bool
 |.inl k,v=>Value.isInt k v
 |.inr x,v=>Value.isStrOf x v
def Vu (w:aZ):Key->Int
 |.inl k=>hashInt k
 |.inr x=>hashStr w x
theorem eB:∀{k:Key}{v:af},sx k v=true->(∃i t,k=Sum.inl i/\v=Value.int i t)\/(∃x t,k=Sum.inr x/\v=Value.str x t)
 |.inl i,v,h=>by
  obtain⟨t,e⟩:=Value.isInt_shape (k:=i) (v:=v) h;exact .inl ⟨i,t,rfl,e⟩
 |.inr x,v,h=>by
  obtain⟨t,e⟩:=Value.isStrOf_shape (x:=x) (v:=v) h;exact .inr ⟨x,t,rfl,e⟩
theorem Dr (i:Int)(t:Tok):sx (.inl i) (.int i t)=true:=by simp[sx,Value.isInt]
theorem pA (x:Str)(t:Tok):sx (.inr x) (.str x t)=true:=by simp[sx,Value.isStrOf]
theorem OA (a b:Int):decide ((Sum.inl a:Key)=Sum.inl b)=(a==b):=by
 by_cases e:a=b
 ·subst e;simp
 ·have h:¬(Sum.inl a:Key)=Sum.inl b:=λq=>e (Sum.inl.inj q);rw[decide_eq_false h];exact(beq_eq_false_iff_ne.mpr e).symm
theorem Ow (a b:Str):decide ((Sum.inr a:Key)=Sum.inr b)=decide (a=b):=by
 by_cases e:a=b
 ·subst e;simp
 ·have h:¬(Sum.inr a:Key)=Sum.inr b:=λq=>e (Sum.inr.inj q);rw[decide_eq_false h,decide_eq_false e]
theorem Oy (a:Int)(b:Str):decide ((Sum.inl a:Key)=Sum.inr b)=false:=decide_eq_false (λq=>nomatch q)
theorem Ox (a:Str)(b:Int):decide ((Sum.inr a:Key)=Sum.inl b)=false:=decide_eq_false (λq=>nomatch q)
def bZ (prog:aI)(w:aZ):PySem.KeyKind prog w Key where
 is:=sx
 hash:=Vu w
 inj:=λv a b ha hb=>by
  rcases eB ha with ⟨i,t,rfl,rfl⟩|⟨x,t,rfl,rfl⟩
  ·rcases eB hb with ⟨j,u,rfl,e⟩|⟨y,u,rfl,e⟩
   ·injection e with e1 _;rw[e1]
   ·exact nomatch e
  ·rcases eB hb with ⟨j,u,rfl,e⟩|⟨y,u,rfl,e⟩
   ·exact nomatch e
   ·injection e with e1 _;rw[e1]
 byValue:=λk v h=>by
  rcases eB h with ⟨i,t,rfl,rfl⟩|⟨x,t,rfl,rfl⟩<;>rfl
 pyHash:=λhv h=>by
  rcases eB hv with ⟨i,t,rfl,rfl⟩|⟨x,t,rfl,rfl⟩
  ·exact wpAny_pyHash_int h
  ·exact wpAny_pyHash_str h
 eqBool:=λhu hv h=>by
  rcases eB hu with ⟨i,t,rfl,rfl⟩|⟨x,t,rfl,rfl⟩
  ·rcases eB hv with ⟨j,u,rfl,rfl⟩|⟨y,u,rfl,rfl⟩
   ·rw[OA]at h;exact wpAny_eqBool_int h
   ·rw[Oy]at h;exact SeqAt.EqAt.int_str i t y u _ _ _ _ h
  ·rcases eB hv with ⟨j,u,rfl,rfl⟩|⟨y,u,rfl,rfl⟩
   ·rw[Ox]at h;exact SeqAt.EqAt.str_int x t j u _ _ _ _ h
   ·rw[Ow]at h;exact wpAny_eqBool_str h
 «strs»:=λk x t v h=>by
  rcases eB h with ⟨i,u,rfl,e⟩|⟨y,u,rfl,e⟩
  ·exact nomatch e
  ·injection e with e1 _
   subst e1;cases v<;>rfl
theorem yf (prog:aI)(w:aZ)(i:Int)(t:Tok):(bZ prog w).is (.inl i) (.int i t)=true:=Dr i t
theorem ye (prog:aI)(w:aZ)(x:Str)(t:Tok):(bZ prog w).is (.inr x) (.str x t)=true:=pA x t
inductive V where
 |WN |bl (b:Bool)|int (i:Int)|str (x:Str)|byt (b:Array UInt8)|flt (b:UInt64)|ref (a:Addr)|ty (n:String)
 deriving DecidableEq
def RelV:V->af->Prop
 |.WN,u=>u=Value.none
 |.bl b,u=>u=Value.bool b
 |.int i,u=>∃t,u=Value.int i t
 |.str x,u=>∃t,u=Value.str x t
 |.byt b,u=>∃t,u=Value.bytes b t
 |.flt b,u=>∃t,u=Value.float b t
 |.ref a,u=>u=Value.ref a
 |.ty n,u=>u=Value.type n
abbrev bA:List V->List af->Prop:=Paired RelV
theorem bA.length {xs:List V}{us:List af}(r:bA xs us):xs.length=us.length:=Paired.length r
theorem bA.get:∀{xs:List V}{us:List af}{i:Nat}{x:V},bA xs us->xs[i]?=some x->∃u,us[i]?=some u/\RelV x u
 |_,_,_,_,.nil,e=>by simp at e
 |_,_,0,_,.cons r _,e=>by simp at e;subst e;exact⟨_,rfl,r⟩
 |_,_,i+1,x,.cons _ t,e=>by
  obtain⟨u,h1,h2⟩:=bA.get (i:=i) (x:=x) t (by simpa using e);exact⟨u,by simpa using h1,h2⟩
theorem bA.set {x:V}{u:af}(r:RelV x u):∀{xs:List V}{us:List af}(i:Nat),bA xs us->bA (xs.set i x) (us.set i u)
 |_,_,_,.nil=>.nil
 |_,_,0,.cons _ t=>.cons r t
 |_,_,i+1,.cons q t=>.cons q (bA.set r i t)
theorem bA.append:∀{xs ys:List V}{us ws:List af},bA xs us->bA ys ws->bA (xs++ys) (us++ws)
 |_,_,_,_,.nil,s=>s
 |_,_,_,_,.cons r t,s=>.cons r (bA.append t s)
theorem bA.take:∀{xs:List V}{us:List af}(n:Nat),bA xs us->bA (xs.take n) (us.take n)
 |_,_,0,_=>.nil
 |_,_,_+1,.nil=>.nil
 |_,_,n+1,.cons r t=>.cons r (bA.take n t)
theorem bA.drop:∀{xs:List V}{us:List af}(n:Nat),bA xs us->bA (xs.drop n) (us.drop n)
 |_,_,0,r=>r
 |_,_,_+1,.nil=>.nil
 |_,_,n+1,.cons _ t=>bA.drop n t
def gr:Option V->Option af->Prop
 |some v,some u=>RelV v u
 |none,none=>True
 |_,_=>False
def KV {κ:Type}:List (κ×V)->List (κ×af)->Prop:=Paired λ(p:κ×V)(q:κ×af)=>p.1=q.1/\RelV p.2 q.2
def kV:Key->V
 |.inl i=>.int i
 |.inr x=>.str x
inductive HO where
 |lst (xs:List V)
 |tup (xs:List V)
 |dK (kvs:List (Key×V))|dT (kvs:List (List Key×V))
 |set (S:Int->Bool) (n:Nat)
 |ins (C dx:Addr) (fs:List (Str×V))
 |own (x:Addr)
 |xd (fs:List (Str×V))
 |met (f x:Addr)
 |rng (lo hi:Int)
 |frz (o:Obj) (u:HO)
 |tbl (ps:Array af)
 |ext (φ:Heap->Prop)
abbrev Hp:=Addr->Option HO
def upd (H:Hp)(a:Addr)(o:HO):Hp:=λb=>if b=a then some o else H b
theorem bu {H:Hp}{a:Addr}{o:HO}:upd H a o a=some o:=by unfold upd;rw[if_pos rfl]
theorem aQ {H:Hp}{a b:Addr}{o:HO}(h:b≠a):upd H a o b=H b:=by unfold upd;rw[if_neg h]
theorem mE {H:Hp}{a b:Addr}{o u:HO}(h:H a=some o)(h':H b=some u)(d:o≠u):a≠b:=by
 intro e;subst e;rw[h]at h';exact d (Option.some.inj h')
theorem bh {H:Hp}{a b:Addr}{o:HO}(h:H a=some o)(h':H b=none):a≠b:=by
 intro e;subst e;rw[h]at h';cases h'
section
variable (P:aI)(w:aZ)
def bJ (H:Hp)(h:Heap)(a:Addr):HO->Prop
 |.lst xs=>xs.length<=au/\∃(its:List af)(n:Nat),bA xs its/\h.get? a=some { cls:=.type "list",data:=.seq its.toArray n }
 |.tup xs=>xs.length<=au/\∃its:List af,bA xs its/\IsTup h a its.toArray
 |.dK kvs=>kvs.length<=au/\(a==sysModules)=false/\∃vs,KV kvs vs/\h.DictOf (bZ P w) a vs
 |.dT kvs=>kvs.length<=au/\(a==sysModules)=false/\∃xs:List (List Key×Addr×af),
   Paired (λ(p:List Key×V)(q:List Key×Addr×af)=>p.1=q.1/\H q.2.1=some (.tup (p.1.map kV))/\RelV p.2 q.2.2) kvs xs/\
   ∃o es ep,h.get? a=some o/\o.ExactDict/\o.data=.dict es ep/\es.toList=xs.map (entryOfKey (tupleKind (bZ P w)))/\(xs.map (·.1)).Nodup
 |.set S n=>h.SetOf (intKind P w) a S n
 |.ins C dx fs=>H dx=some (.own a)/\fs.length<=1000/\dx≠a/\h.get? a=some (PySem.W.instObj C dx)/\
   ∃mA,h.Ns1 dx mA/\(∀f,gr (fs.lookup f) (mA f))/\PySem.Within mA (fs.map (·.1))
 |.own _=>∃o,h.get? a=some o
 |.xd fs=>∃mA,h.Ns1 a mA/\∀f,gr (fs.lookup f) (mA f)
 |.rng lo hi=>∃t u v,h.get? a=some { cls:=.type "range",data:=.fields #[.int lo t,.int hi u,.int 1 v] }
 |.frz o u=>h.get? a=some o/\bJ H h a u
 |.tbl ps=>h.get? a=some { cls:=.none,data:=.fields ps }
 |.met f x=>h.get? a=some (PySem.W.methodObj (.ref f) (.ref x))
 |.ext φ=>φ h/\(∃o,h.get? a=some o)/\∀h1 h2:Heap,φ h1->(∀o,h1.get? a=some o->h2.get? a=some o)->φ h2
def Xo (H:Hp)(h:Heap):Prop:=∀a o,H a=some o->bJ P w H h a o
end
section
variable {P:aI}{w:aZ}{H H':Hp}{h h':Heap}{a:Addr}{o:HO}
theorem bJ.lt (x:bJ P w H h a o):a<h.objs.size:=by
 cases o with
 |lst xs=>obtain⟨_,_,_,_,e⟩:=x;exact ax e
 |tup xs=>obtain⟨_,_,_,p⟩:=x;exact p.lt
 |dK kvs=>obtain⟨_,_,_,_,o,_,_,e,_⟩:=x;exact ax e
 |dT kvs=>obtain⟨_,_,_,_,o,_,_,e,_⟩:=x;exact ax e
 |set S n=>obtain⟨o,_,_,_,e,_⟩:=x;exact ax e
 |ins C dx fs=>obtain⟨_,_,_,e,_⟩:=x;exact ax e
 |own y=>obtain⟨_,e⟩:=x;exact ax e
 |xd fs=>obtain⟨_,⟨_,_,_,e,_⟩,_⟩:=x;exact ax e
 |rng lo hi=>obtain⟨_,_,_,e⟩:=x;exact ax e
 |frz ob u=>obtain⟨e,_⟩:=x;exact ax e
 |tbl ps=>exact ax (show h.get? a=some _ from x)
 |met f y=>exact ax (show h.get? a=some _ from x)
 |ext φ=>obtain⟨_,⟨_,e⟩,_⟩:=x;exact ax e
theorem Paired.Kv {α β:Type}{F G:α->β->Prop}:∀{l₁:List α}{l₂:List β},Paired F l₁ l₂->(∀a b,F a b->G a b)->Paired G l₁ l₂
 |_,_,.nil,_=>.nil
 |_,_,.cons r t,f=>.cons (f _ _ r) (Paired.Kv t f)
theorem bJ.kQ (x:bJ P w H h a o)(k:∀b u,(b=a\/H b=some (.own a))->h.get? b=some u->h'.get? b=some u)
  (ho:∀b,H b=some (.own a)->H' b=some (.own a)) (ht:∀b xs,H b=some (.tup xs)->H' b=some (.tup xs)):bJ P w H' h' a o:=by
 induction o with
 |lst xs=>obtain⟨z,its,n,r,e⟩:=x;exact⟨z,its,n,r,k _ _ (.inl rfl) e⟩
 |tup xs=>obtain⟨z,its,r,ob,e,c⟩:=x;exact⟨z,its,r,ob,k _ _ (.inl rfl) e,c⟩
 |dK kvs=>obtain⟨z,y,vs,r,ob,es,ep,e,c⟩:=x;exact⟨z,y,vs,r,ob,es,ep,k _ _ (.inl rfl) e,c⟩
 |dT kvs=>
  obtain⟨z,y,xs,r,ob,es,ep,e,c⟩:=x;exact⟨z,y,xs,Paired.Kv r λp q z=>⟨z.1,ht _ _ z.2.1,z.2.2⟩,ob,es,ep,k _ _ (.inl rfl) e,c⟩
 |set S n=>obtain⟨ob,es,ep,t,e,c⟩:=x;exact⟨ob,es,ep,t,k _ _ (.inl rfl) e,c⟩
 |ins C dx fs=>
  obtain⟨d,z,ne,e,mA,⟨od,es,ep,e2,c⟩,r⟩:=x;exact⟨ho _ d,z,ne,k _ _ (.inl rfl) e,mA,⟨od,es,ep,k _ _ (.inr d) e2,c⟩,r⟩
 |own y=>obtain⟨ob,e⟩:=x;exact⟨ob,k _ _ (.inl rfl) e⟩
 |xd fs=>obtain⟨mA,⟨od,es,ep,e,c⟩,r⟩:=x;exact⟨mA,⟨od,es,ep,k _ _ (.inl rfl) e,c⟩,r⟩
 |rng lo hi=>obtain⟨t,u,v,e⟩:=x;exact⟨t,u,v,k _ _ (.inl rfl) e⟩
 |frz ob u ih=>obtain⟨e,q⟩:=x;exact⟨k _ _ (.inl rfl) e,ih q⟩
 |tbl ps=>
  have e:h.get? a=some { cls:=.none,data:=.fields ps }:=x;show h'.get? a=some { cls:=.none,data:=.fields ps };exact k a _ (.inl rfl) e
 |met f y=>
  have e:h.get? a=some (PySem.W.methodObj (.ref f) (.ref y)):=x;show h'.get? a=some (PySem.W.methodObj (.ref f) (.ref y));exact k a _ (.inl rfl) e
 |ext φ=>obtain⟨p,⟨o,e⟩,st⟩:=x;exact⟨st _ _ p λo q=>k _ _ (.inl rfl) q,⟨o,k _ _ (.inl rfl) e⟩,st⟩
theorem Xo.lt (x:Xo P w H h)(e:H a=some o):a<h.objs.size:=(x a o e).lt
theorem Xo.fresh (x:Xo P w H h)(e:h.objs.size<=a):H a=none:=by
 cases q:H a with
 |none=>rfl
 |some u=>exact absurd (aO (x.lt q) e) (bw _)
theorem Xo.kept (x:Xo P w H h)(k:∀b u,h.get? b=some u->h'.get? b=some u):Xo P w H h':=λa o e=>
 (x a o e).kQ (λb u _ q=>k b u q) (λ_ q=>q) λ_ _ q=>q
theorem Xo.laid (x:Xo P w H h)(k:∀b u,h.get? b=some u->h'.get? b=some u)(hp:h.objs.size<=a)(new:bJ P w (upd H a o) h' a o):Xo P w (upd H a o) h':=λb u e=>by
 have hn:=x.fresh hp
 by_cases hb:b=a
 ·subst hb;rw[bu]at e;cases e;exact new
 ·rw[aQ hb]at e;exact(x b u e).kQ (λc v _ q=>k c v q) (λc q=>by rw[aQ (bh q hn)];exact q) λc xs q=>by rw[aQ (bh q hn)];exact q
end
def Rd (H:Hp)(a:Addr)(u:HO):Prop:=H a=some u\/∃o,H a=some (.frz o u)
theorem Rd.of {H:Hp}{a:Addr}{u:HO}(h:H a=some u):Rd H a u:=.inl h
theorem Rd.ok {P:aI}{w:aZ}{H:Hp}{h:Heap}{a:Addr}{u:HO}(r:Rd H a u)(x:Xo P w H h):bJ P w H h a u:=by
 rcases r with r |⟨o,r⟩
 ·exact x a u r
 ·obtain⟨_,q⟩:=x a _ r;exact q
def Mut:Option HO->Prop
 |some (.lst _)=>True
 |some (.dK _)=>True
 |some (.dT _)=>True
 |some (.set _ _)=>True
 |some (.ins _ _ _)=>True
 |some (.ext _)=>True
 |_=>False
section
variable {P:aI}{w:aZ}{H:Hp}{h h':Heap}{x e:Addr}{o':HO}
theorem Xo.write (ok:Xo P w H h)(mu:Mut (H x))(he:e=x\/H e=some (.own x))(k:∀b u,b≠e->h.get? b=some u->h'.get? b=some u)(heo:∃u,h'.get? e=some u)
  (new:bJ P w (upd H x o') h' x o'):Xo P w (upd H x o') h':=λb u q=>by
 have nown:∀c y,H c=some (.own y)->c≠x:=λc y r z=>by subst z;rw[r]at mu;exact mu
 have ntup:∀c xs,H c=some (.tup xs)->c≠x:=λc xs r z=>by subst z;rw[r]at mu;exact mu
 by_cases hb:b=x
 ·subst hb;rw[bu]at q;cases q;exact new
 ·rw[aQ hb]at q
  by_cases hbe:b=e
  ·have q':H b=some (.own x):=by
    rcases he with z |z
    ·exact absurd (hbe.trans z) hb
    ·rw[hbe];exact z
   rw[q]at q';cases q';obtain⟨v,hv⟩:=heo;exact⟨v,by rw[hbe];exact hv⟩
  ·refine(ok b u q).kQ (λc v hc r=>k c v ?_ r) (λc r=>by rw[aQ (nown c b r)];exact r) λc xs r=>by rw[aQ (ntup c xs r)];exact r
   rcases hc with rfl|hc
   ·exact hbe
   ·rintro rfl;rcases he with z |z
    ·exact nown c b hc z
    ·rw[hc]at z;cases z;exact hb rfl
end
structure Un (fs ex:List Addr)(H H':Hp)(h h':Heap):Prop where
 keep:∀b o,h.get? b=some o->H b=none->b∉fs->b∉ex->h'.get? b=some o
 slot:∀b o,h.get? b=some o->H b=none->b∈fs->b∉ex->∃sl,h'.get? b=some { o with slots:=sl }
 free:∀b o,h.get? b=some o->H b=none->b∉ex->H' b=none
 there:∀b o,h.get? b=some o->b∉ex->∃o',h'.get? b=some o'
 Xt:∀b xs,H b=some (.tup xs)->H' b=some (.tup xs)
 Xp:∀b o u,H b=some (.frz o u)->H' b=some (.frz o u)
 Xu:∀b ps,H b=some (.tbl ps)->∃more,H' b=some (.tbl (ps++more))
section
variable {fs fs' ex ex':List Addr}{H H1 H2:Hp}{h h1 h2 h':Heap}{a x e:Addr}{o:HO}
theorem Un.any (u:Un fs ex H H1 h h1){b:Addr}{ob:Obj}(q:h.get? b=some ob)(n:H b=none)(hx:b∉ex):∃sl,h1.get? b=some { ob with slots:=sl }:=by
 by_cases hb:b∈fs
 ·exact u.slot b ob q n hb hx
 ·exact⟨ob.slots,u.keep b ob q n hb hx⟩
theorem Un.kept (k:∀b u,h.get? b=some u->h'.get? b=some u):Un fs ex H H h h':=
 ⟨λb ob q _ _ _=>k b ob q,λb ob q _ _ _=>⟨ob.slots,k b ob q⟩,λ_ _ _ n _=>n,λb ob q _=>⟨ob,k b ob q⟩,λ_ _ q=>q,λ_ _ _ q=>q,λ_ ps q=>⟨#[],by rw[q];simp⟩⟩
theorem Un.refl:Un fs ex H H h h:=Un.kept λ_ _ q=>q
theorem Un.laid (k:∀b u,h.get? b=some u->h'.get? b=some u)(hp:h.objs.size<=a)(hn:H a=none):Un fs ex H (upd H a o) h h' where
 keep:=λb u q _ _ _=>k b u q
 slot:=λb u q _ _ _=>⟨u.slots,k b u q⟩
 free:=λb u q n _=>by rw[aQ (aT (aO (ax q) hp))];exact n
 there:=λb u q _=>⟨u,k b u q⟩
 Xt:=λb xs q=>by rw[aQ (bh q hn)];exact q
 Xp:=λb u xs q=>by rw[aQ (bh q hn)];exact q
 Xu:=λb ps q=>⟨#[],by rw[aQ (bh q hn),q];simp⟩
theorem Un.write (mu:Mut (H x))(he:e=x\/H e=some (.own x))(k:∀b u,b≠e->h.get? b=some u->h'.get? b=some u)(heo:∃u,h'.get? e=some u):Un fs ex H (upd H x o) h h':=by
 have hx:∀b,H b=none->b≠x:=λb n z=>by subst z;rw[n]at mu;exact mu
 have hb:∀b,H b=none->b≠e:=λb n z=>by
  subst z;rcases he with r |r
  ·exact hx b n r
  ·rw[n]at r;cases r
 have hm:∀b u,H b=some u->¬Mut (some u)->b≠x:=λb u q nm z=>by subst z;rw[q]at mu;exact nm mu
 refine⟨λb u q n _ _=>k b u (hb b n) q,λb u q n _ _=>⟨u.slots,k b u (hb b n) q⟩,λb u q n _=>by rw[aQ (hx b n)];exact n,λb u q _=>?_,
  λb xs q=>by rw[aQ (hm b _ q λz=>z)];exact q,λb u xs q=>by rw[aQ (hm b _ q λz=>z)];exact q,λb ps q=>⟨#[],by rw[aQ (hm b _ q λz=>z),q];simp⟩⟩
 by_cases hbe:b=e
 ·subst hbe;exact heo
 ·exact⟨u,k b u hbe q⟩
end
def trk (h:Heap)(H:Hp):List Addr:=(di h.objs.size).filter λa=>(H a).isSome
def wH (h:Heap)(H:Hp):Heap:=PySem.W.hideAll h (trk h H)
theorem Dy (h:Heap)(H:Hp):(wH h H).objs.size=h.objs.size:=PySem.W.hideAll_size _ _
theorem Hn {h:Heap}{H:Hp}{b:Addr}{o:Obj}(e:h.get? b=some o)(n:H b=none):(wH h H).get? b=some o:=
 PySem.W.hideAll_get _ e λhm=>by
  have q:(H b).isSome=true:=(List.mem_filter.mp hm).2;rw[n]at q;simp at q
theorem Kq {h:Heap}{H:Hp}{b:Addr}{o:Obj}(e:(wH h H).get? b=some o):h.get? b=some o/\H b=none:=by
 have e':h.get? b=some o:=PySem.W.of_hideAll (trk h H) e;refine⟨e',?_⟩;cases q:H b with
 |none=>rfl
 |some x=>
  have hm:b∈trk h H:=List.mem_filter.mpr ⟨List.mem_range.mpr (ax e'),by simp[q]⟩;have z:(wH h H).get? b=none:=PySem.W.hideAll_none (trk h H) hm;rw[z]at e;cases e
structure Mod (K:PySem.W.Frag)(mg:Str->Option af)(base:Heap):Prop where
 kin:K.In base
 glob:base.Ns a8 mg
 blt:∃mb,base.Ns builtinsNs mb/\∀x:Str,x≠"__name__"->mb x=bootBuiltins x
 nolimit:base.NoLimit
structure Cx where
 prog:aI
 w:aZ
 K:PySem.W.Frag
 mg:Str->Option af
 base:Heap
 A:br
 N:List Str
 s₀:ah
 H₀:Hp
 env:Env
 outer:List Env
 stack:List Env
 ex:List Addr
 fn:Str->Bool
 calm:Bool
 pn:List (Addr×Obj)
 xe:af->ah->Prop
def frs (l:List Env):List Addr:=l.filterMap (·.frame)
abbrev Cx.fs (X:Cx):List Addr:=frs X.outer
def Vis (sc:Scope)(x:Str):Prop:=sc.names.lookup x=some .local\/sc.names.lookup x=some .cell\/sc.names.lookup x=some .free
def Loc (sc:Scope)(x:Str):Prop:=sc.names.lookup x=some .local\/sc.names.lookup x=some .cell
def Look (env:Env)(h:Heap)(m:Str->Option af)(x:Str)(u:af):Prop:=
 (env.kindOf x=some .local/\m x=some u)\/((env.kindOf x=some .cell\/env.kindOf x=some .free)/\∃c,env.cells.lookup x=some c/\h.IsCell c (some u))
structure Cx.Ok (X:Cx):Prop where
 mod:Mod X.K X.mg X.base
 kind:X.env.scope.kind=.function
 glob:X.env.globals=a8
 blt:X.env.builtins=builtinsNs
 above:X.s₀.heap.objs.size<=X.env.locals
 inj:∀x y c,X.env.cells.lookup x=some c->X.env.cells.lookup y=some c->x=y
 has:∀x,(X.env.kindOf x=some .cell\/X.env.kindOf x=some .free)->∃c,X.env.cells.lookup x=some c
 cab:∀x c,X.fn x=true->X.env.cells.lookup x=some c->X.s₀.heap.objs.size<=c
 hd:X.calm=true->X.A.handled=none
 frames:X.A.frames=some X.stack
 stk:X.stack=X.outer\/(X.stack=X.env::X.outer/\X.env.frame=some X.env.locals)
 exf:∀b∈X.ex,b≠X.env.locals/\∀x c,X.env.cells.lookup x=some c->c≠b
 bs:∀b o,X.base.get? b=some o->X.s₀.heap.get? b=some o/\X.H₀ b=none
 bsz:X.base.objs.size<=X.s₀.heap.objs.size
 ae5:∀b o,X.base.get? b=some o->b∉X.ex
 ae6:∀b∈X.ex,b∉X.fs
 kF:X.s₀.heap.FunFrames X.base X.outer
 frf:∀b∈X.fs,X.H₀ b=none
structure Inv (X:Cx)(pins:List (Addr×Obj))(σ:List (Option V))(H:Hp)(s:ah):Prop where
 ok:X.Ok
 os:s.os=X.s₀.os
 bare:AllBare s.gens
 base:Un X.fs X.ex X.H₀ H X.s₀.heap s.heap
 loc:∃m,s.heap.Ns X.env.locals m/\∀(i:Nat)(x:Str)(v:V),X.N[i]?=some x->σ[i]?=some (some v)->Vis X.env.scope x->∃u,RelV v u/\Look X.env s.heap m x u
 cell:∀x c,X.env.cells.lookup x=some c->∃v,s.heap.IsCell c v
 free:H X.env.locals=none
 W6:∀x c,X.env.cells.lookup x=some c->H c=none
 pin:∀p∈X.pn++pins,s.heap.get? p.1=some p.2/\H p.1=none/\p.1≠X.env.locals/\p.1∉X.fs/\∀v,p.2.data≠.cell v
 WJ:Xo X.prog X.w H s.heap
 len:σ.length=X.N.length
section
variable {X:Cx}{pins:List (Addr×Obj)}{σ:List (Option V)}{H H':Hp}{s:ah}{h':Heap}
theorem Cx.Ok.Vj (ok:X.Ok){b:Addr}{o:Obj}(e:X.base.get? b=some o):b∉X.fs:=λhb=>by
 have:=(ok.kF.mem hb).1;rw[e]at this;cases this
theorem Inv.bs (I:Inv X pins σ H s):∀b o,X.base.get? b=some o->s.heap.get? b=some o/\H b=none:=λb o e=>
 ⟨I.base.keep b o (I.ok.bs b o e).1 (I.ok.bs b o e).2 (I.ok.Vj e) (I.ok.ae5 b o e),I.base.free b o (I.ok.bs b o e).1 (I.ok.bs b o e).2 (I.ok.ae5 b o e)⟩
theorem Inv.bk (I:Inv X pins σ H s):∀b o,X.base.get? b=some o->s.heap.get? b=some o:=λb o e=>(I.bs b o e).1
theorem Inv.mod (I:Inv X pins σ H s):Mod X.K X.mg X.base:=I.ok.mod
theorem Inv.W5 (I:Inv X pins σ H s):X.K.In s.heap:=I.ok.mod.kin.keeps I.bk
theorem Inv.lt (I:Inv X pins σ H s):X.env.locals<s.heap.objs.size:=let ⟨_,hn,_⟩:=I.loc;hn.lt
theorem Inv.sz (I:Inv X pins σ H s):X.s₀.heap.objs.size<=s.heap.objs.size:=b8 I.ok.above (fH I.lt)
theorem Inv.Vi (I:Inv X pins σ H s){a:Addr}(h:s.heap.objs.size<=a):a∉X.fs:=λhb=>by
 obtain⟨_,o,ho,_⟩:=I.ok.kF.mem hb;exact absurd (aO (ax ho) (b8 I.sz h)) (bw _)
theorem Inv.cne (I:Inv X pins σ H s):∀x c,X.env.cells.lookup x=some c->c≠X.env.locals:=λx c e z=>by
 obtain⟨v,o,ho,hd⟩:=I.cell x c e;obtain⟨m,⟨o',es,ep,ho',hd',_⟩,_⟩:=I.loc;rw[z,ho']at ho;cases ho;rw[hd']at hd;cases hd
theorem Inv.kF (I:Inv X pins σ H s):s.heap.FunFrames X.base X.outer:=by
 have all:∀(l:List Env),(∀b∈frs l,b∈X.fs)->X.s₀.heap.FunFrames X.base l->s.heap.FunFrames X.base l:=by
  intro l
  induction l with
  |nil=>intro _ _;trivial
  |cons env r ih=>
   intro hs hl;obtain⟨hk,⟨L,o,hf,hn,ho,hd⟩,hr⟩:=hl;have hL:L∈X.fs:=hs L (by unfold frs;rw[jF,hf];exact aR);obtain⟨sl,e⟩:=I.base.slot L o ho (I.ok.frf L hL) hL λz=>I.ok.ae6 L z hL;exact⟨hk,⟨L,_,hf,hn,e,hd⟩,ih (λb hb=>hs b (by unfold frs;rw[jF,hf];exact aJ _ hb)) hr⟩
 exact all X.outer (λ_ hb=>hb) I.ok.kF
theorem Inv.stack (I:Inv X pins σ H s):s.heap.FunFrames X.base X.stack:=by
 rcases I.ok.stk with e |⟨e,hf⟩
 ·rw[e];exact I.kF
 ·rw[e];obtain⟨m,hn,_⟩:=I.loc;refine .cons (by rw[I.ok.kind];decide) hf hn ?_ I.kF;exact Heap.get?_none_of_le (b8 I.ok.bsz I.ok.above)
theorem Inv.rh (I:Inv X pins σ H s):∀b∈frs X.stack,b∈X.env.locals::X.fs:=λb hb=>by
 rcases I.ok.stk with e |⟨e,hf⟩
 ·rw[e]at hb;exact aJ _ hb
 ·rw[e]at hb;unfold frs at hb;rw[jF,hf]at hb;exact hb
theorem Inv.vG (I:Inv X pins σ H s):∀b∈frs X.stack,H b=none:=λb hb=>by
 rcases List.mem_cons.mp (I.rh b hb) with e |hb
 ·rw[e];exact I.free
 ·obtain⟨_,o,ho,_⟩:=I.ok.kF.mem hb;exact I.base.free b o ho (I.ok.frf b hb) λz=>I.ok.ae6 b z hb
theorem Inv.step {g':Array GenState}{t':Nat}{d':Drawn}{ch:List Addr}(I:Inv X pins σ H s)
  (hch:∀b∈ch,(b∈X.ex\/X.s₀.heap.objs.size<=b)/\b≠X.env.locals/\(∀x c,X.env.cells.lookup x=some c->c≠b)/\∀p∈X.pn++pins,p.1≠b)
  (keep:∀b o,b≠X.env.locals->b∉X.fs->b∉ch->s.heap.get? b=some o->H b=none->h'.get? b=some o)
  (slot:∀b o,b≠X.env.locals->b∈X.fs->b∉ch->s.heap.get? b=some o->H b=none->∃sl,h'.get? b=some { o with slots:=sl }) (free:∀b o,b∉ch->s.heap.get? b=some o->H b=none->H' b=none)
  (there:∀b o,b∉ch->s.heap.get? b=some o->∃o',h'.get? b=some o')
  (Xt:∀b xs,H b=some (.tup xs)->H' b=some (.tup xs)) (Xp:∀b o u,H b=some (.frz o u)->H' b=some (.frz o u)) (Xu:∀b ps,H b=some (.tbl ps)->∃more,H' b=some (.tbl (ps++more)))
  (ns:∀m,s.heap.Ns X.env.locals m->h'.Ns X.env.locals m) (WJ:Xo X.prog X.w H' h') (hg:AllBare g'):
  Inv X pins σ H' { s with heap:=h',gens:=g',drawn:=d',toks:=t' }:=by
 have neL:∀b o,X.s₀.heap.get? b=some o->b≠X.env.locals:=λb o e=>aT (aO (ax e) I.ok.above);have neC:∀b o,X.s₀.heap.get? b=some o->b∉X.ex->b∉ch:=λb o e hx hb=>by
  rcases(hch b hb).1 with z |z
  ·exact hx z
  ·exact absurd (aO (ax e) z) (bw _)
 have cellK:∀x c,X.env.cells.lookup x=some c->∀v,s.heap.IsCell c v->h'.IsCell c v:=λx c e v ⟨o,ho,hd⟩=>by
  have nch:c∉ch:=λz=>(hch c z).2.2.1 x c e rfl
  by_cases hc:c∈X.fs
  ·obtain⟨sl,q⟩:=slot c o (I.cne x c e) hc nch ho (I.W6 x c e);exact⟨_,q,hd⟩
  ·exact⟨o,keep c o (I.cne x c e) hc nch ho (I.W6 x c e),hd⟩
 refine⟨I.ok,I.os,hg,⟨λb o e n hb hx=>?_,λb o e n hb hx=>?_,λb o e n hx=>?_,λb o e hx=>?_,λb xs e=>Xt b xs (I.base.Xt b xs e),λb o xs e=>Xp b o xs (I.base.Xp b o xs e),λb ps e=>?_⟩,?_,λx c e=>?_,?_,λx c e=>?_,λp hp=>?_,WJ,I.len⟩
 ·exact keep b o (neL b o e) hb (neC b o e hx) (I.base.keep b o e n hb hx) (I.base.free b o e n hx)
 ·obtain⟨sl,e1⟩:=I.base.slot b o e n hb hx;obtain⟨sl',e2⟩:=slot b _ (neL b o e) hb (neC b o e hx) e1 (I.base.free b o e n hx);exact⟨sl',e2⟩
 ·obtain⟨o',e1⟩:=I.base.there b o e hx;exact free b o' (neC b o e hx) e1 (I.base.free b o e n hx)
 ·obtain⟨o',e1⟩:=I.base.there b o e hx;exact there b o' (neC b o e hx) e1
 ·obtain⟨m1,e1⟩:=I.base.Xu b ps e;obtain⟨m2,e2⟩:=Xu b _ e1;exact⟨m1++m2,by rw[e2,Array.append_assoc]⟩
 ·obtain⟨m,hn,hl⟩:=I.loc;refine⟨m,ns m hn,λi x v e1 e2 e3=>?_⟩;obtain⟨u,r,l⟩:=hl i x v e1 e2 e3;refine⟨u,r,?_⟩;rcases l with l |⟨k,c,e,z⟩
  ·exact .inl l
  ·exact .inr ⟨k,c,e,cellK x c e _ z⟩
 ·obtain⟨v,z⟩:=I.cell x c e;exact⟨v,cellK x c e v z⟩
 ·obtain⟨m,⟨o,_,_,ho,_⟩,_⟩:=I.loc;exact free _ o (λz=>(hch _ z).2.1 rfl) ho I.free
 ·obtain⟨v,o,ho,hd⟩:=I.cell x c e;exact free c o (λz=>(hch c z).2.2.1 x c e rfl) ho (I.W6 x c e)
 ·obtain⟨e,n,ne,nf,d⟩:=I.pin p hp;have nch:p.1∉ch:=λz=>(hch p.1 z).2.2.2 p hp rfl;exact⟨keep p.1 p.2 ne nf nch e n,free p.1 p.2 nch e n,ne,nf,d⟩
theorem Inv.un {t':Nat}(I:Inv X pins σ H s)(u:Un X.fs [] H H' s.heap h')(WJ:Xo X.prog X.w H' h'):Inv X pins σ H' { s with heap:=h',toks:=t' }:=by
 obtain⟨m,⟨o,es,ep,ho,r⟩,_⟩:=id I.loc;obtain⟨sl,hL⟩:=u.any ho I.free (by simp);exact I.step (g':=s.gens) (d':=s.drawn) (ch:=[]) (λ_ z=>nomatch z) (λb o _ hb _ e n=>u.keep b o e n hb (by simp)) (λb o _ hb _ e n=>u.slot b o e n hb (by simp)) (λb o _ e n=>u.free b o e n (by simp)) (λb o _ e=>u.there b o e (by simp)) u.Xt u.Xp u.Xu (λm' hm=>by
  obtain⟨o',es',ep',ho',r'⟩:=hm;rw[ho]at ho';cases ho';exact⟨_,es',ep',hL,r'⟩) WJ I.bare
theorem Inv.call {g':Array GenState}{t':Nat}{d':Drawn}{ch:List Addr}(I:Inv X pins σ H s)(u:Un (frs X.stack) ch H H' s.heap h')(WJ:Xo X.prog X.w H' h')(hg:AllBare g')
  (hch:∀b∈ch,(b∈X.ex\/X.s₀.heap.objs.size<=b)/\b≠X.env.locals/\(∀x c,X.env.cells.lookup x=some c->c≠b)/\∀p∈X.pn++pins,p.1≠b):
  Inv X pins σ H' { s with heap:=h',gens:=g',drawn:=d',toks:=t' }:=by
 obtain⟨m,⟨o,es,ep,ho,r⟩,_⟩:=id I.loc;obtain⟨sl,hL⟩:=u.any ho I.free λz=>(hch _ z).2.1 rfl;exact I.step (ch:=ch) hch (λb o hL hb hc e n=>u.keep b o e n (λz=>(List.mem_cons.mp (I.rh b z)).elim hL hb) hc) (λb o _ _ hc e n=>u.any e n hc) (λb o hc e n=>u.free b o e n hc) (λb o hc e=>u.there b o e hc) u.Xt u.Xp u.Xu (λm' hm=>by
  obtain⟨o',es',ep',ho',r'⟩:=hm;rw[ho]at ho';cases ho';exact⟨_,es',ep',hL,r'⟩) WJ hg
theorem Inv.turned {t':Nat}{it:Addr}(I:Inv X pins σ H s)(k:∀b o,b≠it->s.heap.get? b=some o->h'.get? b=some o)(hn:H it=none)(hL:it≠X.env.locals)
  (h1:it∈X.ex\/X.s₀.heap.objs.size<=it) (h2:∀x c,X.env.cells.lookup x=some c->c≠it) (h3:∀p∈X.pn++pins,p.1≠it):Inv X pins σ H { s with heap:=h',toks:=t' }:=by
 have nit:∀b u,H b=some u->b≠it:=λb u e z=>by rw[z,hn]at e;cases e
 refine I.step (g':=s.gens) (d':=s.drawn) (ch:=[it]) (λb hb=>?_) (λb o _ _ hc e _=>k b o (λz=>hc (by simp[z])) e) (λb o _ _ hc e _=>⟨o.slots,k b o (λz=>hc (by simp[z])) e⟩) (λ_ _ _ _ n=>n)
  (λb o hc e=>⟨o,k b o (λz=>hc (by simp[z])) e⟩) (λ_ _ e=>e) (λ_ _ _ e=>e) (λb ps e=>⟨#[],by rw[e];simp⟩) (λm hm=>?_) (λb u e=>?_) I.bare
 ·have e:b=it:=by simpa using hb
  subst e;exact⟨h1,hL,h2,h3⟩
 ·obtain⟨o,es,ep,ho,r⟩:=hm;exact⟨o,es,ep,k _ o (Ne.symm hL) ho,r⟩
 ·refine(I.WJ b u e).kQ (λc v hc q=>k c v ?_ q) (λ_ q=>q) λ_ _ q=>q;rcases hc with z |z
  ·rw[z];exact nit b u e
  ·exact nit c _ z
theorem Inv.tok (I:Inv X pins σ H s)(t:Nat):Inv X pins σ H { s with toks:=t }:=I.un (h':=s.heap) (t':=t) Un.refl I.WJ
theorem Inv.kept {t':Nat}(I:Inv X pins σ H s)(k:∀b u,s.heap.get? b=some u->h'.get? b=some u):Inv X pins σ H { s with heap:=h',toks:=t' }:=I.un (Un.kept k) (I.WJ.kept k)
theorem Inv.laid {a:Addr}{o:HO}{t':Nat}(I:Inv X pins σ H s)(k:∀b u,s.heap.get? b=some u->h'.get? b=some u)(hp:s.heap.objs.size<=a)(new:bJ X.prog X.w (upd H a o) h' a o):
  Inv X pins σ (upd H a o) { s with heap:=h',toks:=t' }:=I.un (Un.laid k hp (I.WJ.fresh hp)) (I.WJ.laid k hp new)
theorem Inv.write {x e:Addr}{o:HO}{t':Nat}(I:Inv X pins σ H s)(mu:Mut (H x))(he:e=x\/H e=some (.own x))(k:∀b u,b≠e->s.heap.get? b=some u->h'.get? b=some u)(heo:∃u,h'.get? e=some u)
  (new:bJ X.prog X.w (upd H x o) h' x o):Inv X pins σ (upd H x o) { s with heap:=h',toks:=t' }:=I.un (Un.write mu he k heo) (I.WJ.write mu he k heo new)
theorem Inv.BH {av2:List (Addr×Obj)}(I:Inv X pins σ H s)(h:∀p∈av2,s.heap.get? p.1=some p.2/\H p.1=none/\p.1≠X.env.locals/\p.1∉X.fs/\∀v,p.2.data≠.cell v):Inv X av2 σ H s:=
 ⟨I.ok,I.os,I.bare,I.base,I.loc,I.cell,I.free,I.W6,λp hp=>(List.mem_append.mp hp).elim (λz=>I.pin p (cm _ z)) (h p),I.WJ,I.len⟩
theorem rP {N:List Str}(hN:N.Nodup){i j:Nat}{x:Str}(a:N[i]?=some x)(b:N[j]?=some x):i=j:=by
 obtain⟨h1,e1⟩:=List.getElem?_eq_some_iff.mp a;obtain⟨h2,e2⟩:=List.getElem?_eq_some_iff.mp b;exact(List.getElem_inj hN).mp (e1.trans e2.symm)
theorem oJ {M:Model}{A:br}{E:af->ah->Prop}{i:Nat}{x:Str}{v:V}{u:af}{Q:Unit->ah->Prop}(I:Inv X pins σ H s)(hN:X.N.Nodup)(hi:X.N[i]?=some x)(hx:Loc X.env.scope x)(r:RelV v u)
  (h:∀s',Inv X pins (σ.set i (some v)) H s'->(∃a,Heap.SameBut a s.heap s'.heap/\(a=X.env.locals\/X.env.cells.lookup x=some a))->Q () s') (hf:X.fn x=true\/X.env.scope.names.lookup x=some .local:=by first |exact .inl rfl|exact .inr rfl|assumption):aq M A (storeName X.env x u) Q E s:=by
 obtain⟨m,hn,hl⟩:=id I.loc;have ax1:(X.env.scope.kind==.class||(X.env.scope.kind==.module&&X.env.locals != X.env.globals))=false:=by rw[I.ok.kind];rfl
 have hiσ:i<σ.length:=by rw[I.len];exact(List.getElem?_eq_some_iff.mp hi).1
 have cne:=I.cne;have tracked:∀{a:Addr}{h':Heap},(∃o,s.heap.get? a=some o/\H a=none)->Heap.SameBut a s.heap h'->Xo X.prog X.w H h':=λ{a h'} ha hs b ob e=>by
  obtain⟨_,_,ad0⟩:=ha;refine(I.WJ b ob e).kQ (λc w' hc q=>(hs.2 c ?_).trans q) (λ_ q=>q) λ_ _ q=>q;rintro rfl;rcases hc with rfl|hc
  ·rw[ad0]at e;cases e
  ·rw[ad0]at hc;cases hc
 rcases hx with hk |hk
 ·refine wpAny_storeName_local hk hn (λh' hn' hs=>?_) ax1;obtain⟨oL,_,_,hoL,_⟩:=id hn;refine h _ ⟨I.ok,I.os,I.bare,⟨λb o e n hb hx=>?_,λb o e n hb hx=>?_,I.base.free,λb o e hx=>?_,I.base.Xt,I.base.Xp,I.base.Xu⟩,⟨_,hn',λj y v' e1 e2 e3=>?_⟩,λy c e=>?_,I.free,I.W6,λp hp=>?_,tracked ⟨oL,hoL,I.free⟩ hs,by simpa using I.len⟩ ⟨_,hs,.inl rfl⟩
  ·exact(hs.2 b (aT (aO (ax e) I.ok.above))).trans (I.base.keep b o e n hb hx)
  ·obtain⟨sl,e1⟩:=I.base.slot b o e n hb hx;exact⟨sl,(hs.2 b (aT (aO (ax e) I.ok.above))).trans e1⟩
  ·obtain⟨o',e1⟩:=I.base.there b o e hx;exact⟨o',(hs.2 b (aT (aO (ax e) I.ok.above))).trans e1⟩
  ·by_cases hj:j=i
   ·subst hj;rw[hi]at e1;cases e1;rw[dj hiσ]at e2;cases e2;exact⟨u,r,.inl ⟨hk,by simp⟩⟩
   ·rw[ji (Ne.symm hj)]at e2;obtain⟨u',r',q⟩:=hl j y v' e1 e2 e3;refine⟨u',r',?_⟩;rcases q with ⟨k,e⟩|⟨k,c,e,z⟩
    ·refine .inl ⟨k,?_⟩;have:y≠x:=λe=>hj (rP hN e1 (e ▸ hi));simp[this,e]
    ·exact .inr ⟨k,c,e,z.sameBut hs (cne y c e)⟩
  ·obtain⟨w',z⟩:=I.cell y c e;exact⟨w',z.sameBut hs (cne y c e)⟩
  ·obtain⟨e,n,ne,nf,d⟩:=I.pin p hp;exact⟨(hs.2 p.1 ne).trans e,n,ne,nf,d⟩
 ·have hfn:X.fn x=true:=by
   rcases hf with z |z
   ·exact z
   ·rw[z]at hk;cases hk
  obtain⟨c,hc⟩:=I.ok.has x (.inl hk);obtain⟨w',z⟩:=I.cell x c hc;refine wpAny_storeName_cell I.ok.kind hk hc z (λh' hc' hs=>?_);obtain⟨oc,hoc,hocd⟩:=id z;refine h { s with heap:=h' } ⟨I.ok,I.os,I.bare,⟨λb o e n hb hx=>?_,λb o e n hb hx=>?_,I.base.free,λb o e hx=>?_,I.base.Xt,I.base.Xp,I.base.Xu⟩,⟨m,hn.sameBut hs (Ne.symm (cne x c hc)),λj y v' e1 e2 e3=>?_⟩,λy c' e=>?_,I.free,I.W6,λp hp=>?_,tracked ⟨oc,hoc,I.W6 x c hc⟩ hs,by simpa using I.len⟩ ⟨c,hs,.inr hc⟩
  ·exact(hs.2 b (aT (aO (ax e) (I.ok.cab x c hfn hc)))).trans (I.base.keep b o e n hb hx)
  ·obtain⟨sl,e1⟩:=I.base.slot b o e n hb hx;exact⟨sl,(hs.2 b (aT (aO (ax e) (I.ok.cab x c hfn hc)))).trans e1⟩
  ·obtain⟨o',e1⟩:=I.base.there b o e hx;exact⟨o',(hs.2 b (aT (aO (ax e) (I.ok.cab x c hfn hc)))).trans e1⟩
  ·by_cases hj:j=i
   ·subst hj;rw[hi]at e1;cases e1;rw[dj hiσ]at e2;cases e2;exact⟨u,r,.inr ⟨.inl hk,c,hc,hc'⟩⟩
   ·rw[ji (Ne.symm hj)]at e2;obtain⟨u',r',q⟩:=hl j y v' e1 e2 e3;refine⟨u',r',?_⟩;rcases q with q |⟨k,c',e,z'⟩
    ·exact .inl q
    ·refine .inr ⟨k,c',e,z'.sameBut hs ?_⟩;rintro rfl;exact hj (rP hN e1 (I.ok.inj _ _ _ e hc ▸ hi))
  ·by_cases hcc:c'=c
   ·subst hcc;exact⟨_,hc'⟩
   ·obtain⟨w2,z2⟩:=I.cell y c' e;exact⟨w2,z2.sameBut hs hcc⟩
  ·obtain⟨e,n,ne,nf,d⟩:=I.pin p hp;refine⟨(hs.2 p.1 ?_).trans e,n,ne,nf,d⟩;intro q;rw[q,hoc]at e;have q':oc=p.2:=Option.some.inj e;exact d w' (by rw[←q'];exact hocd)
theorem jG {M:Model}{A:br}{E:af->ah->Prop}{i:Nat}{x:Str}{v:V}{u:af}{Q:Unit->ah->Prop}(I:Inv X pins σ H s)(hN:X.N.Nodup)(hi:X.N[i]?=some x)(hx:Loc X.env.scope x)(r:RelV v u)
  (h:∀s',Inv X pins (σ.set i (some v)) H s'->Q () s') (hf:X.fn x=true\/X.env.scope.names.lookup x=some .local:=by first |exact .inl rfl|exact .inr rfl|assumption):aq M A (storeName X.env x u) Q E s:=
 oJ I hN hi hx r (λs' I' _=>h s' I') hf
theorem Inv.Mn {s':ah}{ch:List Addr}(I:Inv X pins σ H s)(ho:s'.os=s.os)(u:Un (frs X.stack) ch H H' s.heap s'.heap)(WJ:Xo X.prog X.w H' s'.heap)(hg:AllBare s'.gens)
  (hch:∀b∈ch,(b∈X.ex\/X.s₀.heap.objs.size<=b)/\b≠X.env.locals/\(∀x c,X.env.cells.lookup x=some c->c≠b)/\∀p∈X.pn++pins,p.1≠b):Inv X pins σ H' s':=by
 obtain⟨h',g',d',t',o'⟩:=s';have e:o'=s.os:=ho;subst e;exact I.call (g':=g') (t':=t') (d':=d') u WJ hg hch
end
abbrev XK:=af->Option Addr->Hp->Prop
abbrev St:=List (Option V)
abbrev VK:=V->Hp->Prop
abbrev TE:=St->Hp->VK->Prop
abbrev TT:=St->Hp->(Bool->Hp->Prop)->Prop
abbrev TA:=St->Hp->(List V->Hp->Prop)->Prop
structure Ends where
 nx:St->Hp->Prop
 rt:VK
 bk:St->Hp->Prop:=λ_ _=>False
 ct:St->Hp->Prop:=λ_ _=>False
abbrev TS:=Ends->St->Hp->Prop
def EP (X:Cx)(pins:List (Addr×Obj))(σ:St)(Q:VK)(u:af)(s':ah):Prop:=∃v H',Inv X pins σ H' s'/\RelV v u/\Q v H'
def TP (X:Cx)(pins:List (Addr×Obj))(σ:St)(Q:Bool->Hp->Prop)(b:Bool)(s':ah):Prop:=∃H',Inv X pins σ H' s'/\Q b H'
def AP (X:Cx)(pins:List (Addr×Obj))(σ:St)(Q:List V->Hp->Prop)(us:List af)(s':ah):Prop:=∃vs H',Inv X pins σ H' s'/\bA vs us/\Q vs H'
def SP (X:Cx)(pins:List (Addr×Obj))(D:Ends)(f:Flow)(s':ah):Prop:=
 match f with
 |.next=>∃σ' H',Inv X pins σ' H' s'/\D.nx σ' H'
 |.brk=>∃σ' H',Inv X pins σ' H' s'/\D.bk σ' H'
 |.cont=>∃σ' H',Inv X pins σ' H' s'/\D.ct σ' H'
 |.ret u=>∃v σ' H',Inv X pins σ' H' s'/\RelV v u/\D.rt v H'
def PE (X:Cx)(e:Expr)(t:TE):Prop:=
 ∀(pins:List (Addr×Obj))(s:ah)(σ:St)(H:Hp)(Q:VK),Inv X pins σ H s->t σ H Q->aq (model X.prog X.w) X.A (eval e X.env) (EP X pins σ Q) X.xe s
def PT (X:Cx)(e:Expr)(t:TT):Prop:=
 ∀(pins:List (Addr×Obj))(s:ah)(σ:St)(H:Hp)(Q:Bool->Hp->Prop),Inv X pins σ H s->t σ H Q->aq (model X.prog X.w) X.A (isTrue e X.env (eval e X.env)) (TP X pins σ Q) X.xe s
def PW (X:Cx)(e:Expr)(t:TT):Prop:=
 ∀(whole:Sem af)(pins:List (Addr×Obj))(s:ah)(σ:St)(H:Hp)(Q:Bool->Hp->Prop),Inv X pins σ H s->t σ H Q->aq (model X.prog X.w) X.A (isTrue e X.env whole) (TP X pins σ Q) X.xe s
theorem PW.pt {X:Cx}{e:Expr}{t:TT}(h:PW X e t):PT X e t:=h _
def PA (X:Cx)(es:List Expr)(t:TA):Prop:=
 ∀(pos:Pos)(pins:List (Addr×Obj))(s:ah)(σ:St)(H:Hp)(Q:List V->Hp->Prop),Inv X pins σ H s->t σ H Q->aq (model X.prog X.w) X.A (spliced (backTo pos (ay es X.env))) (AP X pins σ Q) X.xe s
def PS (X:Cx)(st:Stmt)(t:TS):Prop:=
 ∀(pins:List (Addr×Obj))(s:ah)(σ:St)(H:Hp)(D:Ends),Inv X pins σ H s->t D σ H->aq (model X.prog X.w) X.A (exec st X.env) (SP X pins D) X.xe s
def PSs (X:Cx)(st:List Stmt)(t:TS):Prop:=
 ∀(pins:List (Addr×Obj))(s:ah)(σ:St)(H:Hp)(D:Ends),Inv X pins σ H s->t D σ H->aq (model X.prog X.w) X.A (execs st X.env) (SP X pins D) X.xe s
theorem WL {α:Type}{t:Sem α}{Q Q':α->ah->Prop}{M:Model}{A:br}{E:af->ah->Prop}{s:ah}(h:aq M A t Q E s)(hQ:∀a s,Q a s->Q' a s):aq M A t Q' E s:=aX h hQ λ_ _ x=>x
section
variable {X:Cx}
theorem bin {a b:Expr}{ta tb:TE}(ha:PE X a ta)(hb:PE X b tb){pins:List (Addr×Obj)}{s:ah}{σ:St}{H:Hp}{R:V->V->Hp->Prop}(I:Inv X pins σ H s)(h:ta σ H λx H1=>tb σ H1 λy H2=>R x y H2)
  {α:Type} {Q:α->ah->Prop} {f:af->af->Sem α}
  (hf:∀v u s2 x y H2,Inv X pins σ H2 s2->RelV x v->RelV y u->R x y H2->aq (model X.prog X.w) X.A (f v u) Q X.xe s2):
  aq (model X.prog X.w) X.A (eval a X.env) (λv s₁=>aq (model X.prog X.w) X.A (eval b X.env) (λu s₂=>aq (model X.prog X.w) X.A (f v u) Q X.xe s₂) X.xe s₁) X.xe s:=by
 refine WL (ha pins s σ H _ I h) λv s1 zq=>?_;obtain⟨x,H1,I1,r1,q1⟩:=zq;refine WL (hb pins s1 σ H1 _ I1 q1) λu s2 zq=>?_;obtain⟨y,H2,I2,r2,q2⟩:=zq;exact hf v u s2 x y H2 I2 r1 r2 q2
def I9 (i:Nat):TE:=λσ H Q=>∃v,σ[i]?=some (some v)/\Q v H
def tC (v:V):TE:=λ_ H Q=>Q v H
theorem Gm {i:Nat}{x:Str}{pos:Pos}(hN:X.N[i]?=some x)(hv:Vis X.env.scope x)(hd:(x==("__debug__":Str))=false:=by decide)(hcd:(x==("__classdict__":Str))=false:=by decide):PE X (.Name x pos) (I9 i):=by
 intro pins s σ H Q I h;obtain⟨v,e,h⟩:=h;obtain⟨m,hn,hl⟩:=I.loc;obtain⟨u,r,l⟩:=hl i x v hN e hv;have fin:EP X pins σ Q u s:=⟨v,H,I,r,h⟩;rcases l with ⟨hk,hm⟩|⟨hk,c,hc,XO⟩
 ·exact tm (pQ I.ok.kind hk hn hm fin) hd
 ·rcases hk with hk |hk
  ·exact tm (qw I.ok.kind hk hc XO fin) hd
  ·exact tm (wpAny_loadName_free I.ok.kind hk hc XO fin hcd) hd
theorem Gw {i j pos}:PE X (.Constant (.int i) j pos) (tC (.int i)):=λ_ _ _ H _ I h=>wpAny_Constant_int ⟨.int i,H,I.tok _,⟨_,rfl⟩,h⟩
theorem Q9 {b j pos}:PE X (.Constant (.bool b) j pos) (tC (.bl b)):=λ_ _ _ H _ I h=>Constant_bool ⟨.bl b,H,I,rfl,h⟩
theorem NW {j pos}:PE X (.Constant .none j pos) (tC .WN):=λ_ _ _ H _ I h=>D6 ⟨.WN,H,I,rfl,h⟩
theorem NU {x j pos}:PE X (.Constant (.str x) j pos) (tC (.str x)):=λ_ _ _ H _ I h=>Calls.Constant_str ⟨.str x,H,I.tok _,⟨_,rfl⟩,h⟩
def Gl (X:Cx)(x:Str):Prop:=X.env.kindOf x=some .globalImplicit
theorem fK {E:af->ah->Prop}{pins:List (Addr×Obj)}{s:ah}{σ:St}{H:Hp}{x:Str}{u:af}{pos:Pos}{Q:af->ah->Prop}(I:Inv X pins σ H s)(hg:Gl X x)(hm:X.mg x=some u)(h:Q u s)
  (hd:(x==("__debug__":Str))=false:=by decide):aq (model X.prog X.w) X.A (eval (.Name x pos) X.env) Q E s:=
 Calls.Name_function_global I.ok.kind hg (Calls.loadGlobal_global (by rw[I.ok.glob];exact I.mod.glob.keeps I.bk) hm h) hd
theorem fB {E:af->ah->Prop}{pins:List (Addr×Obj)}{s:ah}{σ:St}{H:Hp}{x:Str}{u:af}{pos:Pos}{Q:af->ah->Prop}(I:Inv X pins σ H s)(hg:Gl X x)(hm:X.mg x=none)(hv:bootBuiltins x=some u)(h:Q u s)
  (hn:x≠"__name__":=by decide) (hd:(x==("__debug__":Str))=false:=by decide):aq (model X.prog X.w) X.A (eval (.Name x pos) X.env) Q E s:=by
 obtain⟨mb,h1,h2⟩:=I.mod.blt;exact Calls.Name_function_global I.ok.kind hg (Calls.loadGlobal_builtin (by rw[I.ok.glob];exact I.mod.glob.keeps I.bk) hm (by rw[I.ok.blt];exact h1.keeps I.bk) ((h2 x hn).trans hv) h) hd
theorem nL {x:Str}{v:V}{u:af}{pos:Pos}(hg:Gl X x)(hm:X.mg x=some u)(r:RelV v u)(hd:(x==("__debug__":Str))=false:=by decide):PE X (.Name x pos) (tC v):=
 λ_ _ _ H _ I h=>fK I hg hm ⟨v,H,I,r,h⟩ hd
theorem qC {x:Str}{v:V}{u:af}{pos:Pos}(hg:Gl X x)(hm:X.mg x=none)(hv:bootBuiltins x=some u)(r:RelV v u)(hn:x≠"__name__":=by decide)(hd:(x==("__debug__":Str))=false:=by decide):PE X (.Name x pos) (tC v):=
 λ_ _ _ H _ I h=>fB I hg hm hv ⟨v,H,I,r,h⟩ hn hd
variable {a b:Expr}{ta tb:TE}{pos:Pos}
def tB (t:TE):TT:=λσ H Q=>t σ H λx H1=>∃c,x=.bl c/\Q c H1
variable {tA tB':TT}{rest:List Expr}
def MV (t u:TT):TT:=λσ H Q=>t σ H λc H1=>if c=true then u σ H1 Q else Q false H1
def tOr (t u:TT):TT:=λσ H Q=>t σ H λc H1=>if c=true then Q true H1 else u σ H1 Q
def Qd (t:TT):TT:=λσ H Q=>t σ H λc H1=>Q (!c) H1
theorem JH (ha:PT X a tA):PW X (.BoolOp .And [a] pos) tA:=by
 intro wh pins s σ H Q I h;refine isTrue_and (WL (ha pins s σ H Q I h) λc s1 e=>?_);cases c with
 |true=>exact isTrue_and_nil e
 |false=>exact e
theorem NG (ha:PT X a tA):PW X (.BoolOp .Or [a] pos) tA:=by
 intro wh pins s σ H Q I h;refine isTrue_or (WL (ha pins s σ H Q I h) λc s1 e=>?_);cases c with
 |false=>exact isTrue_or_nil e
 |true=>exact e
theorem NH (ha:PT X a tA)(hb:PW X (.BoolOp .And (b::rest) pos) tB'):PW X (.BoolOp .And (a::b::rest) pos) (MV tA tB'):=by
 intro wh pins s σ H Q I h;refine isTrue_and (WL (ha pins s σ H _ I h) λc s1 zq=>?_);obtain⟨H1,I1,q1⟩:=zq;cases c with
 |true=>exact hb wh pins s1 σ H1 Q I1 q1
 |false=>exact⟨H1,I1,q1⟩
theorem QL (ha:PT X a tA)(hb:PW X (.BoolOp .Or (b::rest) pos) tB'):PW X (.BoolOp .Or (a::b::rest) pos) (tOr tA tB'):=by
 intro wh pins s σ H Q I h;refine isTrue_or (WL (ha pins s σ H _ I h) λc s1 zq=>?_);obtain⟨H1,I1,q1⟩:=zq;cases c with
 |true=>exact⟨H1,I1,q1⟩
 |false=>exact hb wh pins s1 σ H1 Q I1 q1
theorem NJ (ha:PT X a tA):PT X (.UnaryOp .Not a pos) (Qd tA):=by
 intro pins s σ H Q I h;exact isTrue_not (ha pins s σ H (λc H1=>Q (!c) H1) I h)
def E3 (ta tb:TE):TE:=λσ H Q=>ta σ H λx H1=>∃c,x=.bl c/\if c=true then tb σ H1 Q else Q (.bl false) H1
def MF (ta tb:TE):TE:=λσ H Q=>ta σ H λx H1=>∃c,x=.bl c/\if c=true then Q (.bl true) H1 else tb σ H1 Q
def Lm (ta:TE):TE:=λσ H Q=>ta σ H λx H1=>∃c,x=.bl c/\Q (.bl (!c)) H1
theorem Gr {op}{t:TE}(h:PE X a t):PE X (.BoolOp op [a] pos) t:=λpins s σ H Q I hw=>BoolOp_one (h pins s σ H Q I hw)
theorem NZ (ha:PE X a ta)(hb:PE X (.BoolOp .And (b::rest) pos) tb):PE X (.BoolOp .And (a::b::rest) pos) (E3 ta tb):=by
 intro pins s σ H Q I h;refine BoolOp_and (WL (ha pins s σ H _ I h) λv s1 zq=>?_);obtain⟨x,H1,I1,r1,q1⟩:=zq;obtain⟨c,rfl,q1⟩:=q1;cases r1;refine cC ?_;cases c with
 |true=>exact hb pins s1 σ H1 Q I1 q1
 |false=>exact⟨.bl false,H1,I1,rfl,q1⟩
theorem QS (ha:PE X a ta)(hb:PE X (.BoolOp .Or (b::rest) pos) tb):PE X (.BoolOp .Or (a::b::rest) pos) (MF ta tb):=by
 intro pins s σ H Q I h;refine BoolOp_or (WL (ha pins s σ H _ I h) λv s1 zq=>?_);obtain⟨x,H1,I1,r1,q1⟩:=zq;obtain⟨c,rfl,q1⟩:=q1;cases r1;refine cC ?_;cases c with
 |false=>exact hb pins s1 σ H1 Q I1 q1
 |true=>exact⟨.bl true,H1,I1,rfl,q1⟩
theorem NV (ha:PE X a ta):PE X (.UnaryOp .Not a pos) (Lm ta):=by
 intro pins s σ H Q I h;refine UnaryOp_ (WL (ha pins s σ H _ I h) λv s1 zq=>?_);obtain⟨x,H1,I1,r1,q1⟩:=zq;obtain⟨c,rfl,q1⟩:=q1;cases r1;exact not_of (cC ⟨.bl (!c),H1,I1,rfl,q1⟩)
def tIf (t:TT)(ta tb:TE):TE:=λσ H Q=>t σ H λc H1=>if c=true then ta σ H1 Q else tb σ H1 Q
theorem Gy {c:Expr}(hc:PT X c tA)(ha:PE X a ta)(hb:PE X b tb):PE X (.IfExp c a b pos) (tIf tA ta tb):=by
 intro pins s σ H Q I h;refine wpAny_IfExp (WL (hc pins s σ H _ I h) λd s1 zq=>?_);obtain⟨H1,I1,q1⟩:=zq;cases d with
 |true=>exact ha pins s1 σ H1 Q I1 q1
 |false=>exact hb pins s1 σ H1 Q I1 q1
end
def Xc (K:PySem.W.Frag)(H:Hp)(a:Addr)(xs:List V):Prop:=
 Rd H a (.lst xs)\/
  ∃(o:Obj)(its:Array af)(n:Nat),K.lookup a=some o/\o.cls=.type "list"/\o.dict=none/\o.data=.seq its n/\its.size<=au/\bA xs its.toList
def Xd (K:PySem.W.Frag)(H:Hp)(a:Addr)(xs:List V):Prop:=
 Rd H a (.tup xs)\/
  ∃(o:Obj)(its:Array af)(n:Nat),K.lookup a=some o/\o.cls=.type "tuple"/\o.data=.seq its n/\its.size<=au/\bA xs its.toList
def VX:af->Option V
 |.none=>some .WN
 |.bool b=>some (.bl b)
 |.int i _=>some (.int i)
 |.str x _=>some (.str x)
 |.bytes b _=>some (.byt b)
 |.float b _=>some (.flt b)
 |.ref a=>some (.ref a)
 |.type n=>some (.ty n)
 |_=>none
theorem RelV.abs {x:V}{u:af}(r:RelV x u):VX u=some x:=by
 cases x with
 |WN=>cases r;rfl
 |bl _=>cases r;rfl
 |int _=>obtain⟨t,rfl⟩:=r;rfl
 |str _=>obtain⟨t,rfl⟩:=r;rfl
 |byt _=>obtain⟨t,rfl⟩:=r;rfl
 |flt _=>obtain⟨t,rfl⟩:=r;rfl
 |ref _=>cases r;rfl
 |ty _=>cases r;rfl
theorem RelV.inj {x y:V}{u:af}(r:RelV x u)(q:RelV y u):x=y:=Option.some.inj (r.abs.symm.trans q.abs)
theorem bA.inj:∀{xs ys:List V}{us:List af},bA xs us->bA ys us->xs=ys
 |_,_,_,.nil,.nil=>rfl
 |_,_,_,.cons r t,.cons r' t'=>by rw[r.inj r',bA.inj t t']
section
variable {X:Cx}{pins:List (Addr×Obj)}{σ:St}{H:Hp}{s:ah}{a:Addr}{xs ys:List V}
theorem Xc.of {K:PySem.W.Frag}(h:H a=some (.lst xs)):Xc K H a xs:=.inl (.inl h)
theorem Xd.of {K:PySem.W.Frag}(h:H a=some (.tup xs)):Xd K H a xs:=.inl (.inl h)
theorem Inv.list (I:Inv X pins σ H s)(h:Xc X.K H a xs):∃its:List af,bA xs its/\PlainL s.heap a its.toArray/\xs.length<=au:=by
 rcases h with h |⟨o,its,n,hk,hc,hd,hs,hz,r⟩
 ·obtain⟨z,its,n,r,e⟩:=h.ok I.WJ;exact⟨its,r,⟨_,n,e,rfl,rfl,rfl⟩,z⟩
 ·refine⟨its.toList,r,⟨o,n,I.W5 a o hk,hc,hd,by simpa using hs⟩,?_⟩;have e:=r.length;simp only[cH]at e
  lia
theorem Inv.tuple (I:Inv X pins σ H s)(h:Xd X.K H a xs):∃its:List af,bA xs its/\IsTup s.heap a its.toArray/\xs.length<=au:=by
 rcases h with h |⟨o,its,n,hk,hc,hs,hz,r⟩
 ·obtain⟨z,its,r,p⟩:=h.ok I.WJ;exact⟨its,r,p,z⟩
 ·refine⟨its.toList,r,⟨o,I.W5 a o hk,hc,n,by simpa using hs⟩,?_⟩;have e:=r.length;simp only[cH]at e
  lia
theorem Inv.G4 (I:Inv X pins σ H s)(h:Xc X.K H a xs)(h':Xc X.K H a ys):xs=ys:=by
 obtain⟨its,r,⟨o,n,e,_,_,d⟩,_⟩:=I.list h;obtain⟨its',r',⟨o',n',e',_,_,d'⟩,_⟩:=I.list h';rw[e]at e';cases e';rw[d]at d';injection d' with d1 _
 have:its=its':=by simpa using congrArg Array.toList d1
 subst this;exact r.inj r'
theorem Inv.Cy (I:Inv X pins σ H s)(h:Xd X.K H a xs)(h':Xd X.K H a ys):xs=ys:=by
 obtain⟨its,r,⟨o,e,_,n,d⟩,_⟩:=I.tuple h;obtain⟨its',r',⟨o',e',_,n',d'⟩,_⟩:=I.tuple h';rw[e]at e';cases e';rw[d]at d';injection d' with d1 _
 have:its=its':=by simpa using congrArg Array.toList d1
 subst this;exact r.inj r'
end
abbrev Cx.oE (X:Cx)(E:af->ah->Prop):Cx:={ X with xe:=E }
abbrev Cx.nox (X:Cx):Cx:=X.oE λ_ _=>False
theorem Cx.Ok.oE {X:Cx}(ok:X.Ok)(E:af->ah->Prop):(X.oE E).Ok:=
 ⟨ok.mod,ok.kind,ok.glob,ok.blt,ok.above,ok.inj,ok.has,ok.cab,ok.hd,ok.frames,ok.stk,ok.exf,ok.bs,ok.bsz,ok.ae5,ok.ae6,ok.kF,ok.frf⟩
theorem Cx.Ok.jv {X:Cx}{E:af->ah->Prop}(ok:(X.oE E).Ok):X.Ok:=
 ⟨ok.mod,ok.kind,ok.glob,ok.blt,ok.above,ok.inj,ok.has,ok.cab,ok.hd,ok.frames,ok.stk,ok.exf,ok.bs,ok.bsz,ok.ae5,ok.ae6,ok.kF,ok.frf⟩
section
variable {X:Cx}{pins:List (Addr×Obj)}{σ:St}{H:Hp}{s:ah}{E:af->ah->Prop}
theorem Inv.oE (I:Inv X pins σ H s)(E:af->ah->Prop):Inv (X.oE E) pins σ H s:=⟨I.ok.oE E,I.os,I.bare,I.base,I.loc,I.cell,I.free,I.W6,I.pin,I.WJ,I.len⟩
theorem Inv.jv (I:Inv (X.oE E) pins σ H s):Inv X pins σ H s:=⟨I.ok.jv,I.os,I.bare,I.base,I.loc,I.cell,I.free,I.W6,I.pin,I.WJ,I.len⟩
theorem SP.jv {D:Ends}{f:Flow}{s':ah}(h:SP (X.oE E) pins D f s'):SP X pins D f s':=by
 cases f with
 |next=>obtain⟨σ',H',I,q⟩:=h;exact⟨σ',H',I.jv,q⟩
 |brk=>obtain⟨σ',H',I,q⟩:=h;exact⟨σ',H',I.jv,q⟩
 |cont=>obtain⟨σ',H',I,q⟩:=h;exact⟨σ',H',I.jv,q⟩
 |ret u=>obtain⟨v,σ',H',I,r,q⟩:=h;exact⟨v,σ',H',I.jv,r,q⟩
theorem PSs.nox {st:List Stmt}{t:TS}(h:PSs X.nox st t):PSs X st t:=λpins s σ H D I hw=>
 aX (h pins s σ H D (I.oE _) hw) (λ_ _ q=>q.jv) λ_ _ z=>False.elim z
end
section
variable {X:Cx}{st:Stmt}{rest:List Stmt}{t u:TS}{e:Expr}{te:TE}{pos:Pos}
def Bu:TS:=λD σ H=>D.nx σ H
def P9 (t u:TS):TS:=λD σ H=>t { D with nx:=u D } σ H
theorem JL:PSs X [] Bu:=λ_ _ σ H _ I h=>nh ⟨σ,H,I,h⟩
theorem Ga (h1:PS X st t)(h2:PSs X rest u):PSs X (st::rest) (P9 t u):=by
 intro pins s σ H D I h;refine wpAny_execs_cons (WL (h1 pins s σ H { D with nx:=u D } I h) λf s1 q=>?_);cases f with
 |next=>
  obtain⟨σ',H',I',q⟩:=q;exact h2 pins s1 σ' H' D I' q
 |ret v=>exact q
 |brk=>exact q
 |cont=>exact q
def E2:TS:=λD σ H=>D.bk σ H
def Lu:TS:=λD σ H=>D.ct σ H
theorem Inv.quiet {pins:List (Addr×Obj)}{σ:St}{H:Hp}{s:ah}(I:Inv X pins σ H s):interactive X.env=false:=by simp[interactive,I.ok.kind]
def Ls (te:TE):TS:=λD σ H=>te σ H λ_ H1=>D.nx σ H1
theorem JN (he:PE X e te)(hs:swapsWith e none pos.line X.env=pure false:=by rfl):PS X (.Expr e pos) (Ls te):=by
 intro pins s σ H D I h;exact wpAny_Expr_any (WL (he pins s σ H _ I h) λv s1 ⟨x,H1,I1,r1,q1⟩=>⟨σ,H1,I1,q1⟩) I.quiet hs
def Qa (te:TE):TS:=λD σ H=>te σ H D.rt
theorem NL (he:PE X e te):PS X (.Return (some e) pos) (Qa te):=by
 intro pins s σ H D I h;exact wpAny_Return_some (WL (he pins s σ H _ I h) λv s1 ⟨x,H1,I1,r1,q1⟩=>⟨x,σ,H1,I1,r1,q1⟩)
def Lk:TS:=λD _ H=>D.rt .WN H
def Qe (c:TT)(t u:TS):TS:=λD σ H=>c σ H λb H1=>if b=true then t D σ H1 else u D σ H1
theorem QM {c:Expr}{a b:List Stmt}{tc:TT}(hc:PT X c tc)(ha:PSs X a t)(hb:PSs X b u):PS X (.If c a b pos) (Qe tc t u):=by
 intro pins s σ H D I h;refine wpAny_If (WL (hc pins s σ H _ I h) λd s1 zq=>?_);obtain⟨H1,I1,q1⟩:=zq;cases d with
 |true=>exact ha pins s1 σ H1 D I1 q1
 |false=>exact hb pins s1 σ H1 D I1 q1
def zq:TS:=λ_ _ _=>False
theorem rG:PS X st zq:=λ_ _ _ _ _ _ h=>h.elim
end
abbrev TG:=V->St->Hp->(St->Hp->Prop)->Prop
abbrev WZ:=List V->St->Hp->(St->Hp->Prop)->Prop
def PG (X:Cx)(target:Expr)(t:TG):Prop:=
 ∀(pins:List (Addr×Obj))(s:ah)(σ:St)(H:Hp)(v:V)(u:af)(Q:St->Hp->Prop),Inv X pins σ H s->RelV v u->t v σ H Q->
  aq (model X.prog X.w) X.A (assign target X.env u) (λ_ s'=>∃σ' H',Inv X pins σ' H' s'/\Q σ' H') X.xe s
def PGs (X:Cx)(ts:List Expr)(t:WZ):Prop:=
 ∀(pins:List (Addr×Obj))(s:ah)(σ:St)(H:Hp)(vs:List V)(us:List af)(Q:St->Hp->Prop),Inv X pins σ H s->bA vs us->t vs σ H Q->
  aq (model X.prog X.w) X.A (assignInOrder ((assignEach ts X.env).map (·.2)) us) (λ_ s'=>∃σ' H',Inv X pins σ' H' s'/\Q σ' H') X.xe s
abbrev IS:=V->V->V->Hp->(Hp->Prop)->Prop
def Pa (X:Cx)(t:IS):Prop:=
 ∀(pins:List (Addr×Obj))(s:ah)(σ:St)(H:Hp)(o i v:V)(ov iv u:af)(Q:Hp->Prop),Inv X pins σ H s->RelV o ov->RelV i iv->RelV v u->t o i v H Q->
  aq (model X.prog X.w) X.A (setItem ov iv u) (λ_ s'=>∃H',Inv X pins σ H' s'/\Q H') X.xe s
abbrev TIp:=V->V->Hp->VK->Prop
def PIp (X:Cx)(op:Operator)(t:TIp):Prop:=
 ∀(pins:List (Addr×Obj))(s:ah)(σ:St)(H:Hp)(x y:V)(v u:af)(Q:VK),Inv X pins σ H s->RelV x v->RelV y u->t x y H Q->
  aq (model X.prog X.w) X.A (inplaceOp op v u) (EP X pins σ Q) X.xe s
section
variable {X:Cx}{pos:Pos}
def qd (i:Nat):TG:=λv σ H Q=>Q (σ.set i (some v)) H
theorem vS {i:Nat}{x:Str}(hN:X.N.Nodup)(hi:X.N[i]?=some x)(hx:Loc X.env.scope x)(hf:X.fn x=true\/X.env.scope.names.lookup x=some .local:=by first |exact .inl rfl|exact .inr rfl|assumption):PG X (.Name x pos) (qd i):=by
 intro pins s σ H v u Q I r h;exact uc (jG I hN hi hx r (λs' I'=>⟨_,H,I',h⟩) hf)
def RM:WZ:=λvs σ H Q=>vs=[]/\Q σ H
def Ma (t:TG)(u:WZ):WZ:=λvs σ H Q=>∃v r,vs=v::r/\t v σ H λσ' H'=>u r σ' H' Q
theorem JV:PGs X [] RM:=by
 intro pins s σ H vs us Q I r h;obtain⟨e,h⟩:=h;subst e;cases r;exact assignInOrder_nil ⟨σ,H,I,h⟩
theorem Gi {e:Expr}{es:List Expr}{t:TG}{u:WZ}(h1:PG X e t)(h2:PGs X es u)
  (hs:(assignEach (e::es) X.env).map (·.2)=assign e X.env::(assignEach es X.env).map (·.2):=by rfl):PGs X (e::es) (Ma t u):=by
 intro pins s σ H vs us Q I r h;obtain⟨v,vr,e1,h⟩:=h;subst e1;cases r with
 |cons r rr=>
  rw[hs];refine tu (WL (h1 pins s σ H _ _ _ I r h) λ_ s1 zq=>?_);obtain⟨σ1,H1,I1,q1⟩:=zq;exact h2 pins s1 σ1 H1 _ _ Q I1 rr q1
def OJ (K:PySem.W.Frag)(n:Nat)(t:WZ):TG:=λv σ H Q=>∃a xs,v=.ref a/\Xd K H a xs/\xs.length=n/\t xs σ H Q
theorem Gk {es:List Expr}{k:Nat}{t:WZ}{n:Nat}(hc:X.calm=true)(h:PGs X es t)
  (hn:(assignEach es X.env).length=n:=by rfl) (hst:(assignEach es X.env).findIdx? (·.1)=none:=by rfl):PG X (.Tuple es k pos) (OJ X.K n t):=by
 intro pins s σ H v u Q I r hw;obtain⟨a,xs,e1,hq,hl,hw⟩:=hw;subst e1;cases r;obtain⟨its,rv,ht,hz⟩:=I.tuple hq;refine assign_Tuple_tuple (I.ok.hd hc) ht (by simp[hn,←hl,rv.length]) hst λh' hx=>?_;have I1:Inv X pins σ H { s with heap:=h' }:=I.kept (t':=s.toks) λb o e=>hx b o (aT (ax e)) e;exact h pins _ σ H xs _ Q I1 (by simpa using rv) hw
def RK (to ti:TE)(t:IS):TG:=λv σ H Q=>to σ H λo H1=>ti σ H1 λi H2=>t o i v H2 λH3=>Q σ H3
theorem NT {o i:Expr}{to ti:TE}{t:IS}(ho:PE X o to)(hi:PE X i ti)(hs:Pa X t)
  (ha:∀v,assign (.Subscript o i pos) X.env v=(do
   let ov ←holding [v] (eval o X.env)
   let iv ←holding [v,ov] (eval i X.env)
   standAt pos
   holding [v,ov,iv] (setItem ov iv v)
   release [v,ov,iv] []):=by intro _;rfl):PG X (.Subscript o i pos) (RK to ti t):=by
 intro pins s σ H v u Q I r h;rw[ha];refine aa (a9 (WL (ho pins s σ H _ I h) λov s1 zq=>?_));obtain⟨x,H1,I1,r1,q1⟩:=zq;refine aa (a9 (WL (hi pins s1 σ H1 _ I1 q1) λiv s2 zq=>?_));obtain⟨y,H2,I2,r2,q2⟩:=zq;refine aa (cg (aa (a9 (WL (hs pins s2 σ H2 x y v ov iv u _ I2 r1 r2 r q2) λ_ s3 zq=>?_))));obtain⟨H3,I3,q3⟩:=zq;exact wpAny_release ⟨σ,H3,I3,q3⟩
def CA (te:TE)(g:TG):TS:=λD σ H=>te σ H λx H1=>g x σ H1 D.nx
theorem zQ {tg e:Expr}{te:TE}{g:TG}(he:PE X e te)(hg:PG X tg g)(hs:swapsWithSole [tg] e pos.line X.env=pure false:=by rfl)(hw:swappedStores [tg] e X.env=pure none:=by rfl)
  (h1:(assignEach [tg] X.env).map (·.2)=[assign tg X.env]:=by rfl):PS X (.Assign [tg] e pos) (CA te g):=by
 intro pins s σ H D I h;refine wpAny_Assign_stores (WL (he pins s σ H _ I h) λv s1 zq=>?_) hs hw;obtain⟨x,H1,I1,r1,q1⟩:=zq;rw[h1];exact WL (hg pins s1 σ H1 x v _ I1 r1 q1) λ_ s2 q=>q
def Qb (i j:Nat)(ta:TA):TS:=λD σ H=>ta σ H λvs H1=>∃v w,vs=[v,w]/\D.nx ((σ.set i (some v)).set j (some w)) H1
theorem NM {i j:Nat}{x y:Str}{a b:Expr}{ta:TA}{px py pt:Pos}{kt k2 pt2}(hc:X.calm=true)(hN:X.N.Nodup)(hi:X.N[i]?=some x)(hj:X.N[j]?=some y)(hij:i≠j)
  (hx:X.env.scope.names.lookup x=some .local) (hy:X.env.scope.names.lookup y=some .local) (ha:PA X [a,b] ta)
  (hw:swappedStores [.Tuple [.Name x px,.Name y py] kt pt] (.Tuple [a,b] k2 pt2) X.env=pure (some [x,y]))
  (hs:swapsWithSole [.Tuple [.Name x px,.Name y py] kt pt] (.Tuple [a,b] k2 pt2) pos.line X.env=pure false:=by rfl):
  PS X (.Assign [.Tuple [.Name x px,.Name y py] kt pt] (.Tuple [a,b] k2 pt2) pos) (Qb i j ta):=by
 intro pins s σ H D I h;rw[exec_Assign_arm];refine aa (cg ?_);rw[hs];refine aa (ak ?_);rw[if_neg (by decide)];refine aa (Tuple_ (WL (ha _ pins s σ H _ I h) λus s1 zq=>?_));obtain⟨vs,H1,I1,r1,q1⟩:=zq;obtain⟨v,w,e1,q1⟩:=q1;subst e1;obtain⟨u1,u2,rfl,rv,XD⟩:∃u1 u2,us=[u1,u2]/\RelV v u1/\RelV w u2:=by
  cases r1 with
  |cons p q=>
   cases q with
   |cons p' q'=>
    cases q';exact⟨_,_,rfl,p,p'⟩
 refine bC ?_ (by show 2<=au;decide);have I2:Inv X pins σ H1 { s1 with heap:=s1.heap.push { cls:=.type "tuple",data:=.seq [u1,u2].toArray } }:=I1.kept (t':=s1.toks) λb o e=>aj _ e;rw[hw];refine aa (ak ?_);show aq (model X.prog X.w) X.A (do rule "assign.swapped-stores";let items ←unpackItems (.ref s1.heap.objs.size) 2 none;assignInOrder [λv=>bindName X.env y v,λv=>bindName X.env x v] items.reverse;pure Flow.next) _ _ _;refine aa (gc (aa (unpackItems_tuple (items:=#[u1,u2]) (I.ok.hd hc) (IsTup.new s1.heap _) λh' hx'=>?_)));have I3:=I2.kept (h':=h') (t':=s1.toks) λb o e=>hx' b o (aT (ax e)) e;show aq _ _ (assignInOrder [λv=>bindName X.env y v,λv=>bindName X.env x v] [u2,u1] >>=λ_=>pure Flow.next) _ _ _;refine aa (tu (wpAny_bindName (jG I3 hN hj (.inl hy) XD (λs2 I4=>?_) (.inr hy))));refine tu (wpAny_bindName (jG I4 hN hi (.inl hx) rv (λs3 I5=>assignInOrder_nil (ak ?_)) (.inr hx)));rw[List.set_comm _ _ (Ne.symm hij)]at I5;exact⟨_,H1,I5,q1⟩
def MU (i:Nat)(te:TE)(ti:TIp):TS:=λD σ H=>∃x,σ[i]?=some (some x)/\te σ H λy H1=>ti x y H1 λz H2=>D.nx (σ.set i (some z)) H2
theorem zP {i:Nat}{x:Str}{e:Expr}{te:TE}{op:Operator}{ti:TIp}{pos':Pos}(hN:X.N.Nodup)(hi:X.N[i]?=some x)(hx:Loc X.env.scope x)(he:PE X e te)(ho:PIp X op ti)(hf:X.fn x=true\/X.env.scope.names.lookup x=some .local:=by first |exact .inl rfl|exact .inr rfl|assumption):
  PS X (.AugAssign (.Name x pos') op e pos) (MU i te ti):=by
 intro pins s σ H D I h;obtain⟨v,e1,h⟩:=h;obtain⟨m,hn,hl⟩:=I.loc;have vis:Vis X.env.scope x:=by rcases hx with k |k;exact .inl k;exact .inr (.inl k)
 obtain⟨u,r,l⟩:=hl i x v hi e1 vis;refine wpAny_AugAssign_Name ?_;have go:aq (model X.prog X.w) X.A (eval e X.env) (λw s₂=>aq (model X.prog X.w) X.A (inplaceOp op u w) (λr s₃=>aq (model X.prog X.w) X.A (storeName X.env x r) (λ_=>SP X pins D .next) X.xe s₃) X.xe s₂) X.xe s:=by
  refine WL (he pins s σ H _ I h) λw s1 zq=>?_;obtain⟨y,H1,I1,r1,q1⟩:=zq;refine WL (ho pins s1 σ H1 v y u w _ I1 r r1 q1) λz s2 zq=>?_;obtain⟨zv,H2,I2,r2,q2⟩:=zq;exact jG I2 hN hi hx r2 (λs3 I3=>⟨_,H2,I3,q2⟩) hf
 rcases l with ⟨hk,hm⟩|⟨hk,c,hc,XO⟩
 ·exact pQ I.ok.kind hk hn hm go
 ·rcases hk with hk |hk
  ·exact qw I.ok.kind hk hc XO go
  ·rcases hx with k |k
   ·have:X.env.scope.names.lookup x=some .free:=hk;rw[k]at this;cases this
   ·have:X.env.scope.names.lookup x=some .free:=hk;rw[k]at this;cases this
def ipI (f:Int->Int->Int):TIp:=λx y H Q=>∃i j,x=.int i/\y=.int j/\Q (.int (f i j)) H
theorem OF:PIp X .Add (ipI λi j=>i+j):=by
 intro pins s σ H x y v u Q I r1 r2 h;obtain⟨i,j,e1,e2,q⟩:=h;subst e1;subst e2;obtain⟨t,rfl⟩:=r1;obtain⟨t',rfl⟩:=r2;exact iadd_int ⟨.int _,H,I.tok _,⟨_,rfl⟩,q⟩
theorem OE:PIp X .Sub (ipI λi j=>i - j):=by
 intro pins s σ H x y v u Q I r1 r2 h;obtain⟨i,j,e1,e2,q⟩:=h;subst e1;subst e2;obtain⟨t,rfl⟩:=r1;obtain⟨t',rfl⟩:=r2;exact isub_int ⟨.int _,H,I.tok _,⟨_,rfl⟩,q⟩
end
section
variable {X:Cx}{pos:Pos}
def zi (c:TT)(tb:TS):TS:=λD σ H=>∃W:Nat->St->Hp->Prop,(∃m,W m σ H)/\∀m σ H,W m σ H->
 c σ H λb H1=>if b=true then ∃N:St->Hp->Prop,(∀σ' H',N σ' H'->∃m',m'<m/\W m' σ' H')/\tb { D with nx:=N,ct:=N,bk:=D.nx } σ H1 else D.nx σ H1
theorem Gb {c:Expr}{body:List Stmt}{tc:TT}{tb:TS}(hp:PassesOwn (model X.prog X.w) X.A X.env X.xe)(hc:PT X c tc)(hb:PSs X body tb):PS X (.While c body [] pos) (zi tc tb):=by
 intro pins s σ H D I h;obtain⟨W,⟨m0,w0⟩,turn⟩:=h;refine wpAny_While (codeAny_whileLoop (λn s'=>∃σ' H',Inv X pins σ' H' s'/\W n σ' H') ?_ m0 ⟨σ,H,I,w0⟩);rintro n s1 ⟨σ1,H1,I1,w1⟩;refine fN hp (WL (hc pins s1 σ1 H1 _ I1 (turn n σ1 H1 w1)) λb s2 zq=>?_);obtain⟨H2,I2,q2⟩:=zq;cases b with
 |true=>
  obtain⟨N,hN,q2⟩:=q2;rw[if_pos rfl];refine fN hp (WL (hb pins s2 σ1 H2 _ I2 q2) λf s3 q3=>?_);cases f with
  |next=>
   obtain⟨σ3,H3,I3,n3⟩:=q3;obtain⟨m',hm,w3⟩:=hN σ3 H3 n3;exact⟨m',hm,σ3,H3,I3,w3⟩
  |cont=>
   obtain⟨σ3,H3,I3,n3⟩:=q3;obtain⟨m',hm,w3⟩:=hN σ3 H3 n3;exact⟨m',hm,σ3,H3,I3,w3⟩
  |brk=>exact q3
  |ret v=>exact q3
 |false=>
  rw[if_neg aH];exact nh ⟨σ1,H2,I2,q2⟩
end
structure It where
 go:Nat->Hp->Prop
 yld:Nat->Hp->V->Hp->Prop
 stop:Nat->Hp->Prop
def kh (X:Cx)(pins:List (Addr×Obj))(H:Hp)(b:Addr):Prop:=
 H b=none/\b≠X.env.locals/\b∉X.fs/\(b∈X.ex\/X.s₀.heap.objs.size<=b)/\(∀x c,X.env.cells.lookup x=some c->c≠b)/\∀p∈X.pn++pins,p.1≠b
theorem Inv.tU {X:Cx}{pins:List (Addr×Obj)}{σ:St}{H H':Hp}{s:ah}{b:Addr}(I:Inv X pins σ H s)(hb:s.heap.objs.size<=b)(hn:H' b=none):kh X pins H' b:=by
 refine⟨hn,d9 (aO I.lt hb),I.Vi hb,.inr (b8 I.sz hb),λx c e z=>?_,λp hp z=>?_⟩
 ·obtain⟨v,q⟩:=I.cell x c e;exact absurd (aO q.lt (by rw[z];exact hb)) (bw _)
 ·exact absurd (aO (ax (I.pin p hp).1) (by rw[z];exact hb)) (bw _)
structure Turn (P:aI)(w:aZ)(K:PySem.W.Frag)(tg:Expr)(J:It)(fp:List Addr)(it:Addr)(tn:Nat->Heap->Prop):Prop where
 mem:it∈fp
 obj:∀i h,tn i h->∀b∈fp,∃o,h.get? b=some o/\∀v,o.data≠.cell v
 keep:∀i h h',tn i h->(∀b∈fp,∀o,h.get? b=some o->h'.get? b=some o)->tn i h'
 item:∀(X:Cx),X.prog=P->X.w=w->X.K=K->X.calm=true->∀(i:Nat)(pins:List (Addr×Obj))(s:ah)(σ:St)(H:Hp)(E:af->ah->Prop),Inv X pins σ H s->(∀b∈fp,kh X pins H b)->tn i s.heap->J.go i H->
  aq (model P w) X.A (pyNext (.ref it)) (λr s1=>∃u,r=some u/\
   aq (model P w) X.A (letOwnedTupleGo tg (.ref it) u) (λ_ s2=>∃x H',Inv X pins σ H' s2/\RelV x u/\J.yld i H x H'/\tn (i+1) s2.heap/\∀b∈fp,H' b=none) E s1) E s
 done:∀(X:Cx),X.prog=P->X.w=w->X.K=K->X.calm=true->∀(i:Nat)(pins:List (Addr×Obj))(s:ah)(σ:St)(H:Hp)(E:af->ah->Prop),Inv X pins σ H s->(∀b∈fp,kh X pins H b)->tn i s.heap->J.stop i H->
  aq (model P w) X.A (pyNext (.ref it)) (λr s1=>r=none/\Inv X pins σ H s1) E s
 self:∀(A:br)(i:Nat)(s:ah)(Q:af->ah->Prop)(E:af->ah->Prop),tn i s.heap->Q (.ref it) s->aq (model P w) A (pyIter (.ref it)) Q E s
abbrev TI:=St->Hp->(It->Hp->Prop)->Prop
def PIE (X:Cx)(pins:List (Addr×Obj))(σ:St)(tg:Expr)(R:It->Hp->Prop)(itv:af)(s2:ah):Prop:=
 ∃(it:Addr)(fp:List Addr)(tn:Nat->Heap->Prop)(J:It)(H':Hp),itv=.ref it/\Inv X pins σ H' s2/\Turn X.prog X.w X.K tg J fp it tn/\tn 0 s2.heap/\(∀b∈fp,kh X pins H' b)/\R J H'
def PI (X:Cx)(tg iter:Expr)(wi:TI):Prop:=
 ∀(pins:List (Addr×Obj))(s:ah)(σ:St)(H:Hp)(R:It->Hp->Prop),Inv X pins σ H s->wi σ H R->
  aq (model X.prog X.w) X.A (eval iter X.env) (λv s1=>aq (model X.prog X.w) X.A (pyIter v) (PIE X pins σ tg R) X.xe s1) X.xe s
theorem B6 {M : Model} {A : br} {E : af -> ah -> Prop} {s : ah} {tg : Expr} {it : Addr} {u : af} {o : Obj} {n : String} {vs : Array af} {Q : Unit -> ah -> Prop} (ho : s.heap.get? it = some o) (hc : o.cls = .type n) (hd : o.data = .fields vs)
    (hn : ["enumerate", "zip", "dict_itemiterator", "dict_reverseitemiterator", "odict_iterator", "itertools.zip_longest", "itertools.pairwise"].contains n = false) (hQ : Q () s) : aq M A (letOwnedTupleGo tg (.ref it) u) Q E s := by
  unfold letOwnedTupleGo;cases tg <;> first
    | exact ak hQ
    | (cases u <;> first
        | exact ak hQ
        | (refine aa (A8 ho ?_)
           rw [hc, hd];show aq M A (if (["enumerate", "zip", "dict_itemiterator", "dict_reverseitemiterator", "odict_iterator", "itertools.zip_longest", "itertools.pairwise"].contains n && vs[0]? == some (rawInt _)) = true then _ else _) Q E s;rw [if_neg (by intro h; rw [hn, pT]at h; cases h)];exact ak hQ))
def Itl (K:PySem.W.Frag)(a:Addr):It:=
 ⟨λi H=>∃xs x,Xc K H a xs/\xs[i]?=some x,λi H x H'=>H'=H/\∀xs,Xc K H a xs->xs[i]?=some x,λi H=>∃xs,Xc K H a xs/\xs.length<=i⟩
def Itt (K:PySem.W.Frag)(a:Addr):It:=
 ⟨λi H=>∃xs x,Xd K H a xs/\xs[i]?=some x,λi H x H'=>H'=H/\∀xs,Xd K H a xs->xs[i]?=some x,λi H=>∃xs,Xd K H a xs/\xs.length<=i⟩
def Itr (lo:Int)(n:Nat):It:=⟨λi _=>i<n,λi H x H'=>H'=H/\x=.int (lo+i),λi _=>n<=i⟩
theorem Cv {P:aI}{w:aZ}{K:PySem.W.Frag}{tg:Expr}(a it:Addr):Turn P w K tg (Itl K a) [it] it (λi h=>h.IsListIter it a i) where
 mem:=by simp
 obj:=λi h st b hb=>by
  have e:b=it:=by simpa using hb
  subst e;obtain⟨o,e,c,d⟩:=st;exact⟨o,e,λv z=>by rw[d]at z;cases z⟩
 keep:=λi h h' st k=>st.at λo e=>k it (by simp) o e
 item:=by
  intro X hP hw hK hc i pins s σ H E I hf st hg;subst hP hw hK;obtain⟨xs,x,hq,hx⟩:=hg;obtain⟨its,rv,p,hz⟩:=I.list hq;obtain⟨u,hu,ru⟩:=rv.get hx;obtain⟨f0,f1,f2,f3,f4,f5⟩:=hf it (by simp);refine wpAny_pyNext_list_item st p.isList (x:=u) (by simpa using hu) λh' st' sb=>?_;have I1:Inv X pins σ H { s with heap:=h' }:=I.turned (t':=s.toks) (λb o hb e=>(sb.2 b hb).trans e) f0 f1 f3 f4 f5;obtain⟨o,e,c,d⟩:=id st';exact⟨u,rfl,B6 (s:={ s with heap:=h' }) e c d (by decide) ⟨x,H,I1,ru,⟨rfl,λys hy=>by rw[I.G4 hy hq];exact hx⟩,st',λb hb=>(hf b hb).1⟩⟩
 done:=by
  intro X hP hw hK hc i pins s σ H E I hf st hg;subst hP hw hK;obtain⟨xs,hq,hx⟩:=hg;obtain⟨its,rv,p,hz⟩:=I.list hq;obtain⟨f0,f1,f2,f3,f4,f5⟩:=hf it (by simp);have hl:=rv.length;exact wpAny_pyNext_list_end (I.ok.hd hc) st p.isList (by simp;lia) λh' eb=>⟨rfl,I.turned (t':=s.toks) (λb o hb e=>eb b o hb e) f0 f1 f3 f4 f5⟩
 self:=λ_ _ _ _ _ st h=>wpAny_pyIter_listiter st h
theorem zf {P:aI}{w:aZ}{K:PySem.W.Frag}{tg:Expr}(a it:Addr):Turn P w K tg (Itt K a) [it] it (λi h=>h.IsTupleIter it a i) where
 mem:=by simp
 obj:=λi h st b hb=>by
  have e:b=it:=by simpa using hb
  subst e;obtain⟨o,e,c,d⟩:=st;exact⟨o,e,λv z=>by rw[d]at z;cases z⟩
 keep:=λi h h' st k=>st.at λo e=>k it (by simp) o e
 item:=by
  intro X hP hw hK hc i pins s σ H E I hf st hg;subst hP hw hK;obtain⟨xs,x,hq,hx⟩:=hg;obtain⟨its,rv,p,hz⟩:=I.tuple hq;obtain⟨u,hu,ru⟩:=rv.get hx;obtain⟨f0,f1,f2,f3,f4,f5⟩:=hf it (by simp);refine wpAny_pyNext_tuple_item st (show s.heap.IsTuple a its.toArray from p) (x:=u) (by simpa using hu) λh' st' sb=>?_;have I1:Inv X pins σ H { s with heap:=h' }:=I.turned (t':=s.toks) (λb o hb e=>(sb.2 b hb).trans e) f0 f1 f3 f4 f5;obtain⟨o,e,c,d⟩:=id st';exact⟨u,rfl,B6 (s:={ s with heap:=h' }) e c d (by decide) ⟨x,H,I1,ru,⟨rfl,λys hy=>by rw[I.Cy hy hq];exact hx⟩,st',λb hb=>(hf b hb).1⟩⟩
 done:=by
  intro X hP hw hK hc i pins s σ H E I hf st hg;subst hP hw hK;obtain⟨xs,hq,hx⟩:=hg;obtain⟨its,rv,p,hz⟩:=I.tuple hq;obtain⟨f0,f1,f2,f3,f4,f5⟩:=hf it (by simp);have hl:=rv.length;exact wpAny_pyNext_tuple_end (I.ok.hd hc) st (show s.heap.IsTuple a its.toArray from p) (by simp;lia) λh' eb=>⟨rfl,I.turned (t':=s.toks) (λb o hb e=>eb b o hb e) f0 f1 f3 f4 f5⟩
 self:=λ_ _ _ _ _ st h=>wpAny_pyIter_tupleiter st h
theorem zg {P:aI}{w:aZ}{K:PySem.W.Frag}{tg:Expr}(it:Addr)(lo:Int)(n:Nat):Turn P w K tg (Itr lo n) [it] it (λi h=>IsRangeIter h it (lo+(i:Nat)*1) ((n:Int) - (i:Nat)) 1) where
 mem:=by simp
 obj:=λi h st b hb=>by
  have e:b=it:=by simpa using hb
  subst e;exact⟨_,st,λv z=>by
   have z':Data.fields _=Data.cell v:=z;cases z'⟩
 keep:=λi h h' st k=>k it (by simp) _ st
 item:=by
  intro X hP hw hK hc i pins s σ H E I hf st hg;subst hP hw hK;obtain⟨f0,f1,f2,f3,f4,f5⟩:=hf it (by simp);have W:=Walks.range (prog:=X.prog) (w:=X.w) (I.ok.hd hc) it lo 1 n;refine W.item i s _ _ hg st λv h' tk hv st' kk=>?_;obtain⟨t,rfl⟩:=hv;have I1:Inv X pins σ H { s with heap:=h',toks:=tk }:=I.turned (λb o hb e=>kk b o (by simpa using hb) e) f0 f1 f3 f4 f5;refine⟨_,rfl,B6 (s:={ s with heap:=h',toks:=tk }) (n:="range_iterator") st' rfl rfl (by decide) ⟨.int (lo+i),H,I1,⟨t,?_⟩,⟨rfl,rfl⟩,st',λb hb=>(hf b hb).1⟩⟩;rw[Int.mul_one]
 done:=by
  intro X hP hw hK hc i pins s σ H E I hf st hg;subst hP hw hK;obtain⟨f0,f1,f2,f3,f4,f5⟩:=hf it (by simp);exact wpAny_pyNext_range_end (I.ok.hd hc) st (by have:n<=i:=hg;lia) λh' eb=>⟨rfl,I.turned (t':=s.toks) (λb o hb e=>eb b o hb e) f0 f1 f3 f4 f5⟩
 self:=λ_ _ _ _ _ st h=>wpAny_pyIter_rangeiter st h
section
variable {X:Cx}{tg:Expr}
def B5 (K:PySem.W.Frag)(tl:TE):TI:=λσ H R=>tl σ H λx H1=>∃a,x=.ref a/\(∃xs,Xc K H1 a xs)/\R (Itl K a) H1
def OG (K:PySem.W.Frag)(tl:TE):TI:=λσ H R=>tl σ H λx H1=>∃a,x=.ref a/\(∃xs,Xd K H1 a xs)/\R (Itt K a) H1
theorem JT {l:Expr}{tl:TE}(hl:PE X l tl):PI X tg l (B5 X.K tl):=by
 intro pins s σ H R I h;refine WL (hl pins s σ H _ I h) λv s1 zq=>?_;obtain⟨x,H1,I1,r1,q1⟩:=zq;obtain⟨a,e,⟨xs,hq⟩,q⟩:=q1;subst e;cases r1;obtain⟨its,rv,p,hz⟩:=I1.list hq;refine iF p.isList ?_;refine⟨s1.heap.objs.size,[s1.heap.objs.size],_,_,H1,rfl,I1.kept (t':=s1.toks) λb o e=>aj _ e,Cv a _,⟨_,aB _ rfl,rfl,rfl⟩,λb hb=>?_,q⟩;have e:b=s1.heap.objs.size:=by simpa using hb
 subst e;exact I1.tU (aw _) (I1.WJ.fresh (aw _))
theorem NR {l:Expr}{tl:TE}(hl:PE X l tl):PI X tg l (OG X.K tl):=by
 intro pins s σ H R I h;refine WL (hl pins s σ H _ I h) λv s1 zq=>?_;obtain⟨x,H1,I1,r1,q1⟩:=zq;obtain⟨a,e,⟨xs,hq⟩,q⟩:=q1;subst e;cases r1;obtain⟨its,rv,p,hz⟩:=I1.tuple hq;refine gU (show s1.heap.IsTuple a its.toArray from p) ?_;refine⟨s1.heap.objs.size,[s1.heap.objs.size],_,_,H1,rfl,I1.kept (t':=s1.toks) λb o e=>aj _ e,zf a _,⟨_,aB _ rfl,rfl,rfl⟩,λb hb=>?_,q⟩;have e:b=s1.heap.objs.size:=by simpa using hb
 subst e;exact I1.tU (aw _) (I1.WJ.fresh (aw _))
theorem xR {pins:List (Addr×Obj)}{σ:St}{H:Hp}{s:ah}{R:It->Hp->Prop}{E:af->ah->Prop}{lo hi:Int}{t u v:Tok}{tk:Nat}(I:Inv X pins σ H s)(h1:-(2 ^ 62)<=lo)(h2:lo<2 ^ 62)(h3:-(2 ^ 62)<=hi)(h4:hi<2 ^ 62)
  (q:R (Itr lo (hi - lo).toNat) H):aq (model X.prog X.w) X.A (pyIter (.ref s.heap.objs.size)) (PIE X pins σ tg R) E { s with heap:=s.heap.push { cls:=.type "range",data:=.fields #[.int lo t,.int hi u,.int 1 v] },toks:=tk }:=by
 refine wpAny_pyIter_range (IsRange.new ..) (small_one h1 h2 h3 h4) ?_;have I1:Inv X pins σ H { s with heap:=s.heap.push { cls:=.type "range",data:=.fields #[.int lo t,.int hi u,.int 1 v] },toks:=tk }:=I.kept λb o e=>aj _ e;refine⟨(s.heap.push { cls:=.type "range",data:=.fields #[.int lo t,.int hi u,.int 1 v] }).objs.size,[(s.heap.push { cls:=.type "range",data:=.fields #[.int lo t,.int hi u,.int 1 v] }).objs.size],_,_,H,rfl,
  I1.kept (t':=tk) λb o e=>aj _ e,zg _ lo (hi - lo).toNat,?_,λb hb=>?_,q⟩
 ·have e1:lo+((0:Nat):Int)*1=lo:=by simp
  have e2:(((hi - lo).toNat:Nat):Int) - ((0:Nat):Int)=Builtin.Range.rangeSize lo hi 1:=by rw[D3];split<;>lia
  show IsRangeIter _ _ (lo+((0:Nat):Int)*1) ((((hi - lo).toNat:Nat):Int) - ((0:Nat):Int)) 1;rw[e1,e2];exact aB _ rfl
 ·have e:b=(s.heap.push { cls:=.type "range",data:=.fields #[.int lo t,.int hi u,.int 1 v] }).objs.size:=by simpa using hb
  subst e;exact I1.tU (aw _) (I1.WJ.fresh (aw _))
def L6 (ta:TA):TI:=λσ H R=>ta σ H λvs H1=>∃j:Int,vs=[.int j]/\-(2 ^ 62)<=j/\j<2 ^ 62/\R (Itr 0 j.toNat) H1
def L5 (ta:TA):TI:=λσ H R=>ta σ H λvs H1=>∃i j:Int,vs=[.int i,.int j]/\(-(2 ^ 62)<=i/\i<2 ^ 62/\-(2 ^ 62)<=j/\j<2 ^ 62)/\R (Itr i (j - i).toNat) H1
theorem C4 {a:Expr}{ta:TA}{p pos:Pos}(hg:Gl X "range")(hm:X.mg "range"=none)(ha:PA X [a] ta)(hs:ay [a] X.env=[(false,eval a X.env)]:=by rfl):PI X tg (.Call (.Name "range" p) [a] [] pos) (L6 ta):=by
 intro pins s σ H R I h;refine qQ (fB I hg hm Bf (PyProof.Rows.callWith_type1 (WL (ha pos pins s σ H _ I h) λus s1 zq=>?_) hs rfl));obtain⟨vs,H1,I1,r1,q1⟩:=zq;obtain⟨j,e,q1,q2,q⟩:=q1;subst e;cases r1 with
 |cons r rr=>
  cases rr;obtain⟨t,rfl⟩:=r;exact call_range_1 (xR I1 (by lia) (by lia) q1 q2 (by simpa using q))
def Qf (wi:TI)(g:TG)(tb:TS):TS:=λD σ H=>wi σ H λJ H1=>∃W:Nat->Nat->St->Hp->Prop,(∃m,W 0 m σ H1)/\∀i m σ H,W i m σ H->
 (J.stop i H/\D.nx σ H)\/(J.go i H/\∃N:St->Hp->Prop,(∀σ' H',N σ' H'->∃m',m'<m/\W (i+1) m' σ' H')/\∀x H',J.yld i H x H'->g x σ H' λσ2 H2=>tb { D with nx:=N,ct:=N,bk:=D.nx } σ2 H2)
def gR (fp:List Addr)(h:Heap):List (Addr×Obj):=fp.filterMap λb=>(h.get? b).map λo=>(b,o)
theorem cZ {fp:List Addr}{h:Heap}{b:Addr}{o:Obj}(hb:b∈fp)(e:h.get? b=some o):(b,o)∈gR fp h:=List.mem_filterMap.mpr ⟨b,hb,by rw[e];rfl⟩
theorem Dg {fp:List Addr}{h:Heap}{p:Addr×Obj}(hp:p∈gR fp h):p.1∈fp/\h.get? p.1=some p.2:=by
 obtain⟨b,hb,e⟩:=List.mem_filterMap.mp hp;cases q:h.get? b with
 |none=>rw[q]at e;cases e
 |some o=>
  rw[q]at e;have e':(b,o)=p:=Option.some.inj e;subst e';exact⟨hb,q⟩
theorem Inv.pinned {pins:List (Addr×Obj)}{σ:St}{H:Hp}{s:ah}{fp:List Addr}(I:Inv X pins σ H s)(hf:∀b∈fp,kh X pins H b)(ho:∀b∈fp,∃o,s.heap.get? b=some o/\∀v,o.data≠.cell v):Inv X (pins++gR fp s.heap) σ H s:=
 I.BH λp hp=>(List.mem_append.mp hp).elim (λz=>I.pin p (aD _ z)) λz=>by
  obtain⟨hb,e⟩:=Dg z;obtain⟨f0,f1,f2,_⟩:=hf p.1 hb;obtain⟨o,e',d⟩:=ho p.1 hb;rw[e]at e';cases e';exact⟨e,f0,f1,f2,d⟩
theorem Inv.eW {pins pl:List (Addr×Obj)}{σ:St}{H:Hp}{s:ah}(I:Inv X (pins++pl) σ H s):Inv X pins σ H s:=I.BH λp hp=>I.pin p (aD _ (cm _ hp))
theorem NN {iter:Expr}{body:List Stmt}{wi:TI}{g:TG}{tb:TS}{pos:Pos}(hp:PassesOwn (model X.prog X.w) X.A X.env X.xe)(hc:X.calm=true)(hi:PI X tg iter wi)(hg:PG X tg g)(hb:PSs X body tb)
  (hs:∀x,foldedSetIterable iter X.env x=pure x:=by intro _;rfl):PS X (.For tg iter body [] pos) (Qf wi g tb):=by
 intro pins s σ H D I h;refine wpAny_For (WL (hi pins s σ H _ I h) λv s1 h1=>WL h1 λitv s2 h2=>?_) hs;obtain⟨it,fp,tn,J,H2,e,I2,T,XQ,f2,W,⟨m0,w0⟩,turn⟩:=h2;subst e;have Xg:∀{H':Hp},(∀b∈fp,H' b=none)->∀b∈fp,kh X pins H' b:=λhn b hb=>⟨hn b hb,(f2 b hb).2⟩;refine codeAny_forLoop_any (λn s'=>∃i σ' H',Inv X pins σ' H' s'/\tn i s'.heap/\(∀b∈fp,H' b=none)/\W i n σ' H') ?_ m0 ⟨0,σ,H2,I2,XQ,λb hb=>(f2 b hb).1,w0⟩;rintro n s3 ⟨i,σ3,H3,I3,st3,fr3,w3⟩;rcases turn i n σ3 H3 w3 with ⟨stop,qn⟩|⟨go,N,hN,step⟩
 ·refine fN hp (WL (T.done X rfl rfl rfl hc i pins s3 σ3 H3 X.xe I3 (Xg fr3) st3 stop) λr s4 ⟨hr,I4⟩=>?_);subst hr;exact nh ⟨σ3,H3,I4,qn⟩
 ·refine fN hp (WL (T.item X rfl rfl rfl hc i pins s3 σ3 H3 X.xe I3 (Xg fr3) st3 go) λr s4 zq=>?_);obtain⟨u,hr,h4⟩:=zq;subst hr;refine fN hp (WL h4 λ_ s5 zq=>?_);obtain⟨x,H5,I5,r5,y5,st5,fr5⟩:=zq;have I5':=I5.pinned (Xg fr5) (T.obj _ _ st5);refine fN hp (WL (hg _ s5 σ3 H5 x u _ I5' r5 (step x H5 y5)) λ_ s6 zq=>?_);obtain⟨σ6,H6,I6,q6⟩:=zq;refine fN hp (WL (hb _ s6 σ6 H6 _ I6 q6) λf s7 q7=>?_);have again:∀{σ7:St}{H7:Hp},Inv X (pins++gR fp s5.heap) σ7 H7 s7->N σ7 H7->∃m,m<n/\∃i σ' H',Inv X pins σ' H' s7/\tn i s7.heap/\(∀b∈fp,H' b=none)/\W i m σ' H':=λ{σ7 H7} I7 n7=>by
   obtain⟨m',hm,w7⟩:=hN σ7 H7 n7;refine⟨m',hm,i+1,σ7,H7,I7.eW,T.keep _ _ _ st5 λb hb o e=>(I7.pin (b,o) (aD _ (aD _ (cZ hb e)))).1,λb hb=>?_,w7⟩;obtain⟨o,e,d⟩:=T.obj _ _ st5 b hb;exact(I7.pin (b,o) (aD _ (aD _ (cZ hb e)))).2.1
  cases f with
  |next=>obtain⟨σ7,H7,I7,n7⟩:=q7;exact again I7 n7
  |cont=>obtain⟨σ7,H7,I7,n7⟩:=q7;exact again I7 n7
  |brk=>obtain⟨σ7,H7,I7,q7⟩:=q7;exact⟨σ7,H7,I7.eW,q7⟩
  |ret v=>obtain⟨x7,σ7,H7,I7,r7,q7⟩:=q7;exact⟨x7,σ7,H7,I7.eW,r7,q7⟩
end
abbrev R2:=V->V->Hp->VK->Prop
def WV (X:Cx)(f:af->af->Sem af)(r:R2):Prop:=
 ∀(pins:List (Addr×Obj))(s:ah)(σ:St)(H:Hp)(x y:V)(v u:af)(Q:VK),Inv X pins σ H s->RelV x v->RelV y u->r x y H Q->
  aq (model X.prog X.w) X.A (f v u) (EP X pins σ Q) X.xe s
def cu (X:Cx)(f:af)(r:List V->Hp->VK->Prop):Prop:=
 ∀(pins:List (Addr×Obj))(s:ah)(σ:St)(H:Hp)(xs:List V)(us:List af)(Q:VK),Inv X pins σ H s->bA xs us->r xs H Q->
  aq (model X.prog X.w) X.A (call f us) (EP X pins σ Q) X.xe s
def VY (X:Cx)(r:V->Hp->(Bool->Hp->Prop)->Prop):Prop:=
 ∀(pins:List (Addr×Obj))(s:ah)(σ:St)(H:Hp)(x:V)(v:af)(Q:Bool->Hp->Prop),Inv X pins σ H s->RelV x v->r x H Q->
  aq (model X.prog X.w) X.A (truthy v) (TP X pins σ Q) X.xe s
def tOp (r:R2)(ta tb:TE):TE:=λσ H Q=>ta σ H λx H1=>tb σ H1 λy H2=>r x y H2 Q
def tUn (r:V->Hp->VK->Prop)(ta:TE):TE:=λσ H Q=>ta σ H λx H1=>r x H1 Q
def rI (C:Int->Int->Prop)(g:Int->Int->V):R2:=λx y H Q=>∃i j,x=.int i/\y=.int j/\C i j/\Q (g i j) H
def rI0 (g:Int->Int->V):R2:=λx y H Q=>∃i j,x=.int i/\y=.int j/\Q (g i j) H
def rU (g:Int->V):V->Hp->VK->Prop:=λx H Q=>∃i,x=.int i/\Q (g i) H
section
variable {X:Cx}{a b c:Expr}{ta tb tc:TE}{pos:Pos}
theorem IL (ha:PE X a ta)(hb:PE X b tb){pins:List (Addr×Obj)}{s:ah}{σ:St}{H:Hp}{R:V->V->Hp->Prop}(I:Inv X pins σ H s)
  (h:ta σ H λx H1=>tb σ H1 λy H2=>R x y H2) {Q:af->ah->Prop} {f:af->af->Sem af}
  (hf:∀v u s2 x y H2,Inv X pins σ H2 s2->RelV x v->RelV y u->R x y H2->aq (model X.prog X.w) X.A (f v u) Q X.xe s2):
  aq (model X.prog X.w) X.A (eval a X.env) (λv s₁=>aq (model X.prog X.w) X.A (eval b X.env) (λu s₂=>aq (model X.prog X.w) X.A (f v u) Q X.xe s₂) X.xe s₁) X.xe s:=by
 refine WL (ha pins s σ H _ I h) λv s1 zq=>?_;obtain⟨x,H1,I1,r1,q1⟩:=zq;refine WL (hb pins s1 σ H1 _ I1 q1) λu s2 zq=>?_;obtain⟨y,H2,I2,r2,q2⟩:=zq;exact hf v u s2 x y H2 I2 r1 r2 q2
theorem QT {op:Operator}{r:R2}(ho:WV X (binaryOp op) r)(ha:PE X a ta)(hb:PE X b tb):PE X (.BinOp a op b pos) (tOp r ta tb):=by
 intro pins s σ H Q I h;exact xj (IL ha hb I h λv u s2 x y H2 I2 rx ry q=>ho pins s2 σ H2 x y v u Q I2 rx ry q)
theorem opI {f:af->af->Sem af}{C:Int->Int->Prop}{g:Int->Int->Int}
  (rule:∀(i j:Int)(t u:Tok)(s:ah)(Q:af->ah->Prop)(E:af->ah->Prop),C i j->Q (.int (g i j) s.toks) { s with toks:=s.toks+1 }->aq (model X.prog X.w) X.A (f (.int i t) (.int j u)) Q E s):
  WV X f (rI C λi j=>.int (g i j)):=by
 intro pins s σ H x y v u Q I rx ry h;obtain⟨i,j,rfl,rfl,hc,q⟩:=h;obtain⟨t,rfl⟩:=rx;obtain⟨t',rfl⟩:=ry;exact rule i j t t' s _ _ hc ⟨.int (g i j),H,I.tok _,⟨_,rfl⟩,q⟩
theorem tN {f:af->af->Sem af}{g:Int->Int->Int}
  (rule:∀(i j:Int)(t u:Tok)(s:ah)(Q:af->ah->Prop)(E:af->ah->Prop),Q (.int (g i j) s.toks) { s with toks:=s.toks+1 }->aq (model X.prog X.w) X.A (f (.int i t) (.int j u)) Q E s):
  WV X f (rI0 λi j=>.int (g i j)):=by
 intro pins s σ H x y v u Q I rx ry h;obtain⟨i,j,rfl,rfl,q⟩:=h;obtain⟨t,rfl⟩:=rx;obtain⟨t',rfl⟩:=ry;exact rule i j t t' s _ _ ⟨.int (g i j),H,I.tok _,⟨_,rfl⟩,q⟩
theorem Ko {f:af->af->Sem af}{g:Int->Int->Bool}
  (rule:∀(i j:Int)(t u:Tok)(s:ah)(Q:af->ah->Prop)(E:af->ah->Prop),Q (.bool (g i j)) s->aq (model X.prog X.w) X.A (f (.int i t) (.int j u)) Q E s):
  WV X f (rI0 λi j=>.bl (g i j)):=by
 intro pins s σ H x y v u Q I rx ry h;obtain⟨i,j,rfl,rfl,q⟩:=h;obtain⟨t,rfl⟩:=rx;obtain⟨t',rfl⟩:=ry;exact rule i j t t' s _ _ ⟨.bl (g i j),H,I,rfl,q⟩
def Li (i j:Int):Prop:=0<j/\j<1073741824
def Lh (i j:Int):Prop:=0<=j/\j<=1000000/\i.natAbs<2 ^ 64
def y0 (i j:Int):Prop:=(-(2 ^ 64)<i/\i<2 ^ 64)\/(-(2 ^ 64)<j/\j<2 ^ 64)
theorem y0.ok {i j:Int}(h:y0 i j):IntMulOk i j:=by
 rcases h with ⟨h1,h2⟩|⟨h1,h2⟩
 ·exact .of_left (D4 h1 h2)
 ·exact .of_right (D4 h1 h2)
theorem Oe:WV X (binaryOp .Add) (rI0 λi j=>.int (i+j)):=tN λ_ _ _ _ _ _ _ q=>add_int q
theorem N0:WV X (binaryOp .Sub) (rI0 λi j=>.int (i - j)):=tN λ_ _ _ _ _ _ _ q=>sub_int q
theorem zU:WV X (binaryOp .Mult) (rI y0 λi j=>.int (i*j)):=opI λ_ _ _ _ _ _ _ hc q=>mul_int q hc.ok
theorem Kj:WV X (binaryOp .FloorDiv) (rI Li λi j=>.int (i/j)):=opI λi j _ _ _ _ _ hc q=>by
 have h1:(0:Int)<j:=hc.1;have h2:j<1073741824:=hc.2;exact floordiv_int (by lia) (by rw[eJ i (by lia)];exact q) (.inl (iH (by lia)))
theorem N5:WV X (binaryOp .Mod) (rI (λ_ j=>0<j) λi j=>.int (i % j)):=opI λi j _ _ _ _ _ hc q=>by
 have h1:(0:Int)<j:=hc;exact mod_int' (by lia) (by rw[km i (by lia)];exact q)
theorem N2:WV X (binaryOp .Pow) (rI Lh λi j=>.int (i ^ j.toNat)):=opI λ_ _ _ _ _ _ _ hc q=>pow_int_small hc.1 hc.2.1 hc.2.2 q
end
section
variable {X:Cx}{a b c:Expr}{ta tb tc:TE}{pos:Pos}
theorem cn {pins:List (Addr×Obj)}{σ:St}{H:Hp}{s:ah}{Q:VK}{k k':Bool}(I:Inv X pins σ H s)(q:Q (.bl k) H)(e:k=k'):EP X pins σ Q (.bool k') s:=by
 subst e;exact⟨.bl k,H,I,rfl,q⟩
theorem Ra:WV X (bc .Lt) (rI0 λi j=>.bl (decide (i<j))):=Ko λ_ _ _ _ _ _ _ q=>lt_int q
theorem Rb:WV X (bc .LtE) (rI0 λi j=>.bl (decide (i<=j))):=Ko λ_ _ _ _ _ _ _ q=>le_int q
theorem Rc:WV X (bc .Gt) (rI0 λi j=>.bl (decide (j<i))):=Ko λ_ _ _ _ _ _ _ q=>gt_int q
theorem Re:WV X (bc .GtE) (rI0 λi j=>.bl (decide (j<=i))):=Ko λ_ _ _ _ _ _ _ q=>ge_int q
theorem De:WV X (bc .In) (λx y H Q=>∃i j,x=.str i/\y=.str j/\Q (.bl (!(Builtin.Str.occurrences j i 0 j.length 1).isEmpty)) H):=by
 intro pins s σ H x y v u Q I rx ry h;obtain⟨i,j,rfl,rfl,q⟩:=h;obtain⟨t,rfl⟩:=rx;obtain⟨t',rfl⟩:=ry;exact in_str (cn I q rfl)
theorem Vb:WV X (bc .Is) (λx y H Q=>y=.WN/\Q (.bl (decide (x=.WN))) H):=by
 intro pins s σ H x y v u Q I rx ry h;obtain⟨rfl,q⟩:=h;cases ry;refine is_none_gen (cn I q ?_);cases x<;>first
  | (cases rx;rfl)
  | (obtain⟨t,rfl⟩:=rx;rfl)
theorem Tt:WV X (bc .IsNot) (λx y H Q=>y=.WN/\Q (.bl (!decide (x=.WN))) H):=by
 intro pins s σ H x y v u Q I rx ry h;obtain⟨rfl,q⟩:=h;cases ry;refine isnot_none_gen (cn I q ?_);cases x<;>first
  | (cases rx;rfl)
  | (obtain⟨t,rfl⟩:=rx;rfl)
theorem vW:WV X (bc .NotIn) (λx y H Q=>∃i j,x=.str i/\y=.str j/\Q (.bl (!(!(Builtin.Str.occurrences j i 0 j.length 1).isEmpty))) H):=by
 intro pins s σ H x y v u Q I rx ry h;obtain⟨i,j,rfl,rfl,q⟩:=h;obtain⟨t,rfl⟩:=rx;obtain⟨t',rfl⟩:=ry;exact notIn_str (cn I q rfl)
theorem WV.or {f:af->af->Sem af}{r r':R2}(h:WV X f r)(h':WV X f r'):WV X f (λx y H Q=>r x y H Q\/r' x y H Q):=by
 intro pins s σ H x y v u Q I rx ry q;rcases q with q |q
 ·exact h pins s σ H x y v u Q I rx ry q
 ·exact h' pins s σ H x y v u Q I rx ry q
theorem BK {op:CmpOp}{r:R2}(ho:WV X (bc op) r)(ha:PE X a ta)(hb:PE X b tb)(hm:behindInMarks op b=false):PE X (.Compare a [op] [b] pos) (tOp r ta tb):=by
 intro pins s σ H Q I h;exact Ba (IL ha hb I h λv u s2 x y H2 I2 rx ry q=>ho pins s2 σ H2 x y v u Q I2 rx ry q) hm
def Et (t:TE):TT:=λσ H Q=>t σ H λx H'=>∃k,x=.bl k/\Q k H'
theorem JK {op:CmpOp}{r:R2}(ho:WV X (bc op) r)(ha:PE X a ta)(hb:PE X b tb)(hm:behindInMarks op b=false):PT X (.Compare a [op] [b] pos) (Et (tOp r ta tb)):=by
 intro pins s σ H Q I h;refine wpAny_isTrue_Compare1 (WL (ha pins s σ H _ I h) λv s1 ⟨x,H1,I1,r1,q1⟩=>WL (hb pins s1 σ H1 _ I1 q1) λu s2 ⟨y,H2,I2,r2,q2⟩=>
  WL (ho pins s2 σ H2 x y v u _ I2 r1 r2 q2) λc s3 zq=>?_) hm
 obtain⟨z,H3,I3,r3,k,e,q3⟩:=zq;subst e;cases r3;exact cC ⟨H3,I3,q3⟩
def zB (r r':R2)(ta tb tc:TE):TE:=λσ H Q=>ta σ H λx H1=>tb σ H1 λy H2=>r x y H2 λz H3=>∃k,z=.bl k/\
 (if k=true then tc σ H3 λw' H4=>r' y w' H4 Q else Q (.bl false) H3)
theorem GC {op op':CmpOp}{r r':R2}(ho:WV X (bc op) r)(ho':WV X (bc op') r')(ha:PE X a ta)(hb:PE X b tb)(hc:PE X c tc)
  (hm:lastMarks [op,op'] [b,c]=false:=by with_unfolding_all rfl):PE X (.Compare a [op,op'] [b,c] pos) (zB r r' ta tb tc):=by
 intro pins s σ H Q I h;refine Compare_chain (WL (ha pins s σ H _ I h) λv s1 ⟨x,H1,I1,r1,q1⟩=>chain_link (WL (hb pins s1 σ H1 _ I1 q1) λu s2 ⟨y,H2,I2,r2,q2⟩=>
  WL (ho pins s2 σ H2 x y v u _ I2 r1 r2 q2) λd s3 zq=>?_)) hm
 obtain⟨z,H3,I3,r3,k,e,q3⟩:=zq;subst e;cases r3;refine cC ?_;cases k with
 |false=>exact ite_ff ⟨.bl false,H3,I3,rfl,q3⟩
 |true=>exact ite_tt (chain_last (WL (hc pins s3 σ H3 _ I3 q3) λw' s4 ⟨z',H4,I4,r4,q4⟩=>ho' pins s4 σ H4 y z' u w' Q I4 r2 r4 q4))
theorem F9 {op op':CmpOp}{r r':R2}(ho:WV X (bc op) r)(ho':WV X (bc op') r')(ha:PE X a ta)(hb:PE X b tb)(hc:PE X c tc)
  (hm:lastMarks [op,op'] [b,c]=false:=by with_unfolding_all rfl):PT X (.Compare a [op,op'] [b,c] pos) (Et (zB r r' ta tb tc)):=by
 intro pins s σ H Q I h;refine isTrue_chain (WL (ha pins s σ H _ I h) λv s1 ⟨x,H1,I1,r1,q1⟩=>test_link (WL (hb pins s1 σ H1 _ I1 q1) λu s2 ⟨y,H2,I2,r2,q2⟩=>
  WL (ho pins s2 σ H2 x y v u _ I2 r1 r2 q2) λd s3 zq=>?_)) hm
 obtain⟨z,H3,I3,r3,k,e,q3⟩:=zq;subst e;cases r3;refine cC ?_;cases k with
 |false=>
  obtain⟨k',e',q'⟩:=q3;cases e';exact ite_ff ⟨H3,I3,q'⟩
 |true=>
  refine ite_tt (test_last (WL (hc pins s3 σ H3 _ I3 q3) λw' s4 zp0=>?_));obtain⟨z',H4,I4,r4,q4⟩:=zp0;refine WL (ho' pins s4 σ H4 y z' u w' _ I4 r2 r4 q4) λd' s5 zq=>?_;obtain⟨z2,H5,I5,r5,k2,e2,q5⟩:=zq;subst e2;cases r5;exact cC ⟨H5,I5,q5⟩
def IQ (K:PySem.W.Frag)(x:V)(H:Hp)(k:Bool):Prop:=
 match x with
 |.WN=>k=false
 |.bl b=>k=b
 |.int i=>k=(i != 0)
 |.str y=>y.length<=au/\k=((y.length:Int) != 0)
 |.byt y=>y.size<=au/\k=((y.size:Int) != 0)
 |.ref p=>(∃xs,Xc K H p xs/\k=!xs.isEmpty)\/(∃xs,Xd K H p xs/\k=!xs.isEmpty)\/∃kvs,H p=some (.dK kvs)/\k=!kvs.isEmpty
 |_=>False
theorem As {κ:Type}{kvs:List (κ×V)}{vs:List (κ×af)}(r:KV kvs vs):(!vs.isEmpty)=!kvs.isEmpty:=by
 cases r<;>rfl
theorem sy {xs:List V}{its:List af}(r:bA xs its):(!its.toArray.isEmpty)=!xs.isEmpty:=by
 cases r<;>simp
theorem lr:(au:Nat)<2 ^ 63:=by rw[bT];decide
theorem Mz:VY X (λx H Q=>∃k,IQ X.K x H k/\Q k H):=by
 intro pins s σ H x v Q I rx h;obtain⟨k,e,q⟩:=h;have hl:=lr;have hs:au=16777216:=bT;cases x with
 |WN=>
  cases rx;have e':k=false:=e;subst e';exact truthy_none ⟨H,I,q⟩
 |bl b=>
  cases rx;have e':k=b:=e;subst e';exact cC ⟨H,I,q⟩
 |int i=>
  obtain⟨t,rfl⟩:=rx;have e':k=(i != 0):=e;subst e';exact PySem.P.truthy_int ⟨H,I,q⟩
 |str y=>
  obtain⟨t,rfl⟩:=rx;obtain⟨hy,e'⟩:y.length<=au/\k=((y.length:Int) != 0):=e;subst e';exact PySem.P.truthy_str (by lia) ⟨H,I.tok _,q⟩
 |byt y=>
  obtain⟨t,rfl⟩:=rx;obtain⟨hy,e'⟩:y.size<=au/\k=((y.size:Int) != 0):=e;subst e';exact PySem.W.truthy_bytes (by lia) ⟨H,I.tok _,q⟩
 |ref p=>
  cases rx;have e':(∃xs,Xc X.K H p xs/\k=!xs.isEmpty)\/(∃xs,Xd X.K H p xs/\k=!xs.isEmpty)\/∃kvs,H p=some (.dK kvs)/\k=!kvs.isEmpty:=e;rcases e' with ⟨xs,hx,e'⟩|⟨xs,hx,e'⟩|⟨kvs,hx,e'⟩
  ·subst e';obtain⟨its,r,pl,hz⟩:=I.list hx;have hlen:=r.length;exact wpAny_truthy_list pl.isList (by simp only[az];lia) ⟨H,I.tok _,by rw[sy r];exact q⟩
  ·subst e';obtain⟨its,r,pl,hz⟩:=I.tuple hx;have hlen:=r.length;exact truthy_tuple pl (by simp only[az];lia) ⟨H,I.tok _,by rw[sy r];exact q⟩
  ·subst e';obtain⟨hz,hS,vs,r,m⟩:kvs.length<=au/\(p==sysModules)=false/\∃vs,KV kvs vs/\s.heap.DictOf (bZ X.prog X.w) p vs:=I.WJ p _ hx;have hlen:kvs.length=vs.length:=Paired.length r;exact wpAny_truthy_dict hS m (by lia) ⟨H,I.tok _,by rw[As r];exact q⟩
 |_=>exact(show False from e).elim
theorem F8 (ha:PE X a ta)(he:∀whole,isTrue a X.env whole=(do let v ←whole;standAt a.pos;holding [v] (truthy v))):
  PT X a (λσ H Q=>ta σ H λx H'=>∃k,IQ X.K x H' k/\Q k H'):=by
 intro pins s σ H Q I h;exact isTrue_plain (WL (ha pins s σ H _ I h) λv s1 ⟨x,H1,I1,r1,q1⟩=>Mz pins s1 σ H1 x v Q I1 r1 q1) (he _)
theorem zV:WV X (binaryOp .Add) (λx y H Q=>∃i j,x=.str i/\y=.str j/\i.length+j.length<=au/\Q (.str (i++j)) H):=by
 intro pins s σ H x y v u Q I rx ry h;obtain⟨i,j,rfl,rfl,hz,q⟩:=h;obtain⟨t,rfl⟩:=rx;obtain⟨t',rfl⟩:=ry;exact add_str (λt' tk=>⟨.str (i++j),H,I.tok _,⟨_,rfl⟩,q⟩) hz
theorem vals1 {x:V}{us:List af}(r:bA [x] us):∃u,us=[u]/\RelV x u:=by
 cases r with
 |cons r1 r2=>cases r2;exact⟨_,rfl,r1⟩
theorem vals2 {x y:V}{us:List af}(r:bA [x,y] us):∃u w',us=[u,w']/\RelV x u/\RelV y w':=by
 cases r with
 |cons r1 r2=>
  cases r2 with
  |cons r3 r4=>cases r4;exact⟨_,_,rfl,r1,r3⟩
theorem DS (hc:X.calm=true):cu X (.builtin "max") (λxs H Q=>∃i j,xs=[.int i,.int j]/\Q (.int (if j>i then j else i)) H):=by
 intro pins s σ H xs us Q I r h;obtain⟨i,j,rfl,q⟩:=h;obtain⟨u,w',rfl,⟨t,rfl⟩,⟨t',rfl⟩⟩:=vals2 r;refine max_two_ints (I.ok.hd hc) λh' tk k=>⟨_,H,I.kept k,?_,q⟩
 by_cases hj:j>i
 ·rw[if_pos hj,if_pos hj];exact⟨_,rfl⟩
 ·rw[if_neg hj,if_neg hj];exact⟨_,rfl⟩
theorem DQ (hc:X.calm=true):cu X (.builtin "min") (λxs H Q=>∃i j,xs=[.int i,.int j]/\Q (.int (if j<i then j else i)) H):=by
 intro pins s σ H xs us Q I r h;obtain⟨i,j,rfl,q⟩:=h;obtain⟨u,w',rfl,⟨t,rfl⟩,⟨t',rfl⟩⟩:=vals2 r;refine min_two_ints (I.ok.hd hc) λh' tk k=>⟨_,H,I.kept k,?_,q⟩
 by_cases hj:j<i
 ·rw[if_pos hj,if_pos hj];exact⟨_,rfl⟩
 ·rw[if_neg hj,if_neg hj];exact⟨_,rfl⟩
theorem DV:cu X (.type "int") (λxs H Q=>(∃i,xs=[.int i]/\Q (.int i) H)\/∃k,xs=[.bl k]/\Q (.int (if k then 1 else 0)) H):=by
 intro pins s σ H xs us Q I r h;rcases h with ⟨i,rfl,q⟩|⟨k,rfl,q⟩
 ·obtain⟨u,rfl,t,rfl⟩:=vals1 r;exact call_int_int ⟨.int i,H,I,⟨_,rfl⟩,q⟩
 ·obtain⟨u,rfl,r1⟩:=vals1 r;cases r1;exact call_int_bool ⟨.int (if k then 1 else 0),H,I.tok _,⟨_,rfl⟩,q⟩
def SJ (K:PySem.W.Frag)(x:V)(H:Hp)(n:Nat):Prop:=
 match x with
 |.str y=>y.length<=au/\n=y.length
 |.byt y=>y.size<=au/\n=y.size
 |.ref p=>(∃xs,Xc K H p xs/\n=xs.length)\/∃xs,Xd K H p xs/\n=xs.length
 |_=>False
theorem Iu:cu X (.builtin "len") (λxs H Q=>∃x n,xs=[x]/\SJ X.K x H n/\Q (.int n) H):=by
 intro pins s σ H xs us Q I r h;obtain⟨x,n,rfl,e,q⟩:=h;obtain⟨u,rfl,rx⟩:=vals1 r;have hl:=lr;have hs:au=16777216:=bT;cases x with
 |str y=>
  obtain⟨t,rfl⟩:=rx;obtain⟨hy,e'⟩:y.length<=au/\n=y.length:=e;subst e';exact len_str (by lia) ⟨.int _,H,I.tok _,⟨_,rfl⟩,q⟩
 |byt y=>
  obtain⟨t,rfl⟩:=rx;obtain⟨hy,e'⟩:y.size<=au/\n=y.size:=e;subst e';exact PySem.W.len_bytes (by lia) ⟨.int _,H,I.tok _,⟨_,rfl⟩,q⟩
 |ref p=>
  cases rx;have e':(∃xs,Xc X.K H p xs/\n=xs.length)\/∃xs,Xd X.K H p xs/\n=xs.length:=e;rcases e' with ⟨xs,hx,e'⟩|⟨xs,hx,e'⟩
  ·subst e';obtain⟨its,r',pl,hz⟩:=I.list hx;have hlen:=r'.length;exact Calls.call_len_list pl.isList (by simp only[az];lia) ⟨.int xs.length,H,I.tok _,⟨_,by simp only[az];rw[hlen]⟩,q⟩
  ·subst e';obtain⟨its,r',pl,hz⟩:=I.tuple hx;have hlen:=r'.length;exact len_tuple pl (by simp only[az];lia) ⟨.int xs.length,H,I.tok _,⟨_,by simp only[az];rw[hlen]⟩,q⟩
 |_=>exact(show False from e).elim
end
structure yZ (h:Heap)(x dx C:Addr)(mA:Str->Option af):Prop where
 obj:h.get? x=some (PySem.W.instObj C dx)
 ns:h.Ns1 dx mA
 ne:dx≠x
theorem lT {h:Heap}{dx:Addr}{mA:Str->Option af}(n:h.Ns1 dx mA):∃od,h.get? dx=some od/\∀name,PySem.W.lookIn name od=some (mA name):=by
 obtain⟨o,es,ep,ho,hd,hk,_,hm⟩:=n;refine⟨o,ho,λname=>?_⟩;have e:=hm name;unfold nsFind findBy at e;rw[←Array.find?_toList]at e;unfold PySem.W.lookIn;rw[hd];dsimp only;split
 ·rename_i y q;rw[q]at e;exact congrArg some e
 ·rename_i q;rw[q]at e;have a:es.toList.any (·.refKey)=false:=by
   rw[List.any_eq_false];intro y hy;obtain⟨z,t,an1⟩:=hk y (Array.mem_toList_iff.mp hy);simp[DictEntry.refKey,an1]
  have a':¬es.toList.any (·.refKey)=true:=by rw[a];exact aH
  rw[if_neg a'];exact congrArg some e
theorem yZ.look {h:Heap}{x dx C:Addr}{mA:Str->Option af}(I:yZ h x dx C mA):∃od,PySem.W.InstAt h x (PySem.W.instObj C dx) C (some od)/\∀name,PySem.W.lookIn name od=some (mA name):=
 let ⟨od,ho,hl⟩:=lT I.ns
 ⟨od,⟨I.obj,rfl,rfl,ho⟩,hl⟩
section
variable {prog:aI}{w:aZ}{A:br}{E:af->ah->Prop}{s:ah}{K:PySem.W.Frag}{x dx C f:Addr}{mA:Str->Option af}{name:Str}{v:af}
theorem get_map {expr:Bool}{Q:af->ah->Prop}(X:K.In s.heap)(I:yZ s.heap x dx C mA)(hg:PySem.W.plainGet K C name=true)(hh:PySem.W.hasDictIn K C=true)
  (ha:PySem.W.findIn K (.ref C) name=some none) (hv:mA name=some v) (hv':PySem.W.handedIn v=true) (h:Q v { s with toks:=s.toks+1 }):
  aq (model prog w) A (getAttr (.ref x) name expr) Q E s:=by
 obtain⟨od,J,hl⟩:=I.look;exact PySem.W.get_value X J (PySem.W.plainGet_of hg).1 (PySem.W.findObj_own hh ha rfl (by rw[hl,hv])) hv' h
theorem Hr {pl:Sem Bool}{Q:af×List af->ah->Prop}(X:K.In s.heap)(I:yZ s.heap x dx C mA)(hg:PySem.W.plainGet K C name=true)
  (hf:PySem.W.findIn K (.ref C) name=some (some (.ref f))) (ht:PySem.W.isFn K (.ref f)=true) (hv:mA name=none) (h:Q (.ref f,[.ref x]) s):
  aq (model prog w) A (getMethod (.ref x) name pl) Q E s:=by
 obtain⟨od,J,hl⟩:=I.look;exact PySem.W.method_fn X J (PySem.W.plainGet_of hg).1 (PySem.W.plainGet_of hg).2 hf (beq_iff_eq.mp ht) (by show(PySem.W.lookIn name od).map (·.isSome)=some false;rw[hl,hv];rfl) h
theorem Jz {ns:List Str}{Q:Unit->ah->Prop}(X:K.In s.heap)(I:yZ s.heap x dx C mA)
  (hs:PySem.W.findIn K (.ref C) "__setattr__"=some (some (.builtin "object.__setattr__"))) (hp:PySem.W.plainOver K C=true) (ht:PySem.W.takerIn K C name=some none) (hh:PySem.W.hasDictIn K C=true)
  (hw:PySem.Within mA ns) (hsz:ns.length<=au)
  (h:∀h',yZ h' x dx C (λy=>if y=name then some v else mA y)->Heap.SameBut dx s.heap h'->Q () { s with heap:=h',toks:=s.toks+2 }):
  aq (model prog w) A (setAttr (.ref x) name v) Q E s:=by
 obtain⟨od,J,hl⟩:=I.look;refine PySem.W.set_plain X J hs (PySem.W.osa_open (s:={ s with toks:=s.toks+1 }) (r:=none) X J hp ht λb=>?_);obtain⟨cd,hc,hd'⟩:=PySem.W.any_some hh;have hx:s.heap.get? x=some ⟨.ref C,some dx,.plain,#[]⟩:=I.obj;refine aa (ak (aa (aa (ki hx (aa (PySem.W.Looks.here (s:={ s with toks:=s.toks+1 }) (PySem.W.looks_clsIn X hc) ?_))))));rw[hd'];refine ak (a:=some dx) (aa (ak (aa ?_)));refine wpAny_nsSet1 (s:={ s with toks:=s.toks+1 }) I.ns λh' hn2 hs2=>?_;obtain⟨oD,esD,epD,hoD,hdD,hcD⟩:=hn2.count (PySem.Within.cons name v hw);refine aa (xb hoD (by rw[hdD];exact xg (b8 hcD (by rw[aN];lia))) ?_);exact ak (h _ ⟨(hs2.2 _ (Ne.symm I.ne)).trans I.obj,hn2,I.ne⟩ hs2)
theorem yi {R:Result->ah->Prop}{vs:List af}{kw:List (Str×af)}(X:K.In s.heap)(hm:PySem.W.makesIn K C=true)
  (hi:PySem.W.findIn K (.ref C) "__init__"=some (some (.ref f))) (hf:PySem.W.typeIn K (.ref f)=some (.type "function"))
  (h:codeAny (model prog w) (A.under (.builtin "type.__call__" ⟨.ref C::vs,kw⟩)) (.call (.ref f) ⟨.ref (s.heap.objs.size+1)::vs,kw⟩) (PySem.W.InitBack (s.heap.objs.size+1) R)
   { s with heap:=(s.heap.push PySem.W.emptyDict).push (PySem.W.instObj C s.heap.objs.size) }):
  codeAny (model prog w) A (.call (.ref C) ⟨vs,kw⟩) R s:=by
 obtain⟨hh,g,d,t,os⟩:=s;exact PySem.W.make_core (PySem.W.makes_of X hm) (PySem.W.looks_findIn X hi) (λself=>PySem.W.bind_fn X self hf) (.inl rfl) h
end
def ik (f:Str)(v:V):List (Str×V)->List (Str×V)
 | []=>[(f,v)]
 | (g,x)::r=>if g=f then (g,v)::r else (g,x)::ik f v r
theorem ll (f g:Str)(v:V):∀fs:List (Str×V),(ik f v fs).lookup g=if g=f then some v else fs.lookup g
 | []=>by
  show cw g [(f,v)]=_
  by_cases h:g=f
  ·have hb:(g==f)=true:=beq_iff_eq.mpr h;simp only[cw,hb,if_pos h]
  ·have hb:(g==f)=false:=beq_eq_false_iff_ne.mpr h;simp only[cw,hb,if_neg h]
 | (k,x)::r=>by
  have ih:=ll f g v r;rw[show ik f v ((k,x)::r)=(if k=f then (k,v)::r else (k,x)::ik f v r) from rfl]
  by_cases hk:k=f
  ·rw[if_pos hk]
   by_cases h:g=k
   ·have hb:(g==k)=true:=beq_iff_eq.mpr h;simp only[cw,hb,if_pos (h.trans hk)]
   ·have hb:(g==k)=false:=beq_eq_false_iff_ne.mpr h;simp only[cw,hb,if_neg (λe:g=f=>h (e.trans hk.symm))]
  ·rw[if_neg hk]
   by_cases h:g=k
   ·have hb:(g==k)=true:=beq_iff_eq.mpr h;simp only[cw,hb,if_neg (λe:g=f=>hk (h.symm.trans e))]
   ·have hb:(g==k)=false:=beq_eq_false_iff_ne.mpr h;simp only[cw,hb];exact ih
theorem jN (f:Str)(v:V):∀fs:List (Str×V),f∈(ik f v fs).map (·.1)/\∀g,g∈fs.map (·.1)->g∈(ik f v fs).map (·.1)
 | []=>⟨by simp[ik],λg h=>by simp at h⟩
 | (k,x)::r=>by
  obtain⟨i1,i2⟩:=jN f v r;rw[show ik f v ((k,x)::r)=(if k=f then (k,v)::r else (k,x)::ik f v r) from rfl]
  by_cases hk:k=f
  ·rw[if_pos hk];subst hk;exact⟨by simp,λg h=>by simpa using h⟩
  ·rw[if_neg hk];refine⟨?_,λg h=>?_⟩
   ·rw[aM];exact aJ _ i1
   ·rw[aM]at h ⊢;rcases List.mem_cons.mp h with e |e
    ·exact List.mem_cons.mpr (.inl e)
    ·exact aJ _ (i2 g e)
theorem qb (f:Str)(v:V):∀fs:List (Str×V),(ik f v fs).length<=fs.length+1
 | []=>by simp[ik]
 | (k,x)::r=>by
  have ih:=qb f v r;rw[show ik f v ((k,x)::r)=(if k=f then (k,v)::r else (k,x)::ik f v r) from rfl]
  by_cases hk:k=f
  ·rw[if_pos hk,aN,aN];lia
  ·rw[if_neg hk,aN,aN];lia
theorem gr.lN {v:V}{o:Option af}(r:gr (some v) o):∃u,o=some u/\RelV v u:=by
 cases o with
 |none=>exact(show False from r).elim
 |some u=>exact⟨u,rfl,r⟩
theorem gr.none_of {o:Option af}(r:gr none o):o=none:=by
 cases o with
 |none=>rfl
 |some u=>exact(show False from r).elim
theorem pC {v:V}{u:af}(r:RelV v u):PySem.W.handedIn u=true:=by
 cases v with
 |WN=>cases (show u=Value.none from r);rfl
 |bl b=>cases (show u=Value.bool b from r);rfl
 |int i=>obtain⟨t,e⟩:=(show ∃t,u=Value.int i t from r);cases e;rfl
 |str x=>obtain⟨t,e⟩:=(show ∃t,u=Value.str x t from r);cases e;rfl
 |byt b=>obtain⟨t,e⟩:=(show ∃t,u=Value.bytes b t from r);cases e;rfl
 |flt b=>obtain⟨t,e⟩:=(show ∃t,u=Value.float b t from r);cases e;rfl
 |ref a=>cases (show u=Value.ref a from r);rfl
 |ty n=>cases (show u=Value.type n from r);rfl
section
variable {P:aI}{w:aZ}{H H':Hp}{h h':Heap}{a C dx:Addr}{fs fs':List (Str×V)}
theorem kb (WJ:Xo P w H h)(e:H a=some (.ins C dx fs)):∃mA,yZ h a dx C mA/\(∀f,gr (fs.lookup f) (mA f))/\PySem.Within mA (fs.map (·.1))/\fs.length<=1000/\H dx=some (.own a):=by
 obtain⟨d,z,ne,ob,mA,n,r,q⟩:=(show bJ P w H h a (.ins C dx fs) from WJ a _ e);exact⟨mA,⟨ob,n,ne⟩,r,q,z,d⟩
end
structure Cls (K:PySem.W.Frag)(C:Addr):Prop where
 pg:PySem.W.plainGet K C Str.empty=true
 hd:PySem.W.hasDictIn K C=true
 po:PySem.W.plainOver K C=true
 sa:PySem.W.findIn K (.ref C) "__setattr__"=some (some (.builtin "object.__setattr__"))
theorem Cls.get {K:PySem.W.Frag}{C:Addr}(c:Cls K C)(f:Str):PySem.W.plainGet K C f=true:=c.pg
def dW (K:PySem.W.Frag)(C:Addr)(f:Str):Prop:=PySem.W.findIn K (.ref C) f=some none
theorem dW.P8 {K:PySem.W.Frag}{C:Addr}{f:Str}(n:dW K C f):PySem.W.takerIn K C f=some none:=by
 unfold PySem.W.takerIn;rw[show PySem.W.findIn K (.ref C) f=some none from n];rfl
structure w6 (K:PySem.W.Frag)(C:Addr)(m:Str)(f:Addr):Prop where
 at_:PySem.W.findIn K (.ref C) m=some (some (.ref f))
 fn:PySem.W.isFn K (.ref f)=true
 kp:PySem.W.keepIn K (.ref f)=true
section
variable {X:Cx}{pins:List (Addr×Obj)}{σ:St}{H:Hp}{s:ah}{a C dx:Addr}{fs:List (Str×V)}{f:Str}{v:V}{A:br}{E:af->ah->Prop}
theorem sC {b:Bool}{Q:af->ah->Prop}(I:Inv X pins σ H s)(e:H a=some (.ins C dx fs))(c:Cls X.K C)(n:dW X.K C f)(l:fs.lookup f=some v)
  (h:∀u s',Inv X pins σ H s'->RelV v u->Q u s'):aq (model X.prog X.w) A (getAttr (.ref a) f b) Q E s:=by
 obtain⟨mA,O,r,_,_,_⟩:=kb I.WJ e;obtain⟨u,hu,ru⟩:=gr.lN (v:=v) (o:=mA f) (by rw[←l];exact r f);exact get_map I.W5 O (c.get f) c.hd n hu (pC ru) (h u _ (I.tok _) ru)
theorem i4 {m:Str}{g:Addr}{pl:Sem Bool}{Q:af×List af->ah->Prop}(I:Inv X pins σ H s)(e:H a=some (.ins C dx fs))(c:Cls X.K C)(k:w6 X.K C m g)(l:fs.lookup m=none)
  (h:Q (.ref g,[.ref a]) s):aq (model X.prog X.w) A (getMethod (.ref a) m pl) Q E s:=by
 obtain⟨mA,O,r,_,_,_⟩:=kb I.WJ e;have hn:mA m=none:=gr.none_of (by rw[←l];exact r m);exact Hr I.W5 O (c.get m) k.at_ k.fn hn h
theorem rC {y:V}{u:af}{Q:Unit->ah->Prop}(I:Inv X pins σ H s)(e:H a=some (.ins C dx fs))(c:Cls X.K C)(n:dW X.K C f)(hl:fs.length<1000)(ry:RelV y u)
  (h:∀s',Inv X pins σ (upd H a (.ins C dx (ik f y fs))) s'->Q () s'):aq (model X.prog X.w) A (setAttr (.ref a) f u) Q E s:=by
 obtain⟨mA,O,r,wi,_,ho⟩:=kb I.WJ e;have hz:(fs.map (·.1)).length<=au:=by rw[aP,bT];lia
 refine Jz I.W5 O c.sa c.po n.P8 c.hd wi hz λh' O' sb=>h _ ?_;have hd:∃o,h'.get? dx=some o:=let ⟨o,_,_,e',_⟩:=O'.ns;⟨o,e'⟩;refine I.write (x:=a) (e:=dx) (by rw[e];exact True.intro) (.inr ho) (λb q hb z=>(sb.2 b hb).trans z) hd ?_;refine⟨by rw[aQ O.ne];exact ho,?_,O.ne,O'.obj,_,O'.ns,λg=>?_,λg hg=>?_⟩
 ·have:=qb f y fs;lia
 ·show gr ((ik f y fs).lookup g) (if g=f then some u else mA g);rw[ll]
  by_cases q:g=f
  ·rw[if_pos q,if_pos q];exact ry
  ·rw[if_neg q,if_neg q];exact r g
 ·by_cases q:g=f
  ·rw[q];exact(jN f y fs).1
  ·refine(jN f y fs).2 g (wi g λz=>hg ?_);show(if g=f then some u else mA g)=none;rw[if_neg q];exact z
theorem Inv.made (I:Inv X pins σ H s):Inv X pins σ (upd (upd H s.heap.objs.size (.own (s.heap.objs.size+1))) (s.heap.objs.size+1) (.ins C s.heap.objs.size []))
  { s with heap:=(s.heap.push PySem.W.emptyDict).push (PySem.W.instObj C s.heap.objs.size) }:=by
 have e1:(s.heap.push PySem.W.emptyDict).get? s.heap.objs.size=some PySem.W.emptyDict:=aB s.heap rfl;have e2:((s.heap.push PySem.W.emptyDict).push (PySem.W.instObj C s.heap.objs.size)).get? (s.heap.objs.size+1)=some (PySem.W.instObj C s.heap.objs.size):=by
  have:=aB (s.heap.push PySem.W.emptyDict) (o:=PySem.W.instObj C s.heap.objs.size) rfl
  rwa [bI]at this
 have e3:(s.heap.push PySem.W.emptyDict).Ns s.heap.objs.size (λ_=>none):=⟨PySem.W.emptyDict,#[],_,e1,rfl,(λe he=>absurd he (by simp)),λ_=>rfl⟩;have I1:=I.laid (a:=s.heap.objs.size) (o:=.own (s.heap.objs.size+1)) (h':=s.heap.push PySem.W.emptyDict) (t':=s.toks) (λb u q=>aj _ q) (aw _) ⟨_,e1⟩;refine I1.laid (a:=s.heap.objs.size+1) (o:=.ins C s.heap.objs.size []) (t':=s.toks) (λb u q=>aj _ q) (Nat.le_of_eq (bI _ _)) ?_;have ne:s.heap.objs.size≠s.heap.objs.size+1:=aT (cF _);refine⟨by rw[aQ ne,bu],bG _,ne,e2,λ_=>none,(Heap.Ns1.of_empty e3).at λo q=>aj _ q,λ_=>True.intro,λy hy=>absurd rfl hy⟩
theorem wY {prog:aI}{w:aZ}{env:Env}{e:Expr}{f:Str}{pos:Pos}{s:ah}{Q:af->ah->Prop}(hb:attributeBase e f env (eval e env)=eval e env)
  (h:aq (model prog w) A (eval e env) (λo s₁=>aq (model prog w) A (getAttr o f true) Q E s₁) E s):aq (model prog w) A (eval (.Attribute e f pos) env) Q E s:=
 Attribute_any_ h (by rw[arm_eval_Attribute,hb])
end
def MH (K:PySem.W.Frag)(ta:TE)(f:Str):TE:=λσ H Q=>ta σ H λx H1=>∃a C dx fs v,x=.ref a/\H1 a=some (.ins C dx fs)/\Cls K C/\dW K C f/\fs.lookup f=some v/\Q v H1
def Qw (K:PySem.W.Frag)(ta tv:TE)(f:Str):TS:=λD σ H=>tv σ H λy H1=>ta σ H1 λx H2=>∃a C dx fs,x=.ref a/\H2 a=some (.ins C dx fs)/\Cls K C/\dW K C f/\fs.length<1000/\
 D.nx σ (upd H2 a (.ins C dx (ik f y fs)))
section
variable {X:Cx}{o e value:Expr}{f:Str}{pos pos' Wv:Pos}{ta tv:TE}
theorem NX (he:PE X e ta)(hb:attributeBase e f X.env (eval e X.env)=eval e X.env):PE X (.Attribute e f pos) (MH X.K ta f):=by
 intro pins s σ H Q I h;refine wY hb (WL (he pins s σ H _ I h) λu s1 zq=>?_);obtain⟨x,H1,I1,rx,a,C,dx,fs,v,ex,ea,c,n,l,q⟩:=zq;subst ex;obtain rfl:u=Value.ref a:=rx;exact sC I1 ea c n l λu' s2 I2 ru=>⟨v,H1,I2,ru,q⟩
theorem NO (ha:PE X o ta)(hv:PE X value tv)(hs:swapsWith value (some (.Attribute o f pos')) pos.line X.env=pure false):PS X (.Assign [.Attribute o f pos'] value pos) (Qw X.K ta tv f):=by
 intro pins s σ H D I h;refine iO (WL (hv pins s σ H _ I h) λu s1 zp1=>?_) hs;obtain⟨y,H1,I1,ry,q⟩:=zp1;refine WL (ha pins s1 σ H1 _ I1 q) λov s2 zq=>?_;obtain⟨x,H2,I2,rx,a,C,dx,fs,ex,ea,c,n,l,q2⟩:=zq;subst ex;obtain rfl:ov=Value.ref a:=rx;exact rC I2 ea c n l ry λs3 I3=>⟨σ,_,I3,q2⟩
end
section
variable {X:Cx}{pins:List (Addr×Obj)}{σ:St}{H:Hp}{s:ah}{A:br}{E:af->ah->Prop}{Q:af->ah->Prop}{c:af}{b:Bool}
inductive kg (K:PySem.W.Frag)(H:Hp):V->af->Prop where
 |WN:kg K H .WN (.type "NoneType")
 |bl (x:Bool):kg K H (.bl x) (.type "bool")
 |int (i:Int):kg K H (.int i) (.type "int")
 |str (x:Str):kg K H (.str x) (.type "str")
 |flt (x:UInt64):kg K H (.flt x) (.type "float")
 |lst {a:Addr} {xs:List V} (e:H a=some (.lst xs)):kg K H (.ref a) (.type "list")
 |frz {a:Addr} {o:Obj} {xs:List V} (e:H a=some (.frz o (.lst xs))):kg K H (.ref a) (.type "list")
 |tup {a:Addr} {xs:List V} (e:H a=some (.tup xs)):kg K H (.ref a) (.type "tuple")
 |dK {a:Addr} {kvs:List (Key×V)} (e:H a=some (.dK kvs)):kg K H (.ref a) (.type "dict")
 |dT {a:Addr} {kvs:List (List Key×V)} (e:H a=some (.dT kvs)):kg K H (.ref a) (.type "dict")
 |ins {a C dx:Addr} {fs:List (Str×V)} (e:H a=some (.ins C dx fs)) (cl:Cls K C) (ha:PySem.W.findIn K (.ref C) "__class__"=some (some (.builtin "object.__class__")))
   (hn:PySem.W.specialIn K (.builtin "object.__class__") "__get__"=some (some (.builtin "getset_descriptor.__get__"))) (htk:PySem.W.takesIn K (.builtin "object.__class__")=some true)
   (hm:PySem.W.mroIn K C (.type "object")=some true):kg K H (.ref a) (.ref C)
theorem Dt {x:V}{u t:af}(I:Inv X pins σ H s)(rx:RelV x u)(ty:kg X.K H x t)(e:PySem.W.kitOne X.K t c=some b)(h:∀tk,Q (.bool b) { s with toks:=tk }):
  aq (model X.prog X.w) A (call (.builtin "isinstance") [u,c]) Q E s:=by
 cases ty with
 |WN=>cases (show u=Value.none from rx);exact PySem.W.kia_one PySem.W.kitx_none I.W5 True.intro e (λz=>nomatch z) h
 |bl y=>cases (show u=Value.bool y from rx);exact PySem.W.kia_one PySem.W.kitx_bool I.W5 True.intro e (λz=>nomatch z) h
 |int i=>obtain⟨t,q⟩:=(show ∃t,u=Value.int i t from rx);cases q;exact PySem.W.kia_one PySem.W.kitx_int I.W5 True.intro e (λz=>nomatch z) h
 |str y=>obtain⟨t,q⟩:=(show ∃t,u=Value.str y t from rx);cases q;exact PySem.W.kia_one PySem.W.kitx_str I.W5 True.intro e (λz=>nomatch z) h
 |flt y=>obtain⟨t,q⟩:=(show ∃t,u=Value.float y t from rx);cases q;exact PySem.W.kia_one PySem.W.kitx_float I.W5 True.intro e (λz=>nomatch z) h
 | @lst a xs ea=>
  cases (show u=Value.ref a from rx);obtain⟨_,_,n,_,h1⟩:=(show bJ X.prog X.w H s.heap a (.lst xs) from I.WJ a _ ea);exact PySem.W.kia_one PySem.W.kitx_list I.W5 ⟨_,h1,rfl⟩ e (λz=>nomatch z) h
 | @frz a ob xs ea=>
  cases (show u=Value.ref a from rx);obtain⟨_,_,_,n,_,h1⟩:=(show bJ X.prog X.w H s.heap a (.frz ob (.lst xs)) from I.WJ a _ ea);exact PySem.W.kia_one PySem.W.kitx_list I.W5 ⟨_,h1,rfl⟩ e (λz=>nomatch z) h
 | @tup a xs ea=>
  cases (show u=Value.ref a from rx);obtain⟨_,_,_,p⟩:=(show bJ X.prog X.w H s.heap a (.tup xs) from I.WJ a _ ea);obtain⟨o,h1,h2,_⟩:=p;exact PySem.W.kia_one PySem.W.kitx_tuple I.W5 ⟨o,h1,h2⟩ e (λz=>nomatch z) h
 | @dK a kvs ea=>
  cases (show u=Value.ref a from rx);obtain⟨_,_,vs,_,p⟩:=(show bJ X.prog X.w H s.heap a (.dK kvs) from I.WJ a _ ea);obtain⟨o,es,ep,h1,h2,_⟩:=p;exact PySem.W.kia_one PySem.W.kitx_dict I.W5 ⟨o,h1,h2.1⟩ e (λz=>nomatch z) h
 | @dT a kvs ea=>
  cases (show u=Value.ref a from rx);obtain⟨_,_,xs,_,o,es,ep,h1,h2,_⟩:=(show bJ X.prog X.w H s.heap a (.dT kvs) from I.WJ a _ ea);exact PySem.W.kia_one PySem.W.kitx_dict I.W5 ⟨o,h1,h2.1⟩ e (λz=>nomatch z) h
 | @ins a C dx fs ea cl ha hn htk hm=>
  cases (show u=Value.ref a from rx);obtain⟨mA,O,_⟩:=kb I.WJ ea;obtain⟨od,J,_⟩:=O.look;exact PySem.W.kia_one (PySem.W.kitx_own (cl.get _) cl.hd ha hn htk hm) I.W5 J e (λz=>nomatch z) h
end
structure c8 (k:Nat)(A:br):Prop where
 hd:A.handled=none
 gd:A.guards=some []
 dp:A.depth+3*k+5<recursionLimit
 un:A.units+16*k+200<cLine
theorem c8.mono {j k:Nat}{A:br}(r:c8 k A)(h:j<=k):c8 j A:=⟨r.hd,r.gd,by have:=r.dp;lia,by have:=r.un;lia⟩
theorem c8.deeper {k:Nat}{A:br}(r:c8 (k+1) A)(env:Env):c8 k (A.deeper env):=
 ⟨r.hd,r.gd,by have:=r.dp;show A.depth+1+3*k+5<_;lia,by have:=r.un;show A.units+3+16*k+200<_;lia⟩
theorem c8.in1 {k:Nat}{A:br}(r:c8 (k+1) A):c8 k A.in1:=
 ⟨r.hd,r.gd,by have:=r.dp;show A.depth+3*k+5<_;lia,by have:=r.un;show A.units+1+16*k+200<_;lia⟩
theorem z8 {A:br}{C:Addr}{us:List af}{kw:List (Str×af)}:(A.under (.builtin "type.__call__" ⟨.ref C::us,kw⟩)).depth=A.depth+1:=by
 first |rfl|simp[Around.under,Code.weight,Code.isCreation,Code.isGuard,Code.isCaller,Code.frames,Code.isFrame,guardIds]
theorem z7 {A:br}{C:Addr}{us:List af}{kw:List (Str×af)}:(A.under (.builtin "type.__call__" ⟨.ref C::us,kw⟩)).units=A.units+1:=by
 first |rfl|simp[Around.under,Code.cUnits,Code.frames,Code.isFrame]
theorem yj {A:br}{C:Addr}{us:List af}{kw:List (Str×af)}:(A.under (.builtin "type.__call__" ⟨.ref C::us,kw⟩)).guards=A.guards:=by
 first |rfl|simp[Around.under,Code.guards,Code.isGuard,guardIds,pushGuards]
theorem c8.make {k:Nat}{A:br}(r:c8 (k+1) A)(C:Addr)(us:List af)(kw:List (Str×af)):c8 k (A.under (.builtin "type.__call__" ⟨.ref C::us,kw⟩)):=
 ⟨r.hd,yj.trans r.gd,by have:=r.dp;rw[z8];lia,by have:=r.un;rw[z7];lia⟩
theorem c8.depth {k:Nat}{A:br}(r:c8 k A):A.depth<recursionLimit:=by have:=r.dp;lia
theorem c8.units {k:Nat}{A:br}(r:c8 k A):A.units+64<cLine:=by have:=r.un;lia
def iw:TA:=λ_ H Q=>Q [] H
def fu (ta:TE)(tr:TA):TA:=λσ H Q=>ta σ H λx H1=>tr σ H1 λxs H2=>Q (x::xs) H2
section
variable {X:Cx}{e:Expr}{es:List Expr}{te:TE}{t:TA}{pos:Pos}
theorem iX:PA X [] iw:=λ_ _ _ _ H Q I h=>dw ⟨[],H,I,.nil,h⟩
theorem eM (ha:PE X e te)(hr:PA X es t)(hs:ay (e::es) X.env=(false,eval e X.env)::ay es X.env:=by rfl):PA X (e::es) (fu te t):=by
 intro pos pins s σ H Q I h;rw[hs];show aq _ _ (spliced ((false,eval e X.env)::backTo pos (ay es X.env))) _ _ s;refine cD (WL (ha pins s σ H _ I h) λu s1 zq=>?_);obtain⟨x,H1,I1,r1,q1⟩:=zq;exact WL (hr pos pins s1 σ H1 _ I1 q1) λus s2 ⟨xs,H2,I2,r2,q2⟩=>⟨x::xs,H2,I2,.cons r1 r2,q2⟩
end
abbrev Sp:=List V->Hp->VK->XK->Prop
abbrev CXT:=List Env->Hp->ah->XK->af->ah->Prop
structure ua (P:aI)(w:aZ)(K:PySem.W.Frag)(mg:Str->Option af)(base:Heap)(A:br)(outer:List Env)(s:ah)(H:Hp):Prop where
 frames:A.frames=some outer
 mod:Mod K mg base
 bs:∀b o,base.get? b=some o->s.heap.get? b=some o/\H b=none
 bsz:base.objs.size<=s.heap.objs.size
 kF:s.heap.FunFrames base outer
 frf:∀b∈frs outer,H b=none
 WJ:Xo P w H s.heap
 bare:AllBare s.gens
def CE (outer:List Env)(P:aI)(w:aZ)(H:Hp)(s:ah)(Q:VK)(u:af)(s':ah):Prop:=
 ∃v H',s'.os=s.os/\AllBare s'.gens/\Un (frs outer) [] H H' s.heap s'.heap/\Xo P w H' s'.heap/\RelV v u/\Q v H'
def CR (CX:CXT)(outer:List Env)(P:aI)(w:aZ)(H:Hp)(s:ah)(Q:VK)(E:XK)(r:Result)(s':ah):Prop:=
 match r with
 |.ok (.ret u)=>CE outer P w H s Q u s'
 |.ok _=>False
 |.error e=>CX outer H s E e s'
structure d8 (P:aI)(w:aZ)(K:PySem.W.Frag)(mg:Str->Option af)(base:Heap)(CX:CXT)(k:Nat)(f:Addr)(fd:aK)(ps:List Str)(sp:Sp):Prop where
 len:∀vs H Q E,sp vs H Q E->vs.length=ps.length
 run:∀(A:br)(outer:List Env)(s:ah)(H:Hp)(args:Args)(us:List af)(vs:List V)(Q:VK)(E:XK),c8 k A->ua P w K mg base A outer s H->BindsTo s fd args (ps.zip us)->bA vs us->sp vs H Q E->
  codeAny (model P w) A (.call (.ref f) args) (CR CX outer P w H s Q E) s
theorem d8.imp {P:aI}{w:aZ}{K:PySem.W.Frag}{mg:Str->Option af}{base:Heap}{CX:CXT}{k:Nat}{f:Addr}{fd:aK}{ps:List Str}{sp sp':Sp}(F:d8 P w K mg base CX k f fd ps sp)
  (h:∀vs H Q E,sp' vs H Q E->sp vs H Q E):d8 P w K mg base CX k f fd ps sp':=
 ⟨λvs H Q E q=>F.len vs H Q E (h _ _ _ _ q),λA outer s H args us vs Q E hr he hb hv hs=>F.run A outer s H args us vs Q E hr he hb hv (h _ _ _ _ hs)⟩
theorem ua.make {P:aI}{w:aZ}{K:PySem.W.Frag}{mg:Str->Option af}{base:Heap}{A:br}{outer:List Env}{s:ah}{H:Hp}(e:ua P w K mg base A outer s H)(C:Addr)(us:List af)(kw:List (Str×af)):
  ua P w K mg base (A.under (.builtin "type.__call__" ⟨.ref C::us,kw⟩)) outer s H:=⟨by first |exact e.frames | (simpa [Around.under,Code.envs,Code.isFrame,pushEnvs] using e.frames),e.mod,e.bs,e.bsz,e.kF,e.frf,e.WJ,e.bare⟩
theorem ua.in1 {P:aI}{w:aZ}{K:PySem.W.Frag}{mg:Str->Option af}{base:Heap}{A:br}{outer:List Env}{s:ah}{H:Hp}(e:ua P w K mg base A outer s H):
  ua P w K mg base A.in1 outer s H:=⟨e.frames,e.mod,e.bs,e.bsz,e.kF,e.frf,e.WJ,e.bare⟩
section
variable {X:Cx}{pins:List (Addr×Obj)}{σ:St}{H:Hp}{s s':ah}
theorem Inv.AD (I:Inv X pins σ H s):ua X.prog X.w X.K X.mg X.base X.A X.stack s H:=
 ⟨I.ok.frames,I.ok.mod,I.bs,b8 I.ok.bsz I.sz,I.stack,I.vG,I.WJ,I.bare⟩
theorem Inv.after {Q:VK}{u:af}(I:Inv X pins σ H s)(h:CE X.stack X.prog X.w H s Q u s'):EP X pins σ Q u s':=by
 obtain⟨v,H',os,bare,un,WJ,r,q⟩:=h;obtain⟨hh,g,d,t,os'⟩:=s';obtain rfl:os'=s.os:=os;exact⟨v,H',I.call (h':=hh) (g':=g) (d':=d) (t':=t) (ch:=[]) un WJ bare (λb z=>absurd z (by simp)),r,q⟩
end
def Binds (K:PySem.W.Frag)(fd:aK)(ps:List Str)(ds:List af):Prop:=
 ∀(s:ah)(us:List af),K.In s.heap->(us++ds).length=ps.length->BindsTo s fd ⟨us,[]⟩ (ps.zip (us++ds))
theorem Binds.all {K:PySem.W.Frag}{fd:aK}{ps:List Str}(h:∀us:List af,us.length=ps.length->bindArgs fd ⟨us,[]⟩=pure (ps.zip us)):Binds K fd ps []:=λs us _ hl=>by
 rw[bN]at hl ⊢;exact .of_eq (h us hl)
section
variable {X:Cx}{CX:CXT}{k:Nat}{f C:Addr}{fd:aK}{ps:List Str}{sp:Sp}{dvs:List V}{ds:List af}{E:XK}{x m:Str}{p pos apos:Pos}{e o:Expr}{es:List Expr}{ta:TE}{t:TA}
structure Mk (K:PySem.W.Frag)(C f:Addr):Prop where
 makes:PySem.W.makesIn K C=true
 init:PySem.W.findIn K (.ref C) "__init__"=some (some (.ref f))
 fn:PySem.W.isFn K (.ref f)=true
 kp:PySem.W.keepIn K (.ref C)=true
end
structure eC (N P:List Str)(sc:Scope):Prop where
 kind:sc.kind=.function
 co:sc.isCoroutine=false
 gen:sc.isGenerator=false
 nd:N.Nodup
 pre:N.take P.length=P
 par:∀x∈P,sc.names.lookup x=some .local\/sc.names.lookup x=some .cell
 ax6:∀y∈sc.names,y.2≠.free
theorem vo {kindOf:Str->Option NameKind}{x:Str}:∀{binds:List (Str×af)}{m:Str->Option af},(∀v,(x,v)∉binds)->bindL kindOf binds m x=m x
 | [],_,_=>rfl
 | (n,v)::r,m,h=>by
  unfold bindL;rw[vo λw hw=>h w (aJ _ hw)];split
  ·have:x≠n:=by rintro rfl;exact h v aR
   simp[this]
  ·rfl
theorem vq {kindOf:Str->Option NameKind}{x:Str}:∀{binds:List (Str×af)}{m:Str->Option af},(∀v,(x,v)∉binds)->bindC kindOf binds m x=m x
 | [],_,_=>rfl
 | (n,v)::r,m,h=>by
  unfold bindC;rw[vq λw hw=>h w (aJ _ hw)];split
  ·rfl
  ·have:x≠n:=by rintro rfl;exact h v aR
   simp[this]
theorem vp {kindOf:Str->Option NameKind}{x:Str}{v:af}:∀{P:List Str}{vs:List af}{i:Nat}{m:Str->Option af},P.Nodup->P[i]?=some x->vs[i]?=some v->kindOf x=some .local->
  bindL kindOf (P.zip vs) m x=some v
 | [],_,_,_,_,h,_,_=>by simp at h
 |_::_,[],_,_,_,_,h,_=>by simp at h
 |p::P,w::vs,0,m,nd,h1,h2,hk=>by
  simp at h1 h2;subst h1;subst h2;show bindL kindOf ((p,w)::P.zip vs) m p=_;unfold bindL;rw[vo λv hv=>(List.nodup_cons.mp nd).1 (y4 hv).1,if_pos hk];simp
 |p::P,w::vs,i+1,m,nd,h1,h2,hk=>by
  show bindL kindOf ((p,w)::P.zip vs) m x=_;unfold bindL;exact vp (i:=i) (List.nodup_cons.mp nd).2 (by simpa using h1) (by simpa using h2) hk
theorem vt {kindOf:Str->Option NameKind}{x:Str}{v:af}:∀{P:List Str}{vs:List af}{i:Nat}{m:Str->Option af},P.Nodup->P[i]?=some x->vs[i]?=some v->kindOf x≠some .local->
  bindC kindOf (P.zip vs) m x=some v
 | [],_,_,_,_,h,_,_=>by simp at h
 |_::_,[],_,_,_,_,h,_=>by simp at h
 |p::P,w::vs,0,m,nd,h1,h2,hk=>by
  simp at h1 h2;subst h1;subst h2;show bindC kindOf ((p,w)::P.zip vs) m p=_;unfold bindC;rw[vq λv hv=>(List.nodup_cons.mp nd).1 (y4 hv).1,if_neg hk];simp
 |p::P,w::vs,i+1,m,nd,h1,h2,hk=>by
  show bindC kindOf ((p,w)::P.zip vs) m x=_;unfold bindC;exact vt (i:=i) (List.nodup_cons.mp nd).2 (by simpa using h1) (by simpa using h2) hk
def start (N:List Str)(vs:List V):St:=vs.map some++bg (N.length - vs.length) none
def pH (CX:CXT)(P:aI)(w:aZ)(K:PySem.W.Frag)(mg:Str->Option af)(base:Heap)(N:List Str)(qual:Str)(scope:Scope)(f:Addr)(cd:af)(A:br)(outer:List Env)(s:ah)(H:Hp)(E:XK):Cx where
 prog:=P
 w:=w
 K:=K
 mg:=mg
 base:=base
 A:=A.deeper (envOfC qual scope s.heap.objs.size f cd)
 N:=N
 s₀:=s
 H₀:=H
 env:=envOfC qual scope s.heap.objs.size f cd
 outer:=outer
 stack:=envOfC qual scope s.heap.objs.size f cd::outer
 ex:=[]
 calm:=true
 fn:=λ_=>true
 pn:=[]
 xe:=λe s'=>aq (model P w) (A.deeper (envOfC qual scope s.heap.objs.size f cd)) (leaving (envOfC qual scope s.heap.objs.size f cd) e) (λ_ s''=>CX outer H s E e s'') (λe' s''=>CX outer H s E e' s'') s'
theorem yR {sc:Scope}{n:Nat}{x:Str}(h:sc.names.lookup x=some .cell):∃c,(bj n sc.names []).lookup x=some c:=by
 have q:=PySem.W.cellsFrom_some sc.names n [] (.inl h);exact Option.isSome_iff_exists.mp q
theorem Dv {CX:CXT}{P:aI}{w:aZ}{K:PySem.W.Frag}{mg:Str->Option af}{base:Heap}{N ps:List Str}{qual:Str}{scope:Scope}{f:Addr}{cd:af}{A:br}{outer:List Env}{s s1:ah}{H:Hp}{E:XK}{us:List af}{vs:List V}
  (S:eC N ps scope) (hd:A.handled=none) (e0:ua P w K mg base A outer s H) (hl:vs.length=ps.length) (r:bA vs us)
  (x:InCallC s s.heap.objs.size (bindL (envOfC qual scope s.heap.objs.size f cd).kindOf (ps.zip us) λ_=>none) (bj (s.heap.objs.size+1) scope.names []) (bindC (envOfC qual scope s.heap.objs.size f cd).kindOf (ps.zip us) λ_=>none) s1):
  Inv (pH CX P w K mg base N qual scope f cd A outer s H E) [] (start N vs) H s1:=by
 have Xh:ps.length<=N.length:=by have:=congrArg List.length S.pre;rw[fm]at this;lia
 obtain⟨h1,tk,rfl,hk⟩:=x.done;have noA:∀b:Addr,b∉(pH CX P w K mg base N qual scope f cd A outer s H E).ex:=λb z=>absurd (show b∈([]:List Addr) from z) (by simp);refine⟨⟨e0.mod,S.kind,rfl,rfl,aw _,λy z c h1 h2=>?_,λy hy=>?_,λy c _ h=>?_,λ_=>hd,Around.frames_deeper e0.frames,.inr ⟨rfl,rfl⟩,λb z=>absurd z (noA b),e0.bs,e0.bsz,λb _ _=>noA b,λb z=>absurd z (noA b),e0.kF,e0.frf⟩,
  rfl,e0.bare,Un.kept hk,⟨_,x.toInCall.ns,λi y v h1 h2 h3=>?_⟩,λy c h=>⟨_,x.cell y c h⟩,e0.WJ.fresh (aw _),λy c h=>?_,λp hp=>absurd (show p∈([]:List (Addr×Obj)) from hp) (by simp),e0.WJ.kept hk,?_⟩
 ·exact name_of_addr x.apart (dZ h1) (dZ h2)
 ·have hy:scope.names.lookup y=some .cell\/scope.names.lookup y=some .free:=hy;rcases hy with hy |hy
  ·exact yR hy
  ·exact absurd rfl (S.ax6 _ (dZ hy))
 ·exact fH (x.above y c (dZ h))
 ·have hi:i<vs.length:=by
   unfold start at h2
   by_cases hi:i<vs.length
   ·exact hi
   ·rw[dm (by simpa using hi)]at h2;rw[hU]at h2;split at h2<;>cases h2
  have ha:vs[i]?=some v:=by
   unfold start at h2;rw[ba (by simpa using hi),bS]at h2;cases e:vs[i]? with
   |none=>rw[e]at h2;cases h2
   |some a=>rw[e]at h2;cases h2;rfl
  obtain⟨u,hu,rv⟩:=r.get ha;have hp:ps[i]?=some y:=by
   rw[←S.pre,List.getElem?_take_of_lt (by lia)];exact h1
  have ndP:ps.Nodup:=by rw[←S.pre];exact S.nd.sublist (List.take_sublist _ _)
  refine⟨u,rv,?_⟩;rcases S.par y (bH hp) with k |k
  ·exact .inl ⟨k,vp ndP hp hu k⟩
  ·obtain⟨c,e⟩:=yR (n:=s.heap.objs.size+1) k;refine .inr ⟨.inl k,c,e,?_⟩;have q:=x.cell y c e;rw[vt ndP hp hu (by show scope.names.lookup y≠_;rw[k];decide)]at q;exact q
 ·exact e0.WJ.fresh (fH (x.above y c (dZ h)))
 ·unfold start;show _=N.length;rw[bE,aP,oB]
  lia
theorem Ca {CX:CXT}{P:aI}{w:aZ}{K:PySem.W.Frag}{mg:Str->Option af}{base:Heap}{k:Nat}{f:Addr}{name qual:Str}{params:Arguments}{body:List Stmt}{scope:Scope}{dV kV doc pm W7 ct oc:af}{an od:Option Addr}
  {osl:Array (Option af)} {N ps:List Str} {sp:Sp} (lk:K.lookup f=some ⟨oc,od,.func (PySem.W.fnOf name qual params body scope dV kV doc pm an W7 ct),osl⟩) (hcd:PySem.W.codeIn K W7 qual=true) (S:eC N ps scope)
  (len:∀vs H Q E,sp vs H Q E->vs.length=ps.length)
  (Xv:∀(A:br)(outer:List Env)(s:ah)(H:Hp)(vs:List V)(Q:VK)(E:XK),c8 k (A.deeper (envOfC qual scope s.heap.objs.size f W7))->sp vs H Q E->
   ∃t,PSs (pH CX P w K mg base N qual scope f W7 A outer s H E) body t/\t { nx:=λ_ H'=>Q .WN H',rt:=Q } (start N vs) H):
  d8 P w K mg base CX (k+1) f (PySem.W.fnOf name qual params body scope dV kV doc pm an W7 ct) ps sp:=by
 refine⟨len,λA outer s H args us vs Q E hr e0 hb r hsp=>?_⟩;have hl:=len _ _ _ _ hsp;have KX:K.In s.heap:=e0.mod.kin.keeps λb o e=>(e0.bs b o e).1;have lim:s.heap.NoLimit:=e0.mod.nolimit.keeps λb o e=>(e0.bs b o e).1;have ad2:∀y∈ps.zip us,scope.names.lookup y.1=some .local\/(scope.names.lookup y.1=some .cell/\((bj (s.heap.objs.size+1) scope.names []).lookup y.1).isSome=true):=λ⟨n,v⟩ hy=>by
  rcases S.par n (y4 hy).1 with q |q
  ·exact .inl q
  ·exact .inr ⟨q,PySem.W.cellsFrom_some _ _ _ (.inl q)⟩
 refine codeAny_call_function hr.depth (KX _ _ lk) rfl S.co S.gen rfl (PySem.W.codeRec_of KX hcd) (hb _ _ _ _ ?_);refine wpAny_newFunctionEnv_cells S.kind ad2 λenv he s1 x=>?_;subst he;refine⟨lim.keeps x.toInCall.keep,codeAny_func ?_⟩;obtain⟨t,ht,hq⟩:=Xv A outer s H vs Q E (hr.deeper _) hsp;have I:Inv (pH CX P w K mg base N qual scope f W7 A outer s H E) [] (start N vs) H s1:=Dv S hr.hd e0 hl r x;refine aX (ht [] s1 (start N vs) H _ I hq) (λfl s' hs=>?_) λe s' hs=>hs;have fin:∀{σ':St}{H':Hp}{v:V}{u:af},Inv (pH CX P w K mg base N qual scope f W7 A outer s H E) [] σ' H' s'->RelV v u->Q v H'->CE outer P w H s Q u s':=
  λ{σ' H' v u} J rv q=>⟨v,H',J.os,J.bare,J.base,J.WJ,rv,q⟩
 cases fl with
 |ret u=>
  obtain⟨v,σ',H',J,rv,q⟩:=hs;exact fin J rv q
 |next=>
  obtain⟨σ',H',J,q⟩:=hs;exact fin (v:=V.WN) (u:=Value.none) J rfl q
 |brk=>
  obtain⟨_,_,_,q⟩:=hs;exact False.elim q
 |cont=>
  obtain⟨_,_,_,q⟩:=hs;exact False.elim q
section
variable {X:Cx}{x:Str}{p pos:Pos}{e:Expr}{es:List Expr}{t:TA}{id T:String}{r:List V->Hp->VK->Prop}
def tCB (r:List V->Hp->VK->Prop)(t:TA):TE:=λσ H Q=>t σ H λvs H1=>r vs H1 Q
theorem fW (hc:cu X (.builtin id) r)(hg:Gl X x)(hm:X.mg x=none)(hv:bootBuiltins x=some (.builtin id))(ha:PA X (e::es) t)(hn:x≠"__name__":=by decide)(XC:(x==("__debug__":Str))=false:=by decide)
  (he:ay (e::es) X.env=(false,eval e X.env)::ay es X.env:=by rfl) (Xh:(backTo pos (ay es X.env)).any (·.1)=false:=by rfl):PE X (.Call (.Name x p) (e::es) [] pos) (tCB r t):=by
 intro pins s σ H Q I h;refine bM (fB I hg hm hv ?_ hn XC);exact PyProof.Rows.callWith_builtin1 (WL (ha pos pins s σ H _ I h) λus s1 ⟨vs,H1,I1,r1,q1⟩=>hc pins s1 σ H1 vs us Q I1 r1 q1) he Xh
theorem lR (hc:cu X (.type T) r)(hg:Gl X x)(hm:X.mg x=none)(hv:bootBuiltins x=some (.type T))(ha:PA X (e::es) t)(hn:x≠"__name__":=by decide)(XC:(x==("__debug__":Str))=false:=by decide)
  (he:ay (e::es) X.env=(false,eval e X.env)::ay es X.env:=by rfl) (Xh:(backTo pos (ay es X.env)).any (·.1)=false:=by rfl):PE X (.Call (.Name x p) (e::es) [] pos) (tCB r t):=by
 intro pins s σ H Q I h;refine bM (fB I hg hm hv ?_ hn XC);exact PyProof.Rows.callWith_type1 (WL (ha pos pins s σ H _ I h) λus s1 ⟨vs,H1,I1,r1,q1⟩=>hc pins s1 σ H1 vs us Q I1 r1 q1) he Xh
theorem zS (hc:cu X (.type T) r)(hg:Gl X x)(hm:X.mg x=none)(hv:bootBuiltins x=some (.type T))(hn:x≠"__name__":=by decide)(XC:(x==("__debug__":Str))=false:=by decide):
  PE X (.Call (.Name x p) [] [] pos) (tCB r iw):=by
 intro pins s σ H Q I h;refine bM (fB I hg hm hv ?_ hn XC);exact PyProof.Rows.callWith_type0 (hc pins s σ H [] [] Q I .nil h)
end
end L2
namespace HT
open PySem PyProof.Rows
def lexLt:List Int->List Int->Bool
 | [],[]=>false
 | [],_::_=>true
 |_::_,[]=>false
 |x::xs,y::ys=>if x=y then lexLt xs ys else decide (x<y)
theorem Am (x y:Int)(xs ys:List Int):lexLt (x::xs) (y::ys)=if x=y then lexLt xs ys else decide (x<y):=rfl
theorem tT:lexLt [] []=false:=rfl
theorem sk (y:Int)(ys:List Int):lexLt [] (y::ys)=true:=rfl
theorem su (x:Int)(xs:List Int):lexLt (x::xs) []=false:=rfl
theorem HH (A:br)(s:ah)(a:Int)(t:Tok)(c:Int)(u:Tok):∃e,SeqAt.EqAt A s (.int a t) (.int c u) e/\(e=true↔a=c):=
 ⟨(a==c),SeqAt.EqAt.int_int a t c u,by simp⟩
theorem FW (A:br)(s:ah)(a:Int)(t:Tok)(c:Int)(u:Tok)(prog:aI)(w:aZ)(E:af->ah->Prop)(Q:af->ah->Prop)(h:Q (.bool (decide (a<c))) s):
  aq (model prog w) A (richCompare .Lt (.int a t) (.int c u)) Q E s:=
 (PyProof.Rows.lt_int h:aq (model prog w) A (bc .Lt (.int a t) (.int c u)) Q E s)
section
open PySem.SeqAt
open PySem.AutoSeq1 (wpAny_loadPart')
open PySem.MeetsSeq PySem.MeetsSeq2 PySem.MeetsSeq3
theorem tG (l b:Addr)(items Xq:Array af)(n n2:Nat)(dd dd2:Option Addr)(sl sl2:Array (Option af))(ns ms:List Int)(hi:IntsAre items.toList ns)(hj:IntsAre Xq.toList ms):
  Meets (Builtin.«tuple.__lt__» ⟨[.ref l,.ref b],[]⟩)
   (λ_ R s=>s.heap.get? l=some { cls:=.type "tuple",dict:=dd,data:=.seq items n,slots:=sl }/\s.heap.get? b=some { cls:=.type "tuple",dict:=dd2,data:=.seq Xq n2,slots:=sl2 }/\
    R (.ok (.ret (.bool (lexLt ns ms)))) s):=
 .of_wp λprog w A R s h=>by
  obtain⟨hp,g,d,tk,os⟩:=s;obtain⟨hl,hb,h⟩:=h;have f2:=AutoSeq1.sub_tuple_tuple;have z1:items.size=ns.length:=by rw[←hi.length];simp
  have z2:Xq.size=ms.length:=by rw[←hj.length];simp
  wp_walk using y1 hl,y1 hb,wpAny_forIn_list _ (λrest b s'=>b.1=none/\s'=⟨hp,g,d,tk,os⟩/\∃(vs ws:List af)(ns' ms':List Int),rest=vs.zip ws/\
   IntsAre vs ns'/\IntsAre ws ms'/\ns'.length+Xq.size=ms'.length+items.size/\R (.ok (.ret (.bool (lexLt ns' ms')))) ⟨hp,g,d,tk,os⟩) _
  case turn=>
   rintro⟨y,x⟩ rest b s' ⟨hb',rfl,vs,ws,ns',ms',hz,hvi,hwi,hlen,hR⟩;cases hvi with
   |nil=>rw[List.zip_nil_left]at hz;cases hz
   |cons a t hvi'=>
    cases hwi with
    |nil=>rw[List.zip_nil_right]at hz;cases hz
    |cons c u hwi'=>
     rw[List.zip_cons_cons]at hz;injection hz with hyx an3
     injection hyx with hy hx
     subst hy hx;rw[Am]at hR;simp only[aN]at hlen;obtain⟨e,he,hiff⟩:=HH A.in1 ⟨hp,g,d,tk,os⟩ a t c u;refine aa (he prog w _ _ ?_);cases e with
     |true=>
      rw[if_pos (hiff.mp rfl)]at hR
      wp_walk
      exact⟨rfl,rfl,_,_,_,_,an3,hvi',hwi',by lia,hR⟩
     |false=>
      rw[if_neg (λq=>absurd (hiff.mpr q) aH)]at hR;have hri:=FW A.in1 ⟨hp,g,d,tk,os⟩ a t c u prog w
      wp_walk using hri
      exact⟨_,rfl,by simpa using hR⟩
  case fin=>
   rintro⟨b1,b2⟩ s' ⟨hb',rfl,vs,ws,ns',ms',hz,hvi,hwi,hlen,hR⟩;simp only at hb';subst hb';have hv:lexLt ns' ms'=decide (items.size<Xq.size):=by
    cases hvi with
    |nil=>
     cases hwi with
     |nil=>
      simp only[cY]at hlen;rw[tT];exact(decide_eq_false (by lia)).symm
     |cons c u hw=>
      simp only[cY,aN]at hlen;rw[sk];exact(decide_eq_true (by lia)).symm
    |cons a t hv=>
     cases hwi with
     |nil=>
      simp only[cY,aN]at hlen;rw[su];exact(decide_eq_false (by lia)).symm
     |cons c u hw=>
      rw[List.zip_cons_cons]at hz;cases hz
   rw[hv]at hR
   wp_walk
   exact⟨_,rfl,by simpa [Builtin.Tuple.tupleCompareSizes] using hR⟩
  case h=>
   exact⟨rfl,rfl,items.toList,Xq.toList,ns,ms,rfl,hi,hj,by lia,h⟩
end
section
variable {prog:aI}{w:aZ}{A:br}{E:af->ah->Prop}{s:ah}
theorem Al {l b:Addr}{items Xq:Array af}{ns ms:List Int}{Q:af->ah->Prop}(hl:IsTup s.heap l items)(hb:IsTup s.heap b Xq)(hi:IntsAre items.toList ns)(hj:IntsAre Xq.toList ms)
  (hu:A.units<cLine) (h:Q (.bool (lexLt ns ms)) s):aq (model prog w) A (bc .Lt (.ref l) (.ref b)) Q E s:=by
 obtain⟨⟨cls,dd,data,sl⟩,ho,hc,n,hd⟩:=id hl;obtain⟨⟨cls2,dd2,data2,sl2⟩,ho2,hc2,n2,hd2⟩:=id hb;simp only at hc hd hc2 hd2;subst hc hd hc2 hd2;exact richCompare_meets_room (op:=.Lt) ⟨_,ho,rfl⟩ ⟨_,ho2,rfl⟩ PySem.F.slot_tuple_lt PySem.F.entry_tuple_lt (PySem.F.args_tuple_lt_2 _ _) (tG l b items Xq n n2 dd dd2 sl sl2 ns ms hi hj)
  ⟨ho,ho2,show Value.bool (lexLt ns ms)≠Value.notImplemented/\Q (.bool (lexLt ns ms)) s from⟨(λx=>nomatch x),h⟩⟩ hu
theorem K4 {t b:Addr}{vs ws:List af}{Q:af->ah->Prop}(ht:IsTup s.heap t vs.toArray)(hb:IsTup s.heap b ws.toArray)(hv:vs≠[])
  (h1:ws=[]->Q (.ref t) s) (h2:ws≠[]->Q (.ref s.heap.objs.size) { s with heap:=s.heap.push { cls:=.type "tuple",data:=.seq (vs++ws).toArray } })
  (hsz:vs.length+ws.length<=au):aq (model prog w) A (binaryOp .Add (.ref t) (.ref b)) Q E s:=by
 obtain⟨⟨cls,dd,data,sl⟩,ho,hc,n,hd⟩:=id ht;obtain⟨⟨cls2,dd2,data2,sl2⟩,ho2,hc2,n2,hd2⟩:=id hb;simp only at hc hd hc2 hd2;subst hc hd hc2 hd2;have e:vs.toArray++ws.toArray=(vs++ws).toArray:=by simp
 by_cases hw:ws=[]
 ·exact concat_meets ⟨_,ho,rfl⟩ ⟨_,ho2,rfl⟩ xh D2 PySem.F.slot_tuple_add PySem.F.entry_tuple_add (PySem.F.args_tuple_add_2 _ _)
   (tuple_addW1 t b vs.toArray ws.toArray n n2 dd dd2 sl sl2 (by simpa using hv) (by simp[hw])) ⟨ho,ho2,h1 hw⟩
 ·refine concat_meets ⟨_,ho,rfl⟩ ⟨_,ho2,rfl⟩ xh D2 PySem.F.slot_tuple_add PySem.F.entry_tuple_add (PySem.F.args_tuple_add_2 _ _)
   (tuple_addW2 t b vs.toArray ws.toArray n n2 dd dd2 sl sl2 (by simpa using hv) (by simpa using hw) (by rw[az,az];exact hsz)) ⟨ho,ho2,?_⟩
  rw[e];exact h2 hw
def W8 (n d:Nat):Option Int->Nat
 |none=>d
 |some v=>if v<0 then (v+(n:Int)).toNat else min v.toNat n
theorem Nv (n d:Nat)(hd:d<=n)(o:Option Int):W8 n d o<=n:=by
 cases o with
 |none=>exact hd
 |some v=>
  show(if v<0 then (v+(n:Int)).toNat else min v.toNat n)<=n
  by_cases hv:v<0
  ·rw[if_pos hv];lia
  ·rw[if_neg hv];exact Nat.min_le_right _ _
theorem Ch (v:Int)(n d:Nat):(if v<0 then max (v+(n:Int)) 0 else min v (n:Int))=((W8 n d (some v):Nat):Int):=by
 show(if v<0 then max (v+(n:Int)) 0 else min v (n:Int))=(((if v<0 then (v+(n:Int)).toNat else min v.toNat n):Nat):Int)
 by_cases hv:v<0
 ·simp only[if_pos hv];lia
 ·simp only[if_neg hv];lia
theorem A2 (lo hi:Option Int)(n:Nat):Builtin.Slice.sliceAdjust lo hi 1 (n:Int)=(((W8 n 0 lo:Nat):Int),((W8 n n hi:Nat):Int)):=by
 have h1:¬((1:Int)<0):=by lia
 unfold Builtin.Slice.sliceAdjust;simp only[h1,if_false];refine Prod.ext ?_ ?_
 ·cases lo with
  |none=>rfl
  |some v=>exact Ch v n 0
 ·cases hi with
  |none=>rfl
  |some v=>exact Ch v n n
theorem zR (i j:Nat):Builtin.Slice.slicePlaces (i:Int) (j:Int) 1=j - i:=by
 unfold Builtin.Slice.slicePlaces;have h1:(1:Int)>0:=by lia
 simp only[h1,if_true,Int.ediv_one];split<;>lia
theorem rn {v:af}{o:Option Int}{Q:Option Int->ah->Prop}(p:IsPart v o)(h:Q o s):aq (model prog w) A (Builtin.Slice.slicePartIndex v) Q E s:=by
 cases p with
 |none=>exact slicePart_none h
 |int i t=>exact slicePart_int h
theorem oK {sl:Addr}{vl vu:af}{lo hi:Option Int}{n:Nat}{Q:Int×Int×Nat->ah->Prop}(hs:s.heap.IsSliceOf sl vl vu .none)(pl:IsPart vl lo)(pu:IsPart vu hi)
  (h:Q (((W8 n 0 lo:Nat):Int),1,W8 n n hi - W8 n 0 lo) s):aq (model prog w) A (Builtin.Slice.sliceApplied (.ref sl) (pure (n:Int))) Q E s:=by
 obtain⟨os,hos,hcs,hds⟩:=id hs;unfold Builtin.Slice.sliceApplied Builtin.Slice.sliceFields;refine aa (aa (bX hos hds (x:=vl) rfl (aa (bX hos hds (x:=vu) rfl (aa (bX hos hds (x:=.none) rfl (ak ?_)))))));refine aa (slicePart_none ?_);show aq _ _ (if ((1:Int)==0)=true then _ else _) _ _ s;rw[if_neg (by decide)];refine aa (rn pl (aa (rn pu (aa (ak ?_)))));show aq _ _ (match Builtin.Slice.sliceAdjust lo hi 1 (n:Int) with | (lo,hi)=>pure (lo,(1:Int),Builtin.Slice.slicePlaces lo hi 1)) _ _ s;rw[A2 lo hi n];show aq _ _ (pure (((W8 n 0 lo:Nat):Int),(1:Int),Builtin.Slice.slicePlaces ((W8 n 0 lo:Nat):Int) ((W8 n n hi:Nat):Int) 1)) _ _ s;rw[zR];exact ak h
theorem Gg (xs:Array af)(i k:Nat):((di k).filterMap λ(m:Nat)=>xs[((i:Int)+(m:Int)*1).toNat]?).toArray=((xs.toList.drop i).take k).toArray:=by
 have e:(λ(m:Nat)=>xs[((i:Int)+(m:Int)*1).toNat]?)=λm=>xs[i+m]?:=by
  funext m
  have:((i:Int)+(m:Int)*1).toNat=i+m:=by lia
  rw[this]
 rw[e];have:=pick_run xs i k;rw[List.filterMap_map]at this;have e2:((λx=>xs[x]?) ∘ λx=>i+x)=λm=>xs[i+m]?:=rfl;rw[e2]at this;rw[this]
theorem nZ {t sl:Addr}{items:Array af}{vl vu:af}{lo hi:Option Int}{Q:af->ah->Prop}(ht:IsTup s.heap t items)(hs:s.heap.IsSliceOf sl vl vu .none)(pl:IsPart vl lo)(pu:IsPart vu hi)
  (hw:¬(W8 items.size 0 lo=0/\W8 items.size items.size hi=items.size))
  (h:Q (.ref s.heap.objs.size) { s with heap:=s.heap.push { cls:=.type "tuple",data:=.seq ((items.toList.drop (W8 items.size 0 lo)).take (W8 items.size items.size hi - W8 items.size 0 lo)).toArray } })
  (hsz:items.size<=au):aq (model prog w) A (getItem (.ref t) (.ref sl)) Q E s:=by
 have aj6:sizeOk (.seq ((items.toList.drop (W8 items.size 0 lo)).take (W8 items.size items.size hi - W8 items.size 0 lo)).toArray):=by
  show((items.toList.drop (W8 items.size 0 lo)).take (W8 items.size items.size hi - W8 items.size 0 lo)).toArray.size<=au;rw[az,fm,jf,cH]
  lia
 have hj:W8 items.size items.size hi<=items.size:=Nv _ _ (aw _) hi;obtain⟨os,hos,hcs,hds⟩:=id hs;have hTs:s.TypeIs (.ref sl) "slice":=⟨os,hos,hcs⟩;unfold getItem
 try with_reducible refine a9 ?_
 first |refine aa (ak ?_)|skip
 refine aa (wpAny_sequenceKey ht.typeIs (by decide) ?_);refine aa (cb (name:=Str.ofString "__getitem__") ht.typeIs PyProof.Rows.slot_tuple_getitem
  (cj PyProof.Rows.slot_tuple_getitem ht.typeIs entry_tuple_getitem ?_ (args_tuple_getitem _ _)))
 show aq _ _ (Builtin.Tuple.tupleItemsOf (.ref t) >>=_) _ _ s;refine aa (tupleItemsOf_ ht ?_);refine aa (gu hTs ?_);rw[if_pos (by decide)];refine aa (oK hs pl pu ?_);have hno:¬((((W8 items.size 0 lo:Nat):Int)==0&&(1:Int)==1&&(W8 items.size items.size hi - W8 items.size 0 lo)==items.size)=true):=by
  intro q;rw[ag,ag]at q;have q1:((W8 items.size 0 lo:Nat):Int)=0:=eq_of_beq q.1.1;have q2:W8 items.size items.size hi - W8 items.size 0 lo=items.size:=eq_of_beq q.2;exact hw ⟨by lia,by lia⟩
 show aq _ _ (if (((W8 items.size 0 lo:Nat):Int)==0&&(1:Int)==1&&(W8 items.size items.size hi - W8 items.size 0 lo)==items.size)=true then _ else _) _ _ s;rw[if_neg hno,Gg]
 first
  |exact aa (m:=Builtin.Tuple.tupleExact _) (bC (ak ⟨_,rfl,ak h⟩) aj6)
  |exact aa (m:=Builtin.Tuple.tupleExact _) (bC (aa (ak (ak ⟨_,rfl,ak h⟩))) aj6)
  |exact aa (aa (m:=Builtin.Tuple.tupleExact _) (bC (ak (ak ⟨_,rfl,ak h⟩)) aj6))
  |exact aa (aa (m:=Builtin.Tuple.tupleExact _) (bC (ak ⟨_,rfl,ak h⟩) aj6))
end
end HT
namespace L2
open PySem PySem.Spec PyProof.Rows
abbrev TO:=St->Hp->(Option Int->Hp->Prop)->Prop
def PO (X:Cx)(e:Option Expr)(t:TO):Prop:=
 ∀(pins:List (Addr×Obj))(s:ah)(σ:St)(H:Hp)(Q:Option Int->Hp->Prop),Inv X pins σ H s->t σ H Q->
  aq (model X.prog X.w) X.A (evalPart e X.env) (λu s'=>∃o H',Inv X pins σ H' s'/\IsPart u o/\Q o H') X.xe s
def Bt:TO:=λ_ H Q=>Q none H
def Ll (t:TE):TO:=λσ H Q=>t σ H λx H1=>∃i,x=.int i/\Q (some i) H1
theorem intsAre_of {ns:List Int}:∀{us:List af},bA (ns.map V.int) us->IntsAre us ns:=by
 induction ns with
 |nil=>intro us r;rw[bV]at r;cases r;exact .nil
 |cons n ns ih=>
  intro us r;rw[aM]at r;cases r with
  |cons r1 r2=>
   obtain⟨t,e⟩:=r1;subst e;exact .cons n t (ih r2)
section
variable {X:Cx}{e:Expr}{te:TE}{lo hi:Option Expr}{tl th:TO}{pos p2:Pos}
theorem JP:PO X none Bt:=by
 intro pins s σ H Q I h;rw[evalPart_none];exact ak ⟨none,H,I,.none,h⟩
theorem JO (h:PE X e te):PO X (some e) (Ll te):=by
 intro pins s σ H Q I hw;rw[evalPart_some];refine WL (h pins s σ H _ I hw) λu s1 zq=>?_;obtain⟨x,H1,I1,r1,q1⟩:=zq;obtain⟨i,rfl,q⟩:=q1;obtain⟨t,rfl⟩:=r1;exact⟨some i,H1,I1,.int i t,q⟩
def SlR (X:Cx)(r:V->Option Int->Option Int->Hp->VK->Prop):Prop:=
 ∀(pins:List (Addr×Obj))(s:ah)(σ:St)(H:Hp)(x:V)(v vl vu:af)(lo hi:Option Int)(sl:Addr)(Q:VK),Inv X pins σ H s->RelV x v->s.heap.IsSliceOf sl vl vu .none->IsPart vl lo->IsPart vu hi->r x lo hi H Q->
  ∃T id,typeLookup (.type T) "__getitem__"=pure (some (.builtin id))/\s.TypeIs v T/\aq (model X.prog X.w) X.A (getItem v (.ref sl)) (EP X pins σ Q) X.xe s
def tSl (r:V->Option Int->Option Int->Hp->VK->Prop)(te:TE)(tl th:TO):TE:=λσ H Q=>te σ H λx H1=>tl σ H1 λl H2=>th σ H2 λu H3=>r x l u H3 Q
theorem Go {r:V->Option Int->Option Int->Hp->VK->Prop}(hr:SlR X r)(he:PE X e te)(hl:PO X lo tl)(hu:PO X hi th):PE X (.Subscript e (.Slice lo hi none p2) pos) (tSl r te tl th):=by
 intro pins s σ H Q I h;refine tw (WL (he pins s σ H _ I h) λv s1 zq=>?_);obtain⟨x,H1,I1,r1,q1⟩:=zq;refine wpAny_Slice (WL (hl pins s1 σ H1 _ I1 q1) λvl s2 zp0=>?_);obtain⟨l,H2,I2,pl,q2⟩:=zp0;refine WL (hu pins s2 σ H2 _ I2 q2) λvu s3 zq=>?_;obtain⟨u,H3,I3,pu,q3⟩:=zq;rw[evalPart_none];refine ak ?_;have I4:Inv X pins σ H3 { s3 with heap:=s3.heap.push { cls:=.type "slice",data:=.fields #[vl,vu,.none] } }:=I3.kept (t':=s3.toks) λb ob q=>aj _ q;obtain⟨T,id,hT,ht,hg⟩:=hr pins { s3 with heap:=s3.heap.push { cls:=.type "slice",data:=.fields #[vl,vu,.none] } } σ H3 x v vl vu l u s3.heap.objs.size Q I4 r1 (Heap.IsSliceOf.new ..) pl pu q3;show aq (model X.prog X.w) X.A (subscriptTail e (.Slice lo hi none p2) v (.ref s3.heap.objs.size)) (EP X pins σ Q) X.xe { s3 with heap:=s3.heap.push { cls:=.type "slice",data:=.fields #[vl,vu,.none] } };exact Bb (ops:=[.ref s3.heap.objs.size,v]) ht hT hg (by with_unfolding_all rfl)
def tX (xs:List V)(lo hi:Option Int):List V:=(xs.drop (HT.W8 xs.length 0 lo)).take (HT.W8 xs.length xs.length hi - HT.W8 xs.length 0 lo)
theorem qi (xs:List V)(lo hi:Option Int):(tX xs lo hi).length<=xs.length:=by
 unfold tX;rw[fm,jf]
 lia
def UD (K:PySem.W.Frag):V->Option Int->Option Int->Hp->VK->Prop:=λx lo hi H Q=>∃a xs,x=.ref a/\Xd K H a xs/\
 ¬(HT.W8 xs.length 0 lo=0/\HT.W8 xs.length xs.length hi=xs.length)/\∀p,H p=none->Q (.ref p) (upd H p (.tup (tX xs lo hi)))
theorem Na:SlR X (UD X.K):=by
 intro pins s σ H x v vl vu lo hi sl Q I rx hs pl pu h;obtain⟨a,xs,rfl,hx,hw,q⟩:=h;cases rx;obtain⟨its,r,ht,hz⟩:=I.tuple hx;have hlen:its.toArray.size=xs.length:=by rw[az];exact r.length.symm
 refine⟨"tuple",_,PyProof.Rows.slot_tuple_getitem.lookup,ht.typeIs,?_⟩;refine HT.nZ ht hs pl pu (by rw[hlen];exact hw) ?_ (by rw[hlen];exact hz);rw[hlen];refine⟨.ref s.heap.objs.size,_,I.laid (t':=s.toks) (o:=.tup (tX xs lo hi)) (λb ob q=>aj _ q) (aw _) ?_,rfl,q _ (I.WJ.fresh (aw _))⟩;exact⟨b8 (qi xs lo hi) hz,_,(r.drop (HT.W8 xs.length 0 lo)).take (HT.W8 xs.length xs.length hi - HT.W8 xs.length 0 lo),IsTup.new _ _⟩
def NB (K:PySem.W.Frag):R2:=λx y H Q=>∃a b ns ms,x=.ref a/\y=.ref b/\Xd K H a (ns.map V.int)/\Xd K H b (ms.map V.int)/\Q (.bl (HT.lexLt ns ms)) H
theorem N6 (hu:X.A.units<cLine):WV X (bc .Lt) (NB X.K):=by
 intro pins s σ H x y v u Q I rx ry h;obtain⟨a,b,ns,ms,rfl,rfl,ha,hb,q⟩:=h;cases rx;cases ry;obtain⟨its,r1,p1,_⟩:=I.tuple ha;obtain⟨Xx,r2,p2,_⟩:=I.tuple hb;have i1:IntsAre its.toArray.toList ns:=intsAre_of r1;have i2:IntsAre Xx.toArray.toList ms:=intsAre_of r2;exact HT.Al p1 p2 i1 i2 hu ⟨.bl (HT.lexLt ns ms),H,I,rfl,q⟩
def QJ (K:PySem.W.Frag):R2:=λx y H Q=>∃a b xs ys,x=.ref a/\y=.ref b/\Xd K H a xs/\Xd K H b ys/\xs≠[]/\xs.length+ys.length<=au/\
 (ys=[]->Q (.ref a) H)/\(ys≠[]->∀p,H p=none->Q (.ref p) (upd H p (.tup (xs++ys))))
theorem bA.qD {xs:List V}{us:List af}(r:bA xs us):us=[]↔xs=[]:=by
 cases r with
 |nil=>simp
 |cons _ _=>simp
theorem Kk:WV X (binaryOp .Add) (QJ X.K):=by
 intro pins s σ H x y v u Q I rx ry h;obtain⟨a,b,xs,ys,rfl,rfl,ha,hb,hx,hz,q1,q2⟩:=h;cases rx;cases ry;obtain⟨its,r1,p1,_⟩:=I.tuple ha;obtain⟨Xx,r2,p2,_⟩:=I.tuple hb;refine HT.K4 p1 p2 (λz=>hx (r1.qD.mp z)) (λz=>⟨.ref a,H,I,rfl,q1 (r2.qD.mp z)⟩) (λz=>?_) (by rw[←r1.length,←r2.length];exact hz);refine⟨.ref s.heap.objs.size,_,I.laid (t':=s.toks) (o:=.tup (xs++ys)) (λb ob q=>aj _ q) (aw _) ?_,rfl,q2 (λw=>z (r2.qD.mpr w)) _ (I.WJ.fresh (aw _))⟩;exact⟨by rw[bE];exact hz,_,r1.append r2,IsTup.new _ _⟩
end
end L2
namespace L2
open PySem PySem.Spec PyProof.Rows
def ixN (n:Nat)(i:Int):Option Nat:=if 0<=i then (if i<n then some i.toNat else none) else if -(n:Int)<=i then some (i+n).toNat else none
def atI {α:Type}(xs:List α)(i:Int):Option α:=(ixN xs.length i).bind λj=>xs[j]?
theorem BZ {n:Nat}{i:Int}{j:Nat}(h:ixN n i=some j):seqIndex? i n=some j/\j<n/\-(n:Int)<=i/\i<n:=by
 unfold ixN at h
 by_cases h0:0<=i
 ·rw[if_pos h0]at h
  by_cases h1:i<n
  ·rw[if_pos h1]at h;have e:i.toNat=j:=Option.some.inj h;exact⟨by rw[seqIndex_of h0 h1,e],by lia,by lia,h1⟩
  ·rw[if_neg h1]at h;cases h
 ·rw[if_neg h0]at h
  by_cases h1:-(n:Int)<=i
  ·rw[if_pos h1]at h;have e:(i+n).toNat=j:=Option.some.inj h;exact⟨by rw[seqIndex_neg (by lia) h1,e],by lia,h1,by lia⟩
  ·rw[if_neg h1]at h;cases h
theorem wZ {α:Type}{xs:List α}{i:Int}{v:α}(h:atI xs i=some v):∃j,seqIndex? i xs.length=some j/\xs[j]?=some v/\j<xs.length/\-(xs.length:Int)<=i/\i<xs.length:=by
 unfold atI at h;cases e:ixN xs.length i with
 |none=>rw[e]at h;cases h
 |some j=>
  rw[e]at h;obtain⟨h1,h2,h3,h4⟩:=BZ e;exact⟨j,h1,h,h2,h3,h4⟩
def Cr (b:Expr):Prop:=∀o i,subscripted b false o i=operate [o,i] (getItem o i)
def IxR (X:Cx)(r:R2):Prop:=
 ∀(value slice:Expr)(pins:List (Addr×Obj))(s:ah)(σ:St)(H:Hp)(x y:V)(v u:af)(Q:VK),Inv X pins σ H s->RelV x v->RelV y u->r x y H Q->
  subscripted slice false v u=operate [v,u] (getItem v u)->aq (model X.prog X.w) X.A (subscriptTail value slice v u) (EP X pins σ Q) X.xe s
def MtR (X:Cx)(id:String)(r:V->List V->Hp->VK->Prop):Prop:=
 ∀(pins:List (Addr×Obj))(s:ah)(σ:St)(H:Hp)(x:V)(xs:List V)(v:af)(us:List af)(Q:VK),Inv X pins σ H s->RelV x v->bA xs us->r x xs H Q->
  aq (model X.prog X.w) X.A (call (.builtin id) (v::us)) (EP X pins σ Q) X.xe s
section
variable {X:Cx}{a b:Expr}{ta tb:TE}{pos:Pos}
theorem IxR.or {r r':R2}(h:IxR X r)(h':IxR X r'):IxR X (λx y H Q=>r x y H Q\/r' x y H Q):=by
 intro value slice pins s σ H x y v u Q I rx ry q hs;rcases q with q |q
 ·exact h value slice pins s σ H x y v u Q I rx ry q hs
 ·exact h' value slice pins s σ H x y v u Q I rx ry q hs
theorem QX {r:R2}(hr:IxR X r)(ha:PE X a ta)(hb:PE X b tb)(hs:Cr b):PE X (.Subscript a b pos) (tOp r ta tb):=by
 intro pins s σ H Q I h;exact tw (IL ha hb I h λv u s2 x y H2 I2 rx ry q=>hr a b pins s2 σ H2 x y v u Q I2 rx ry q (hs _ _))
def ND (K:PySem.W.Frag):R2:=λx y H Q=>∃p xs i v,x=.ref p/\y=.int i/\Xc K H p xs/\atI xs i=some v/\Q v H
def NC (K:PySem.W.Frag):R2:=λx y H Q=>∃p xs i v,x=.ref p/\y=.int i/\Xd K H p xs/\atI xs i=some v/\Q v H
def QC:R2:=λx y H Q=>∃z i c,x=.str z/\y=.int i/\z.length<=au/\atI z.cps.toList i=some c/\Q (.str ⟨#[c]⟩) H
theorem BY:IxR X (ND X.K):=by
 intro value slice pins s σ H x y v u Q I rx ry h hs;obtain⟨p,xs,i,z,rfl,rfl,hq,he,q⟩:=h;cases rx;obtain⟨t,rfl⟩:=ry;obtain⟨its,r,pl,hz⟩:=I.list hq;obtain⟨j,h1,h2,h3,h4,h5⟩:=wZ he;obtain⟨w,ew,XD⟩:=r.get h2;have hl:=r.length;have hn:=lr;have fin:EP X pins σ Q w s:=⟨z,H,I,XD,q⟩
 by_cases h0:0<=i
 ·have hj:i.toNat=j:=by
   rw[seqIndex_of h0 h5]at h1;exact Option.some.inj h1
  exact item_listR pl.isList h0 (by lia) (by rw[hj];simpa using ew) fin hs
 ·have hj:(i+(its.toArray.size:Int)).toNat=j:=by
   rw[seqIndex_neg (by lia) h4]at h1;rw[az,←hl];exact Option.some.inj h1
  exact subscriptTail_builtinR (x:=w) pl.isList.typeIs slot_list_getitem.lookup
   (wpAny_getItem_list_neg (Q:=λr s'=>r=w/\EP X pins σ Q r s') pl.isList (by lia) (by rw[az]<;>lia) (by lia) (by rw[hj];simpa using ew) ⟨rfl,fin⟩) hs
theorem Hj:IxR X (NC X.K):=by
 intro value slice pins s σ H x y v u Q I rx ry h hs;obtain⟨p,xs,i,z,rfl,rfl,hq,he,q⟩:=h;cases rx;obtain⟨t,rfl⟩:=ry;obtain⟨its,r,pl,hz⟩:=I.tuple hq;obtain⟨j,h1,h2,h3,h4,h5⟩:=wZ he;obtain⟨w,ew,XD⟩:=r.get h2;have hl:=r.length;have hn:=lr;have fin:EP X pins σ Q w s:=⟨z,H,I,XD,q⟩;exact subscriptTail_builtinR (x:=w) pl.typeIs slot_tuple_getitem.lookup
  (getItem_tuple (j:=j) (Q:=λr s'=>r=w/\EP X pins σ Q r s') pl (by lia) (by lia) (by rw[az,←hl];exact h1) (by simpa using ew) ⟨rfl,fin⟩) hs
theorem OC:IxR X QC:=by
 intro value slice pins s σ H x y v u Q I rx ry h hs;obtain⟨z,i,c,rfl,rfl,hz,he,q⟩:=h;obtain⟨t,rfl⟩:=rx;obtain⟨t',rfl⟩:=ry;obtain⟨j,h1,h2,h3,h4,h5⟩:=wZ he;have hl:z.cps.toList.length=z.length:=by simp[Str.length]
 rw[hl]at h1 h4 h5;have hn:=lr;exact Bb (typeIs_str s z t) slot_str_getitem.lookup (getItem_str (c:=c) (by
  have e1:decide (i< -(2 ^ 63:Int))=false:=decide_eq_false (by lia);have e2:decide (i≥2 ^ 63)=false:=decide_eq_false (by lia);rw[e1,e2,D7]) (by rw[h1];simpa using h2) ⟨.str ⟨#[c]⟩,H,I.tok _,⟨_,rfl⟩,q⟩) hs
def rIx (K:PySem.W.Frag):R2:=λx y H Q=>ND K x y H Q\/NC K x y H Q\/QC x y H Q
theorem OD:IxR X (rIx X.K):=BY.or (Hj.or OC)
theorem zZ (its:List af)(n j:Nat)(u:af):Obj.mapSeq (·.setIfInBounds j u) { cls:=.type "list",data:=.seq its.toArray n }={ cls:=.type "list",data:=.seq (its.set j u).toArray n }:=by
 simp[Obj.mapSeq]
theorem Inv.lst {pins:List (Addr×Obj)}{σ:St}{H:Hp}{s:ah}{p:Addr}{xs:List V}(I:Inv X pins σ H s)(h:H p=some (.lst xs)):
  ∃(its:List af)(n:Nat),bA xs its/\s.heap.get? p=some { cls:=.type "list",data:=.seq its.toArray n }/\xs.length<=au:=by
 obtain⟨z,its,n,r,e⟩:=I.WJ p _ h;exact⟨its,n,r,e,z⟩
theorem Inv.Os {pins:List (Addr×Obj)}{σ:St}{H:Hp}{s:ah}{p:Addr}{xs ys:List V}{its its':List af}{n n':Nat}{f:Obj->Obj}(I:Inv X pins σ H s)(h:H p=some (.lst xs))
  (ho:s.heap.get? p=some { cls:=.type "list",data:=.seq its.toArray n }) (hf:f { cls:=.type "list",data:=.seq its.toArray n }={ cls:=.type "list",data:=.seq its'.toArray n' }) (r:bA ys its') (hz:ys.length<=au) (t:Nat):
  Inv X pins σ (upd H p (.lst ys)) { s with heap:=s.heap.update p f,toks:=t }:=by
 have e:(s.heap.update p f).get? p=some { cls:=.type "list",data:=.seq its'.toArray n' }:=by
  rw[bt f ho (by rw[hf]<;>rfl),hf]
 refine I.write (x:=p) (e:=p) (by rw[h];trivial) (.inl rfl) (λb u hb q=>(bK _ _ (Ne.symm hb)).trans q) ⟨_,e⟩ ?_;exact⟨hz,its',n',r,e⟩
def LC:V->V->V->Hp->(Hp->Prop)->Prop:=λo i v H Q=>∃p xs k j,o=.ref p/\i=.int k/\H p=some (.lst xs)/\ixN xs.length k=some j/\Q (upd H p (.lst (xs.set j v)))
theorem set_list:Pa X LC:=by
 intro pins s σ H o i v ov iv u Q I ro ri rv h;obtain⟨p,xs,k,j,rfl,rfl,hp,hj,q⟩:=h;cases ro;obtain⟨t,rfl⟩:=ri;obtain⟨its,n,r,ho,hz⟩:=I.lst hp;obtain⟨h1,h2,h3,h4⟩:=BZ hj;have hl:=r.length;have hn:=lr;have I':Inv X pins σ (upd H p (.lst (xs.set j v))) { s with heap:=s.heap.update p (Obj.mapSeq (·.setIfInBounds j u)) }:=
  I.Os hp ho (zZ its n j u) (r.set rv j) (by rw[gM];exact hz) s.toks
 by_cases h0:0<=k
 ·have hk:k.toNat=j:=by
   rw[seqIndex_of h0 h4]at h1;exact Option.some.inj h1
  exact PySem.W.ki_setAt ho h0 (by lia) (by rw[az,←hl];exact h4) (by rw[hk];exact⟨_,I',q⟩)
 ·have hk:(k+(its.toArray.size:Int)).toNat=j:=by
   rw[seqIndex_neg (by lia) h3]at h1;rw[az,←hl];exact Option.some.inj h1
  exact PySem.W.ki_setBack ho (by lia) (by rw[az,←hl];exact h3) (by lia) (by rw[hk];exact⟨_,I',q⟩)
theorem vI (lo hi:Option Int)(n:Nat):(sliceBounds lo hi none n).1=((HT.W8 n 0 lo:Nat):Int)/\(sliceBounds lo hi none n).2.1=((HT.W8 n n hi:Nat):Int)/\(sliceBounds lo hi none n).2.2=1:=by
 refine⟨?_,?_,rfl⟩
 ·cases lo with
  |none=>simp[sliceBounds,HT.W8]
  |some i=>
   simp only[sliceBounds,HT.W8,mn,show(1:Int)>0 by decide,if_true]
   by_cases h:i<0
   ·simp only[h,if_true]<;>lia
   ·simp only[h,if_false]<;>lia
 ·cases hi with
  |none=>simp[sliceBounds,HT.W8]
  |some i=>
   simp only[sliceBounds,HT.W8,mn,show(1:Int)>0 by decide,if_true]
   by_cases h:i<0
   ·simp only[h,if_true]<;>lia
   ·simp only[h,if_false]<;>lia
theorem tH (its:List af)(lo hi:Option Int):slicePick its.toArray lo hi none=((its.drop (HT.W8 its.length 0 lo)).take (HT.W8 its.length its.length hi - HT.W8 its.length 0 lo)).toArray:=by
 obtain⟨h1,h2,h3⟩:=vI lo hi its.toArray.size;unfold slicePick;rw[h1,h2,h3];simp only[sliceRange_one,pick_run,az]<;>rfl
def UE (K:PySem.W.Frag):V->Option Int->Option Int->Hp->VK->Prop:=λx lo hi H Q=>∃a xs,x=.ref a/\Xc K H a xs/\∀p,H p=none->Q (.ref p) (upd H p (.lst (tX xs lo hi)))
theorem Jb:SlR X (UE X.K):=by
 intro pins s σ H x v vl vu lo hi sl Q I rx hs pl pu h;obtain⟨a,xs,rfl,hx,q⟩:=h;cases rx;obtain⟨its,r,ht,hz⟩:=I.list hx;have hlen:=r.length;refine⟨"list",_,slot_list_getitem.lookup,ht.isList.typeIs,?_⟩;refine wpAny_getItem_list_slice ht.isList hs pl pu .none (by simp) ?_ (by rw[az]<;>lia);rw[tH,←hlen];refine⟨.ref s.heap.objs.size,_,I.laid (t':=s.toks) (o:=.lst (tX xs lo hi)) (λb ob q=>aj _ q) (aw _) ?_,rfl,q _ (I.WJ.fresh (aw _))⟩;exact⟨b8 (qi xs lo hi) hz,_,0,(r.drop (HT.W8 xs.length 0 lo)).take (HT.W8 xs.length xs.length hi - HT.W8 xs.length 0 lo),aB _ rfl⟩
def ly:V->Bool
 |.WN=>true
 |.bl _=>true
 |.int _=>true
 |.str _=>true
 |_=>false
def eqV:V->V->Bool
 |.WN,.WN=>true
 |.bl a,.bl b=>a==b
 |.bl a,.int b=>(if a then 1 else 0)==b
 |.int a,.bl b=>a==(if b then 1 else 0)
 |.int a,.int b=>a==b
 |.str a,.str b=>a==b
 |_,_=>false
theorem OQ {A:br}{s:ah}{y x:V}{u v:af}(ry:RelV y u)(rx:RelV x v)(fy:ly y=true)(fx:ly x=true):SeqAt.EqAt A s u v (eqV y x):=by
 cases y with
 |WN=>
  cases ry;cases x with
  |WN=>cases rx;exact SeqAt.EqAt.same _
  |bl b=>cases rx;exact SeqAt.EqAt.none_bool b
  |int b=>obtain⟨t,rfl⟩:=rx;exact SeqAt.EqAt.none_int b t
  |str b=>obtain⟨t,rfl⟩:=rx;exact SeqAt.EqAt.none_str b t
  |_=>exact absurd (show false=true from fx) aH
 |bl a=>
  cases ry;cases x with
  |WN=>cases rx;exact SeqAt.EqAt.bool_none a
  |bl b=>cases rx;exact SeqAt.EqAt.bool_bool a b
  |int b=>obtain⟨t,rfl⟩:=rx;exact SeqAt.EqAt.bool_int a b t
  |str b=>obtain⟨t,rfl⟩:=rx;exact SeqAt.EqAt.bool_str a b t
  |_=>exact absurd (show false=true from fx) aH
 |int a=>
  obtain⟨t',rfl⟩:=ry;cases x with
  |WN=>cases rx;exact SeqAt.EqAt.int_none a t'
  |bl b=>cases rx;exact SeqAt.EqAt.int_bool a t' b
  |int b=>obtain⟨t,rfl⟩:=rx;exact SeqAt.EqAt.int_int a t' b t
  |str b=>obtain⟨t,rfl⟩:=rx;exact SeqAt.EqAt.int_str a t' b t
  |_=>exact absurd (show false=true from fx) aH
 |str a=>
  obtain⟨t',rfl⟩:=ry;cases x with
  |WN=>cases rx;exact SeqAt.EqAt.str_none a t'
  |bl b=>cases rx;exact SeqAt.EqAt.str_bool a t' b
  |int b=>obtain⟨t,rfl⟩:=rx;exact SeqAt.EqAt.str_int a t' b t
  |str b=>obtain⟨t,rfl⟩:=rx;exact SeqAt.EqAt.str_str a t' b t
  |_=>exact absurd (show false=true from fx) aH
 |_=>exact absurd (show false=true from fy) aH
def eqU (x:V)(u:af):Bool:=match u with
 |.none=>eqV .WN x
 |.bool b=>eqV (.bl b) x
 |.int i _=>eqV (.int i) x
 |.str z _=>eqV (.str z) x
 |_=>false
theorem HG {x y:V}{u:af}(r:RelV y u)(f:ly y=true):eqU x u=eqV y x:=by
 cases y with
 |WN=>cases r;rfl
 |bl b=>cases r;rfl
 |int i=>obtain⟨t,rfl⟩:=r;rfl
 |str z=>obtain⟨t,rfl⟩:=r;rfl
 |_=>exact absurd (show false=true from f) aH
theorem lW {x:V}:∀{xs:List V}{us:List af},bA xs us->xs.all ly=true->us.any (eqU x)=xs.any λy=>eqV y x
 |_,_,.nil,_=>rfl
 |y::xs,u::us,.cons r t,f=>by
  rw[D5,ag]at f;rw[cX,cX,HG r f.1,lW t f.2]
theorem jJ {A:br}{s:ah}{x:V}{v:af}(rx:RelV x v)(fx:ly x=true):∀{xs:List V}{us:List af},bA xs us->xs.all ly=true->∀u∈us,SeqAt.EqAt A s u v (eqU x u)
 |_,_,.nil,_=>λu hu=>by cases hu
 |y::xs,u::us,.cons r t,f=>λu' hu=>by
  rw[D5,ag]at f;rcases List.mem_cons.mp hu with rfl|hu
  ·rw[HG r f.1];exact OQ r rx f.1 fx
  ·exact jJ rx fx t f.2 u' hu
def inV (x:V)(xs:List V):Bool:=xs.any λy=>eqV y x
def rIn (K:PySem.W.Frag)(neg:Bool):R2:=λx y H Q=>∃p xs,y=.ref p/\(Xc K H p xs\/Xd K H p xs)/\ly x=true/\xs.all ly=true/\Q (.bl (if neg then !inV x xs else inV x xs)) H
theorem Df:WV X (bc .In) (rIn X.K false):=by
 intro pins s σ H x y v u Q I rx ry h;obtain⟨p,xs,rfl,hq,fx,fs,q⟩:=h;cases ry;rcases hq with hq |hq
 ·obtain⟨its,r,pl,hz⟩:=I.list hq;refine SeqAt.in_listAt (eqU x) pl.isList (λw hw=>jJ rx fx r fs w (by simpa using hw)) ⟨.bl _,H,I,rfl,?_⟩;rw[show its.toArray.any (eqU x)=its.any (eqU x) by simp,lW r fs];exact q
 ·obtain⟨its,r,pl,hz⟩:=I.tuple hq;refine SeqAt.in_tupleAt (eqU x) pl (λw hw=>jJ rx fx r fs w (by simpa using hw)) ⟨.bl _,H,I,rfl,?_⟩;rw[show its.toArray.any (eqU x)=its.any (eqU x) by simp,lW r fs];exact q
theorem cu.or {f:af}{r r':List V->Hp->VK->Prop}(h:cu X f r)(h':cu X f r'):cu X f (λxs H Q=>r xs H Q\/r' xs H Q):=by
 intro pins s σ H xs us Q I rs q;rcases q with q |q
 ·exact h pins s σ H xs us Q I rs q
 ·exact h' pins s σ H xs us Q I rs q
theorem wR:cu X (.type "list") (λxs H Q=>∃p ys,xs=[.ref p]/\(Xc X.K H p ys\/Xd X.K H p ys)/\∀l,H l=none->Q (.ref l) (upd H l (.lst ys))):=by
 intro pins s σ H xs us Q I r h;obtain⟨p,ys,rfl,hq,q⟩:=h;obtain⟨u,rfl,rx⟩:=vals1 r;cases rx;have fin:∀(its:List af),bA ys its->ys.length<=au->∀(h':Heap)(c':Nat),(∀b o',s.heap.get? b=some o'->h'.get? b=some o')->
   h'.get? s.heap.objs.size=some { cls:=.type "list",dict:=none,data:=.seq its.toArray c',slots:=#[] }->EP X pins σ Q (.ref s.heap.objs.size) { s with heap:=h' }:=λits r' hz h' c' kp e=>
  ⟨.ref s.heap.objs.size,_,I.laid (t':=s.toks) kp (aw _) (show bJ X.prog X.w _ h' _ (.lst ys) from⟨hz,its,c',r',e⟩),rfl,q _ (I.WJ.fresh (aw _))⟩
 rcases hq with hq |hq
 ·obtain⟨its,r',pl,hz⟩:=I.list hq;have hlen:=r'.length;obtain⟨o,ho,hc,n,hd⟩:=pl.isList;exact call_list_seq p (.inl rfl) ho hc hd (λh' c' kp e=>fin its r' hz h' c' kp e) (by simp only[az]<;>lia)
 ·obtain⟨its,r',pl,hz⟩:=I.tuple hq;have hlen:=r'.length;obtain⟨o,ho,hc,n,hd⟩:=pl;exact call_list_seq p (.inr rfl) ho hc hd (λh' c' kp e=>fin its r' hz h' c' kp e) (by simp only[az]<;>lia)
theorem t6:cu X (.type "tuple") (λxs H Q=>∃p ys,xs=[.ref p]/\((Xc X.K H p ys/\∀l,H l=none->Q (.ref l) (upd H l (.tup ys)))\/(Xd X.K H p ys/\Q (.ref p) H))):=by
 intro pins s σ H xs us Q I r h;obtain⟨p,ys,rfl,h⟩:=h;obtain⟨u,rfl,rx⟩:=vals1 r;cases rx;rcases h with ⟨hq,q⟩|⟨hq,q⟩
 ·obtain⟨its,r',pl,hz⟩:=I.list hq;have hlen:=r'.length;refine call_tuple_list pl.isList (λh' kp=>?_) (by simp only[az]<;>lia);have I1:Inv X pins σ H { s with heap:=h' }:=I.kept (t':=s.toks) kp;have I2:Inv X pins σ (upd H h'.objs.size (.tup ys)) { s with heap:=h'.push { cls:=.type "tuple",data:=.seq its.toArray } }:=
   I1.laid (t':=s.toks) (λb o e=>aj _ e) (aw _) (show bJ X.prog X.w _ _ _ (.tup ys) from⟨hz,its,r',IsTup.new _ _⟩)
  exact⟨.ref h'.objs.size,_,I2,rfl,q _ (I1.WJ.fresh (aw _))⟩
 ·obtain⟨its,r',pl,hz⟩:=I.tuple hq;exact call_tuple_same pl ⟨.ref p,H,I,rfl,q⟩
def tyV (K:PySem.W.Frag)(T:String)(x:V)(H:Hp):Prop:=match x with
 |.str _=>T="str"
 |.int _=>T="int"
 |.ref p=>(T="list"/\∃xs,Xc K H p xs)\/(T="tuple"/\∃o,K.lookup p=some o/\o.cls=.type "tuple"/\o.dict=none)\/
   (T="dict"/\((∃kvs,H p=some (.dK kvs))\/∃kvs,H p=some (.dT kvs)))\/(T="set"/\∃S n,H p=some (.set S n))
 |_=>False
theorem Ek {pins:List (Addr×Obj)}{σ:St}{H:Hp}{s:ah}{T:String}{x:V}{v:af}(I:Inv X pins σ H s)(r:RelV x v)(ty:tyV X.K T x H):
  s.TypeIs v T/\∀a,v=.ref a->∃ob,s.heap.get? a=some ob/\ob.dict=none:=by
 cases x with
 |str z=>
  obtain⟨t,rfl⟩:=r;cases (show T="str" from ty);exact⟨typeIs_str s z t,λ_ e=>nomatch e⟩
 |int i=>
  obtain⟨t,rfl⟩:=r;cases (show T="int" from ty);exact⟨typeIs_int s i t,λ_ e=>nomatch e⟩
 |ref p=>
  cases r;rcases ty with ⟨rfl,xs,hq⟩|⟨rfl,o,hk,hc,hd⟩|⟨rfl,hk⟩|⟨rfl,S,n,hk⟩
  ·obtain⟨its,_,pl,_⟩:=I.list hq;refine⟨pl.isList.typeIs,λa e=>?_⟩;cases e;obtain⟨o,n,e,c,hd,_⟩:=pl;exact⟨o,e,hd⟩
  ·refine⟨⟨o,I.W5 p o hk,hc⟩,λa e=>?_⟩;cases e;exact⟨o,I.W5 _ o hk,hd⟩
  ·have z:∃o,s.heap.get? p=some o/\o.ExactDict:=by
    rcases hk with ⟨kvs,hk⟩|⟨kvs,hk⟩
    ·obtain⟨_,_,_,_,o,_,_,e,ex,_⟩:=I.WJ p _ hk;exact⟨o,e,ex⟩
    ·obtain⟨_,_,_,_,o,_,_,e,ex,_⟩:=I.WJ p _ hk;exact⟨o,e,ex⟩
   obtain⟨o,e,ex⟩:=z;refine⟨⟨o,e,ex.1⟩,λa e2=>?_⟩;cases e2;exact⟨o,e,ex.2.1⟩
  ·obtain⟨o,_,_,_,e,ex,_⟩:=I.WJ p _ hk;refine⟨⟨o,e,ex.1⟩,λa e2=>?_⟩;cases e2;exact⟨o,e,ex.2.1⟩
 |_=>exact False.elim ty
def MR (K:PySem.W.Frag)(T:String)(r:V->List V->Hp->VK->Prop)(to:TE):TE:=λσ H Q=>to σ H λx H1=>tyV K T x H1/\r x [] H1 Q
def tBM (K:PySem.W.Frag)(T:String)(r:V->List V->Hp->VK->Prop)(to:TE)(t:TA):TE:=λσ H Q=>to σ H λx H1=>tyV K T x H1/\t σ H1 λxs H2=>r x xs H2 Q
variable {o e:Expr}{es:List Expr}{to:TE}{t:TA}{name:Str}{apos bO:Pos}{T id:String}{r:V->List V->Hp->VK->Prop}
theorem LR (pa:PlainAttrs T)(slot:Slot T name id)(hty:typeOf (.builtin id)=pure (.type "method_descriptor"))(hm:MtR X id r)(ho:PE X o to)(ha:PA X (e::es) t)
  (ab3:attributeBase o name X.env (eval o X.env)=eval o X.env:=by rfl)
  (ai8:((backTo bO (ay (e::es) X.env)).all (λx=>!x.1)&&(backToKw bO (keywordEach [] X.env)).all (λx=>x.1.isSome)
   &&decide ((e::es).length+([]:List Keyword).length+(if ([]:List Keyword).isEmpty then 0 else 1)<30))=true:=by rfl)
  (ab4:(apos.endLine==bO.line)=true:=by rfl) (hs:ay (e::es) X.env=(false,eval e X.env)::ay es X.env:=by rfl) (ai9:(backTo bO (ay es X.env)).any (·.1)=false:=by rfl):
  PE X (.Call (.Attribute o name apos) (e::es) [] bO) (tBM X.K T r to t):=by
 intro pins s σ H Q I h;refine wpAny_Call_method_late ab3 ai8 ab4 rfl (WL (ho pins s σ H _ I h) λv s1 zq=>?_);obtain⟨x,H1,I1,r1,ty,q1⟩:=zq;obtain⟨h1,h2⟩:=Ek I1 r1 ty;refine⟨T,id,pa,slot,hty,h1,h2,?_⟩;have hA:=ha bO pins s1 σ H1 _ I1 q1;rw[hs]at hA ⊢;refine cQ (by show(false||(backTo bO (ay es X.env)).any (·.1))=false;rw[ai9]<;>rfl) (dO ?_);exact WL hA λus s2 ⟨vs,H2,I2,r2,q2⟩=>hm pins s2 σ H2 x vs v us Q I2 r1 r2 q2
end
end L2
namespace L2
open PySem PySem.Spec PyProof.Rows
def MtM (X:Cx)(id:String)(r:V->List V->Hp->VK->Prop):Prop:=
 ∀(pins:List (Addr×Obj))(s:ah)(σ:St)(H:Hp)(x:V)(xs:List V)(v:af)(us:List af)(Q:VK),Inv X pins σ H s->RelV x v->bA xs us->r x xs H Q->
  aq (model X.prog X.w) X.A (call (.builtin id) (v::us)) (EP X pins σ Q) X.xe s
theorem bA.one:∀{x:V}{us:List af},bA [x] us->∃u,us=[u]/\RelV x u
 |_,_,.cons r .nil=>⟨_,rfl,r⟩
theorem bA.rep {xs:List V}{us:List af}(h:bA xs us):∀k:Nat,bA (bg k xs).flatten (bg k us).flatten
 | 0=>.nil
 |k+1=>by
  rw[d6,d6,fV,fV];exact bA.append h (bA.rep h k)
theorem foldl_rep (its:List af):∀(k:Nat)(acc:List af),
  List.foldl (λx1 x2=>x1++x2) acc.toArray (bg k its.toArray)=(acc++(bg k its).flatten).toArray
 | 0,acc=>by simp
 |k+1,acc=>by
  have e:acc.toArray++its.toArray=(acc++its).toArray:=by simp
  have e2:(acc++its)++(bg k its).flatten=acc++(bg (k+1) its).flatten:=by
   rw[d6,fV,ug]
  rw[←e2,←foldl_rep its k (acc++its),←e,d6,List.foldl_cons]
section
variable {X:Cx}{pins:List (Addr×Obj)}{σ:St}{H:Hp}{s:ah}{l b:Addr}{xs ys zs:List V}
theorem Inv.yt {its its':List af}{n:Nat}{f:Array af->Array af}{t':Nat}(I:Inv X pins σ H s)(hH:H l=some (.lst xs))
  (e:s.heap.get? l=some { cls:=.type "list",data:=.seq its.toArray n }) (hf:f its.toArray=its'.toArray) (hv:bA ys its') (hz:ys.length<=au):
  Inv X pins σ (upd H l (.lst ys)) { s with heap:=s.heap.update l (Obj.mapSeq f),toks:=t' }:=by
 have q:=PySem.IsL.update e f;rw[hf]at q;refine I.write (x:=l) (e:=l) (by rw[hH];exact trivial) (.inl rfl) (λb' u hb hu=>(bK s.heap (Obj.mapSeq f) (Ne.symm hb)).trans hu) ⟨_,q⟩ ?_;exact⟨hz,its',_,hv,q⟩
theorem Inv.RB {its:List af}{t':Nat}(I:Inv X pins σ H s)(hv:bA ys its)(hz:ys.length<=au):
  Inv X pins σ (upd H s.heap.objs.size (.lst ys)) { s with heap:=s.heap.push { cls:=.type "list",data:=.seq its.toArray },toks:=t' }:=
 I.laid (λ_ _ q=>aj _ q) (aw _) ⟨hz,its,0,hv,aB _ rfl⟩
theorem Inv.fresh (I:Inv X pins σ H s):H s.heap.objs.size=none:=I.WJ.fresh (aw _)
theorem Inv.pf (I:Inv X pins σ H s)(hH:H l=some (.lst xs)):xs.length<=au/\∃(its:List af)(n:Nat),bA xs its/\xs.length=its.length/\s.heap.get? l=some { cls:=.type "list",data:=.seq its.toArray n }:=by
 obtain⟨z,its,n,r,e⟩:=I.WJ l _ hH;exact⟨z,its,n,r,r.length,e⟩
theorem nM {n:Nat}(h:n<=au):Builtin.List.listTooLong n=false:=by
 unfold Builtin.List.listTooLong;exact decide_eq_false (by lia)
end
section
variable {X:Cx}
def vQ:V->List V->Hp->VK->Prop:=λx vs H Q=>∃l xs y,x=.ref l/\vs=[y]/\H l=some (.lst xs)/\xs.length<au/\Q .WN (upd H l (.lst (xs++[y])))
theorem oZ:MtM X "list.append" vQ:=by
 intro pins s σ H x vs v us Q I rx rv h;obtain⟨l,xs,y,rfl,rfl,hH,hz,q⟩:=h;cases rx;obtain⟨u,rfl,ru⟩:=rv.one;obtain⟨z,its,n,r,hl,e⟩:=I.pf hH;refine gW F.slot_list_append ⟨_,e,rfl⟩ F.entry_list_append (F.args_list_append_2 _ _) (PySem.list_append l its.toArray n u (by rw[az];lia)) ⟨e,?_⟩;refine⟨.WN,_,I.yt (its':=its++[u]) hH e (by simp) (r.append (.cons ru .nil)) ?_,rfl,q⟩;rw[bE,List.length_singleton]
 lia
def JG:V->List V->Hp->VK->Prop:=λx vs H Q=>∃l b xs zs,x=.ref l/\vs=[.ref b]/\H l=some (.lst xs)/\H b=some (.lst zs)/\xs.length+zs.length<=au/\Q .WN (upd H l (.lst (xs++zs)))
theorem Pz:MtM X "list.extend" JG:=by
 intro pins s σ H x vs v us Q I rx rv h;obtain⟨l,b,xs,zs,rfl,rfl,hH,hB,hz,q⟩:=h;cases rx;obtain⟨u,rfl,ru⟩:=rv.one;cases ru;obtain⟨z,its,n,r,hl,e⟩:=I.pf hH;obtain⟨z2,Xx,n2,r2,hl2,e2⟩:=I.pf hB;have hsz:its.toArray.size+Xx.toArray.size<=au:=by rw[az,az];lia
 have an5:¬(!its.toArray.isEmpty&&Builtin.List.listTooLong (its.toArray.size+Xx.toArray.size))=true:=by
  rw[nM hsz,pU];exact aH
 refine gW F.slot_list_extend ⟨_,e,rfl⟩ F.entry_list_extend (F.args_list_extend_2 _ _)
  (AutoSeq1.list_extend_list_list_0 l its.toArray n b Xx.toArray n2 an5 (by rw[az];lia) (by lia)) ⟨e,e2,?_⟩
 refine⟨.WN,_,I.yt (its':=its++Xx) hH e (by simp) (r.append r2) ?_,rfl,q⟩;rw[bE]
 lia
def NA:V->List V->Hp->VK->Prop:=λx vs H Q=>∃l xs y,x=.ref l/\vs=[]/\H l=some (.lst xs)/\xs[xs.length - 1]?=some y/\Q y (upd H l (.lst xs.dropLast))
def UH:R2:=λx y H Q=>∃l b xs zs,x=.ref l/\y=.ref b/\H l=some (.lst xs)/\H b=some (.lst zs)/\xs.length+zs.length<=au/\∀p,H p=none->Q (.ref p) (upd H p (.lst (xs++zs)))
theorem Oc:WV X (binaryOp .Add) UH:=by
 intro pins s σ H x y v u Q I rx ry h;obtain⟨l,b,xs,zs,rfl,rfl,hH,hB,hz,q⟩:=h;cases rx;cases ry;obtain⟨z,its,n,r,hl,e⟩:=I.pf hH;obtain⟨z2,Xx,n2,r2,hl2,e2⟩:=I.pf hB;refine PySem.P.add_list e e2 ?_ (by rw[az,az];lia);have ea:its.toArray++Xx.toArray=(its++Xx).toArray:=by simp
 rw[ea];exact⟨.ref _,_,I.RB (t':=s.toks) (r.append r2) (by rw[bE];lia),rfl,q _ I.fresh⟩
def UF:R2:=λx y H Q=>∃l k xs,x=.ref l/\y=.int k/\H l=some (.lst xs)/\-(2 ^ 63)<=k/\k<2 ^ 63/\xs.length*k.toNat<=au/\
 ∀p,H p=none->Q (.ref p) (upd H p (.lst (bg k.toNat xs).flatten))
theorem KB {α:Type}(xs:List α)(k:Nat):(bg k xs).flatten.length=k*xs.length:=by
 induction k with
 |zero=>simp
 |succ k ih=>rw[d6,fV,bE,ih,Nat.succ_mul,Nat.add_comm]
theorem N1:WV X (binaryOp .Mult) UF:=by
 intro pins s σ H x y v u Q I rx ry h;obtain⟨l,k,xs,rfl,rfl,hH,h1,h2,hz,q⟩:=h;cases rx;obtain⟨t,rfl⟩:=ry;obtain⟨z,its,n,r,hl,e⟩:=I.pf hH;have hlen:its.toArray.size*k.toNat<=au:=by rw[az,←hl];exact hz
 have hcap:¬its.toArray.size*k.toNat>(2 ^ 63 - 1)/8:=by
  have:(au:Nat)<=(2 ^ 63 - 1)/8:=by decide
  lia
 have hfit:¬(!Builtin.List.listFitsIndex k)=true:=by
  rw[Bd h1 h2];exact aH
 have an5:¬Builtin.List.listTooLong (its.toArray.size*k.toNat)=true:=by
  rw[nM hlen];exact aH
 have hnew:List.foldl (λx1 x2=>x1++x2) #[] (bg (if its.toArray.isEmpty=true then 0 else k.toNat) its.toArray)=(bg k.toNat its).flatten.toArray:=by
  have f0:∀m:Nat,List.foldl (λx1 x2=>x1++x2) #[] (bg m its.toArray)=(bg m its).flatten.toArray:=λm=>by
   have:=foldl_rep its m [];rw[List.nil_append]at this;exact this
  rw[f0];cases its with
  |nil=>simp
  |cons a r'=>rw[if_neg (by simp)]
 refine wpAny_binaryOp_repeat_ref (T:="list") (U:="int") (by decide) ⟨_,e,rfl⟩ (λs'=>typeIs_int s' k t) noFill_list_mul F.fills_int_mul F.slot_int_rmul repeat_list F.slot_int_index.lookup
  (gW F.slot_int_rmul (typeIs_int s k t) F.entry_int_rmul (F.args_int_rmul_2 _ _) (int___rmul___int_list k t l its.toArray n)
   ⟨e,rfl,⟨_,e,rfl⟩,gW F.slot_list_mul ⟨_,e,rfl⟩ F.entry_list_mul (F.args_list_mul_2 _ _) (AutoListH.list___mul___list_int_3 l its.toArray n k t hfit hcap an5) ⟨e,?_⟩⟩)
 rw[hnew];exact⟨.ref _,_,I.RB (t':=s.toks) (r.rep k.toNat) (by rw[KB,Nat.mul_comm];exact hz),rfl,q _ I.fresh⟩
end
section
variable {prog:aI}{w:aZ}{A:br}{E:af->ah->Prop}{s:ah}
set_option maxRecDepth 100000 in
end
end L2
namespace Att
open PySem PySem.W PySem.Calls PyProof.Rows
theorem qo {P:Params}{h:Heap}:∀(ns:List Int)(vs:List af),WellAll P h vs (ns.map WData.int)->IntsAre vs ns:=by
 intro ns
 induction ns with
 |nil=>
  intro vs w;rw[bV]at w;cases w;exact .nil
 |cons n ns ih=>
  intro vs w;rw[aM]at w;cases w with
  |cons a b=>
   cases a;exact .cons _ _ (ih _ b)
theorem oP {l:OpenLaw}{n:Nat}(hn:l.most=some n){P:Params}{h:Heap}{args:List WData}{vals:List af}
  (ag8:l.row.toRowW.claim.pre args=true) (hwl:WellAll P h vals args):
  ∃a vs ns,vals=[Value.ref a]/\args=[WData.list (ns.map WData.int)]/\h.get? a=some { cls:=.type "list",data:=.seq vs.toArray }/\IntsAre vs ns/\ns.length<=n:=by
 have hsh:WShape.hasAll [] args [.list .int]=true:=(pre_splitW ag8).1;have hc:l.pre.holds [] { args:=args }=true:=(pre_splitW ag8).2;obtain⟨d,r,rfl,h1,h2⟩:=hasAllW_cons hsh;obtain rfl:=hasAllW_nil h2;obtain⟨xs,rfl,h3⟩:=hasW_list h1;obtain⟨ns,rfl⟩:=items_int h3;have hlen:ns.length<=n:=by
  unfold OpenLaw.pre at hc;have h4:(WTm.not (.lt (.lit (.int (n:Int))) (.len (.arg 0)))).holds [] { args:=[.list (ns.map .int)] }=true:=by
   have h4:=(holds_andW hc).1;rw[hn]at h4;exact h4
  have h5:=condW_of h4 (w_not (w_lt w_lit (w_len_list (w_arg rfl))));rw[aP]at h5;refine Nat.le_of_not_lt λq=>?_;have q':(n:Int)<((ns.length:Nat):Int):=by lia
  first
   | (rw[decide_eq_true q']at h5;exact absurd h5 (by decide))
   | (simp at h5;lia)
 cases hwl with
 |cons w1 w2=>
  cases w2;cases w1 with
  |list ho af6=>exact⟨_,_,ns,rfl,rfl,ho,qo ns _ af6,hlen⟩
theorem oV (l:OpenLaw)(args:List WData):l.row.toRowW.claim.post args (.bool true) args=true:=
 postW_of (r:=l.row.toRowW) (X:=(true==true))
  (show WShape.has [] (.bool true) .bool=true by first |rfl|decide |simp[WShape.has,WShape.arms,WShape.armsAll])
  (show(WTm.eq .res (.lit (.bool true))).value [] { args:=args,res:=some (.bool true),after:=args }=some (.bool (true==true)) from w_eq_bool (w_res rfl) w_lit) rfl
theorem yX {l:OpenLaw}{n:Nat}{q:aI}{loose:List Str}{XP:(Str->Option af)->Heap->Prop}{YP:aZ->Heap->Prop}{d:DefRec}
  (hn:l.most=some n) (hdf:d.params.defaults=[])
  (call:∀(w:aZ)(s₀ s₁:ah)(mg mb:Str->Option af)(fa:Addr)(o:Obj)(pm cd doc:af)(a:Addr)(vs:List af)(ns:List Int),
   Ground q loose [] XP w s₀ mg mb s₁.heap->YP w s₁.heap->
   s₁.heap.get? fa=some o->o.data=.func (docDef d.name d.params d.body d.scope pm cd doc)->s₁.heap.CodeRec cd d.name->mg d.name=some (.ref fa)->
   s₁.heap.get? a=some { cls:=.type "list",data:=.seq vs.toArray }->IntsAre vs ns->ns.length<=n->s₁.gens=#[]->
   codeAny (model l.prog w) callerA (.call (.ref fa) ⟨[.ref a],[]⟩) (λr s'=>r=.ok (.ret (.bool true))/\OldK s₁.heap s'.heap/\s'.os=s₁.os/\AllBare s'.gens) s₁):
  WalkO q loose XP YP l.row.toRowW d [] (λf vs=>PySem.call f vs):=by
 intro w s₀ s₁ mg mb G Y fa o pm cd doc dV kV ho hd hcd hD hmg hg args vals as ag8 hlay hrd hwl hlo;obtain rfl:dV=.none:=Dflts.none hD hdf;obtain rfl:kV=.none:=Dflts.noKw hD;obtain⟨a,vs,ns,rfl,rfl,aj0,hints,hlen⟩:=oP hn ag8 hwl;refine enter_call (dJ (call w s₀ s₁ mg mb fa o pm cd doc a vs ns G Y ho (Be hd) hcd hmg aj0 hints hlen hg) λr s' hq=>?_);obtain⟨rfl,h2,h3,h4⟩:=hq;exact⟨.inl ⟨.bool true,.bool true,[],rfl,λ_=>rfl,.bool true,oV l _,λ_=>⟨List.Pairwise.nil,λ_ hm=>(nomatch hm)⟩⟩,h2,h3,h4⟩
end Att
namespace L2
open PySem PySem.Spec PyProof.Rows
theorem uw:∀{vs:List af}{ns:List Int},IntsAre vs ns->bA (ns.map V.int) vs
 |_,_,.nil=>.nil
 |_,_,.cons n t h=>.cons ⟨t,rfl⟩ (uw h)
def A4 (H:Hp):Prop:=∀b,H b=none\/∃o xs,H b=some (.frz o (.lst xs))
theorem G8 {P:aI}{w:aZ}{K:PySem.W.Frag}{mg mb:Str->Option af}{CX:CXT}{k:Nat}{fa a:Addr}{fd:aK}{x:Str}{sp:Sp}{s₁:ah}{vs:List af}{ns:List Int}
  (KX:K.In s₁.heap) (hns:s₁.heap.Ns a8 mg) (hb:s₁.heap.Ns builtinsNs mb) (hbb:∀x:Str,x≠"__name__"->mb x=bootBuiltins x) (ay2:s₁.heap.NoLimit) (hg:s₁.gens=#[])
  (ha:s₁.heap.get? a=some { cls:=.type "list",data:=.seq vs.toArray }) (hi:IntsAre vs ns) (hl:ns.length<=au) (hr:c8 k callerA)
  (F:∀base:Heap,K.In base->base.Ns a8 mg->d8 P w K mg base CX k fa fd [x] sp) (ad3:∀(s:ah)(u:af),BindsTo s fd ⟨[u],[]⟩ [(x,u)])
  (hsp:∀H:Hp,A4 H->Xc K H a (ns.map V.int)->sp [.ref a] H (λv _=>v=.bl true) λ_ _ _=>False)
  (hCX:∀H e s',CX [] H s₁ (λ_ _ _=>False) e s'->False):
  codeAny (model P w) callerA (.call (.ref fa) ⟨[.ref a],[]⟩) (λr s'=>r=.ok (.ret (.bool true))/\OldK s₁.heap s'.heap/\s'.os=s₁.os/\AllBare s'.gens) s₁:=by
 have rv:=uw hi;have lenV:=hi.length;have core:∀H:Hp,A4 H->Xc K H a (ns.map V.int)->Xo P w H s₁.heap->(∀b,H b≠none->b=a)->(H a≠none->K.lookup a=none)->
   codeAny (model P w) callerA (.call (.ref fa) ⟨[.ref a],[]⟩) (λr s'=>r=.ok (.ret (.bool true))/\OldK s₁.heap s'.heap/\s'.os=s₁.os/\AllBare s'.gens) s₁:=by
  intro H hO hS WJ hA hK;have aj8:∀{b:Addr}{o:Obj},s₁.heap.get? b=some o->H b=none->(wH s₁.heap H).get? b=some o:=λe n=>Hn e n;have noA:∀{b:Addr}{o:Obj}{es:Array DictEntry}{ep:Nat},s₁.heap.get? b=some o->o.data=.dict es ep->H b=none:=λ{b o es ep} e d=>by
   cases q:H b with
   |none=>rfl
   |some u=>
    have e':b=a:=hA b (by rw[q];simp);subst e';rw[ha]at e;cases e;have d':Data.seq vs.toArray _=Data.dict es ep:=d;cases d'
  have nsK:∀{b:Addr}{m:Str->Option af},s₁.heap.Ns b m->(wH s₁.heap H).Ns b m:=λ{b m} ⟨o,es,ep,e,d,r⟩=>⟨o,es,ep,aj8 e (noA e d),d,r⟩;have hKb:K.In (wH s₁.heap H):=λb o e=>aj8 (KX b o e) (by
   cases q:H b with
   |none=>rfl
   |some u=>
    have e':b=a:=hA b (by rw[q];simp);subst e';rw[hK (by rw[q];simp)]at e;cases e)
  have hM:Mod K mg (wH s₁.heap H):=⟨hKb,nsK hns,⟨mb,nsK hb,hbb⟩,let ⟨mc,h1,h2⟩:=ay2;⟨mc,nsK h1,h2⟩⟩;have e0:ua P w K mg (wH s₁.heap H) callerA [] s₁ H:=⟨rfl,hM,λb o e=>Kq e,Nat.le_of_eq (Dy _ _),trivial,λb hb=>absurd (show b∈([]:List Addr) from hb) (by simp),WJ,.of_eq hg⟩;refine dJ ((F _ hKb (nsK hns)).run callerA [] s₁ H ⟨[.ref a],[]⟩ [.ref a] [.ref a] _ _ hr e0 (ad3 s₁ (.ref a)) (.cons rfl .nil) (hsp H hO hS)) λr s' h=>?_;cases r with
  |error e=>exact(hCX H e s' h).elim
  |ok fl=>
   cases fl with
   |next=>exact False.elim h
   |brk=>exact False.elim h
   |cont=>exact False.elim h
   |ret u=>
    obtain⟨v,H',os,bare,un,hok',r',q⟩:=h;have q':v=.bl true:=q;subst q';obtain rfl:u=Value.bool true:=r';refine⟨rfl,OldK.of_keep λb o e=>?_,os,bare⟩;cases q:H b with
    |none=>exact un.keep b o e q (by intro z;exact absurd (show b∈([]:List Addr) from z) (by simp)) (by simp)
    |some u=>
     rcases hO b with z |⟨ob,xs,z⟩
     ·rw[q]at z;cases z
     ·have z2:=un.Xp b ob _ z;obtain⟨e1,_⟩:=WJ b _ z;obtain⟨e2,_⟩:=hok' b _ z2;rw[e]at e1;cases e1;exact e2
 cases hk:K.lookup a with
 |some o=>
  have e:=KX a o hk;rw[ha]at e;cases e;refine core (λ_=>none) (λ_=>.inl rfl) (.inr ⟨_,vs.toArray,_,hk,rfl,rfl,rfl,by rw[az,lenV];exact hl,by simpa using rv⟩) (λb u z=>by have z':(none:Option HO)=some u:=z;cases z') (λb z=>absurd rfl z) λz=>absurd rfl z
 |none=>
  refine core (λb=>if b=a then some (.frz { cls:=.type "list",data:=.seq vs.toArray } (.lst (ns.map V.int))) else none) (λb=>?_) (.inl (.inr ⟨{ cls:=.type "list",data:=.seq vs.toArray },if_pos rfl⟩)) (λb u z=>?_) (λb z=>?_) λ_=>hk
  ·by_cases hb:b=a
   ·exact .inr ⟨_,_,if_pos hb⟩
   ·exact .inl (if_neg hb)
  ·by_cases hb:b=a
   ·have z':=(if_pos hb).symm.trans z;cases z';subst hb;exact⟨ha,by rw[aP];exact hl,vs,_,rv,ha⟩
   ·have z':=(if_neg hb).symm.trans z;cases z'
  ·by_cases hb:b=a
   ·exact hb
   ·exact absurd (if_neg hb) z
end L2
namespace L2
open PySem PySem.Spec PyProof.Rows
abbrev KOf {K:PySem.W.Frag}{h:Heap}(_:K.In h):PySem.W.Frag:=K
theorem Bh {l:PySem.W.OpenLaw}{n k:Nat}{q:aI}{loose:List Str}{XP:(Str->Option af)->Heap->Prop}{YP:aZ->Heap->Prop}{d:DefRec}{K:Params->PySem.W.Frag}{CX:aZ->CXT}{sp:aZ->Sp}{x:Str}
  (hn:l.most=some n) (hn2:n<=au) (hdf:d.params.defaults=[]) (hr:c8 k callerA)
  (hY:∀(w:aZ)(h:Heap),YP w h->(K w.params).In h)
  (F:∀(w:aZ)(mg:Str->Option af)(fa:Addr)(h:Heap),(K w.params).In h->h.Ns a8 mg->mg d.name=some (.ref fa)->
   ∃fd:aK,(∀(s:ah)(u:af),BindsTo s fd ⟨[u],[]⟩ [(x,u)])/\
    ∀base:Heap,(K w.params).In base->base.Ns a8 mg->d8 l.prog w (K w.params) mg base (CX w) k fa fd [x] (sp w))
  (hsp:∀(w:aZ)(H:Hp)(a:Addr)(ns:List Int),ns.length<=n->A4 H->Xc (K w.params) H a (ns.map V.int)->sp w [.ref a] H (λv _=>v=.bl true) λ_ _ _=>False)
  (hCX:∀(w:aZ)(H:Hp)(s:ah)(e:af)(s':ah),CX w [] H s (λ_ _ _=>False) e s'->False):
  PySem.W.WalkO q loose XP YP l.row.toRowW d [] (λf vs=>PySem.call f vs):=by
 refine Att.yX hn hdf λw s₀ s₁ mg mb fa o pm cd doc a vs ns G Y ho hd hcd hmg aj0 hints hlen hg=>?_;have KX:=hY w _ Y;obtain⟨fd,hb,hF⟩:=F w mg fa _ KX G.T.g hmg;exact G8 KX G.T.g G.T.b G.T.builtins G.T.nolimit hg aj0 hints (b8 hlen hn2) hr hF hb (λH hO hS=>hsp w H a ns hlen hO hS) λH e s'=>hCX w H s₁ e s'
end L2
namespace L2
open PySem PySem.Spec PyProof.Rows
def dA (s:Stmt):Arguments:=match s with
 |.FunctionDef _ a _ _ _ _ _ _ _ _=>a
 |_=>{ posonlyargs:=[],args:=[],vararg:=none,kwonlyargs:=[],kw_defaults:=[],kwarg:=none,defaults:=[] }
def cf (s:Stmt):List Stmt:=match s with
 |.FunctionDef _ _ b _ _ _ _ _ _ _=>b
 |_=>[]
def aW (s:Stmt):Scope:=match s with
 |.FunctionDef _ _ _ _ _ _ sc _ _ _=>sc
 |_=>{ kind:=.function,names:=[],isGenerator:=false,isCoroutine:=false }
abbrev CX0:CXT:=λ_ _ _ _ _ _=>False
structure Fun (K:PySem.W.Frag)(x qual:Str)(st:Stmt)(f:Addr)(fd:aK):Prop where
 ex:∃(oc:af)(od:Option Addr)(kV doc pm:af)(an:Option Addr)(W7 ct:af)(osl:Array (Option af)),
  fd=PySem.W.fnOf x qual (dA st) (cf st) (aW st) .none kV doc pm an W7 ct/\K.lookup f=some ⟨oc,od,.func fd,osl⟩/\PySem.W.codeIn K W7 qual=true
 kp:PySem.W.keepIn K (.ref f)=true
section
variable {P:aI}{w:aZ}{K:PySem.W.Frag}{mg:Str->Option af}{base:Heap}
theorem Fun.ok {x qual:Str}{st:Stmt}{f:Addr}{fd:aK}{N ps:List Str}{k:Nat}{sp:Sp}(F:Fun K x qual st f fd)(S:eC N ps (aW st))(len:∀vs H Q E,sp vs H Q E->vs.length=ps.length)
  (Xv:∀(W7:af)(A:br)(outer:List Env)(s:ah)(H:Hp)(vs:List V)(Q:VK)(E:XK),c8 k (A.deeper (envOfC qual (aW st) s.heap.objs.size f W7))->sp vs H Q E->
   ∃t,PSs (pH CX0 P w K mg base N qual (aW st) f W7 A outer s H E).nox (cf st) t/\t { nx:=λ_ H'=>Q .WN H',rt:=Q } (start N vs) H):d8 P w K mg base CX0 (k+1) f fd ps sp:=by
 obtain⟨oc,od,kV,doc,pm,an,W7,ct,osl,rfl,lk,hcd⟩:=F.ex;refine Ca lk hcd S len λA outer s H vs Q E hr hsp=>?_;obtain⟨t,h,q⟩:=Xv W7 A outer s H vs Q E hr hsp;exact⟨t,h.nox,q⟩
end
def fD (H H':Hp):Prop:=∀b o,H b=some o->H' b=some o
end L2
namespace L2
open PySem PySem.Spec PyProof.Rows PySem.W PySem.SeqAt
variable {C a:Addr}{A:br}{es1:Array (Int×af)}{sl:Array (Option af)}{xs:Array Nat}{items:Array af}{b r:Bool}{X:Cx}{E:Ends}{outer:Env}{e elt iter l:Expr}{fd:aK}{o:HO}{h:Heap}{H H':Hp}{j:Int}{B:Int->Int->Bool}{pins:List (Addr×Obj)}{kvs:List (Key×V)}{ws:List (List Key×V)}{cl:List (Str×Addr)}{v0:List (Str×V)}{η ι:List Addr}{es:List Expr}{ns:List Int}{ks:List Key}{ix:List Nat}{ds:List PyData}{bq vars:List Str}{vs:List V}{bm us:List af}{ep i n:Nat}{tn:Nat->Heap->Prop}{oT:Obj}{an od:Option Addr}{k0:Option af}{apos bO p pos:Pos}{prog:aI}{scope:Scope}{t' t1:SetTable}{s:ah}{σ:St}{c x y:Str}{T' WR nid:String}{fn:Str->Addr}{mg:Str->Option af}{ta:TA}{te to:TE}{g:TG}{ts:WZ}{wi:TI}{tb:TS}{tc:TT}{tk:Tok}{v:V}{Qr:VK}{cd ct dV dc oc pm u:af}{Q xe:af->ah->Prop}{w:aZ}
section
structure ff (K:Frag)(C:Addr)(bm:List af)(newId:String):Prop where
 obj:∃(nm q:Str)(N:Addr)(bs:List af)(sn:List Str)(sub:List af)(ab:Bool)(col:Option Bool)(dd:Option Addr)(k0 k1 k2 k3 k5:Option af),
  K.lookup C=some (excClassObj nm q C N bs bm true sn sub ab col dd k0 k1 k2 k3 k5 newId)
 ga:findIn K (.ref C) "__getattribute__"=some (some (.builtin "BaseException.__getattribute__"))
 gh:findIn K (.ref C) "__getattr__"=some none
 sa:findIn K (.ref C) "__setattr__"=some (some (.builtin "object.__setattr__"))
 cl:findIn K (.ref C) "__class__"=some (some (.builtin "object.__class__"))
 base:mroIn K C (.type "BaseException")=some true
 top:mroIn K C (.type "object")=some true
 pass:∀self:af,refuseLoop self "__setattr__" bm=pure ()
theorem ff.hd {K:Frag}(c:ff K C bm nid):hasDictIn K C=true:=by
 obtain⟨nm,q,N,bs,sn,sub,ab,col,dd,k0,k1,k2,k3,k5,h⟩:=c.obj;unfold hasDictIn clsIn;rw[h];rfl
section
variable {prog:aI}{w:aZ}{A:br}{E:af->ah->Prop}{s:ah}{K:Frag}{x C:Addr}{ox:Obj}{od:Option Obj}{name:Str}{bm:List af}{newId:String}
theorem uj {M:Model}(X:K.In s.heap)(c:ff K C bm newId)(I:PySem.W.InstAt s.heap x ox C od){Q:Unit->ah->Prop}(q:Q () s):
  aq M A (checkBuiltinCall "BaseException.__getattribute__" ⟨[.ref x,u],[]⟩) Q E s:=
 @check_slot M A E s "BaseException.__getattribute__" "BaseException" "__getattribute__" (.ref x) [u] [] Q (by decide +kernel) (by decide +kernel) (I.type.andThen (looks_mroIn X c.base)) (PySem.F.args_bexc_ga (.ref x) u) q
theorem Uc {v:af}(X:K.In s.heap)(c:ff K C bm newId)(I:PySem.W.InstAt s.heap x ox C od)
  (hf:findObj K C od name=some (.value v)) (hh:handedIn v=true) (h:Q v { s with toks:=s.toks+1 }):aq (model prog w) A (getAttr (.ref x) name b) Q E s:=by
 obtain⟨hh',g,d,t,os⟩:=s;have T0:=I.type (M:=model prog w);have T1:=gx (M:=model prog w) X c.ga;have T2:=gx (M:=model prog w) X c.gh;have T3:=looks_find (M:=model prog w) X I hf;have hx2:(Value.builtin "BaseException.__getattribute__"==Value.builtin "object.__getattribute__")=false:=by decide +kernel
 have hx0:(b&&onTheHeap (Value.builtin "BaseException.__getattribute__"))=false:=by cases b<;>rfl
 unfold getAttr getAttrBy;refine aa (wpAny_mkText (a9 (aa (T0.at (aa (T1.at ?_))))));dsimp only;rw[hx2,pU,if_neg (by decide)];unfold getAttrByItsOwn hookBefore onTheHeap;refine aa ?_;dsimp only;rw[if_pos rfl];refine T2.at (aa (eV (a9 ?_)));unfold callGetattribute boundAndCalled;rw[hx0,if_neg (by decide)];rw[PySem.F.attr_ValueError.ga.bind];refine aa (ak ?_);refine dX (gf PySem.F.attr_ValueError.ga.plain PySem.F.entry_bexc_ga (uj (s:=⟨hh',g,d,t+1,os⟩) X c I ?_));unfold Builtin.«object.__getattribute__»;refine aa (ak (aa (ak (aa (T0.at (aa (T3.at ?_)))))));refine ak ?_;show aq _ _ (handedOut v) _ _ _;rw[handedOut_of hh];exact ak h
theorem Ms {Q:Option af->ah->Prop}(hn:specialIn K (.builtin "object.__class__") "__get__"=some (some (.builtin "getset_descriptor.__get__")))(htk:takesIn K (.builtin "object.__class__")=some true)
  (X:K.In s.heap) (c:ff K C bm newId) (I:PySem.W.InstAt s.heap x ox C od) (h:Q (some (.ref C)) { s with toks:=s.toks+1 }):aq (model prog w) A (getAttr? (.ref x) "__class__") Q E s:=by
 have hf:findObj K C od "__class__"=some (.bind (.builtin "getset_descriptor.__get__") (.builtin "object.__class__")):=by
  obtain⟨cd,hc,_⟩:=any_some c.hd;unfold findObj;rw[hc,je,c.cl,je];simp[hn,htk]
 obtain⟨hh',g,d,t,os⟩:=s;have T0:=I.type (M:=model prog w);have T1:=gx (M:=model prog w) X c.ga;have T2:=gx (M:=model prog w) X c.gh;have T3:=looks_find (M:=model prog w) X I hf;have hx2:(Value.builtin "BaseException.__getattribute__"==Value.builtin "object.__getattribute__")=false:=by decide +kernel
 unfold getAttr? getAttrBy? getAttrBy;refine aa (wpAny_mkText (aa (eV (a9 (aa (T0.at (aa (T1.at ?_))))))));dsimp only;rw[hx2,pU,if_neg (by decide)];unfold getAttrByItsOwn hookBefore onTheHeap;refine aa ?_;dsimp only;rw[if_pos rfl];refine T2.at (aa (eV (a9 ?_)));unfold callGetattribute boundAndCalled;rw[pT,if_neg (by decide)];rw[PySem.F.attr_ValueError.ga.bind];refine aa (ak ?_);refine dX (gf PySem.F.attr_ValueError.ga.plain PySem.F.entry_bexc_ga (uj (s:=⟨hh',g,d,t+1,os⟩) X c I ?_));unfold Builtin.«object.__getattribute__»;refine aa (ak (aa (ak (aa (T0.at (aa (T3.at ?_)))))));show aq _ _ (holding [_] (call (.builtin "getset_descriptor.__get__") [.builtin "object.__class__",.ref x,.ref C]) >>=ret) _ _ _;refine aa (a9 (dX (class_get (s:=⟨hh',g,d,t+1,os⟩) X I c.top (ak ?_))));show aq _ _ (handedOut (.ref C)) _ _ _;exact ak (ak h)
theorem Hb (hn:specialIn K (.builtin "object.__class__") "__get__"=some (some (.builtin "getset_descriptor.__get__")))(htk:takesIn K (.builtin "object.__class__")=some true)(c:ff K C bm newId):
  KitX K (.ref x) (.ref C) (λh=>PySem.W.InstAt h x ox C od) where
 ty:=λ_ _ _ I=>I.type
 it:=λ_ _ X _=>by
  obtain⟨nm,q,N,bs,sn,sub,ab,col,dd,k0,k1,k2,k3,k5,ho⟩:=c.obj;intro A' Q' E' s' k q;unfold isType loadHead;exact aa (ki (k _ _ (X _ _ ho)) (ak q))
 ne:=λh tp dd its n sl X htp=>by
  obtain⟨nm,q,N,bs,sn,sub,ab,col,dd,k0,k1,k2,k3,k5,ho⟩:=c.obj;refine Bool.eq_false_iff.mpr λq=>?_;have e:C=tp:=Value.ref.inj (beq_iff_eq.mp q);subst e;have z:=congrArg Obj.cls (Option.some.inj ((X _ _ ho).symm.trans htp));exact absurd (Value.type.inj z) (by decide)
 ca:=λX I k=>Ms hn htk X c I k
end
end
section
def fL (r:Bool)(C x:Addr)(d:Option Addr):HO:=.ext λh=>∃vs,h.get? x=some { cls:=.ref C,dict:=d,data:=.fields vs }/\(r=true->vs[1]?=some .none)
def ir (dx:Addr)(fs:List (Str×V)):HO:=.ext λh=>∃mA,h.Ns1 dx mA/\(∀f,gr (fs.lookup f) (mA f))/\Within mA (fs.map (·.1))
section
variable {P:aI}{w:aZ}{H:Hp}{h:Heap}{C x dx:Addr}{d:Option Addr}{fs:List (Str×V)}{r:Bool}
theorem qx {vs:Array af}(e:h.get? x=some { cls:=.ref C,dict:=d,data:=.fields vs })(z:r=true->vs[1]?=some .none):bJ P w H h x (fL r C x d):=
 ⟨⟨vs,e,z⟩,⟨_,e⟩,λh1 h2 ⟨ws,q,z⟩ k=>⟨ws,k _ q,z⟩⟩
theorem hV (WJ:Xo P w H h)(e:H x=some (fL r C x d)):∃vs,h.get? x=some { cls:=.ref C,dict:=d,data:=.fields vs }/\(r=true->vs[1]?=some .none):=(show bJ P w H h x (fL r C x d) from WJ x _ e).1
theorem lK (WJ:Xo P w H h)(e:H dx=some (ir dx fs)):∃mA,h.Ns1 dx mA/\(∀f,gr (fs.lookup f) (mA f))/\Within mA (fs.map (·.1)):=(show bJ P w H h dx (ir dx fs) from WJ dx _ e).1
end
def IsX (r:Bool)(H:Hp)(x C:Addr)(fs:List (Str×V)):Prop:=
 (fs=[]/\H x=some (fL r C x none))\/∃dx,H x=some (fL r C x (some dx))/\H dx=some (ir dx fs)
section
variable {r:Bool}{X:Cx}{pins:List (Addr×Obj)}{σ:St}{H:Hp}{s:ah}{x C:Addr}{bm:List af}{nid:String}{fs:List (Str×V)}{f:Str}{v:V}{A:br}{E:af->ah->Prop}
theorem IsX.inst (I:Inv X pins σ H s)(q:IsX r H x C fs):∃ox od,PySem.W.InstAt s.heap x ox C od:=by
 rcases q with ⟨rfl,e⟩|⟨dx,e,e2⟩
 ·obtain⟨vs,h,_⟩:=hV I.WJ e;exact⟨_,none,h,rfl,rfl,True.intro⟩
 ·obtain⟨vs,h,_⟩:=hV I.WJ e;obtain⟨mA,n,_⟩:=lK I.WJ e2;obtain⟨o1,e1,_⟩:=lT n;exact⟨_,some o1,h,rfl,rfl,e1⟩
theorem IX {c:af}(hn:specialIn X.K (.builtin "object.__class__") "__get__"=some (some (.builtin "getset_descriptor.__get__")))(htk:takesIn X.K (.builtin "object.__class__")=some true)
  (I:Inv X pins σ H s) (q:IsX r H x C fs) (k:ff X.K C bm nid) (e:kitOne X.K (.ref C) c=some b) (h:∀tk,Q (.bool b) { s with toks:=tk }):
  aq (model X.prog X.w) A (call (.builtin "isinstance") [.ref x,c]) Q E s:=by
 obtain⟨ox,od,J⟩:=q.inst I;exact kia_one (Hb hn htk k) I.W5 J e (λz=>nomatch z) h
end
def Er (K:Frag)(ta:TE)(f:Str):TE:=λσ H Q=>ta σ H λx H1=>∃r a C bm nid fs v,x=.ref a/\IsX r H1 a C fs/\ff K C bm nid/\dW K C f/\fs.lookup f=some v/\Q v H1
end
section
abbrev gA (C t:Addr):Obj:={ cls:=.ref C,data:=.fields #[.ref t,.none,.none,.none,.bool false,.none] }
abbrev gT (us:List af):Obj:={ cls:=.type "tuple",data:=.seq us.toArray }
section
variable {prog:aI}{w:aZ}{A:br}{E:af->ah->Prop}{h:Heap}{g:Array GenState}{d:Drawn}{t:Nat}{os:OsState}
variable {nm q:Str}{C N:Addr}{bs bm bmN:List af}{sn:List Str}{sub:List af}{ab:Bool}{col:Option Bool}{dd:Option Addr}{k0 k1 k2 k3 k5:Option af}{Bn newId inN:String}{us:List af}
theorem qT {M:Model}{Q:Unit->ah->Prop}(Fn:ExcBaseFacts Bn newId inN bmN)(hBn:bm.contains (.type Bn)=true)
  (hC:h.get? C=some (excClassObj nm q C N bs bm true sn sub ab col dd k0 k1 k2 k3 k5 newId)) (hq:Q () ⟨h,g,d,t,os⟩):
  aq M A (checkBuiltinCall newId ⟨.ref C::us,[]⟩) Q E ⟨h,g,d,t,os⟩:=by
 have z1:(Value.ref C::bm).contains (.type Bn)=true:=by rw[cM,hBn,uh]
 have z2:=Fn.noStar;simp only[checkBuiltinCall,Fn.newKind,Fn.newSplit,Fn.newRow]
 repeat (first
  |refine dQ hC ?_
  | (refine jE hC ?_;rw[z1])
  |refine wpAny_staticBase_exc hC ?_
  |refine xa hC ?_
  |simp only[bne_self_eq_false,aY,if_false]
  |wp_step)
 exact hq
theorem ui {R:Result->ah->Prop}(Fn:ExcBaseFacts Bn newId inN bmN)(hBn:bm.contains (.type Bn)=true)(hA:bm.contains (.type "AttributeError")=false)(hN:bm.contains (.type "NameError")=false)
  (hC:h.get? C=some (excClassObj nm q C N bs bm true sn sub ab col dd k0 k1 k2 k3 k5 newId)) (hl:us.length<=au)
  (hq:R (.ok (.ret (.ref (h.objs.size+1)))) ⟨(h.push (gT us)).push (gA C h.objs.size),g,d,t,os⟩):
  codeAny (model prog w) A (.builtin newId ⟨.ref C::us,[]⟩) R ⟨h,g,d,t,os⟩:=by
 have z0:=Fn.ends;have z1:(Value.ref C::bm).contains (.type Bn)=true:=by rw[cM,hBn,uh]
 have z2:(Value.ref C::bm).contains (.type "AttributeError")=false:=by rw[cM,hA];rfl
 have z3:(Value.ref C::bm).contains (.type "NameError")=false:=by rw[cM,hN];rfl
 have an3:us.length<=au:=hl;refine codeAny_builtinAt Fn.entry ?_;unfold Builtin.«BaseException.__new__»;refine PySem.wpAt_bind ?_;show PySem.wpAt _ _ _ (stack >>=_) _ _ _;refine PySem.wpAt_bind (PySem.wpAt_stack λp below=>PySem.wpAt_of_wpAny ?_)
 wp_walk
 refine PySem.wpAt_of_wpAny ?_;rw[Fn.owner]
 repeat (first
  |with_reducible refine wpAny_madeHere_exc Fn.canon hC ?_
  |with_reducible refine dQ hC ?_
  | (with_reducible refine jE hC ?_;first |rw[z1] |rw[z2] |rw[z3])
  |wp_step)
 show R _ _;rw[bI];exact hq
theorem jI {b:Addr}{o:Obj}(e:h.get? b=some o):((h.push (gT us)).push (gA C h.objs.size)).get? b=some o:=aj _ (aj _ e)
theorem oR:((h.push (gT us)).push (gA C h.objs.size)).get? (h.objs.size+1)=some (gA C h.objs.size):=by
 have:=aB (h.push (gT us)) (o:=gA C h.objs.size) rfl
 rwa [bI]at this
theorem zc {K:Frag}{f:Addr}(X:K.In h)(Fn:ExcBaseFacts Bn newId inN bmN)(hBn:bm.contains (.type Bn)=true)(hA:bm.contains (.type "AttributeError")=false)(hN:bm.contains (.type "NameError")=false)
  (c:ff K C bm newId) (hi:findIn K (.ref C) "__init__"=some (some (.ref f))) (hf:isFn K (.ref f)=true) (hl:us.length<=au)
  (hq:aq (model prog w) (A.under (.builtin "type.__call__" ⟨.ref C::us,[]⟩)) (call (.ref f) (.ref (h.objs.size+1)::us)) (λr s'=>r=.none/\Q (.ref (h.objs.size+1)) s') E
   ⟨(h.push (gT us)).push (gA C h.objs.size),g,d,t,os⟩):
  aq (model prog w) A (call (.ref C) us) Q E ⟨h,g,d,t,os⟩:=by
 obtain⟨nm,q,N,bs,sn,sub,ab,col,dd,k0,k1,k2,k3,k5,ho⟩:=c.obj;have hC:=X _ _ ho;have f1:=tc_lookup;have f2:=tc_bind (.ref C);have hT:(⟨h,g,d,t,os⟩:ah).TypeIs (.ref C) "type":=⟨_,hC,rfl⟩;refine dX (jB ?_);show aq _ _ (callAny (.ref C) _) _ _ _
 repeat (any_goals (first |assumption |with_reducible refine dQ hC ?_ |wp_step))
 refine⟨rfl,?_⟩;refine codeAny_call_builtin_at (gZ _ (by decide +kernel)) entry_typeCall (wpAny_check_type_call_sub hC ?_)
 repeat (first |with_reducible refine dQ hC ?_ |with_reducible refine xa hC ?_ |wp_step)
 refine codeAny_call_builtin_code (gZ _ Fn.quiet) (qT Fn hBn hC ?_);refine ui (us:=us) Fn hBn hA hN hC hl ?_;show aq _ _ _ _ _ ⟨(h.push (gT us)).push (gA C h.objs.size),g,d,t,os⟩;have X1:K.In ((h.push (gT us)).push (gA C h.objs.size)):=X.keeps λb o e=>jI e;have hC1:=jI (us:=us) (C:=C) hC;have hcC:(Value.ref C::bm).contains (.ref C)=true:=by simp
 unfold isInstance
 repeat (first | (with_reducible refine dQ oR ?_;dsimp only)| (with_reducible refine jE hC1 ?_;rw[hcC])|wp_step)
 show aq _ _ (typeLookup (.ref C) _) _ _ _;refine Looks.here (s:=⟨(h.push (gT us)).push (gA C h.objs.size),g,d,t,os⟩) (gx X1 hi) ?_;refine a9 (aa (Looks.here (s:=⟨(h.push (gT us)).push (gA C h.objs.size),g,d,t,os⟩) (bind_fn X1 _ (beq_iff_eq.mp hf)) ?_));refine aa (aX hq (λr s' z=>?_) λ_ _ z=>z);obtain⟨rfl,z2⟩:=z
 wp_walk
 exact z2
theorem xm {K:Frag}(X:K.In h)(F:ExcBaseFacts Bn newId WR bm)(c:ff K C bm newId)(hi:findIn K (.ref C) "__init__"=some (some (.builtin WR)))(hl:us.length<=au)
  (hq:∀h' vs,(∀b o,h.get? b=some o->h'.get? b=some o)->h'.get? (h.objs.size+1)=some { cls:=.ref C,data:=.fields vs }->vs[1]?=some .none->Q (.ref (h.objs.size+1)) ⟨h',g,d,t,os⟩):
  aq (model prog w) A (call (.ref C) us) Q E ⟨h,g,d,t,os⟩:=by
 obtain⟨nm,q,N,bs,sn,sub,ab,col,dd,k0,k1,k2,k3,k5,ho⟩:=c.obj;have hC:=X _ _ ho;have f1:=tc_lookup;have f2:=tc_bind (.ref C);have hT:(⟨h,g,d,t,os⟩:ah).TypeIs (.ref C) "type":=⟨_,hC,rfl⟩;refine dX (jB ?_);show aq _ _ (callAny (.ref C) _) _ _ _
 repeat (any_goals (first |assumption |with_reducible refine dQ hC ?_ |wp_step))
 refine⟨rfl,?_⟩;refine codeAny_call_builtin_at (gZ _ (by decide +kernel)) entry_typeCall (wpAny_check_type_call_sub hC ?_)
 repeat (first |with_reducible refine dQ hC ?_ |with_reducible refine xa hC ?_ |wp_step)
 refine codeAny_call_builtin_code (gZ _ F.quiet) (qT F F.hasB hC ?_);refine ui (us:=us) F F.hasB F.noAttr F.noName hC hl ?_;show aq _ _ _ _ _ ⟨(h.push (gT us)).push (gA C h.objs.size),g,d,t,os⟩;have X1:K.In ((h.push (gT us)).push (gA C h.objs.size)):=X.keeps λb o e=>jI e;have hC1:=jI (us:=us) (C:=C) hC;have hcC:(Value.ref C::bm).contains (.ref C)=true:=by simp
 unfold isInstance
 repeat (first | (with_reducible refine dQ oR ?_;dsimp only)| (with_reducible refine jE hC1 ?_;rw[hcC])|wp_step)
 show aq _ _ (typeLookup (.ref C) _) _ _ _;refine Looks.here (s:=⟨(h.push (gT us)).push (gA C h.objs.size),g,d,t,os⟩) (gx X1 hi) ?_;refine a9 (aa (kK (F.init.bind _) ?_));refine aa (dX (gf F.init.plain F.initEntry (wpAny_check_init_sub F hC1 oR rfl ?_)));have an3:([].append us:List af).length<=au:=hl;have raw2:=oR (h:=h) (us:=us) (C:=C)
 wp_walk
 refine hq _ #[.ref (h.objs.size+2),.none,.none,.none,.bool false,.none] (λb o e=>?_) ?_ rfl
 ·rw[bK _ _ (d9 (cS (ax e)))];exact aj _ (jI e)
 ·rw[bt _ (aj _ oR) rfl];simp only[bI];rfl
end
end
section
structure XMk (K:Frag)(C:Addr)(bm:List af)(Bn newId inN:String)(bmN:List af):Prop where
 fn:ExcBaseFacts Bn newId inN bmN
 hB:bm.contains (.type Bn)=true
 hA:bm.contains (.type "AttributeError")=false
 hN:bm.contains (.type "NameError")=false
 c:ff K C bm newId
 kp:keepIn K (.ref C)=true
def CJ (C:Addr)(names:List Str):Sp:=λvs H Q _=>∃(x:Addr)(ws:List V),vs=.ref x::ws/\ws.length=names.length/\H x=some (fL true C x none)/\
 ∀(dx:Addr)(H':Hp),H dx=none->H' x=some (fL true C x (some dx))->H' dx=some (ir dx (names.zip ws))->(∀b,b≠x->b≠dx->H' b=H b)->Q .WN H'
def Lf (H H':Hp)(x C:Addr)(fs:List (Str×V)):Prop:=
 (fs=[]/\H' x=some (fL true C x none))\/∃dx,H dx=none/\dx≠x/\H' x=some (fL true C x (some dx))/\H' dx=some (ir dx fs)
def vF (C:Addr)(names:List Str)(t:TA):TE:=λσ H Q=>t σ H λvs H1=>vs.length=names.length/\vs.length<=100/\∀(x:Addr)(H':Hp),H1 x=none->Lf H1 H' x C (names.zip vs)->fD H1 H'->Q (.ref x) H'
section
variable {X:Cx}{C f:Addr}{bm bmN:List af}{Bn nid inN:String}{fd:aK}{ps names:List Str}{k:Nat}{x:Str}{e:Expr}{es:List Expr}{t:TA}{p pos:Pos}
theorem C5 (M:XMk X.K C bm Bn nid WR bm)(hi:findIn X.K (.ref C) "__init__"=some (some (.builtin WR)))(hg:Gl X x)(hm:X.mg x=some (.ref C))(XC:(x==("__debug__":Str))=false:=by decide):
  PE X (.Call (.Name x p) [] [] pos) (vF C [] iw):=by
 intro pins s σ H Q I h;obtain⟨_,_,h⟩:=h;refine bM (fK I hg hm ?_ XC);refine PySem.W.callWith_K0 I.W5 M.kp ?_;have fx:H (s.heap.objs.size+1)=none:=I.WJ.fresh (cT _);have kin:=I.W5;obtain⟨hh,gg,dd,tt,oo⟩:=s;refine xm (us:=[]) kin M.fn M.c hi (bG _) λh' vs kp at_ z1=>?_;refine⟨V.ref (hh.objs.size+1),_,I.laid (a:=hh.objs.size+1) (o:=fL true C (hh.objs.size+1) none) (h':=h') (t':=tt) kp (cT _) (qx at_ λ_=>z1),rfl,h _ _ fx (.inl ⟨rfl,bu⟩) λb o z=>?_⟩;rw[aQ (bh z fx)];exact z
end
end
section
theorem Xo.gone {P:aI}(ok:Xo P w H h)(e:h.get? a=none):H a=none:=by
 cases q:H a with
 |none=>rfl
 |some u=>
  exfalso;have x:=ok a u q;have:∃o,h.get? a=some o:=by
   clear q
   induction u with
   |lst xs=>obtain⟨_,_,_,_,e⟩:=x;exact⟨_,e⟩
   |tup xs=>obtain⟨_,_,_,o,p,_⟩:=x;exact⟨_,p⟩
   |dK kvs=>obtain⟨_,_,_,_,o,_,_,e,_⟩:=x;exact⟨_,e⟩
   |dT kvs=>obtain⟨_,_,_,_,o,_,_,e,_⟩:=x;exact⟨_,e⟩
   |set S n=>obtain⟨o,_,_,_,e,_⟩:=x;exact⟨_,e⟩
   |ins C dx fs=>obtain⟨_,_,_,e,_⟩:=x;exact⟨_,e⟩
   |own y=>exact x
   |xd fs=>obtain⟨_,⟨_,_,_,e,_⟩,_⟩:=x;exact⟨_,e⟩
   |rng lo hi=>obtain⟨_,_,_,e⟩:=x;exact⟨_,e⟩
   |frz ob u=>obtain⟨e,_⟩:=x;exact⟨_,e⟩
   |tbl ps=>exact⟨_,(show h.get? a=some _ from x)⟩
   |met f y=>exact⟨_,(show h.get? a=some _ from x)⟩
   |ext φ=>exact x.2.1
  obtain⟨o,z⟩:=this;rw[e]at z;cases z
end
section
theorem ig {p:Addr}(f:H p=none):fD H (upd H p o):=λb u e=>by rw[aQ (bh e f)];exact e
theorem WV.weak {f:af->af->Sem af}{r r':R2}(h:WV X f r)(g:∀x y H Q,r' x y H Q->r x y H Q):WV X f r':=λpins s σ H x y v u Q I a b q=>h pins s σ H x y v u Q I a b (g x y H Q q)
def jh (H:Hp)(o:HO)(Q:VK):Prop:=∀(p:Addr)(H':Hp),H p=none->H' p=some o->fD H H'->Q (.ref p) H'
theorem jh.upd {Q:VK}(h:jh H o Q)(p:Addr)(f:H p=none):Q (.ref p) (upd H p o):=h p _ f bu (ig f)
def Lo (t:TA):TE:=λσ H Q=>t σ H λxs H1=>xs.length<=au/\jh H1 (.lst xs) Q
def Bs (t:TA):TE:=λσ H Q=>t σ H λxs H1=>xs.length<=au/\jh H1 (.tup xs) Q
theorem BJ {t:TA}(h:PA X es t):PE X (.List es pos) (Lo t):=by
 intro pins s σ H Q I hq;refine wpAny_List_spliced (WL (h pos pins s σ H _ I hq) λus s1 zp0=>?_);obtain⟨xs,H1,I1,r,z,q⟩:=zp0;refine⟨(by rw[←r.length];exact z),?_⟩;have hf:H1 s1.heap.objs.size=none:=I1.WJ.fresh (aw _);exact⟨.ref s1.heap.objs.size,_,I1.laid (o:=.lst xs) (t':=s1.toks) (λb u e=>aj _ e) (aw _) ⟨z,us,0,r,aB _ rfl⟩,rfl,q.upd _ hf⟩
theorem vT {t:TA}{x1}(h:PA X es t):PE X (.Tuple es x1 pos) (Bs t):=by
 intro pins s σ H Q I hq;refine wpAny_Tuple_spliced (WL (h pos pins s σ H _ I hq) λus s1 zp1=>?_);obtain⟨xs,H1,I1,r,z,q⟩:=zp1;refine⟨(by rw[←r.length];exact z),?_⟩;have hf:H1 s1.heap.objs.size=none:=I1.WJ.fresh (aw _);exact⟨.ref s1.heap.objs.size,_,I1.laid (o:=.tup xs) (t':=s1.toks) (λb u e=>aj _ e) (aw _) ⟨z,us,r,⟨_,aB _ rfl,rfl,_,rfl⟩⟩,rfl,q.upd _ hf⟩
def LJ:R2:=λx y H Q=>∃(l b:Addr)(xs zs:List V),x=.ref l/\y=.ref b/\H l=some (.lst xs)/\H b=some (.lst zs)/\xs.length+zs.length<=au/\jh H (.lst (xs++zs)) Q
theorem Kl :WV X (binaryOp .Add) LJ:=Oc.weak λ_ _ _ _ ⟨l,b,xs,zs,h1,h2,h3,h4,h5,q⟩=>⟨l,b,xs,zs,h1,h2,h3,h4,h5,q.upd⟩
def LF:R2:=λx y H Q=>∃(l:Addr)(k:Int)(xs:List V),x=.ref l/\y=.int k/\H l=some (.lst xs)/\-(2 ^ 63)<=k/\k<2 ^ 63/\xs.length*k.toNat<=au/\jh H (.lst (bg k.toNat xs).flatten) Q
theorem Ts :WV X (binaryOp .Mult) LF:=N1.weak λ_ _ _ _ ⟨l,k,xs,h1,h2,h3,h4,h5,h6,q⟩=>⟨l,k,xs,h1,h2,h3,h4,h5,h6,q.upd⟩
def Ny (K:Frag):V->Option Int->Option Int->Hp->VK->Prop:=λx lo hi H Q=>∃a xs,x=.ref a/\Xc K H a xs/\jh H (.lst (tX xs lo hi)) Q
theorem xD :SlR X (Ny X.K):=by
 intro pins s σ H x v vl vu lo hi sl Q I rx hs pl pu h;obtain⟨a,xs,h1,h2,q⟩:=h;exact Jb pins s σ H x v vl vu lo hi sl Q I rx hs pl pu ⟨a,xs,h1,h2,q.upd⟩
section
variable {K:Frag}{C D:Addr}{bm bm2:List af}{n1 n2:String}
theorem ff.clsIn {K:Frag}{C:Addr}{bm:List af}{newId:String}(c:ff K C bm newId):∃cd,PySem.W.clsIn K C=some cd/\cd.mro=.ref C::bm:=by
 obtain⟨nm,q,N,bs,sn,sub,ab,col,dd,k0,k1,k2,k3,k5,h⟩:=c.obj;refine⟨_,by unfold PySem.W.clsIn;rw[h],rfl⟩
theorem ff.mro (c:ff K C bm n1)(v:af):mroIn K C v=some ((Value.ref C::bm).contains v):=by
 obtain⟨cd,h1,h2⟩:=c.clsIn;unfold mroIn;rw[h1,je,h2];rfl
theorem yx (c:ff K C bm n1){T:String}(hm:kitMeta T=true):kitOne K (.ref C) (.type T)=some (bm.contains (.type T)):=by
 unfold kitOne;rw[if_neg (by simp)];unfold kitCls;dsimp only;rw[if_pos hm];show mroIn K C _=_;rw[c.mro,cM];rfl
end
end
theorem Iv (hn:specialIn X.K (.builtin "object.__class__") "__get__"=some (some (.builtin "getset_descriptor.__get__")))(htk:takesIn X.K (.builtin "object.__class__")=some true):
  cu X (.builtin "isinstance") (λvs H Q=>∃r x C bm nid fs c cv b,vs=[.ref x,c]/\RelV c cv/\IsX r H x C fs/\ff X.K C bm nid/\kitOne X.K (.ref C) cv=some b/\Q (.bl b) H):=by
 intro pins s σ H xs us Q I r h;obtain⟨rr,x,C,bm,nid,fs,c,cv,b,rfl,rc,hx,hC,hk,q⟩:=h;obtain⟨u,w',rfl,ru,XD⟩:=vals2 r;cases (show u=Value.ref x from ru);have e:w'=cv:=by
  cases c with
  |ref a=>exact(show w'=Value.ref a from XD).trans (show cv=Value.ref a from rc).symm
  |ty n=>exact(show w'=Value.type n from XD).trans (show cv=Value.type n from rc).symm
  |WN=>exact(show w'=Value.none from XD).trans (show cv=Value.none from rc).symm
  |bl b=>exact(show w'=Value.bool b from XD).trans (show cv=Value.bool b from rc).symm
  |int i=>
   obtain⟨t,rfl⟩:=rc;unfold kitOne at hk;rw[if_neg (by simp)]at hk;cases hk
  |str i=>
   obtain⟨t,rfl⟩:=rc;unfold kitOne at hk;rw[if_neg (by simp)]at hk;cases hk
  |byt i=>
   obtain⟨t,rfl⟩:=rc;unfold kitOne at hk;rw[if_neg (by simp)]at hk;cases hk
  |flt i=>
   obtain⟨t,rfl⟩:=rc;unfold kitOne at hk;rw[if_neg (by simp)]at hk;cases hk
 subst e;exact IX hn htk I hx hC hk λtk=>⟨.bl b,H,I.tok _,rfl,q⟩
section
def Tr (h:Heap)(x T:Addr)(fl:af):Prop:=∃oe vs oT ts,h.get? x=some oe/\oe.data=.fields vs/\vs[1]?=some (.ref T)/\T≠x/\h.get? T=some oT/\oT.data=.fields ts/\ts[3]?=some fl
def Le (h:Heap)(x:Addr):Prop:=∃oe vs,h.get? x=some oe/\oe.data=.fields vs/\vs[1]?=some .none
structure A5 (fs:List Addr)(x:Addr)(T0:Option Addr)(h h':Heap):Prop where
 other:∀b o,h.get? b=some o->b≠x->T0≠some b->b∉fs->h'.get? b=some o
 slot:∀b o,h.get? b=some o->b≠x->T0≠some b->∃sl,h'.get? b=some { o with slots:=sl }
 exc:∀oe vs,h.get? x=some oe->oe.data=.fields vs->∃vs',h'.get? x=some { oe with data:=.fields vs' }
 tb:∀t o,T0=some t->h.get? t=some o->∃o',h'.get? t=some o'
theorem Vp {o:Obj}{vs:Array af}(hd:o.data=.fields vs)(f:Array af->Array af):Obj.mapFields f o={ o with data:=.fields (f vs) }:=by
 obtain⟨c,d,dt,sl⟩:=o;cases hd;rfl
section
variable {M:Model}{A:br}{E:af->ah->Prop}{s:ah}
theorem u7 {base:Heap}{env:Env}{outer:List Env}{L e:Addr}{vs:Array af}{Q:Unit->ah->Prop}
  (hfr:A.frames=some (env::outer)) (hl:s.heap.FunFrames base (env::outer)) (hf:env.frame=some L)
  (he:s.heap.get? e=some oT) (hd:oT.data=.fields vs) (hsz:1<vs.size)
  (h:∀h' T,A5 ((env::outer).filterMap (·.frame)) e none s.heap h'->s.heap.get? T=none->Tr h' e T (rawInt L)->Q () { s with heap:=h' }):
  aq M A (do let a ←frameOf env;let pl ←entryPlaceOf L r;let b ←EntryCells.newEntry u a .none (rawInt L) .none pl;setField (.ref e) 1 b) Q E s:=by
 have hene:e∉(env::outer).filterMap (·.frame):=λhm=>by
  obtain⟨_,o,ho,hnf⟩:=hl.mem hm;rw[he]at ho;injection ho with ho;subst ho;exact hnf vs hd
 refine aa (wpAny_frameOf_fun hfr hl hf λh₁ hs₁=>?_);refine aa (wpAny_entryPlaceOf λpl Xh=>?_);unfold EntryCells.newEntry newFields;refine aa (bC ?_ (Xh.sizeOk5 _ _ _ _ _));have he₁:h₁.get? e=some oT:=(hs₁.2.1 e hene).trans he;have he₂:=aj (h:=h₁) { cls:=.type "traceback",dict:=none,data:=.fields ([u,.ref L,.none,rawInt L,.none]++(if pl.isEmpty then bg 6 Value.none else pl)).toArray } he₁;have hTe:h₁.objs.size≠e:=d9 (ax he₁);have hd₃:=cL hd (·.setIfInBounds 1 (Value.ref h₁.objs.size));have he₃:=bt (Obj.mapFields (·.setIfInBounds 1 (Value.ref h₁.objs.size))) he₂ (cV hd₃);have hT₃:=(bK (h₁.push { cls:=.type "traceback",dict:=none,data:=.fields ([u,.ref L,.none,rawInt L,.none]++(if pl.isEmpty then bg 6 Value.none else pl)).toArray })
  (Obj.mapFields (·.setIfInBounds 1 (Value.ref h₁.objs.size))) (Ne.symm hTe)).trans (aB h₁ rfl)
 have keep:∀b o,b≠e->h₁.get? b=some o->
   ((h₁.push { cls:=.type "traceback",dict:=none,data:=.fields ([u,.ref L,.none,rawInt L,.none]++(if pl.isEmpty then bg 6 Value.none else pl)).toArray }).update e (Obj.mapFields (·.setIfInBounds 1 (Value.ref h₁.objs.size)))).get? b=some o:=
  λb o hbe hb=>by
   rw[bK _ _ (Ne.symm hbe)];exact aj _ hb
 refine dg he₂ hd hsz (h _ h₁.objs.size ⟨λb o hb hbe _ hn=>keep b o hbe ((hs₁.2.1 b hn).trans hb),λb o hb hbe _=>?_,λoe' vs' e1 e2=>?_,λt o z=>nomatch z⟩ ?_ ?_)
 ·obtain⟨sl,hsl⟩:=hs₁.2.2 b o hb;exact⟨sl,keep b _ hbe hsl⟩
 ·rw[he]at e1;cases e1;rw[Vp hd]at he₃;exact⟨_,he₃⟩
 ·exact Heap.get?_none_of_le (by rw[hs₁.1];exact aw _)
 ·exact⟨_,_,_,_,he₃,hd₃,by simp[hsz],hTe,hT₃,rfl,by first | (simp;done)| (rcases Xh with rfl|⟨_,_,_,_,_,_,_,rfl⟩<;>simp)⟩
theorem zW {base:Heap}{env:Env}{outer:List Env}{L x:Addr}{Q:Unit->ah->Prop}
  (hfr:A.frames=some (env::outer)) (hl:s.heap.FunFrames base (env::outer)) (hf:env.frame=some L) (hx:Le s.heap x)
  (h:∀h' T,A5 ((env::outer).filterMap (·.frame)) x none s.heap h'->s.heap.get? T=none->Tr h' x T (rawInt L)->Q () { s with heap:=h' }):aq M A (noteFrame (.ref x) env) Q E s:=by
 obtain⟨oe,vs,he,hd,h1⟩:=hx;unfold noteFrame;simp only[hf];refine aa (bX he hd h1 ?_);rw[if_neg (by decide)];exact u7 hfr hl hf he hd (Array.getElem?_eq_some_iff.mp h1).1 h
theorem Di {base:Heap}{env:Env}{outer:List Env}{L x T0:Addr}{Q:Unit->ah->Prop}
  (hfr:A.frames=some (env::outer)) (hl:s.heap.FunFrames base (env::outer)) (hf:env.frame=some L) (hx:Tr s.heap x T0 .none)
  (h:∀h' T,A5 ((env::outer).filterMap (·.frame)) x (some T0) s.heap h'->s.heap.get? T=none->Tr h' x T (rawInt L)->Q () { s with heap:=h' }):aq M A (noteFrame (.ref x) env) Q E s:=by
 obtain⟨oe,vs,oT,ts,he,hd,h1,hTe,hT,hdT,h3⟩:=hx;unfold noteFrame;simp only[hf];refine aa (bX he hd h1 ?_);rw[if_pos (show(Value.ref T0 != Value.none)=true from by simp)];refine aa (bX hT hdT h3 ?_);rw[if_neg (show ¬((Value.none==rawInt L)=true) from by simp[rawInt])];refine aa (dg hT hdT (Array.getElem?_eq_some_iff.mp h3).1 ?_);have other:∀b,b≠T0->(s.heap.update T0 (Obj.mapFields (·.setIfInBounds 3 Value.none))).get? b=s.heap.get? b:=λb hb=>bK _ _ (Ne.symm hb);have ao1:∀b o,s.heap.get? b=some o->(∀vs,o.data≠.fields vs)->b≠T0:=λb o hb hnf q=>by
  rw[q,hT]at hb;injection hb with hb;subst hb;exact hnf ts hdT
 have nT:∀b,(some T0:Option Addr)≠some b->b≠T0:=λb z q=>z (by rw[q]);have hT':=bt (Obj.mapFields (·.setIfInBounds 3 Value.none)) hT (cV (cL hdT _));have hl':(s.heap.update T0 (Obj.mapFields (·.setIfInBounds 3 Value.none))).FunFrames base (env::outer):=hl.of_keeps λb o hb hnf=>⟨o,(other b (ao1 b o hb hnf)).trans hb,rfl⟩;refine u7 (s:={ s with heap:=s.heap.update T0 (Obj.mapFields (·.setIfInBounds 3 Value.none)) }) hfr hl' hf ((other x (Ne.symm hTe)).trans he) hd (Array.getElem?_eq_some_iff.mp h1).1 λh' T N hn ht=>h h' T ⟨?_,?_,?_,?_⟩ ?_ ht
 ·exact λb o hb h1 h2 h3=>N.other b o ((other b (nT b h2)).trans hb) h1 (λz=>nomatch z) h3
 ·exact λb o hb h1 h2=>N.slot b o ((other b (nT b h2)).trans hb) h1 (λz=>nomatch z)
 ·exact λoe' vs' e1 e2=>N.exc oe' vs' ((other x (Ne.symm hTe)).trans e1) e2
 ·intro t o e1 e2;obtain rfl:T0=t:=Option.some.inj e1;obtain⟨sl,q⟩:=N.slot T0 _ hT' hTe (λz=>nomatch z);exact⟨_,q⟩
 ·by_cases q:T=T0
  ·rw[q]at hn;rw[hT']at hn;cases hn
  ·rw[←other T q];exact hn
theorem yF {x T:Addr}{Q:Unit->ah->Prop}(hx:Tr s.heap x T u)(h:∀h',A5 [] x (some T) s.heap h'->Tr h' x T .none->(∀b,s.heap.get? b=none->h'.get? b=none)->Q () { s with heap:=h' }):aq M A (setFlight (.ref x) none) Q E s:=by
 obtain⟨oe,vs,oT,ts,he,hd,h1,hTe,hT,hdT,h3⟩:=hx;have hsz3:3<ts.size:=(Array.getElem?_eq_some_iff.mp h3).1;unfold setFlight;refine aa (bX he hd h1 ?_);rw[if_pos (show(Value.ref T != Value.none)=true from by simp)];have other:∀b,b≠T->(s.heap.update T (Obj.mapFields (·.setIfInBounds 3 ((none:Option Addr).elim Value.none λf=>rawInt f)))).get? b=s.heap.get? b:=
  λb hb=>bK _ _ (Ne.symm hb)
 have nT:∀b,(some T:Option Addr)≠some b->b≠T:=λb z q=>z (by rw[q]);have hT':=bt (Obj.mapFields (·.setIfInBounds 3 ((none:Option Addr).elim Value.none λf=>rawInt f))) hT (cV (cL hdT _));refine dg hT hdT hsz3 (h _ ⟨?_,?_,?_,?_⟩ ?_ ?_)
 ·exact λb o hb h1 h2 _=>(other b (nT b h2)).trans hb
 ·exact λb o hb h1 h2=>⟨o.slots,(other b (nT b h2)).trans hb⟩
 ·exact λoe' vs' e1 e2=>⟨vs',by rw[other x (Ne.symm hTe),e1,←e2]⟩
 ·intro t o e1 e2;obtain rfl:T=t:=Option.some.inj e1;exact⟨_,hT'⟩
 ·exact⟨oe,vs,_,_,(other x (Ne.symm hTe)).trans he,hd,h1,hTe,hT',cL hdT _,by simp[hsz3]⟩
 ·intro b hb;rw[other b (λq=>by rw[q,hT]at hb;cases hb)];exact hb
theorem wK {x:Addr}{Q:Unit->ah->Prop}(hx:Le s.heap x)(h:Q () s):aq M A (setFlight (.ref x) od) Q E s:=by
 obtain⟨oe,vs,he,hd,h1⟩:=hx;unfold setFlight;refine aa (bX he hd h1 ?_);rw[if_neg (by decide)];exact ak h
end
end
section
theorem Ei {x:Addr}(h:H x=some o):upd H x o=H:=by
 funext b
 by_cases q:b=x
 ·subst q;rw[bu,h]
 ·rw[aQ q]
section
variable {X:Cx}{pins:List (Addr×Obj)}{σ:St}{H:Hp}{s:ah}{x C:Addr}{d:Option Addr}{r:Bool}{h':Heap}{fs:List Addr}{T0:Option Addr}
theorem Inv.GH (I:Inv X pins σ H s)(hx:H x=some (fL r C x d))
  (hT:∀t,T0=some t->H t=none/\(t∉X.ex->X.s₀.heap.get? t=none)/\(∀p∈X.pn++pins,p.1≠t)/\∃o ts,s.heap.get? t=some o/\o.data=.fields ts)
  (hfs:∀b∈fs,b∈frs X.stack) (N:A5 fs x T0 s.heap h'):Inv X pins σ (upd H x (fL false C x d)) { s with heap:=h' }:=by
 obtain⟨vs,hg,_⟩:=hV I.WJ hx;have nx:∀b,H b=none->b≠x:=λb q z=>by rw[z,hx]at q;cases q
 have nt:∀b o,s.heap.get? b=some o->(∀vs,o.data≠.fields vs)->T0≠some b:=λb o q1 q2 z=>by
  obtain⟨_,_,_,o',ts,e1,e2⟩:=hT b z;rw[q1]at e1;cases e1;exact q2 _ e2
 have data:∀b o,s.heap.get? b=some o->H b=none->(∀vs,o.data≠.fields vs)->∃sl,h'.get? b=some { o with slots:=sl }:=λb o q1 q2 q3=>N.slot b o q1 (nx b q2) (nt b o q1 q3);have cells:∀c v,H c=none->s.heap.IsCell c v->h'.IsCell c v:=λc v q1 q2=>by
  obtain⟨o,e1,e2⟩:=q2;obtain⟨sl,e3⟩:=data c o e1 q1 (λvs z=>by rw[e2]at z;cases z);exact⟨_,e3,e2⟩
 have nst:∀b,b<X.s₀.heap.objs.size->b∉X.fs->b∉fs:=λb q1 q2 z=>by
  rcases List.mem_cons.mp (I.rh b (hfs b z)) with e |e
  ·exact absurd q1 (by rw[e];exact Nat.not_lt.mpr I.ok.above)
  ·exact q2 e
 refine⟨I.ok,I.os,I.bare,⟨?_,?_,?_,?_,?_,?_,?_⟩,?_,?_,?_,?_,?_,?_,I.len⟩
 ·intro b o e1 e2 e3 e4;have hb:=I.base.keep b o e1 e2 e3 e4;have hn:=I.base.free b o e1 e2 e4;refine N.other b o hb (nx b hn) (λz=>?_) (nst b (ax e1) e3);have:=(hT b z).2.1 e4;rw[e1]at this;cases this
 ·intro b o e1 e2 e3 e4;obtain⟨sl,hb⟩:=I.base.slot b o e1 e2 e3 e4;have hn:=I.base.free b o e1 e2 e4;obtain⟨sl2,hb2⟩:=N.slot b _ hb (nx b hn) (λz=>by have:=(hT b z).2.1 e4;rw[e1]at this;cases this);exact⟨sl2,hb2⟩
 ·intro b o e1 e2 e4;have hn:=I.base.free b o e1 e2 e4;rw[aQ (nx b hn)];exact hn
 ·intro b o e1 e4;obtain⟨o',hb⟩:=I.base.there b o e1 e4
  by_cases q:b=x
  ·subst q;obtain⟨vs',z⟩:=N.exc _ _ hg rfl;exact⟨_,z⟩
  ·by_cases qt:T0=some b
   ·exact N.tb b o' qt hb
   ·obtain⟨sl,z⟩:=N.slot b o' hb q qt;exact⟨_,z⟩
 ·intro b xs e1;have:=I.base.Xt b xs e1;rw[aQ (mE this hx (λz=>nomatch z))];exact this
 ·intro b o u e1;have:=I.base.Xp b o u e1;rw[aQ (mE this hx (λz=>nomatch z))];exact this
 ·intro b ps e1;obtain⟨more,this⟩:=I.base.Xu b ps e1;exact⟨more,by rw[aQ (mE this hx (λz=>nomatch z))];exact this⟩
 ·obtain⟨m,⟨o,es,ep,e1,e2,e3⟩,hl⟩:=I.loc;obtain⟨sl,q⟩:=data X.env.locals o e1 I.free (λvs z=>by rw[e2]at z;cases z);refine⟨m,⟨_,es,ep,q,e2,e3⟩,λi y v h1 h2 h3=>?_⟩;obtain⟨u,ru,lu⟩:=hl i y v h1 h2 h3;refine⟨u,ru,?_⟩;rcases lu with z |⟨z,c,hc,XO⟩
  ·exact .inl z
  ·exact .inr ⟨z,c,hc,cells c _ (I.W6 y c hc) XO⟩
 ·intro y c hc;obtain⟨v,hv⟩:=I.cell y c hc;exact⟨v,cells c v (I.W6 y c hc) hv⟩
 ·rw[aQ (nx _ I.free)];exact I.free
 ·intro y c hc;rw[aQ (nx _ (I.W6 y c hc))];exact I.W6 y c hc
 ·intro p hp;obtain⟨p1,p2,p3,p4,p5⟩:=I.pin p hp;refine⟨N.other p.1 p.2 p1 (nx _ p2) (λz=>(hT _ z).2.2.1 p hp rfl) (λz=>?_),by rw[aQ (nx _ p2)];exact p2,p3,p4,p5⟩;rcases List.mem_cons.mp (I.rh _ (hfs _ z)) with e |e
  ·exact p3 e
  ·exact p4 e
 ·intro b u e1
  by_cases q:b=x
  ·subst q;rw[bu]at e1;cases e1;obtain⟨vs',z⟩:=N.exc _ _ hg rfl;exact qx z (λz=>nomatch z)
  ·rw[aQ q]at e1;refine(I.WJ b u e1).kQ (λc v hc hv=>?_) (λc hc=>?_) (λc xs hc=>?_)
   ·have hcH:∃o,H c=some o:=by
     rcases hc with rfl|hc
     ·exact⟨_,e1⟩
     ·exact⟨_,hc⟩
    obtain⟨o,ho⟩:=hcH;have cx:c≠x:=by
     rcases hc with rfl|hc
     ·exact q
     ·exact mE hc hx (λz=>nomatch z)
    refine N.other c v hv cx (λz=>?_) (λz=>?_)
    ·rw[(hT c z).1]at ho;cases ho
    ·rw[I.vG c (hfs c z)]at ho;cases ho
   ·rw[aQ (mE hc hx (λz=>nomatch z))];exact hc
   ·rw[aQ (mE hc hx (λz=>nomatch z))];exact hc
def Fly (X:Cx)(pins:List (Addr×Obj))(x:Addr)(H:Hp)(s:ah):Prop:=
 (∃C d,H x=some (fL false C x d))/\(Le s.heap x\/∃T,Tr s.heap x T .none/\H T=none/\(T∉X.ex->X.s₀.heap.get? T=none)/\∀p∈X.pn++pins,p.1≠T)
theorem Tr.obj {T:Addr}(t:Tr h x T u):∃o ts,h.get? T=some o/\o.data=.fields ts:=let ⟨_,_,oT,ts,_,_,_,_,e,e2,_⟩:=t;⟨oT,ts,e,e2⟩
theorem yE {outer:List Env}{L:Addr}{Q:Unit->ah->Prop}{E:af->ah->Prop}(I:Inv X pins σ H s)(f:Fly X pins x H s)(hs:X.stack=X.env::outer)(hf:X.env.frame=some L)
  (h:∀s' T,Inv X pins σ H s'->Tr s'.heap x T (rawInt L)->s.heap.get? T=none->H T=none->(∀p∈X.pn++pins,p.1≠T)->Q () s'):aq (model X.prog X.w) X.A (noteFrame (.ref x) X.env) Q E s:=by
 obtain⟨⟨C,d,hx⟩,f⟩:=f;have hfr:X.A.frames=some (X.env::outer):=by rw[I.ok.frames,hs]
 have hl:s.heap.FunFrames X.base (X.env::outer):=by rw[←hs];exact I.stack
 have fin:∀h' T T0,A5 ((X.env::outer).filterMap (·.frame)) x T0 s.heap h'->s.heap.get? T=none->Tr h' x T (rawInt L)->
   (∀t,T0=some t->H t=none/\(t∉X.ex->X.s₀.heap.get? t=none)/\(∀p∈X.pn++pins,p.1≠t)/\∃o ts,s.heap.get? t=some o/\o.data=.fields ts)->Q () { s with heap:=h' }:=by
  intro h' T T0 N hn ht hT;have J:=I.GH hx hT (fs:=(X.env::outer).filterMap (·.frame)) (λb hb=>by rw[hs];exact hb) N;rw[Ei hx]at J;refine h _ T J ht hn (I.WJ.gone hn) λp hp z=>?_;have:=(I.pin p hp).1;rw[z,hn]at this;cases this
 rcases f with f |⟨T0,t0,f1,f2,f3⟩
 ·exact zW hfr hl hf f λh' T N hn ht=>fin h' T none N hn ht λt z=>nomatch z
 ·refine Di hfr hl hf t0 λh' T N hn ht=>fin h' T (some T0) N hn ht λt z=>?_;obtain rfl:=Option.some.inj z;exact⟨f1,f2,f3,t0.obj⟩
theorem n6 {T:Addr}{Q:Unit->ah->Prop}{E:af->ah->Prop}(I:Inv X pins σ H s)(hx:H x=some (fL false C x d))(t:Tr s.heap x T u)(h1:H T=none)(h2:T∉X.ex->X.s₀.heap.get? T=none)(h3:∀p∈X.pn++pins,p.1≠T)
  (h:∀s',Inv X pins σ H s'->Tr s'.heap x T .none->Q () s'):aq (model X.prog X.w) A (setFlight (.ref x) none) Q E s:=by
 refine yF t λh' N ht _=>?_;have J:=I.GH hx (λt' z=>by obtain rfl:=Option.some.inj z;exact⟨h1,h2,h3,t.obj⟩) (fs:=[]) (λb hb=>nomatch hb) N;rw[Ei hx]at J;exact h _ J ht
end
def Xw (X:Cx)(W:Addr->St->Hp->Prop):Prop:=∀(pins:List (Addr×Obj))(x:Addr)(σ:St)(H:Hp)(s:ah),Inv X pins σ H s->Fly X pins x H s->W x σ H->X.xe (.ref x) s
def CX1 (P:aI)(w:aZ):CXT:=λouter H s E e s'=>∃x T H',e=.ref x/\s'.os=s.os/\AllBare s'.gens/\Un (frs outer) [] H H' s.heap s'.heap/\Xo P w H' s'.heap/\(∃C d,H' x=some (fL false C x d))/\
 Tr s'.heap x T .none/\H' T=none/\s.heap.get? T=none/\E (.ref x) none H'
theorem Mq {P:aI}{K:Frag}{N:List Str}{f:Addr}{outer:List Env}{E:XK}:
  Xw (pH (CX1 P w) P w K mg h N c scope f cd A outer s H E) (λx _ H'=>E (.ref x) none H'):=by
 intro pins x σ H' s1 I fl hE;obtain⟨⟨C,d,hx⟩,_⟩:=id fl;show aq _ _ (leaving _ _) _ _ _;unfold leaving;refine aa (yE I fl (outer:=outer) rfl rfl λs2 T J t hn hT hp=>?_);have gone:s.heap.get? T=none:=by
  cases q:s.heap.get? T with
  |none=>rfl
  |some o=>
   obtain⟨o',z⟩:=I.base.there T o q (λz=>nomatch (show T∈([]:List Addr) from z));rw[hn]at z;cases z
 refine n6 J hx t hT (λ_=>gone) hp λs3 J3 t3=>?_;exact⟨x,T,H',rfl,J3.os,J3.bare,J3.base,J3.WJ,⟨C,d,hx⟩,t3,hT,gone,hE⟩
end
section
section
variable {X:Cx}{pins:List (Addr×Obj)}{σ:St}{H:Hp}{s:ah}{x C:Addr}
theorem Dh :A5 [] x none h h:=⟨λ_ _ e _ _ _=>e,λ_ o e _ _=>⟨o.slots,e⟩,λoe vs e1 e2=>⟨vs,by rw[←e2];exact e1⟩,λ_ _ z=>nomatch z⟩
theorem Inv.raised {d:Option Addr}(I:Inv X pins σ H s)(hx:H x=some (fL r C x d)):Inv X pins σ (upd H x (fL false C x d)) s:=I.GH hx (T0:=none) (λ_ z=>nomatch z) (fs:=[]) (λ_ z=>nomatch z) Dh
end
def zm (K:Frag)(te:TE)(W:Addr->St->Hp->Prop):TS:=λ_ σ H=>te σ H λv H1=>∃x C bm nid fs d,v=.ref x/\H1 x=some (fL true C x d)/\((d=none/\fs=[])\/∃dx,d=some dx/\H1 dx=some (ir dx fs))/\ff K C bm nid/\W x σ (upd H1 x (fL false C x d))
theorem Gf {W:Addr->St->Hp->Prop}(he:PE X e te)(hw:Xw X W)(hc:X.calm=true):PS X (.Raise (some e) none pos) (zm X.K te W):=by
 intro pins s σ H D I h;have hh:=I.ok.hd hc;show aq _ X.A (do standAt pos;raiseStmt X.env (some (do let v ←eval e X.env;standAt pos;pure v)) none) _ _ s;refine aa (cg ?_);unfold raiseStmt;dsimp only;refine aa (aa (WL (he pins s σ H _ I h) λu s1 zp0=>?_));obtain⟨v,H1,I1,rv,x,C,bm,nid,fs,d,ev,hx0,hd0,c,q⟩:=zp0;refine aa (cg (ak ?_));subst ev;obtain rfl:u=Value.ref x:=rv;have hx:IsX true H1 x C fs:=by
  rcases hd0 with ⟨rfl,rfl⟩|⟨dx,rfl,b⟩
  ·exact .inl ⟨rfl,hx0⟩
  ·exact .inr ⟨dx,hx0,b⟩
 obtain⟨vs,ha,hz⟩:=hV I1.WJ hx0;obtain⟨ox,od,inst⟩:=hx.inst I1;obtain⟨nm,qq,N,bs,sn,sub,ab,col,dd,k0,k1,k2,k3,k5,ho⟩:=c.obj;have hC:=I1.W5 _ _ ho;have nt:Le s1.heap x:=⟨_,vs,ha,rfl,hz rfl⟩;have hnt:∀{Q':Bool->ah->Prop}{E':af->ah->Prop},Q' false s1->aq (model X.prog X.w) X.A (isType (.ref x)) Q' E' s1:=by
  intro Q' E' hq;simp only[isType,loadHead];exact aa (ki ha (ak hq))
 refine aa (ak ?_);dsimp only;refine aa (a9 ?_);unfold excFromValue isExcClass;refine aa (aa (hnt ?_));simp only[aY,if_false];refine ak ?_;simp only[aY,if_false];refine aa (Looks.here (inst.type.andThen (looks_mroIn I1.W5 c.base)) ?_);simp only[if_true];refine ak ?_;refine aa (hnt ?_);simp only[aY,if_false];unfold raisedInstance;refine aa (aa (Looks.here inst.type (aa (m:=typeOf (.ref C)) ?_)));have tyC:Looks (model X.prog X.w) s1.heap (typeOf (.ref C)) (.type "type"):=(Looks.ld hC).andThen .now;refine Looks.here tyC ?_;rw[if_pos (by decide)];refine ak ?_;refine aa (wK nt ?_);refine wpAny_raiseNew_none hh (hw pins x σ _ s1 (I1.raised hx0) ⟨⟨C,d,bu⟩,.inl nt⟩ q)
section
variable {X:Cx}{k:Nat}{f C:Addr}{fd:aK}{ps:List Str}{sp:Sp}{dvs:List V}{ds:List af}{W:Addr->St->Hp->Prop}{x m:Str}{p pos apos:Pos}{e o:Expr}{es:List Expr}{ta:TE}{t:TA}
abbrev wX (W:Addr->St->Hp->Prop)(σ:St):XK:=λe _ H'=>∀x,e=.ref x->W x σ H'
theorem Az {s':ah}{e:af}(hw:Xw X W)(I:Inv X pins σ H s)(h:CX1 X.prog X.w X.stack H s (wX W σ) e s'):X.xe e s':=by
 obtain⟨y,T,H',rfl,os,bare,un,WJ,hx,tr,hT,gone,hE⟩:=h;refine hw pins y σ H' s' (I.Mn (ch:=[]) os un WJ bare λb z=>nomatch z) ⟨hx,.inr ⟨T,tr,hT,λne=>?_,λq hq z=>?_⟩⟩ (hE y rfl)
 ·cases w:X.s₀.heap.get? T with
  |none=>rfl
  |some o=>
   obtain⟨o',z⟩:=I.base.there T o w ne;rw[gone]at z;cases z
 ·have:=(I.pin q hq).1;rw[z,gone]at this;cases this
theorem nI {Q:VK}(F:d8 X.prog X.w X.K X.mg X.base (CX1 X.prog X.w) k f fd ps sp)(hr:c8 k X.A)(hb:Binds X.K fd ps ds)(hd:bA dvs ds)(hw:Xw X W)
  (I:Inv X pins σ H s) (r:bA vs us) (h:sp (vs++dvs) H Q (wX W σ)):aq (model X.prog X.w) X.A (call (.ref f) us) (EP X pins σ Q) X.xe s:=by
 have r2:bA (vs++dvs) (us++ds):=r.append hd;have hl:(us++ds).length=ps.length:=by rw[←r2.length];exact F.len _ _ _ _ h
 refine dX (dJ (F.run X.A X.stack s H ⟨us,[]⟩ (us++ds) (vs++dvs) Q _ hr I.AD (hb s us I.W5 hl) r2 h) λr s' hq=>?_);cases r with
 |error e=>exact Az hw I hq
 |ok fl=>
  cases fl with
  |ret u=>exact I.after hq
  |next=>exact False.elim hq
  |brk=>exact False.elim hq
  |cont=>exact False.elim hq
def qZ (sp:Sp)(dvs:List V)(W:Addr->St->Hp->Prop)(t:TA):TE:=λσ H Q=>t σ H λvs H1=>sp (vs++dvs) H1 Q (wX W σ)
theorem rM (F:d8 X.prog X.w X.K X.mg X.base (CX1 X.prog X.w) k f fd ps sp)(hr:c8 k X.A)(hg:Gl X x)(hm:X.mg x=some (.ref f))(hk:PySem.W.keepIn X.K (.ref f)=true)(hb:Binds X.K fd ps ds)(hd:bA dvs ds)(hw:Xw X W)
  (ha:PA X (e::es) t) (XC:(x==("__debug__":Str))=false:=by decide) (he:ay (e::es) X.env=(false,eval e X.env)::ay es X.env:=by rfl) (Xh:(backTo pos (ay es X.env)).any (·.1)=false:=by rfl):
  PE X (.Call (.Name x p) (e::es) [] pos) (qZ sp dvs W t):=by
 intro pins s σ H Q I h;refine bM (fK I hg hm ?_ XC);refine PySem.W.callWith_K (h₀:=X.base) I.ok.mod.kin hk (WL (ha pos pins s σ H _ I h) λus s1 zp1=>?_) he Xh;obtain⟨vs,H1,I1,r,q⟩:=zp1;refine⟨I1.W5,?_⟩;exact nI F hr hb hd hw I1 r q
end
end
section
abbrev Cx.fC (X:Cx)(pn:List (Addr×Obj))(xe:af->ah->Prop):Cx:={ X with pn:=pn,xe:=xe }
abbrev Cx.dE (X:Cx)(x:Addr):Cx:={ X with A:=X.A.mark (some (.ref x)),calm:=false,xe:=λ_ _=>False }
section
variable {X:Cx}{pins ps':List (Addr×Obj)}{σ:St}{H:Hp}{s:ah}{x:Addr}{xe:af->ah->Prop}
theorem Cx.Ok.fC {pn:List (Addr×Obj)}(k:X.Ok):(X.fC pn xe).Ok:=
 ⟨k.mod,k.kind,k.glob,k.blt,k.above,k.inj,k.has,k.cab,k.hd,k.frames,k.stk,k.exf,k.bs,k.bsz,k.ae5,k.ae6,k.kF,k.frf⟩
theorem Cx.Ok.iY {pn:List (Addr×Obj)}(k:(X.fC pn xe).Ok):X.Ok:=
 ⟨k.mod,k.kind,k.glob,k.blt,k.above,k.inj,k.has,k.cab,k.hd,k.frames,k.stk,k.exf,k.bs,k.bsz,k.ae5,k.ae6,k.kF,k.frf⟩
theorem Cx.Ok.dE (k:X.Ok):(X.dE x).Ok:=
 ⟨k.mod,k.kind,k.glob,k.blt,k.above,k.inj,k.has,k.cab,(λz=>nomatch z),k.frames,k.stk,k.exf,k.bs,k.bsz,k.ae5,k.ae6,k.kF,k.frf⟩
theorem Inv.fC (I:Inv X pins σ H s):Inv (X.fC (X.pn++pins) xe) [] σ H s:=
 ⟨I.ok.fC,I.os,I.bare,I.base,I.loc,I.cell,I.free,I.W6,λp hp=>I.pin p (by simpa using hp),I.WJ,I.len⟩
theorem Inv.iY (I:Inv (X.fC (X.pn++pins) xe) ps' σ H s):Inv X pins σ H s:=
 ⟨I.ok.iY,I.os,I.bare,I.base,I.loc,I.cell,I.free,I.W6,λp hp=>I.pin p (cm _ hp),I.WJ,I.len⟩
theorem Inv.dE (I:Inv X pins σ H s):Inv (X.dE x) pins σ H s:=
 ⟨I.ok.dE,I.os,I.bare,I.base,I.loc,I.cell,I.free,I.W6,I.pin,I.WJ,I.len⟩
theorem Inv.jl (I:Inv (X.dE x) pins σ H s)(hd:X.calm=true->X.A.handled=none):Inv X pins σ H s:=
 ⟨⟨I.ok.mod,I.ok.kind,I.ok.glob,I.ok.blt,I.ok.above,I.ok.inj,I.ok.has,I.ok.cab,hd,I.ok.frames,I.ok.stk,I.ok.exf,I.ok.bs,I.ok.bsz,I.ok.ae5,I.ok.ae6,I.ok.kF,I.ok.frf⟩,I.os,I.bare,I.base,I.loc,I.cell,I.free,I.W6,I.pin,I.WJ,I.len⟩
theorem Fly.iY (f:Fly (X.fC (X.pn++pins) xe) ps' x H s):Fly X pins x H s:=by
 obtain⟨h1,h2⟩:=f;refine⟨h1,h2.imp id λ⟨T,t,a,b,c⟩=>⟨T,t,a,b,λp hp=>c p (cm _ hp)⟩⟩
theorem qI {M:Model}{E:af->ah->Prop}{n:Str}{Q:Unit->ah->Prop}(I:Inv X pins σ H s)(hN:X.N.Nodup)(hi:X.N[i]?=some n)(hk:X.env.scope.names.lookup n=some .local)
  (h:∀s',Inv X pins (σ.set i none) H s'->Q () s'):aq M A (do bindName X.env n .none;unbindBehindTheSuite X.env n pos) Q E s:=by
 obtain⟨m,hn,hl⟩:=id I.loc;have ax1:(X.env.scope.kind==.class||(X.env.scope.kind==.module&&X.env.locals != X.env.globals))=false:=by rw[I.ok.kind];rfl
 have hiσ:i<σ.length:=by rw[I.len];exact(List.getElem?_eq_some_iff.mp hi).1
 have cne:=I.cne;have tracked:∀{a:Addr}{h':Heap},(∃o,s.heap.get? a=some o/\H a=none)->Heap.SameBut a s.heap h'->Xo X.prog X.w H h':=λ{a h'} ha hs b ob e=>by
  obtain⟨_,_,ad0⟩:=ha;refine(I.WJ b ob e).kQ (λc w' hc q=>(hs.2 c ?_).trans q) (λ_ q=>q) λ_ _ q=>q;rintro rfl;rcases hc with rfl|hc
  ·rw[ad0]at e;cases e
  ·rw[ad0]at hc;cases hc
 refine wpAny_nameGoes_keeps hk hn ax1 λh' v hn' hs=>?_;obtain⟨oL,_,_,hoL,_⟩:=id hn;refine h _ ⟨I.ok,I.os,I.bare,⟨λb o e n hb hx=>?_,λb o e n hb hx=>?_,I.base.free,λb o e hx=>?_,I.base.Xt,I.base.Xp,I.base.Xu⟩,⟨_,hn',λj y v' e1 e2 e3=>?_⟩,λy c e=>?_,I.free,I.W6,λp hp=>?_,tracked ⟨oL,hoL,I.free⟩ hs,by simpa using I.len⟩
 ·exact(hs.2 b (aT (aO (ax e) I.ok.above))).trans (I.base.keep b o e n hb hx)
 ·obtain⟨sl,e1⟩:=I.base.slot b o e n hb hx;exact⟨sl,(hs.2 b (aT (aO (ax e) I.ok.above))).trans e1⟩
 ·obtain⟨o',e1⟩:=I.base.there b o e hx;exact⟨o',(hs.2 b (aT (aO (ax e) I.ok.above))).trans e1⟩
 ·by_cases hj:j=i
  ·subst hj;rw[dj hiσ]at e2;cases e2
  ·rw[ji (Ne.symm hj)]at e2;obtain⟨u',r',q⟩:=hl j y v' e1 e2 e3;refine⟨u',r',?_⟩;rcases q with ⟨k,e⟩|⟨k,c,e,z⟩
   ·refine .inl ⟨k,?_⟩;have:y≠n:=λe=>hj (rP hN e1 (e ▸ hi));simp[this,e]
   ·exact .inr ⟨k,c,e,z.sameBut hs (cne y c e)⟩
 ·obtain⟨w',z⟩:=I.cell y c e;exact⟨w',z.sameBut hs (cne y c e)⟩
 ·obtain⟨e,n,ne,nf,d⟩:=I.pin p hp;exact⟨(hs.2 p.1 ne).trans e,n,ne,nf,d⟩
end
def HI (i:Nat)(D:Ends):Ends where
 nx:=λσ H=>D.nx (σ.set i none) H
 rt:=D.rt
 bk:=λσ H=>D.bk (σ.set i none) H
 ct:=λσ H=>D.ct (σ.set i none) H
def Ef (K:Frag)(cv:af)(i:Nat)(ts:Addr->TS)(D:Ends):Addr->St->Hp->Prop:=λx σ' H'=>∃C bm nid fs,IsX false H' x C fs/\ff K C bm nid/\exmOne K (.ref C) cv=some true/\ts x (HI i D) (σ'.set i (some (.ref x))) H'
def P2 (K:Frag)(cv:af)(ts:Addr->TS)(D:Ends):Addr->St->Hp->Prop:=λx σ' H'=>∃C bm nid fs,IsX false H' x C fs/\ff K C bm nid/\exmOne K (.ref C) cv=some true/\ts x D σ' H'
def zj (K:Frag)(cv:af)(i:Nat)(tb:(Addr->St->Hp->Prop)->TS)(ts:Addr->TS):TS:=λD σ H=>tb (Ef K cv i ts D) D σ H
def MD (K:Frag)(cv:af)(tb:(Addr->St->Hp->Prop)->TS)(ts:Addr->TS):TS:=λD σ H=>tb (P2 K cv ts D) D σ H
section
variable {X:Cx}{body:List Stmt}{b₀:Stmt}{dE:List Stmt}{cx n:Str}{i:Nat}{cv:af}{tb:(Addr->St->Hp->Prop)->TS}{ts:Addr->TS}{p ae7 pos:Pos}
theorem pW {outer:List Env}{L:Addr}{ps':List (Addr×Obj)}{x:Addr}{Q:ah->Prop}{E:af->ah->Prop}(hs:X.stack=X.env::outer)(hf:X.env.frame=some L)
  (J:Inv (X.fC (X.pn++pins) xe) ps' σ H s) (f:Fly (X.fC (X.pn++pins) xe) ps' x H s)
  (h:∀s3 T,Inv X pins σ H s3->Tr s3.heap x T .none->H T=none->(T∉X.ex->X.s₀.heap.get? T=none)->(∀p∈X.pn++pins,p.1≠T)->Q s3):
  aq (model X.prog X.w) X.A (noteFrame (.ref x) X.env) (λ_ s2=>aq (model X.prog X.w) X.A (setFlight (.ref x) none) (λ_ s3=>Q s3) E s2) E s:=by
 have I:=J.iY;have f':=f.iY;obtain⟨⟨C,d,hx⟩,_⟩:=id f';refine yE I f' hs hf λs2 T J2 t hn hT hp=>?_;have gone:T∉X.ex->X.s₀.heap.get? T=none:=λne=>by
  cases w:X.s₀.heap.get? T with
  |none=>rfl
  |some o=>
   obtain⟨o',z⟩:=I.base.there T o w ne;rw[hn]at z;cases z
 exact n6 J2 hx t hT gone hp λs3 J3 t3=>h s3 T J3 t3 hT gone hp
theorem ya {E:af->ah->Prop}{Q:Flow->ah->Prop}(h:Q .next s):aq (model X.prog X.w) X.A (execs [] X.env) Q E s:=by
 unfold execs;exact ak h
theorem Gc {outer:List Env}{L:Addr}(hst:X.stack=X.env::outer)(hf:X.env.frame=some L)(hN:X.N.Nodup)(hi:X.N[i]?=some n)(hk:X.env.scope.names.lookup n=some .local)(hg:Gl X cx)(hm:X.mg cx=some cv)
  (hb:∀(pn:List (Addr×Obj))(xe:af->ah->Prop)(W:Addr->St->Hp->Prop),PassesOwn (model X.prog X.w) X.A X.env xe->Xw (X.fC pn xe) W->PSs (X.fC pn xe) body (tb W))
  (hs:∀x,PSs (X.dE x) (b₀::dE) (ts x)) (XC:(cx==("__debug__":Str))=false:=by decide):
  PS X (.Try body [.ExceptHandler (some (.Name cx p)) (some n) (b₀::dE) ae7] [] [] pos) (zj X.K cv i tb ts):=by
 intro pins s σ H D I h;have calm:=I.ok.hd;refine wpAny_Try_except ?_;refine aX (hb (X.pn++pins) (λe s₁=>aq (model X.prog X.w) X.A (noteFrame e X.env) (λ_ s₂=>aq (model X.prog X.w) X.A (setFlight e none) (λ_ s₃=>aq (model X.prog X.w) X.A (handleBy e X.env [.ExceptHandler (some (.Name cx p)) (some n) (b₀::dE) ae7]) (SP X pins D) X.xe s₃) X.xe s₂) X.xe s₁)
  (Ef X.K cv i ts D) PassesOwn.looking ?_ [] s σ H D I.fC h) (λf s1 q=>?_) (λe s1 q=>q)
 ·intro ps' x σ' H' s' J fl hW;obtain⟨C,bm,nid,fs,hx,c,hm1,hts⟩:=hW;refine pW hst hf J fl λs3 T J3 t3 hT gone hp=>?_;obtain⟨⟨C',d,hx0⟩,_⟩:=fl.iY;refine wpAny_handleBy_cons (codeAny_handlers_test ?_) (by intro q;cases q);refine fK (X:=X.dE x) J3.dE hg hm ?_ XC;obtain⟨ox,od,inst⟩:=hx.inst J3;refine Looks.here (exm_one J3.W5 inst.type hm1) ?_;refine codeAny_handlers_suite_as ?_;refine n6 J3 hx0 t3 hT gone hp λs4 J4 t4=>?_;refine jG J4 hN hi (Or.inl hk) (v:=.ref x) rfl (λs5 J5=>?_) (.inr hk);refine aX (hs x pins s5 _ H' (HI i D) J5.dE hts) (λf s6 q=>?_) (λe s6 q=>q.elim);show aq (model X.prog X.w) X.A (do bindName X.env n .none;unbindBehindTheSuite X.env n ae7) (λ_ s₃=>SP X pins D f s₃) X.xe s6;cases f with
  |next=>
   obtain⟨σ6,H6,J6,q6⟩:=q;exact qI (J6.jl calm) hN hi hk λs7 J7=>⟨_,_,J7,q6⟩
  |brk=>
   obtain⟨σ6,H6,J6,q6⟩:=q;exact qI (J6.jl calm) hN hi hk λs7 J7=>⟨_,_,J7,q6⟩
  |cont=>
   obtain⟨σ6,H6,J6,q6⟩:=q;exact qI (J6.jl calm) hN hi hk λs7 J7=>⟨_,_,J7,q6⟩
  |ret u=>
   obtain⟨v,σ6,H6,J6,rv,q6⟩:=q;exact qI (J6.jl calm) hN hi hk λs7 J7=>⟨v,_,_,J7,rv,q6⟩
 ·cases f with
  |next=>
   obtain⟨σ6,H6,J6,q6⟩:=q;exact ya ⟨_,_,J6.iY,q6⟩
  |brk=>
   obtain⟨σ6,H6,J6,q6⟩:=q;exact⟨_,_,J6.iY,q6⟩
  |cont=>
   obtain⟨σ6,H6,J6,q6⟩:=q;exact⟨_,_,J6.iY,q6⟩
  |ret u=>
   obtain⟨v,σ6,H6,J6,rv,q6⟩:=q;exact⟨v,_,_,J6.iY,rv,q6⟩
end
end
section
theorem nW {env:Env}:∀(names:List (Str×NameKind))(x:Str),
  (names.map λ(n,k)=>if (k==NameKind.free&&env.scope.kind==.function&&env.kindOf n==some .cell) then (n,NameKind.cell) else (n,k)).lookup x=
   (names.lookup x).map λk=>if (k==NameKind.free&&env.scope.kind==.function&&env.kindOf x==some .cell)=true then NameKind.cell else k
 | [],_=>rfl
 | (n,k)::r,x=>by
  have ih:=@nW env r x;show cw x ((if (k==NameKind.free&&env.scope.kind==.function&&env.kindOf n==some .cell)=true then (n,NameKind.cell) else (n,k))::_)=_;cases hx:x==n with
  |true=>
   obtain rfl:x=n:=eq_of_beq hx
   by_cases hc:(k==NameKind.free&&env.scope.kind==.function&&env.kindOf x==some .cell)=true
   ·rw[if_pos hc];simp only[cP,hx,cy];rw[if_pos hc]
   ·rw[if_neg hc];simp only[cP,hx,cy];rw[if_neg hc]
  |false=>
   by_cases hc:(k==NameKind.free&&env.scope.kind==.function&&env.kindOf n==some .cell)=true
   ·rw[if_pos hc];simp only[cP,hx];exact ih
   ·rw[if_neg hc];simp only[cP,hx];exact ih
def fX (env:Env):List (Str×NameKind)->List (Str×Addr)->List (Str×Addr)
 | [],cs=>cs
 | (n,k)::r,cs=>if k==.free then (match env.cells.lookup n with |some c=>fX env r ((n,c)::cs)|none=>fX env r cs) else fX env r cs
def oi (env:Env)(x:Str×NameKind)(r:List (Str×Addr)):Sem (ForInStep (List (Str×Addr))):=
 match x with | (name,kind)=>if (kind==.free)=true then do let a ←cellOf env name;pure (ForInStep.yield ((name,a)::r)) else pure (ForInStep.yield r)
theorem tZ (scope:Scope)(env:Env):closureFor scope env=(forIn scope.names ([]:List (Str×Addr)) (oi env) >>=λcs=>pure cs):=rfl
theorem sM {env:Env}:∀(names:List (Str×NameKind))(cs:List (Str×Addr)),(∀y∈names,y.2=.free->∃c,env.cells.lookup y.1=some c)->forIn names cs (oi env)=(pure (fX env names cs):Sem (List (Str×Addr)))
 | [],cs,_=>rfl
 | (n,k)::r,cs,h=>by
  rw[y8];cases hk:k==NameKind.free with
  |false=>
   simp only[hk,fX,oi,aY,if_false,pure_bind];exact sM r cs λy hy=>h y (aJ _ hy)
  |true=>
   obtain⟨c,hc⟩:=h (n,k) aR (eq_of_beq hk);have hc':env.cells.lookup n=some c:=hc;simp only[hk,fX,oi,if_true,cellOf,hc',pure_bind];exact sM r _ λy hy=>h y (aJ _ hy)
theorem og {env:Env}:∀(names:List (Str×NameKind))(cs:List (Str×Addr))(z:Str)(c:Addr),(fX env names cs).lookup z=some c->env.cells.lookup z=some c\/cs.lookup z=some c
 | [],cs,z,c,h=>.inr h
 | (n,k)::r,cs,z,c,h=>by
  unfold fX at h;split at h
  ·split at h
   ·rename_i d hd;rcases og r _ z c h with q |q
    ·exact .inl q
    ·cases hz:z==n with
     |true=>
      obtain rfl:=eq_of_beq hz;simp only[cP,hz]at q;cases q;exact .inl hd
     |false=>
      simp only[cP,hz]at q;exact .inr q
   ·exact og r cs z c h
  ·exact og r cs z c h
theorem n9 {env:Env}:∀(names:List (Str×NameKind))(cs:List (Str×Addr))(z:Str),(cs.lookup z).isSome=true->((fX env names cs).lookup z).isSome=true
 | [],cs,z,h=>h
 | (n,k)::r,cs,z,h=>by
  unfold fX;split
  ·split
   ·refine n9 r _ z ?_;cases hz:z==n with
    |true=>simp[cP,hz]
    |false=>simpa [cP,hz] using h
   ·exact n9 r cs z h
  ·exact n9 r cs z h
theorem oh {env:Env}:∀(names:List (Str×NameKind))(cs:List (Str×Addr))(z:Str)(c:Addr),(z,NameKind.free)∈names->env.cells.lookup z=some c->((fX env names cs).lookup z).isSome=true
 | (n,k)::r,cs,z,c,hm,hc=>by
  unfold fX;rcases List.mem_cons.mp hm with e |e
  ·cases e;rw[if_pos (by rfl)];simp only[hc];exact n9 r _ n (by simp[cP])
  ·split
   ·split
    ·exact oh r _ z c e hc
    ·exact oh r _ z c e hc
   ·exact oh r _ z c e hc
def d7 (sc osc:Scope)(vars bq:List Str):Bool:=
 sc.kind==.function&&sc.names.all (λy=>(y.2 != .cell||sc.names.lookup y.1==some .cell)&&(y.2 != .local||sc.names.lookup y.1==some .local)&&(y.2 != .free||(osc.names.lookup y.1==some .cell&&sc.names.lookup y.1==some .free)))&&
  vars.all (λx=>sc.names.lookup x==some .local||sc.names.lookup x==some .cell)&&bq.all (λx=>sc.names.lookup x==some .free)
abbrev W4 (X:Cx)(scope:Scope)(N:List Str)(cl:List (Str×Addr))(C:Addr)(fp:List Addr)(s:ah)(H:Hp):Cx where
 prog:=X.prog
 w:=X.w
 K:=X.K
 mg:=X.mg
 base:=X.base
 A:=X.A
 N:=N
 s₀:=s
 H₀:=H
 env:=compEnvC scope cl C X.env
 outer:=X.stack
 stack:=X.stack
 ex:=fp
 fn:=λy=>scope.names.lookup y==some .cell
 calm:=X.calm
 pn:=[]
 xe:=λ_ _=>False
def PTs (X:Cx)(ifs:List Expr)(t:TT):Prop:=
 ∀(pins:List (Addr×Obj))(s:ah)(σ:St)(H:Hp)(Q:Bool->Hp->Prop),Inv X pins σ H s->t σ H Q->
  aq (model X.prog X.w) X.A (forIn ifs true λc r=>if r=true then do let ok ←isTrue c X.env (eval c X.env);pure (ForInStep.yield ok) else pure (ForInStep.yield r)) (TP X pins σ Q) X.xe s
def xB:TT:=λ_ H Q=>Q true H
theorem JJ :PTs X [] xB:=λ_ _ _ H _ I h=>wpAny_tests_nil ⟨H,I,h⟩
theorem JI {c:Expr}{t:TT}(h:PT X c t):PTs X [c] t:=λpins s σ H Q I q=>wpAny_tests_one (h pins s σ H Q I q)
def eE (nv:Nat)(ix:List Nat)(σ:St):St:=bg nv none++ix.map λi=>σ.getD i none
abbrev w8 (J:It)(g:TG)(tc:TT)(te:TE)(D:Addr)(σ0:St)(H1:Hp)(Q:VK):Prop:=∃W:Nat->Nat->List V->St->Hp->Prop,(∃m,W 0 m [] σ0 (upd H1 D (.lst [])))/\
 ∀i m ys σ' H',W i m ys σ' H'->(J.stop i H'/\Q (.ref D) H')\/(J.go i H'/\∀x H2,J.yld i H' x H2->g x σ' H2 λσ3 H3=>tc σ3 H3 λb H4=>
  if b=true then te σ3 H4 λy H5=>H5 D=some (.lst ys)/\ys.length<au/\∃m',m'<m/\W (i+1) m' (ys++[y]) σ3 (upd H5 D (.lst (ys++[y]))) else ∃m',m'<m/\W (i+1) m' ys σ3 H4)
def xC (wi:TI)(g:TG)(tc:TT)(te:TE)(nv:Nat)(ix:List Nat):TE:=λσ H Q=>wi σ H λJ H1=>∀D,H1 D=none->w8 J g tc te D (eE nv ix σ) H1 Q
section
variable {prog:aI}{w:aZ}{A:br}{E:af->ah->Prop}{R:Result->ah->Prop}{s:ah}
theorem wQ {it:af}{env:Env}(I:Nat->ah->Prop)
  (turn:∀n s,I n s->aq (model prog w) A (pyNext it) (λr s₁=>match r with
   |none=>R (.ok .next) s₁
   |some v=>aq (model prog w) A (letOwnedTupleGo e it v) (λ_ s₁'=>aq (model prog w) A (assign e env v) (λ_ s₂=>
     aq (model prog w) A (forIn es true λc r=>if r=true then do let ok ←isTrue c env (eval c env);pure (ForInStep.yield ok) else pure (ForInStep.yield r)) (λok s₃=>
      if ok=true then aq (model prog w) A (eval elt env) (λx s₄=>
       aq (model prog w) A (call (.builtin "list.append") [u,x]) (λ_ s₅=>∃m,m<n/\I m s₅) (λ_ _=>False) s₄) (λ_ _=>False) s₃
      else ∃m,m<n/\I m s₃) (λ_ _=>False) s₂) (λ_ _=>False) s₁') (λ_ _=>False) s₁) (λ_ _=>False) s)
  (n:Nat) (h:I n s):
  codeAny (model prog w) A (.compLoop (.ListComp elt [⟨e,iter,es,0⟩] scope pos) 0 it u env) R s:=by
 refine m9 rfl I (λn s hI=>?_) n h;show aq _ A ((compTurn (.ListComp elt [⟨e,iter,es,0⟩] scope pos) 0 it u env).onRaise (λx=>do noteFrame x env;theTreesLotGoes x)) _ _ s;refine pP ?_;rw[compTurn_list];refine aa (cg (aa (aX (turn n s hI) (λr s₁ h₁=>?_) λ_ _ h'=>h'.elim)));cases r with
 |none=>exact ak h₁
 |some v=>
  refine aa (aX h₁ (λ_ s₁' h₁'=>?_) λ_ _ h'=>h'.elim);refine aa (aX h₁' (λ_ s₂ h₂=>aa (aX h₂ (λok s₃ h₃=>?_) λ_ _ h'=>h'.elim)) λ_ _ h'=>h'.elim);cases ok with
  |false=>exact ak ⟨rfl,h₃⟩
  |true=>
   exact aa (aa (aX h₃ (λx s₄ h₄=>aa (aX h₄ (λ_ s₅ h₅=>ak (ak ⟨rfl,h₅⟩)) λ_ _ h'=>h'.elim)) λ_ _ h'=>h'.elim))
end
section
variable {X:Cx}{elt tg iter:Expr}{ifs:List Expr}{scope:Scope}{pos:Pos}{g:TG}{tc:TT}{te:TE}{vars:List Str}{ix:List Nat}
theorem eA {M:Model}{E:af->ah->Prop}{Q:Env->ah->Prop}
  (hQ:∀h1,h1=pushCells (s.heap.push { cls:=.type "dict",data:=.dict #[] }) scope.names->
   Q (newEnv scope s.heap.objs.size a (bj (s.heap.objs.size+1) scope.names cl) x none .none (some outer) C) { s with heap:=h1,toks:=s.toks+([]:List (Str×af)).length }):
  aq M A (newFunctionEnv scope a cl [] x none .none (some outer) C) Q E s:=by
 simp only[newFunctionEnv,Option.isSome_some,if_true];refine aa (wpAny_alloc ?_);refine aa (wpAny_layCells _ (λname kind cells=>by cases hkc:kind==NameKind.cell<;>simp[hkc]) _ _ _ _ ?_);rw[show({ s with heap:=s.heap.push { cls:=.type "dict",data:=.dict #[] } }:ah).heap.objs.size=s.heap.objs.size+1 from bI ..];rw[Bg];exact aa (ak (ak (hQ _ rfl)))
theorem eZ:∀(names:List (Str×NameKind))(n:Nat)(acc:List (Str×Addr)),bj n names acc=bj n names []++acc
 | [],_,_=>rfl
 | (name,kind)::r,n,acc=>by
  unfold bj;split
  ·rw[eZ r (n+1) ((name,n)::acc),eZ r (n+1) [(name,n)]];simp
  ·exact eZ r n acc
theorem g9:∀(names:List (Str×NameKind))(n:Nat)(acc:List (Str×Addr))(y:Str)(c:Addr),(y,c)∈bj n names acc->(y,NameKind.cell)∈names\/(y,c)∈acc
 | [],_,_,_,_,h=>.inr h
 | (name,kind)::r,n,acc,y,c,h=>by
  unfold bj at h;split at h
  ·rename_i hk;rcases g9 r (n+1) _ y c h with q |q
   ·exact .inl (aJ _ q)
   ·rcases List.mem_cons.mp q with q |q
    ·cases q;rw[eq_of_beq hk];exact .inl aR
    ·exact .inr q
  ·rcases g9 r n acc y c h with q |q
   ·exact .inl (aJ _ q)
   ·exact .inr q
abbrev Ww (X:Cx)(scope:Scope)(vs:List Str)(cl:List (Str×Addr))(fp:List Addr)(s3:ah)(H:Hp):Cx:=W4 X scope vs (bj (s3.heap.objs.size+1) scope.names cl) s3.heap.objs.size fp s3 H
theorem jR {it:Addr}{J:It}{cl':List (Str×Addr)}{tk:Nat}
  (bq:List Str) (hix:ix.map (λi=>X.N.getD i "")=bq) (hlen:∀i∈ix,i<X.N.length) (ok:d7 scope X.env.scope vars bq=true)
  (hcl:cl=fX X.env scope.names []) (as9:cl'=bj (s.heap.objs.size+1) scope.names cl) (I1:Inv X pins σ H s) (T:Turn X.prog X.w X.K tg J ι it tn) (st3:tn 0 s.heap) (fo3:∀b∈ι,kh X pins H b)
  (hh1:h=pushCells (s.heap.push { cls:=.type "dict",data:=.dict #[] }) scope.names):
  Inv (W4 X scope (vars++bq) cl' s.heap.objs.size ι s H) [] (eE vars.length ix σ) H { s with heap:=h,toks:=tk }/\tn 0 h/\
  (∀H':Hp,(∀b∈ι,H' b=none)->∀b∈ι,kh (W4 X scope (vars++bq) cl' s.heap.objs.size ι s H) [] H' b)/\
  (∀(σ':St)(H':Hp)(s':ah),Inv (W4 X scope (vars++bq) cl' s.heap.objs.size ι s H) [] σ' H' s'->Inv X pins σ H' s'/\(∃m,s'.heap.Ns s.heap.objs.size m)/\kh X pins H' s.heap.objs.size):=by
 unfold d7 at ok;simp only[ag]at ok;obtain⟨⟨⟨ok1,ok2⟩,ok3⟩,ok4⟩:=ok;have ad2:scope.kind=.function:=eq_of_beq ok1;have nms:=List.all_eq_true.mp ok2;have XO:∀y,(y,NameKind.cell)∈scope.names->scope.names.lookup y=some .cell:=λy hy=>by
  have:=nms _ hy;simp only[ag,cz,bne_iff_ne,ne_eq,beq_iff_eq]at this;rcases this.1.1 with q |q
  ·exact absurd True.intro q
  ·exact q
 have ad0:∀y∈scope.names,y.2=.free->X.env.scope.names.lookup y.1=some .cell:=λy hy z=>by
  have:=nms y hy;simp only[ag,cz,bne_iff_ne,ne_eq,beq_iff_eq]at this;rcases this.2 with q |q
  ·exact absurd z q
  ·exact q.1
 have hfree2:∀y∈scope.names,y.2=.free->scope.names.lookup y.1=some .free:=λy hy z=>by
  have:=nms y hy;simp only[ag,cz,bne_iff_ne,ne_eq,beq_iff_eq]at this;rcases this.2 with q |q
  ·exact absurd z q
  ·exact q.2
 have hXk:(X.env.scope.kind==ScopeKind.function)=true:=by rw[I1.ok.kind];rfl
 have fplt:∀b∈ι,b<s.heap.objs.size:=λb hb=>by
  obtain⟨o,e,_⟩:=T.obj _ _ st3 b hb;exact ax e
 have cells:∀y c,cl.lookup y=some c->X.env.cells.lookup y=some c:=λy c e=>by
  subst hcl;rcases og _ _ _ _ e with q |q
  ·exact q
  ·cases q
 have uF:∀y,(compEnvC scope cl' s.heap.objs.size X.env).kindOf y=(scope.names.lookup y).map λk=>if (k==NameKind.free&&X.env.scope.kind==.function&&X.env.kindOf y==some .cell)=true then NameKind.cell else k:=λy=>nW scope.names y
 have memL:∀{l:List (Str×NameKind)}{y k},l.lookup y=some k->(y,k)∈l:=λ{l y k} e=>dZ e;have ay7:∀{l:List (Str×Addr)}{y k},l.lookup y=some k->(y,k)∈l:=λ{l y k} e=>dZ e;have csF:∀y,scope.names.lookup y=some .free->cl'.lookup y=cl.lookup y:=λy e=>by
  rw[as9,eZ,tz];cases q:(bj (s.heap.objs.size+1) scope.names []).lookup y with
  |none=>rfl
  |some c'=>
   rcases g9 _ _ _ _ _ (ay7 q) with w |w
   ·rw[XO y w]at e;cases e
   ·cases w
 have capk:∀y,scope.names.lookup y=some .free->X.env.scope.names.lookup y=some .cell/\(compEnvC scope cl' s.heap.objs.size X.env).kindOf y=some .cell/\∃c,X.env.cells.lookup y=some c/\cl'.lookup y=some c:=λy e=>by
  have h:=ad0 _ (memL e) rfl;obtain⟨c,hc1⟩:=I1.ok.has y (.inl h);have h2:((fX X.env scope.names []).lookup y).isSome=true:=oh _ _ _ c (memL e) hc1;rw[←hcl]at h2;obtain⟨c',hc2⟩:=Option.isSome_iff_exists.mp h2;have:=cells _ _ hc2;rw[hc1]at this;cases this;refine⟨h,?_,c,hc1,(csF y e).trans hc2⟩;have h1':X.env.kindOf y=some .cell:=h;rw[uF,e];simp[hXk,h1']
 have old:∀b o,s.heap.get? b=some o->h.get? b=some o:=λb o e=>by rw[hh1];exact pushCells_keeps _ _ b o (aj _ e)
 have hns:h.Ns s.heap.objs.size (λ_=>none):=by rw[hh1];exact(Heap.Ns.new s.heap (.type "dict")).keeps (pushCells_keeps _ _)
 have okc:CellsOk h (s.heap.objs.size+1) (bj (s.heap.objs.size+1) scope.names []):=by
  have:=cellsFrom_ok scope.names (s.heap.push { cls:=.type "dict",data:=.dict #[] }) (s.heap.objs.size+1) [] ⟨λ_ _ hm=>(nomatch hm),List.Pairwise.nil⟩ (by rw[bI];exact aw _);rw[bI]at this;rw[hh1];exact this
 have cs':∀y c,cl'.lookup y=some c->X.env.cells.lookup y=some c\/(scope.names.lookup y=some .cell/\s.heap.objs.size<c/\h.IsCell c none/\(y,c)∈bj (s.heap.objs.size+1) scope.names []):=λy c e=>by
  rw[as9,eZ,tz]at e;cases q:(bj (s.heap.objs.size+1) scope.names []).lookup y with
  |none=>rw[q]at e;exact .inl (cells y c e)
  |some c'=>
   rw[q]at e;cases e;have hm:=ay7 q;have⟨z1,z2⟩:=okc.empty y c hm;rcases g9 _ _ _ _ _ hm with w |w
   ·exact .inr ⟨XO y w,z2,z1,hm⟩
   ·cases w
 have clt:∀y c,X.env.cells.lookup y=some c->c<s.heap.objs.size:=λy c e=>let ⟨v,hv⟩:=I1.cell y c e;hv.lt;have hC:H s.heap.objs.size=none:=I1.WJ.fresh (aw _);have okB:(W4 X scope (vars++bq) cl' s.heap.objs.size ι s (H)).Ok:={
  mod:=I1.ok.mod
  kind:=ad2
  glob:=I1.ok.glob
  blt:=I1.ok.blt
  above:=aw _
  inj:=λx y c e1 e2=>by
   rcases cs' x c e1 with q1 |⟨_,q1,_,m1⟩<;>rcases cs' y c e2 with q2 |⟨_,q2,_,m2⟩
   ·exact I1.ok.inj x y c q1 q2
   ·exact absurd (eh (clt x c q1) q2) (bw _)
   ·exact absurd (eh (clt y c q2) q1) (bw _)
   ·exact name_of_addr okc.apart m1 m2
  has:=λy hy=>by
   have hy:(compEnvC scope cl' s.heap.objs.size X.env).kindOf y=some .cell\/(compEnvC scope cl' s.heap.objs.size X.env).kindOf y=some .free:=hy;rw[uF]at hy;have:scope.names.lookup y=some .free\/scope.names.lookup y=some .cell:=by
    cases q:scope.names.lookup y with
    |none=>rw[q]at hy;simp at hy
    |some k=>
     rw[q]at hy;simp only[cy,Option.some.injEq]at hy
     by_cases hk:k=.free
     ·rw[hk];exact .inl rfl
     ·have nf:(k==NameKind.free)=false:=by
       cases z:k==NameKind.free with
       |false=>rfl
       |true=>exact absurd (eq_of_beq z) hk
      rw[nf]at hy;simp only[pT,aY,if_false]at hy;rcases hy with hy |hy
      ·rw[hy];exact .inr rfl
      ·exact absurd hy hk
   rcases this with this |this
   ·obtain⟨_,_,c,_,e⟩:=capk y this;exact⟨c,e⟩
   ·have:=PySem.W.cellsFrom_some scope.names (s.heap.objs.size+1) cl (.inl this);rw[←as9]at this;exact Option.isSome_iff_exists.mp this
  cab:=λy c e1 e2=>by
   rcases cs' y c e2 with q |⟨_,q,_,_⟩
   ·exfalso;have e1:scope.names.lookup y=some .cell:=eq_of_beq e1;have e2:cl'.lookup y=some c:=e2;rw[as9,eZ,tz]at e2;have h2:=PySem.W.cellsFrom_some scope.names (s.heap.objs.size+1) [] (.inl e1);obtain⟨c',hc'⟩:=Option.isSome_iff_exists.mp h2;rw[hc']at e2;cases e2;exact absurd (eh (clt y _ q) (okc.empty y _ (ay7 hc')).2) (bw _)
   ·exact fH q
  hd:=I1.ok.hd
  frames:=I1.ok.frames
  stk:=.inl rfl
  exf:=λb hb=>⟨aT (fplt b hb),λy c e=>by
   rcases cs' y c e with q |⟨_,q,_,_⟩
   ·exact(fo3 b hb).2.2.2.2.1 y c q
   ·exact λz=>absurd (eh (fplt b hb) (z ▸ q)) (bw _)⟩
  bs:=λb o e=>I1.bs b o e
  bsz:=b8 I1.ok.bsz I1.sz
  ae5:=λb o e hb=>by
   obtain⟨_,_,_,q,_⟩:=fo3 b hb;rcases q with q |q
   ·exact I1.ok.ae5 b o e q
   ·exact absurd (aO (ax e) I1.ok.bsz) (Nat.not_lt.mpr q)
  ae6:=λb hb z=>by
   obtain⟨_,q1,q2,_⟩:=fo3 b hb;rcases List.mem_cons.mp (I1.rh b z) with w |w
   ·exact q1 w
   ·exact q2 w
  kF:=I1.stack
  frf:=I1.vG }
 have J0:Inv (W4 X scope (vars++bq) cl' s.heap.objs.size ι s (H)) [] (eE vars.length ix σ) (H) { s with heap:=h,toks:=tk }:=by
  refine⟨okB,rfl,I1.bare,Un.kept old,⟨_,hns,λi y v e1 e2 e3=>?_⟩,λy c e=>?_,hC,λy c e=>(cs' y c e).elim (I1.W6 y c) (λq=>I1.WJ.fresh (fH q.2.1)),(λp hp=>nomatch hp),I1.WJ.kept old,?_⟩
  ·have hi:vars.length<=i:=by
    by_cases q:i<vars.length
    ·unfold eE at e2;rw[ba (by simpa using q),hU]at e2;split at e2<;>cases e2
    ·lia
   unfold eE at e2;rw[dm (by simpa using hi),bS]at e2;have e1:(vars++bq)[i]?=some y:=e1;rw[dm hi,←hix,bS]at e1;simp only[oB]at e2;cases q:ix[i - vars.length]? with
   |none=>rw[q]at e1;cases e1
   |some j=>
    rw[q]at e1 e2;simp only[cy,Option.some.injEq]at e1 e2;have hj:=hlen j (bH q);have hyc:y∈bq:=by rw[←hix,←e1];exact List.mem_map.mpr ⟨j,bH q,rfl⟩
    have hfr:scope.names.lookup y=some .free:=eq_of_beq (List.all_eq_true.mp ok4 y hyc);obtain⟨h1',h2',c,h3',h4'⟩:=capk y hfr;obtain⟨mm,hn2,hl2⟩:=I1.loc;have hNj:X.N[j]?=some y:=by rw[bB hj,←e1,dr,bB hj];rfl
    have hσj:σ[j]?=some (some v):=by
     rw[dr]at e2;cases z:σ[j]? with
     |none=>rw[z]at e2;cases e2
     |some o=>rw[z]at e2;simp only[Option.getD_some]at e2;rw[e2]
    obtain⟨u,ru,lu⟩:=hl2 j y v hNj hσj (.inr (.inl h1'));refine⟨u,ru,.inr ⟨.inl h2',c,h4',?_⟩⟩;rcases lu with ⟨k1,_⟩|⟨_,c2,k2,k3⟩
    ·have h1'':X.env.kindOf y=some .cell:=h1';rw[h1'']at k1;cases k1
    ·rw[h3']at k2;cases k2;exact k3.keeps old
  ·rcases cs' y c e with q |⟨_,_,q,_⟩
   ·obtain⟨v,hv⟩:=I1.cell y c q;exact⟨v,hv.keeps old⟩
   ·exact⟨_,q⟩
  ·show(eE vars.length ix σ).length=(vars++bq).length;unfold eE;rw[←hix];simp
 refine⟨J0,T.keep _ _ _ st3 λb hb o e=>old b o e,λH' hn b hb=>⟨hn b hb,(okB.exf b hb).1,okB.ae6 b hb,.inl hb,(okB.exf b hb).2,λp hp=>nomatch hp⟩,λσ' H' s' Y=>?_⟩;obtain⟨mm,hn2,_⟩:=Y.loc;exact⟨I1.Mn (ch:=ι) Y.os Y.base Y.WJ Y.bare λb hb=>⟨(fo3 b hb).2.2.2.1,(fo3 b hb).2.1,(fo3 b hb).2.2.2.2.1,(fo3 b hb).2.2.2.2.2⟩,⟨mm,hn2⟩,I1.tU (aw _) Y.free⟩
theorem sL {E:af->ah->Prop}{RR:af->Addr->Result->ah->Prop}{it:Addr}{J:It}
  (hc:X.calm=true) (bq:List Str) (hix:ix.map (λi=>X.N.getD i "")=bq) (hlen:∀i∈ix,i<X.N.length) (ok:d7 scope X.env.scope vars bq=true) (nd:(vars++bq).Nodup)
  (hg:∀cl C ι s H,PG (W4 X scope (vars++bq) cl C ι s H) tg g) (ht:∀cl C ι s H,PTs (W4 X scope (vars++bq) cl C ι s H) ifs tc) (he:∀cl C ι s H,PE (W4 X scope (vars++bq) cl C ι s H) elt te)
  (hcl:cl=fX X.env scope.names []) (I:Inv X pins σ H s) (T:Turn X.prog X.w X.K tg J ι it tn) (st:tn 0 s.heap) (fo:∀b∈ι,kh X pins H b)
  (rd:∀D,H D=none->∃W:Nat->Nat->List V->St->Hp->Prop,(∃m,W 0 m [] (eE vars.length ix σ) (upd H D (.lst [])))/\
   ∀i m ys σ' H',W i m ys σ' H'->(J.stop i H'/\Qr (.ref D) H')\/(J.go i H'/\∀x H2,J.yld i H' x H2->g x σ' H2 λσ3 H3=>tc σ3 H3 λb H4=>
    if b=true then te σ3 H4 λy H5=>H5 D=some (.lst ys)/\ys.length<au/\∃m',m'<m/\W (i+1) m' (ys++[y]) σ3 (upd H5 D (.lst (ys++[y]))) else ∃m',m'<m/\W (i+1) m' ys σ3 H4))
  (hRR:∀D C H' s' m,Inv X pins σ H' s'->s'.heap.Ns C m->kh X pins H' C->Qr (.ref D) H'->RR (.ref D) C (.ok .next) s'):
  aq (model X.prog X.w) X.A (newList []) (λacc s₃=>aq (model X.prog X.w) X.A (newFunctionEnv scope X.env.globals cl [] X.env.qual none .none (some X.env)) (λay8 s₄=>
   codeAny (model X.prog X.w) X.A (.compStart (.ListComp elt [⟨tg,iter,ifs,0⟩] scope pos) 0 (.ref it) acc { ay8 with scope:=relabel scope X.env }) (RR acc ay8.locals) s₄) E s₃) E s:=by
 have okk:=ok;unfold d7 at okk;simp only[ag]at okk;have ad2:scope.kind=.function:=eq_of_beq okk.1.1.1;have hf:H s.heap.objs.size=none:=I.WJ.fresh (aw _);refine bC ?_;have I1:=I.laid (a:=s.heap.objs.size) (o:=.lst []) (h':=s.heap.push { cls:=.type "list",dict:=none,data:=.seq ([]:List af).toArray }) (t':=s.toks) (λb u e=>aj _ e) (aw _) ⟨bG _,[],0,.nil,aB _ rfl⟩;obtain⟨W,⟨m0,w0⟩,turn⟩:=rd _ hf
 generalize hD:s.heap.objs.size=D at *
 generalize hs3:({ s with heap:=s.heap.push { cls:=.type "list",dict:=none,data:=.seq ([]:List af).toArray } }:ah)=s3 at *
 have st3:tn 0 s3.heap:=T.keep _ _ _ st λb hb o e=>by rw[←hs3];exact aj _ e
 have nD:∀b∈ι,b≠D:=λb hb z=>by
  obtain⟨o,e,_⟩:=T.obj _ _ st b hb;have:=ax e;rw[z,hD]at this;exact bw _ this
 have fo3:∀b∈ι,kh X pins (upd H D (.lst [])) b:=λb hb=>by
  obtain⟨a0,a1⟩:=fo b hb;exact⟨by rw[aQ (nD b hb)];exact a0,a1⟩
 refine eA λh1 hh1=>?_;obtain⟨J0,st4,Xg,fin⟩:=jR (tk:=s3.toks+([]:List (Str×af)).length) bq hix hlen ok hcl rfl I1 T st3 fo3 hh1;have loop:∀s₄:ah,s₄={ s3 with heap:=h1,toks:=s3.toks+([]:List (Str×af)).length }->
   codeAny (model X.prog X.w) X.A (.compLoop (.ListComp elt [⟨tg,iter,ifs,0⟩] scope pos) 0 (.ref it) (.ref D) (compEnvC scope (bj (s3.heap.objs.size+1) scope.names cl) s3.heap.objs.size X.env)) (RR (.ref D) s3.heap.objs.size) s₄:=by
  rintro s₄ rfl;refine wQ (λn s'=>∃i ys σ' H',Inv (Ww X scope (vars++bq) cl ι s3 (upd H D (.lst []))) [] σ' H' s'/\tn i s'.heap/\(∀b∈ι,H' b=none)/\W i n ys σ' H') ?_ m0 ⟨0,[],_,_,J0,st4,λb hb=>(fo3 b hb).1,w0⟩;rintro n s5 ⟨i,ys,σ5,H5,J5,t5,f5,w5⟩;rcases turn i n ys σ5 H5 w5 with ⟨stop,q⟩|⟨go,step⟩
  ·refine WL (T.done (Ww X scope (vars++bq) cl ι s3 (upd H D (.lst []))) rfl rfl rfl hc i [] s5 σ5 H5 _ J5 (Xg _ f5) t5 stop) λr s6 ⟨hr,J6⟩=>?_;subst hr;obtain⟨K1,⟨mm,K2⟩,K3⟩:=fin _ _ _ J6;exact hRR D _ _ _ mm K1 K2 K3 q
  ·refine WL (T.item (Ww X scope (vars++bq) cl ι s3 (upd H D (.lst []))) rfl rfl rfl hc i [] s5 σ5 H5 _ J5 (Xg _ f5) t5 go) λr s6 zq=>?_;obtain⟨u,hr,h6⟩:=zq;subst hr;refine WL h6 λ_ s7 zq=>?_;obtain⟨x,H7,J7,r7,y7,t7,f7⟩:=zq;have J7':=J7.pinned (Xg _ f7) (T.obj _ _ t7);have XE:∀{σ' H' s'},Inv (Ww X scope (vars++bq) cl ι s3 (upd H D (.lst []))) ([]++gR ι s7.heap) σ' H' s'->tn (i+1) s'.heap/\∀b∈ι,H' b=none:=λ{σ' H' s'} Y=>
    ⟨T.keep _ _ _ t7 λb hb o e=>(Y.pin (b,o) (aD _ (aD _ (cZ hb e)))).1,λb hb=>by
     obtain⟨o,e,_⟩:=T.obj _ _ t7 b hb;exact(Y.pin (b,o) (aD _ (aD _ (cZ hb e)))).2.1⟩
   refine WL (hg _ _ _ _ _ _ s7 σ5 H7 x u _ J7' r7 (step x H7 y7)) λ_ s8 zq=>?_;obtain⟨σ8,H8,J8,q8⟩:=zq;refine WL (ht _ _ _ _ _ _ s8 σ8 H8 _ J8 q8) λb s9 zq=>?_;obtain⟨H9,J9,q9⟩:=zq;cases b with
   |false=>
    rw[if_neg aH]at q9 ⊢;obtain⟨m',hm,w'⟩:=q9;obtain⟨k1,k2⟩:=XE J9;exact⟨m',hm,i+1,ys,σ8,H9,J9.eW,k1,k2,w'⟩
   |true=>
    rw[if_pos rfl]at q9 ⊢;refine WL (he _ _ _ _ _ _ s9 σ8 H9 _ J9 q9) λv s10 zq=>?_;obtain⟨y,H10,J10,r10,q10,l10,m',hm,w'⟩:=zq;refine WL (oZ _ s10 σ8 H10 (.ref D) [y] (.ref D) [v] (λz H11=>z=.WN/\H11=upd H10 D (.lst (ys++[y]))) J10 rfl (.cons r10 .nil) ⟨D,ys,y,rfl,rfl,q10,l10,rfl,rfl⟩) λ_ s11 zq=>?_;obtain⟨_,H11,J11,_,_,e11⟩:=zq;subst e11;obtain⟨k1,k2⟩:=XE J11;exact⟨m',hm,i+1,ys++[y],σ8,_,J11.eW,k1,k2,w'⟩
 exact codeAny_compStart_list (loop _ rfl) (T.self _ 0 _ _ _ st4 (loop _ rfl))
end
end
section
section
variable {X:Cx}{elt tg iter:Expr}{ifs:List Expr}{scope:Scope}{pos:Pos}{wi:TI}{g:TG}{tc:TT}{te:TE}{vars:List Str}{ix:List Nat}
theorem gb (I:Inv X pins σ H s)(ok:d7 scope X.env.scope vars bq=true):closureFor scope X.env=pure (fX X.env scope.names [])/\scope.kind=.function/\
  ∀x∈scope.names,x.2=.local->scope.names.lookup x.1=some .local:=by
 unfold d7 at ok;simp only[ag]at ok;obtain⟨⟨⟨ok1,ok2⟩,_⟩,_⟩:=ok;have nms:=List.all_eq_true.mp ok2;refine⟨?_,eq_of_beq ok1,λy hy z=>?_⟩
 ·rw[tZ,sM (env:=X.env) scope.names [] λy hy z=>?_,pure_bind]
  ·have:=nms y hy;simp only[ag,cz,bne_iff_ne,ne_eq,beq_iff_eq]at this;rcases this.2 with q |q
   ·exact absurd z q
   ·exact I.ok.has y.1 (.inl q.1)
 ·have:=nms y hy;simp only[ag,cz,bne_iff_ne,ne_eq,beq_iff_eq]at this;rcases this.1.2 with q |q
  ·exact absurd z q
  ·exact q
theorem Kd (hc:X.calm=true)(bq:List Str)(hix:ix.map (λi=>X.N.getD i "")=bq)(hlen:∀i∈ix,i<X.N.length)(ok:d7 scope X.env.scope vars bq=true)(nd:(vars++bq).Nodup)
  (hi:PI X tg iter wi) (hg:∀cl C fp s H,PG (W4 X scope (vars++bq) cl C fp s H) tg g) (ht:∀cl C fp s H,PTs (W4 X scope (vars++bq) cl C fp s H) ifs tc) (he:∀cl C fp s H,PE (W4 X scope (vars++bq) cl C fp s H) elt te)
  (hs:∀x,foldedSetIterable iter X.env x=pure x:=by intro _;rfl):PE X (.ListComp elt [⟨tg,iter,ifs,0⟩] scope pos) (xC wi g tc te vars.length ix):=by
 intro pins s σ H Q I h;obtain⟨h1,h2,h3⟩:=gb I ok;rw[eval_ListComp];refine cW (use:=none) rfl hs h1 h2 h3 (WL (hi pins s σ H _ I h) λv s1 h1=>WL h1 λitv s2 h2=>?_);obtain⟨it,fp,tn,J,H2,rfl,I2,T,XQ,f2,rd⟩:=h2;refine sL (RR:=λacc C=>compPost (model X.prog X.w) X.A X.xe none (EP X pins σ Q) acc C) hc bq hix hlen ok nd hg ht he rfl I2 T XQ f2 rd λD C H' s' m Y hn fo q=>⟨m,hn,λh' sb=>?_⟩;exact⟨.ref D,H',Y.turned (t':=s'.toks) (λb o hb e=>(sb.2 b hb).trans e) fo.1 fo.2.1 fo.2.2.2.1 fo.2.2.2.2.1 fo.2.2.2.2.2,rfl,q⟩
theorem JM (hN:X.N.Nodup)(hiy:X.N[i]?=some y)(hy:X.env.scope.names.lookup y=some .local)(hsw:swapsWith (.ListComp elt [⟨tg,iter,ifs,0⟩] scope pos) (some (.Name y p)) apos.line X.env=pure true)
  (hc:X.calm=true) (bq:List Str) (hix:ix.map (λi=>X.N.getD i "")=bq) (hlen:∀i∈ix,i<X.N.length) (ok:d7 scope X.env.scope vars bq=true) (nd:(vars++bq).Nodup)
  (hi:PI X tg iter wi) (hg:∀cl C fp s H,PG (W4 X scope (vars++bq) cl C fp s H) tg g) (ht:∀cl C fp s H,PTs (W4 X scope (vars++bq) cl C fp s H) ifs tc) (he:∀cl C fp s H,PE (W4 X scope (vars++bq) cl C fp s H) elt te)
  (hs:∀x,foldedSetIterable iter X.env x=pure x:=by intro _;rfl):PS X (.Assign [.Name y p] (.ListComp elt [⟨tg,iter,ifs,0⟩] scope pos) apos) (CA (xC wi g tc te vars.length ix) (qd i)):=by
 intro pins s σ H D I h;obtain⟨h1,h2,h3⟩:=gb I ok;rw[exec_Assign_Name_used _ _ _ _ hsw];refine aa (cg (aa ?_));show aq _ X.A (do let _ ←comprehension (.ListComp elt [⟨tg,iter,ifs,0⟩] scope pos) scope X.env _ (newList []) false (eval iter X.env) (some (assign (.Name y p) X.env))) _ _ s;refine aa (aX (cW (use:=some (assign (.Name y p) X.env)) (Q:=λ_ s'=>SP X pins D .next s') rfl hs h1 h2 h3 (WL (hi pins s σ H _ I h) λv s1 h1=>WL h1 λitv s2 h2=>?_)) (λ_ s' hq=>ak (ak hq)) λ_ _ e=>e);obtain⟨it,fp,tn,J,H2,rfl,I2,T,XQ,f2,rd⟩:=h2;refine sL (Qr:=λx H1=>qd i x σ H1 D.nx) (RR:=λacc C=>compPost (model X.prog X.w) X.A X.xe (some (assign (.Name y p) X.env)) (λ_ s'=>SP X pins D .next s') acc C) hc bq hix hlen ok nd hg ht he rfl I2 T XQ f2 rd λDa C H' s' m Y hn fo q=>?_;show aq _ X.A (assign (.Name y p) X.env (.ref Da)) _ _ _;refine uc (oJ Y hN hiy (Or.inl hy) (v:=.ref Da) rfl (λs2 Y2 ⟨a,sb,ha⟩=>?_) (.inr hy));have ne:C≠a:=by
  rcases ha with rfl|ha
  ·exact fo.2.1
  ·exact λz=>fo.2.2.2.2.1 _ _ ha z.symm
 refine⟨m,hn.sameBut sb ne,λh' sb2=>?_⟩;exact⟨_,H',Y2.turned (t':=s2.toks) (λb o hb e=>(sb2.2 b hb).trans e) fo.1 fo.2.1 fo.2.2.2.1 fo.2.2.2.2.1 fo.2.2.2.2.2,q⟩
end
def tj (n:Nat)(D:Addr)(Pv:Nat->List V->St->Hp->Prop)(i:Nat)(ys:List V)(y:V)(σ3:St)(H5:Hp):Prop:=
 H5 D=some (.lst ys)/\ys.length<au/\∃m',m'<n - i/\m'=n - (i+1)/\i+1<=n/\(ys++[y]).length=i+1/\Pv (i+1) (ys++[y]) σ3 (upd H5 D (.lst (ys++[y])))
theorem tj.mk {Pv:Nat->List V->St->Hp->Prop}{ys:List V}{y:V}(hi:i<n)(hz:n<=au)(hy:ys.length=i)(h1:H a=some (.lst ys))(h2:Pv (i+1) (ys++[y]) σ (upd H a (.lst (ys++[y])))):
  tj n a Pv i ys y σ H:=⟨h1,by lia,n - (i+1),by lia,rfl,hi,by rw[bE,hy];rfl,h2⟩
end
section
mutual
inductive XS (H:Hp):V->PyData->Prop where
 |WN:XS H .WN .none
 |bl (b:Bool):XS H (.bl b) (.bool b)
 |int (i:Int):XS H (.int i) (.int i)
 |str (x:Str):XS H (.str x) (.str x)
 |lst {a:Addr} {vs:List V} {ds:List PyData} (e:H a=some (.lst vs)) (r:cK H vs ds):XS H (.ref a) (.list ds)
 |tup {a:Addr} {vs:List V} {ds:List PyData} (e:H a=some (.tup vs)) (r:cK H vs ds):XS H (.ref a) (.tuple ds)
inductive cK (H:Hp):List V->List PyData->Prop where
 |nil:cK H [] []
 |cons {v:V} {d:PyData} {vs:List V} {ds:List PyData} (a:XS H v d) (r:cK H vs ds):cK H (v::vs) (d::ds)
end
theorem cK.length {H:Hp}:∀{vs:List V}{ds:List PyData},cK H vs ds->vs.length=ds.length
 |_,_,.nil=>rfl
 |_,_,.cons _ r=>by rw[aN,aN,r.length]
theorem cK.append {H:Hp}:∀{vs ws:List V}{ds es:List PyData},cK H vs ds->cK H ws es->cK H (vs++ws) (ds++es)
 |_,_,_,_,.nil,q=>q
 |_,_,_,_,.cons a r,q=>.cons a (r.append q)
theorem cK.get {H:Hp}:∀{vs:List V}{ds:List PyData}{i:Nat}{v:V},cK H vs ds->vs[i]?=some v->∃d,ds[i]?=some d/\XS H v d
 |_,_,0,_,.cons a _,e=>⟨_,rfl,by cases e;exact a⟩
 |_,_,i+1,_,.cons _ r,e=>r.get (i:=i) e
 |_,_,i,_,.nil,e=>by cases i<;>cases e
section
variable {X:Cx}{pins:List (Addr×Obj)}{σ:St}{H:Hp}{s:ah}
theorem sU:cu X (.builtin "isinstance") (λvs H Q=>∃x c cv t b,vs=[x,c]/\(∀u,RelV c u->u=cv)/\kg X.K H x t/\kitOne X.K t cv=some b/\Q (.bl b) H):=by
 intro pins s σ H xs us Q I r h;obtain⟨x,c,cv,t,b,rfl,hc,ty,e,q⟩:=h;obtain⟨u,w',rfl,ru,XD⟩:=vals2 r;cases hc w' XD;exact Dt I ru ty e λtk=>⟨.bl b,H,I.tok _,rfl,q⟩
theorem vj:cu X (.builtin "isinstance") (λvs H Q=>∃x a c d cv dv t b,vs=[x,.ref a]/\H a=some (.tup [c,d])/\(∀u,RelV c u->u=cv)/\(∀u,RelV d u->u=dv)/\kg X.K H x t/\kitAny X.K t [cv,dv]=some b/\Q (.bl b) H):=by
 intro pins s σ H xs us Q I r h;obtain⟨x,a,c,d,cv,dv,t,b,rfl,ha,hc,hd,ty,e,q⟩:=h;obtain⟨u,w',rfl,ru,XD⟩:=vals2 r;cases (show w'=Value.ref a from XD);obtain⟨_,its,rv,o,h1,h2,n,h3⟩:=(show bJ X.prog X.w H s.heap a (.tup [c,d]) from I.WJ a _ ha);obtain⟨u1,u2,rfl,r1,r2⟩:=vals2 rv;cases hc u1 r1;cases hd u2 r2;obtain⟨oc,od,odt,osl⟩:=o;cases h2;cases h3;have fin:∀tk,EP X pins σ Q (.bool b) { s with toks:=tk }:=λtk=>⟨.bl b,H,I.tok _,rfl,q⟩;have W5:=I.W5;cases ty with
 |WN=>cases (show u=Value.none from ru);exact jS kitx_none W5 True.intro h1 e (λz=>nomatch z) fin
 |bl y=>cases (show u=Value.bool y from ru);exact jS kitx_bool W5 True.intro h1 e (λz=>nomatch z) fin
 |int i=>obtain⟨t,z⟩:=(show ∃t,u=Value.int i t from ru);cases z;exact jS kitx_int W5 True.intro h1 e (λz=>nomatch z) fin
 |str y=>obtain⟨t,z⟩:=(show ∃t,u=Value.str y t from ru);cases z;exact jS kitx_str W5 True.intro h1 e (λz=>nomatch z) fin
 |flt y=>obtain⟨t,z⟩:=(show ∃t,u=Value.float y t from ru);cases z;exact jS kitx_float W5 True.intro h1 e (λz=>nomatch z) fin
 | @lst a' xs ea=>
  cases (show u=Value.ref a' from ru);obtain⟨_,_,n,_,g1⟩:=(show bJ X.prog X.w H s.heap a' (.lst xs) from I.WJ a' _ ea);exact jS kitx_list W5 ⟨_,g1,rfl⟩ h1 e (λz=>nomatch z) fin
 | @frz a' ob xs ea=>
  cases (show u=Value.ref a' from ru);obtain⟨_,_,_,n,_,g1⟩:=(show bJ X.prog X.w H s.heap a' (.frz ob (.lst xs)) from I.WJ a' _ ea);exact jS kitx_list W5 ⟨_,g1,rfl⟩ h1 e (λz=>nomatch z) fin
 | @tup a' xs ea=>
  cases (show u=Value.ref a' from ru);obtain⟨_,_,_,p⟩:=(show bJ X.prog X.w H s.heap a' (.tup xs) from I.WJ a' _ ea);obtain⟨o,g1,g2,_⟩:=p;exact jS kitx_tuple W5 ⟨o,g1,g2⟩ h1 e (λz=>nomatch z) fin
 | @dK a' kvs ea=>
  cases (show u=Value.ref a' from ru);obtain⟨_,_,vs,_,p⟩:=(show bJ X.prog X.w H s.heap a' (.dK kvs) from I.WJ a' _ ea);obtain⟨o,es,ep,g1,g2,_⟩:=p;exact jS kitx_dict W5 ⟨o,g1,g2.1⟩ h1 e (λz=>nomatch z) fin
 | @dT a' kvs ea=>
  cases (show u=Value.ref a' from ru);obtain⟨_,_,xs,_,o,es,ep,g1,g2,_⟩:=(show bJ X.prog X.w H s.heap a' (.dT kvs) from I.WJ a' _ ea);exact jS kitx_dict W5 ⟨o,g1,g2.1⟩ h1 e (λz=>nomatch z) fin
 | @ins a' C dx fs ea cl ha hn htk hm=>
  cases (show u=Value.ref a' from ru);obtain⟨mA,O,_⟩:=kb I.WJ ea;obtain⟨od,J,_⟩:=O.look;exact jS (kitx_own (cl.get _) cl.hd ha hn htk hm) W5 J h1 e (λz=>nomatch z) fin
end
end
section
section
variable {κ:Type} [DecidableEq κ]
def eL (kvs:List (κ×V))(k:κ):Option V:=(kvs.find? λkv=>decide (kv.1=k)).map (·.2)
def putK (kvs:List (κ×V))(k:κ)(v:V):List (κ×V):=
 if (kvs.any λkv=>decide (kv.1=k))=true then kvs.map (λkv=>if kv.1=k then (kv.1,v) else kv) else kvs++[(k,v)]
theorem eN {p:κ×V}{r:List (κ×V)}{k:κ}(e:p.1=k):eL (p::r) k=some p.2:=by simp[eL,gN,e]
theorem dU {p:κ×V}{r:List (κ×V)}{k:κ}(e:¬p.1=k):eL (p::r) k=eL r k:=by simp[eL,gN,e]
theorem iS (k:κ):∀kvs:List (κ×V),(kvs.any λkv=>decide (kv.1=k))=(eL kvs k).isSome
 | []=>rfl
 |p::r=>by
  rw[cX]
  by_cases e:p.1=k
  ·simp only[eN e,decide_eq_true e,Bool.true_or,Option.isSome_some]
  ·rw[dU e,decide_eq_false e,Bool.false_or];exact iS k r
theorem il (kvs:List (κ×V))(k:κ)(v:V):(putK kvs k v).length<=kvs.length+1:=by
 unfold putK;split
 ·rw[aP];lia
 ·rw[bE,aN,cY];lia
theorem gr.iQ {o:Option V}{u:Option af}(r:gr o u):o.isSome=u.isSome:=by
 cases o with
 |none=>cases u with
  |none=>rfl
  |some _=>exact(show False from r).elim
 |some _=>cases u with
  |none=>exact(show False from r).elim
  |some _=>rfl
theorem gr.getD {o:Option V}{u:Option af}{d:V}{d':af}(r:gr o u)(rd:RelV d d'):RelV (o.getD d) (u.getD d'):=by
 cases o with
 |none=>cases u with
  |none=>exact rd
  |some _=>exact(show False from r).elim
 |some _=>cases u with
  |none=>exact(show False from r).elim
  |some _=>exact r
theorem KV.val {kvs:List (κ×V)}{vs:List (κ×af)}(r:KV kvs vs)(k:κ):gr (eL kvs k) (valueAt vs k):=by
 unfold KV at r
 induction r with
 |nil=>exact True.intro
 | @cons p q ps qs h t ih=>
  obtain⟨h1,h2⟩:=h
  by_cases e:p.1=k
  ·have e':q.1=k:=h1.symm.trans e;have b:valueAt (q::qs) k=some q.2:=by simp[valueAt,gN,e']
   rw[eN e,b];exact h2
  ·have e':¬q.1=k:=λz=>e (h1.trans z);have b:valueAt (q::qs) k=valueAt qs k:=by simp[valueAt,gN,e']
   rw[dU e,b];exact ih
theorem KV.any {kvs:List (κ×V)}{vs:List (κ×af)}(r:KV kvs vs)(k:κ):(kvs.any λkv=>decide (kv.1=k))=vs.any λkv=>decide (kv.1=k):=by
 unfold KV at r
 induction r with
 |nil=>rfl
 |cons h t ih=>rw[cX,cX,ih,h.1]
theorem KV.Nx {kvs:List (κ×V)}{vs:List (κ×af)}(r:KV kvs vs)(k:κ){y:V}(ry:RelV y u):
  KV (kvs.map λkv=>if kv.1=k then (kv.1,y) else kv) (vs.map λkv=>if kv.1=k then (kv.1,u) else kv):=by
 unfold KV at r ⊢
 induction r with
 |nil=>exact .nil
 | @cons p q ps qs h t ih=>
  rw[aM,aM];refine .cons ?_ ih;obtain⟨h1,h2⟩:=h
  by_cases e:p.1=k
  ·rw[if_pos e,if_pos (h1.symm.trans e)];exact⟨h1,ry⟩
  ·rw[if_neg e,if_neg (λz=>e (h1.trans z))];exact⟨h1,h2⟩
theorem KV.put {kvs:List (κ×V)}{vs:List (κ×af)}(r:KV kvs vs)(k:κ){y:V}(ry:RelV y u):KV (putK kvs k y) (stored vs k u):=by
 unfold putK stored;rw[r.any k]
 by_cases e:(vs.any λkv=>decide (kv.1=k))=true
 ·rw[if_pos e,if_pos e];exact r.Nx k ry
 ·rw[if_neg e,if_neg e];exact Paired.snoc r ⟨rfl,ry⟩
theorem KV.length {kvs:List (κ×V)}{vs:List (κ×af)}(r:KV kvs vs):kvs.length=vs.length:=Paired.length r
end
theorem iL {P:aI}{k:Key}(r:RelV (kV k) u):(bZ P w).is k u=true:=by
 cases k with
 |inl i=>obtain⟨t,e⟩:=(show ∃t,u=Value.int i t from r);subst e;exact yf P w i t
 |inr x=>obtain⟨t,e⟩:=(show ∃t,u=Value.str x t from r);subst e;exact ye P w x t
theorem uZ {P:aI}{w:aZ}:∀{ks:List Key}{us:List af},bA (ks.map kV) us->ItemsAre (bZ P w) ks us
 | [],_,r=>by rw[bV]at r;cases r;exact .nil
 |k::ks,_,r=>by
  rw[aM]at r;cases r with
  |cons h t=>exact .cons (iL h) (uZ t)
abbrev KT (H:Hp):List (List Key×V)->List (List Key×Addr×af)->Prop:=Paired λp q=>p.1=q.1/\H q.2.1=some (.tup (p.1.map kV))/\RelV p.2 q.2.2
theorem KT.val {kvs:List (List Key×V)}{xs:List (List Key×Addr×af)}(r:KT H kvs xs)(k:List Key):gr (eL kvs k) ((atKey xs k).map (·.2)):=by
 induction r with
 |nil=>exact True.intro
 | @cons p q ps qs h t ih=>
  obtain⟨h1,_,h2⟩:=h
  by_cases e:p.1=k
  ·have e':q.1=k:=h1.symm.trans e;have b:atKey (q::qs) k=some q.2:=by simp[atKey,gN,e']
   rw[eN e,b];exact h2
  ·have e':¬q.1=k:=λz=>e (h1.trans z);have b:atKey (q::qs) k=atKey qs k:=by simp[atKey,gN,e']
   rw[dU e,b];exact ih
theorem KT.Nx {kvs:List (List Key×V)}{xs:List (List Key×Addr×af)}(r:KT H kvs xs)(k:List Key){y:V}(ry:RelV y u):
  KT H (kvs.map λkv=>if kv.1=k then (kv.1,y) else kv) (xs.map (putAt k u)):=by
 induction r with
 |nil=>exact .nil
 | @cons p q ps qs h t ih=>
  rw[aM,aM];refine .cons ?_ ih;obtain⟨h1,h2,h3⟩:=h;unfold putAt
  by_cases e:p.1=k
  ·rw[if_pos e,if_pos (h1.symm.trans e)];exact⟨h1,h2,ry⟩
  ·rw[if_neg e,if_neg (λz=>e (h1.trans z))];exact⟨h1,h2,h3⟩
theorem KT.put {kvs:List (List Key×V)}{xs:List (List Key×Addr×af)}(r:KT H kvs xs)(k:List Key){b:Addr}{y:V}(hb:H b=some (.tup (k.map kV)))(ry:RelV y u):
  KT H (putK kvs k y) (storedH xs k b u):=by
 have e:(kvs.any λkv=>decide (kv.1=k))=(atKey xs k).isSome:=by
  rw[iS,(r.val k).iQ,uf]
 unfold putK storedH;rw[e]
 by_cases q:(atKey xs k).isSome=true
 ·rw[if_pos q,if_pos q];exact r.Nx k ry
 ·rw[if_neg q,if_neg q];exact Paired.snoc r ⟨rfl,hb,ry⟩
theorem KT.keeps {kvs:List (List Key×V)}{xs:List (List Key×Addr×af)}(r:KT H kvs xs)(ht:∀b ys,H b=some (.tup ys)->H' b=some (.tup ys)):KT H' kvs xs:=
 Paired.Kv r λ_ _ z=>⟨z.1,ht _ _ z.2.1,z.2.2⟩
section
variable {P:aI}{w:aZ}{H:Hp}{h:Heap}{a:Addr}
theorem LA {u:HO}(ok:Xo P w H h)(e:Rd H a u):bJ P w H h a u:=e.ok ok
theorem jO (ok:Xo P w H h)(e:Rd H a (.dK kvs)):kvs.length<=au/\(a==sysModules)=false/\∃vs,KV kvs vs/\h.DictOf (bZ P w) a vs:=
 show bJ P w H h a (.dK kvs) from LA ok e
theorem sH (ok:Xo P w H h)(e:H a=some (.dK kvs)):kvs.length<=au/\(a==sysModules)=false/\∃vs,KV kvs vs/\h.DictOf (bZ P w) a vs:=jO ok (.inl e)
theorem j7 (ok:Xo P w H h)(e:H a=some (.tup (ks.map kV))):(tupleKind (bZ P w)).is h ks a:=by
 obtain⟨_,its,r,o,h1,h2,n,h3⟩:=(show bJ P w H h a (.tup (ks.map kV)) from ok a _ e);exact⟨o,its.toArray,n,h1,h2,h3,by simpa using uZ r⟩
theorem mJ {kvs:List (List Key×V)}(ok:Xo P w H h)(e:Rd H a (.dT kvs)):kvs.length<=au/\(a==sysModules)=false/\
  ∃xs,KT H kvs xs/\h.DictOfH (tupleKind (bZ P w)) a xs:=by
 obtain⟨z,y,xs,r,o,es,ep,h1,h2,h3,h4,h5⟩:=(show bJ P w H h a (.dT kvs) from LA ok e);refine⟨z,y,xs,r,o,es,ep,h1,h2,h3,h4,λx hx=>?_,h5⟩;have all:∀{l:List (List Key×V)}{m:List (List Key×Addr×af)},KT H l m->∀x∈m,(tupleKind (bZ P w)).is h x.1 x.2.1:=by
  intro l m q
  induction q with
  |nil=>intro x hx;exact nomatch hx
  | @cons p q ps qs hq t ih=>
   intro x hx;rcases List.mem_cons.mp hx with e |hx
   ·subst e;exact j7 ok (by rw[←hq.1];exact hq.2.1)
   ·exact ih x hx
 exact all r x hx
theorem Me {kvs:List (List Key×V)}(ok:Xo P w H h)(e:H a=some (.dT kvs)):kvs.length<=au/\(a==sysModules)=false/\
  ∃xs,KT H kvs xs/\h.DictOfH (tupleKind (bZ P w)) a xs:=mJ ok (.inl e)
end
def i8 (H:Hp)(a:Addr)(y:V)(r:Option V):Prop:=
 (∃kvs k,Rd H a (.dK kvs)/\y=kV k/\r=eL kvs k)\/∃kvs k b,Rd H a (.dT kvs)/\y=.ref b/\H b=some (.tup (k.map kV))/\r=eL kvs k
def A6 (H:Hp)(a:Addr)(y v:V)(H':Hp):Prop:=
 (∃kvs k,H a=some (.dK kvs)/\y=kV k/\kvs.length<au/\H'=upd H a (.dK (putK kvs k v)))\/
 ∃kvs k b,H a=some (.dT kvs)/\y=.ref b/\H b=some (.tup (k.map kV))/\kvs.length<au/\H'=upd H a (.dT (putK kvs k v))
theorem i8.k {H:Hp}{a:Addr}{kvs:List (Key×V)}{k:Key}(e:H a=some (.dK kvs)):i8 H a (kV k) (eL kvs k):=.inl ⟨kvs,k,.inl e,rfl,rfl⟩
theorem i8.t {b:Addr}{kvs:List (List Key×V)}{k:List Key}(e:H a=some (.dT kvs))(eb:H b=some (.tup (k.map kV))):i8 H a (.ref b) (eL kvs k):=.inr ⟨kvs,k,b,.inl e,rfl,eb,rfl⟩
theorem A6.k {H:Hp}{a:Addr}{kvs:List (Key×V)}{k:Key}{v:V}(e:H a=some (.dK kvs))(hl:kvs.length<au):A6 H a (kV k) v (upd H a (.dK (putK kvs k v))):=.inl ⟨kvs,k,e,rfl,hl,rfl⟩
theorem A6.t {b:Addr}{kvs:List (List Key×V)}{k:List Key}(e:H a=some (.dT kvs))(eb:H b=some (.tup (k.map kV)))(hl:kvs.length<au):
  A6 H a (.ref b) v (upd H a (.dT (putK kvs k v))):=.inr ⟨kvs,k,b,e,rfl,eb,hl,rfl⟩
section
variable {X:Cx}{pins:List (Addr×Obj)}{σ:St}{H:Hp}{s:ah}{a:Addr}{y v:V}{u r:af}{o:Option V}{A:br}{E:af->ah->Prop}
theorem Inv.big (I:Inv X pins σ H s):sysModules<s.heap.objs.size:=by
 have h:a8<s.heap.objs.size:=(I.mod.glob.keeps I.bk).lt;exact eh (by decide) h
theorem pG (hu:A.units+1<cLine)(I:Inv X pins σ H s)(g:i8 H a y (some v))(ry:RelV y u)(h:∀w' s',Inv X pins σ H s'->RelV v w'->Q w' s'):
  aq (model X.prog X.w) A (getItem (.ref a) u) Q E s:=by
 rcases g with ⟨kvs,k,e,ey,l⟩|⟨kvs,k,b,e,ey,eb,l⟩
 ·subst ey;obtain⟨z,hd,vs,rel,dd⟩:=jO I.WJ e;obtain⟨w',hw,XD⟩:=gr.lN (v:=v) (o:=valueAt vs k) (by rw[l];exact rel.val k);exact wpAny_getItem_of (iL ry) dd.mapOf hw (h w' _ (I.tok _) XD)
 ·subst ey;cases (show u=Value.ref b from ry);obtain⟨z,hd,xs,rel,dd⟩:=mJ I.WJ e;obtain⟨w',hw,XD⟩:=gr.lN (v:=v) (o:=(atKey xs k).map (·.2)) (by rw[l];exact rel.val k);obtain⟨p,hp,hp2⟩:=Option.map_eq_some_iff.mp hw;refine wpAny_getItem_heap (eG hu) (j7 I.WJ eb) dd hp ?_;rw[hp2];exact h w' _ (I.tok _) XD
theorem Sn (hu:A.units+1<cLine)(I:Inv X pins σ H s)(g:i8 H a y o)(ry:RelV y u)(h:∀s',Inv X pins σ H s'->Q (.bool o.isSome) s'):
  aq (model X.prog X.w) A (bc .In u (.ref a)) Q E s:=by
 rcases g with ⟨kvs,k,e,ey,l⟩|⟨kvs,k,b,e,ey,eb,l⟩
 ·subst ey;obtain⟨z,hd,vs,rel,dd⟩:=jO I.WJ e;refine wpAny_in_of (iL ry) hd dd.mapOf ?_;rw[←(rel.val k).iQ,←l];exact h _ (I.tok _)
 ·subst ey;cases (show u=Value.ref b from ry);obtain⟨z,hd,xs,rel,dd⟩:=mJ I.WJ e;refine wpAny_in_heap (eG hu) (j7 I.WJ eb) hd dd ?_;have q:=(rel.val k).iQ;rw[uf]at q;rw[←q,←l];exact h _ (I.tok _)
theorem Cf (hu:A.units+1<cLine)(I:Inv X pins σ H s)(g:i8 H a y o)(ry:RelV y u)(h:∀s',Inv X pins σ H s'->Q (.bool (!o.isSome)) s'):
  aq (model X.prog X.w) A (bc .NotIn u (.ref a)) Q E s:=by
 rcases g with ⟨kvs,k,e,ey,l⟩|⟨kvs,k,b,e,ey,eb,l⟩
 ·subst ey;obtain⟨z,hd,vs,rel,dd⟩:=jO I.WJ e;refine wpAny_notIn_of (iL ry) hd dd.mapOf ?_;rw[←(rel.val k).iQ,←l];exact h _ (I.tok _)
 ·subst ey;cases (show u=Value.ref b from ry);obtain⟨z,hd,xs,rel,dd⟩:=mJ I.WJ e;refine wpAny_notIn_heap (eG hu) (j7 I.WJ eb) hd dd ?_;have q:=(rel.val k).iQ;rw[uf]at q;rw[←q,←l];exact h _ (I.tok _)
theorem jq {h':Heap}{t':Nat}{ob:HO}(I:Inv X pins σ H s)(mu:Mut (H a))(hs:Heap.SameBut a s.heap h')(he:∃q,h'.get? a=some q)(new:bJ X.prog X.w (upd H a ob) h' a ob):
  Inv X pins σ (upd H a ob) { s with heap:=h',toks:=t' }:=
 I.write (x:=a) (e:=a) mu (.inl rfl) (λb q hb z=>(hs.2 b hb).trans z) he new
theorem mZ {P:aI}{h':Heap}{vs:List (Key×af)}(z:kvs.length<=au)(hd:(a==sysModules)=false)(rel:KV kvs vs)(dd:h'.DictOf (bZ P w) a vs):
  bJ P w H' h' a (.dK kvs):=⟨z,hd,vs,rel,dd⟩
end
section
variable {X:Cx}{pins:List (Addr×Obj)}{σ:St}{H:Hp}{s:ah}{a:Addr}{kvs:List (Key×V)}{k:Key}{u:af}{A:br}{E:af->ah->Prop}
theorem Sm (I:Inv X pins σ H s)(e:Rd H a (.dK kvs))(h:∀t s',Inv X pins σ H s'->Q (.int kvs.length t) s'):aq (model X.prog X.w) A (call (.builtin "len") [.ref a]) Q E s:=by
 obtain⟨z,hd,vs,rel,dd⟩:=jO I.WJ e;refine call_len_dict hd dd (by rw[←rel.length];rw[bT]at z;lia) ?_;rw[←rel.length];exact h _ _ (I.tok _)
end
def IU (i:Expr):Prop:=∀ov iv,subscripted i false ov iv=operate [ov,iv] (getItem ov iv)
theorem Bz {E:af->ah->Prop}{env:Env}{T:String}
  (hl:typeLookup (.type T) "__getitem__"=pure (some (.builtin nid))) (hs:IU iter)
  (h:aq (model prog w) A (eval e env) (λo s₁=>aq (model prog w) A (eval iter env) (λi s₂=>s₂.TypeIs o T/\aq (model prog w) A (getItem o i) Q E s₂) E s₁) E s):
  aq (model prog w) A (eval (.Subscript e iter pos) env) Q E s:=by
 refine tw (aX h (λo s₁ h₁=>aX h₁ (λi s₂ h₂=>?_) λ_ _ x=>x) λ_ _ x=>x);obtain⟨hT,h₂⟩:=h₂;unfold subscriptTail;refine aa ?_;rw[getitemInPython_of_ne hT.not_modules];refine aa (eQ hT hl ?_);have fin:aq (model prog w) A (subscripted iter false o i) (λr s₃=>aq (model prog w) A (letTemporaryGo e o r >>=λ_=>pure r) Q E s₃) E s₂:=by
  rw[hs o i];exact wpAny_operating (aX h₂ (λr s₃ h₃=>aa (wpAny_letTemporaryGo (ak h₃))) λ_ _ x=>x)
 first
  |exact ak (aa fin)
  |exact aa (ak (aa fin))
  |exact aa fin
theorem qg {y:V}{o:Option V}(I:Inv X pins σ H s)(g:i8 H a y o):s.TypeIs (.ref a) "dict":=by
 rcases g with ⟨kvs,k,e,_,_⟩|⟨kvs,k,b,e,_,_,_⟩
 ·obtain⟨_,_,vs,_,dd⟩:=jO I.WJ e;exact dd.typeIs
 ·obtain⟨_,_,xs,_,dd⟩:=mJ I.WJ e;exact dd.typeIs
theorem sJ {P:aI}(h:Heap)(hb:sysModules<h.objs.size):bJ P w H (h.push { cls:=.type "dict",data:=.dict #[] }) h.objs.size (.dK []):=
 ⟨bG _,beq_eq_false_iff_ne.mpr (Ne.symm (aT hb)),[],.nil,Heap.DictOf.new h⟩
theorem yI {P:aI}(h:Heap)(hb:sysModules<h.objs.size):bJ P w H (h.push { cls:=.type "dict",data:=.dict #[] }) h.objs.size (.dT []):=
 ⟨bG _,beq_eq_false_iff_ne.mpr (Ne.symm (aT hb)),[],.nil,_,#[],0,aB _ rfl,⟨rfl,rfl,rfl⟩,rfl,rfl,eI⟩
def EW:TE:=λ_ H Q=>∀p,H p=none->Q (.ref p) (upd H p (.dK []))
def kX (kvs more:List (Key×V)):List (Key×V):=more.foldl (λacc kv=>putK acc kv.1 kv.2) kvs
theorem KV.merge:∀{more:List (Key×V)}{rs:List (Key×af)}{kvs:List (Key×V)}{vs:List (Key×af)},KV more rs->KV kvs vs->KV (kX kvs more) (merged vs rs):=by
 intro more rs kvs vs r;unfold KV at r
 induction r generalizing kvs vs with
 |nil=>intro q;exact q
 | @cons p q ps qs h t ih=>
  intro r0;have e:KV (putK kvs p.1 p.2) (stored vs q.1 q.2):=by
   have:=r0.put p.1 h.2;rw[←h.1];exact this
  exact ih e
structure M1 (X:Cx)(o:Expr)(m:Str)(apos:Pos)(e:Expr)(bO:Pos):Prop where
 base:attributeBase o m X.env (eval o X.env)=eval o X.env
 few:((backTo bO (ay [e] X.env)).all (λx=>!x.1)&&(backToKw bO (keywordEach [] X.env)).all (λx=>x.1.isSome)
  &&decide (([e]:List Expr).length+([]:List Keyword).length+(if ([]:List Keyword).isEmpty then 0 else 1)<30))=true
 line:(apos.endLine==bO.line)=true
 trees:backTo bO (ay [e] X.env)=[(false,eval e X.env)]
section
variable {X:Cx}
theorem DU:cu X (.builtin "len") (λxs H Q=>∃a kvs,xs=[V.ref a]/\H a=some (.dK kvs)/\Q (.int kvs.length) H):=by
 intro pins s σ H xs us Q I r h;obtain⟨a,kvs,rfl,ha,q⟩:=h;obtain⟨u,rfl,ru⟩:=vals1 r;cases ru;exact Sm I (.inl ha) λt s' I'=>⟨.int kvs.length,H,I',⟨t,rfl⟩,q⟩
end
end
def Its (x:Str):It:=⟨λi _=>i<x.cps.size,λi H v H'=>H'=H/\∃c,x.cps[i]?=some c/\v=.str ⟨#[c]⟩,λi _=>i=x.cps.size⟩
theorem Em {P:aI}{K:Frag}(x:Str)(t:Tok)(it:Addr):Turn P w K iter (Its x) [it] it (λi h=>h.IsStrIter it (strIterType x) x t i) where
 mem:=by simp
 obj:=λi h st b hb=>by
  have e:b=it:=by simpa using hb
  subst e;obtain⟨o,e,c,d⟩:=st;exact⟨o,e,λv z=>by rw[d]at z;cases z⟩
 keep:=λi h h' st k=>by
  obtain⟨o,e,r⟩:=st;exact⟨o,k it (by simp) o e,r⟩
 item:=by
  intro X hP hw hK hc i pins s σ H E I hf st hg;subst hP hw hK;obtain⟨f0,f1,f2,f3,f4,f5⟩:=hf it (by simp);have fin:∀h':Heap,h'.IsStrIter it (strIterType x) x t (i+1)->Heap.SameBut it s.heap h'->∀c,x.cps[i]?=some c->∀tk:Tok,∃u:af,some (Value.str ⟨#[c]⟩ tk)=some u/\
    aq (model X.prog X.w) X.A (letOwnedTupleGo iter (.ref it) u) (λ_ s2=>∃v H',Inv X pins σ H' s2/\RelV v u/\(Its x).yld i H v H'/\s2.heap.IsStrIter it (strIterType x) x t (i+1)/\∀b∈[it],H' b=none) E { s with heap:=h',toks:=s.toks+1 }:=by
   intro h' st' sb c hx tk;have I1:Inv X pins σ H { s with heap:=h',toks:=s.toks+1 }:=I.turned (t':=s.toks+1) (λb o hb e=>(sb.2 b hb).trans e) f0 f1 f3 f4 f5;obtain⟨o,e,cc,d⟩:=id st';exact⟨_,rfl,B6 (s:={ s with heap:=h',toks:=s.toks+1 }) e cc d (by unfold strIterType;split<;>decide) ⟨.str ⟨#[c]⟩,H,I1,⟨tk,rfl⟩,⟨rfl,c,hx,rfl⟩,st',λb hb=>(hf b hb).1⟩⟩
  have hi:i<x.cps.size:=hg;cases ha:x.cps.all (·<128) with
  |true=>
   have e:strIterType x="str_ascii_iterator":=by unfold strIterType;rw[ha];rfl
   rw[e]at fin;have st:s.heap.IsStrIter it (strIterType x) x t i:=st;rw[e]at st;refine wpAny_pyNext_ascii_item st (c:=x.cps[i]) (by simp[hi]) λh' st' sb=>?_;simp only[e];exact fin h' st' sb _ (by simp[hi]) _
  |false=>
   have e:strIterType x="str_iterator":=by unfold strIterType;rw[ha];rfl
   rw[e]at fin;have st:s.heap.IsStrIter it (strIterType x) x t i:=st;rw[e]at st;refine wpAny_pyNext_wide_item st (c:=x.cps[i]) (by simp[hi]) λh' st' sb=>?_;simp only[e];exact fin h' st' sb _ (by simp[hi]) _
 done:=by
  intro X hP hw hK hc i pins s σ H E I hf st hg;subst hP hw hK;obtain⟨f0,f1,f2,f3,f4,f5⟩:=hf it (by simp);have st:s.heap.IsStrIter it (strIterType x) x t i:=st;have hi:i=x.cps.size:=hg;cases ha:x.cps.all (·<128) with
  |true=>
   have e:strIterType x="str_ascii_iterator":=by unfold strIterType;rw[ha];rfl
   rw[e]at st;exact wpAny_pyNext_ascii_end (I.ok.hd hc) st (by simp[hi]) λh' eb=>⟨rfl,I.turned (t':=s.toks) (λb o hb e=>eb b o hb e) f0 f1 f3 f4 f5⟩
  |false=>
   have e:strIterType x="str_iterator":=by unfold strIterType;rw[ha];rfl
   rw[e]at st;exact wpAny_pyNext_wide_end (I.ok.hd hc) st (by simp[hi]) λh' eb=>⟨rfl,I.turned (t':=s.toks) (λb o hb e=>eb b o hb e) f0 f1 f3 f4 f5⟩
 self:=λA i s Q E st h=>by
  have st:s.heap.IsStrIter it (strIterType x) x t i:=st;cases ha:x.cps.all (·<128) with
  |true=>
   have e:strIterType x="str_ascii_iterator":=by unfold strIterType;rw[ha];rfl
   rw[e]at st;exact wpAny_pyIter_striter_ascii st h
  |false=>
   have e:strIterType x="str_iterator":=by unfold strIterType;rw[ha];rfl
   rw[e]at st;exact wpAny_pyIter_striter_wide st h
def RI (tl:TE):TI:=λσ H R=>tl σ H λv H1=>∃x,v=.str x/\R (Its x) H1
theorem NS (hl:PE X l te):PI X iter l (RI te):=by
 intro pins s σ H R I h;refine WL (hl pins s σ H _ I h) λv s1 zq=>?_;obtain⟨y,H1,I1,r1,x,e,q⟩:=zq;subst e;obtain⟨t,rfl⟩:=r1;refine wpAny_pyIter_strU ?_;refine⟨s1.heap.objs.size,[s1.heap.objs.size],_,_,H1,rfl,I1.kept (t':=s1.toks) λb o e=>aj _ e,Em x t _,⟨_,aB _ rfl,rfl,rfl⟩,λb hb=>?_,q⟩;have e:b=s1.heap.objs.size:=by simpa using hb
 subst e;exact I1.tU (aw _) (I1.WJ.fresh (aw _))
def Ite (l:Addr):It:=
 ⟨λi H=>∃xs x,H l=some (.lst xs)/\xs[i]?=some x,λi H v H'=>∃a xs x,H a=none/\v=.ref a/\H l=some (.lst xs)/\xs[i]?=some x/\H'=upd H a (.tup [.int i,x]),λi H=>∃xs,H l=some (.lst xs)/\xs.length<=i⟩
theorem Cw {P:aI}{K:Frag}{x1}(l e it:Addr)(hne:e≠it):Turn P w K (.Tuple es x1 pos) (Ite l) [e,it] e (λi h=>(∃old,IsEnum h e it i old)/\h.IsListIter it l i) where
 mem:=by simp
 obj:=λi h st b hb=>by
  obtain⟨⟨old,st1⟩,o,e1,c,d⟩:=st;rcases List.mem_cons.mp hb with rfl|hb
  ·exact⟨_,st1,λv z=>by cases (show Data.fields _=Data.cell v from z)⟩
  ·obtain rfl:b=it:=by simpa using hb
   exact⟨o,e1,λv z=>by rw[d]at z;cases z⟩
 keep:=λi h h' st k=>by
  obtain⟨⟨old,st1⟩,XQ⟩:=st;exact⟨⟨old,k e (by simp) _ st1⟩,XQ.at λo e=>k it (by simp) o e⟩
 item:=by
  intro X hP hw hK hc i pins s σ H E I hf st hg;subst hP hw hK;obtain⟨⟨old,st1⟩,XQ⟩:=st;obtain⟨xs,x,hq,hx⟩:=hg;obtain⟨hz,its,n,rv,p⟩:=(show bJ X.prog X.w H s.heap l (.lst xs) from I.WJ l _ hq);obtain⟨u,hu,ru⟩:=rv.get hx;have fe:=hf e (by simp);have fi:=hf it (by simp);refine wpAny_pyNext_enum_item (items:=its.toArray) (x:=u) st1 XQ ⟨_,p,rfl,n,rfl⟩ (by simpa using hu) hne λh' a1 a2 a3 a4 a5=>?_;refine⟨_,rfl,wpAny_letOwnedTupleGo_enum a1 λh2 b1 sb=>?_⟩;have fresh:H s.heap.objs.size=none:=I.WJ.fresh (aw _);have sz:∀b o,s.heap.get? b=some o->b≠s.heap.objs.size:=λb o q=>aT (ax q);have keep:∀b o,s.heap.get? b=some o->b≠e->b≠it->h2.get? b=some o:=λb o q n1 n2=>(sb.2 b n1).trans (a5 b o n1 n2 q);have ne1:s.heap.objs.size≠e:=(sz e _ st1).symm;have ah1:h2.get? s.heap.objs.size=some { cls:=.type "tuple",data:=.seq #[.int i s.toks,u] }:=(sb.2 _ ne1).trans a3;have ac0:∀b,b∉[e,it]->b≠e/\b≠it:=λb z=>⟨λq=>z (by simp[q]),λq=>z (by simp[q])⟩;have tr:∀b o,H b=some o->b≠e/\b≠it:=λb o q=>⟨(λz=>by rw[z,fe.1]at q;cases q),(λz=>by rw[z,fi.1]at q;cases q)⟩;have un:Un (frs X.stack) [e,it] H (upd H s.heap.objs.size (.tup [.int i,x])) s.heap h2:={
   keep:=λb o q _ _ z=>keep b o q (ac0 b z).1 (ac0 b z).2
   slot:=λb o q _ _ z=>⟨o.slots,keep b o q (ac0 b z).1 (ac0 b z).2⟩
   free:=λb o q n _=>by rw[aQ (sz b o q)];exact n
   there:=λb o q z=>⟨o,keep b o q (ac0 b z).1 (ac0 b z).2⟩
   Xt:=λb ys q=>by rw[aQ (bh q fresh)];exact q
   Xp:=λb o ys q=>by rw[aQ (bh q fresh)];exact q
   Xu:=λb ps q=>⟨#[],by rw[aQ (bh q fresh),q];simp⟩ }
  have WJ:Xo X.prog X.w (upd H s.heap.objs.size (.tup [.int i,x])) h2:=λb o q=>by
   by_cases hb:b=s.heap.objs.size
   ·subst hb;rw[bu]at q;cases q;exact⟨(by show 2<=au;decide),[.int i s.toks,u],.cons ⟨_,rfl⟩ (.cons ru .nil),⟨_,ah1,rfl,0,rfl⟩⟩
   ·rw[aQ hb]at q;refine(I.WJ b o q).kQ (λc v hc hv=>?_) (λc hc=>by rw[aQ (bh hc fresh)];exact hc) λc ys hc=>by rw[aQ (bh hc fresh)];exact hc
    rcases hc with rfl|hc
    ·exact keep c v hv (tr c _ q).1 (tr c _ q).2
    ·exact keep c v hv (tr c _ hc).1 (tr c _ hc).2
  have J:=I.call (g':=s.gens) (d':=s.drawn) (t':=s.toks+1) (ch:=[e,it]) un WJ I.bare λb hb=>by
   have:=hf b hb;exact⟨this.2.2.2.1,this.2.1,this.2.2.2.2.1,this.2.2.2.2.2⟩
  refine⟨.ref s.heap.objs.size,_,J,rfl,⟨_,xs,x,fresh,rfl,hq,hx,rfl⟩,⟨⟨u,?_⟩,a2.extBut sb.extBut hne.symm⟩,λb hb=>?_⟩
  ·have e1:((i:Int)+1)=((i+1:Nat):Int):=by lia
   rw[←e1];exact b1
  ·rcases List.mem_cons.mp hb with rfl|hb
   ·rw[aQ ne1.symm];exact fe.1
   ·obtain rfl:b=it:=by simpa using hb
    obtain⟨o,q,_⟩:=XQ;rw[aQ (sz _ _ q)];exact fi.1
 done:=by
  intro X hP hw hK hc i pins s σ H E I hf st hg;subst hP hw hK;obtain⟨⟨old,st1⟩,XQ⟩:=st;obtain⟨xs,hq,hx⟩:=hg;obtain⟨hz,its,n,rv,p⟩:=(show bJ X.prog X.w H s.heap l (.lst xs) from I.WJ l _ hq);obtain⟨f0,f1,f2,f3,f4,f5⟩:=hf it (by simp);have hl:=rv.length;exact wpAny_pyNext_enum_end (items:=its.toArray) (I.ok.hd hc) st1 XQ ⟨_,p,rfl,n,rfl⟩ (by simp;lia) λh' eb=>⟨rfl,I.turned (t':=s.toks) (λb o hb e=>eb b o hb e) f0 f1 f3 f4 f5⟩
 self:=λ_ _ _ _ _ st h=>by
  obtain⟨⟨old,st1⟩,_⟩:=st;exact kJ st1 h
def L7 (ta:TA):TI:=λσ H R=>ta σ H λvs H1=>∃l,vs=[.ref l]/\(∃xs,H1 l=some (.lst xs))/\R (Ite l) H1
theorem JU {a:Expr}{x1}(hg:Gl X "enumerate")(hm:X.mg "enumerate"=none)(ha:PA X [a] ta)(hs:ay [a] X.env=[(false,eval a X.env)]:=by rfl):
  PI X (.Tuple es x1 apos) (.Call (.Name "enumerate" p) [a] [] pos) (L7 ta):=by
 intro pins s σ H R I h;refine qQ (fB I hg hm boot_enumerate (PyProof.Rows.callWith_type1 (WL (ha pos pins s σ H _ I h) λus s1 zq=>?_) hs rfl));obtain⟨vs,H1,I1,r1,q1⟩:=zq;obtain⟨l,e,⟨xs,hq⟩,q⟩:=q1;subst e;obtain⟨u,rfl,ru⟩:=vals1 r1;cases (show u=Value.ref l from ru);obtain⟨hz,its,n,rv,pp⟩:=(show bJ X.prog X.w H1 s1.heap l (.lst xs) from I1.WJ l _ hq);refine call_enumerate_1 (n:=n) pp λh' b1 b2 b3 b4=>?_;refine kJ b1 ?_;refine⟨s1.heap.objs.size+1,[s1.heap.objs.size+1,s1.heap.objs.size],_,_,H1,rfl,I1.kept (t':=s1.toks) b4,Cw l (s1.heap.objs.size+1) s1.heap.objs.size (Nat.succ_ne_self _),⟨⟨.none,b1⟩,b2⟩,λb hb=>?_,q⟩;rcases List.mem_cons.mp hb with rfl|hb
 ·exact I1.tU (cT _) (I1.WJ.fresh (cT _))
 ·obtain rfl:b=s1.heap.objs.size:=by simpa using hb
  exact I1.tU (aw _) (I1.WJ.fresh (aw _))
section
def zw (wi:TI)(g:TG)(tc:TT)(tk tv:TE)(nv:Nat)(ix:List Nat):TE:=λσ H Q=>wi σ H λJ H1=>∀D,H1 D=none->∃W:Nat->Nat->List (Key×V)->St->Hp->Prop,(∃m,W 0 m [] (eE nv ix σ) (upd H1 D (.dK [])))/\
 ∀i m ys σ' H',W i m ys σ' H'->(J.stop i H'/\Q (.ref D) H')\/(J.go i H'/\∀x H2,J.yld i H' x H2->g x σ' H2 λσ3 H3=>tc σ3 H3 λb H4=>
  if b=true then tk σ3 H4 λy H5=>tv σ3 H5 λz H6=>∃k,y=kV k/\H6 D=some (.dK ys)/\ys.length<au/\∃m',m'<m/\W (i+1) m' (putK ys k z) σ3 (upd H6 D (.dK (putK ys k z))) else ∃m',m'<m/\W (i+1) m' ys σ3 H4)
section
variable {prog:aI}{w:aZ}{A:br}{E:af->ah->Prop}{R:Result->ah->Prop}{s:ah}
theorem mK {it:af}{env:Env}(I:Nat->ah->Prop)
  (turn:∀n s,I n s->aq (model prog w) A (pyNext it) (λr s₁=>match r with
   |none=>R (.ok .next) s₁
   |some v=>aq (model prog w) A (letOwnedTupleGo elt it v) (λ_ s₁'=>aq (model prog w) A (assign elt env v) (λ_ s₂=>
     aq (model prog w) A (forIn es true λc r=>if r=true then do let ok ←isTrue c env (eval c env);pure (ForInStep.yield ok) else pure (ForInStep.yield r)) (λok s₃=>
      if ok=true then aq (model prog w) A (eval e env) (λkv s₄=>aq (model prog w) A (eval l env) (λvv s₅=>
       aq (model prog w) A (dictSet a kv vv) (λ_ s₆=>∃m,m<n/\I m s₆) (λ_ _=>False) s₅) (λ_ _=>False) s₄) (λ_ _=>False) s₃
      else ∃m,m<n/\I m s₃) (λ_ _=>False) s₂) (λ_ _=>False) s₁') (λ_ _=>False) s₁) (λ_ _=>False) s)
  (n:Nat) (h:I n s):
  codeAny (model prog w) A (.compLoop (.DictComp e l [⟨elt,iter,es,0⟩] scope pos) 0 it (.ref a) env) R s:=by
 refine m9 rfl I (λn s hI=>?_) n h;show aq _ A ((compTurn (.DictComp e l [⟨elt,iter,es,0⟩] scope pos) 0 it (.ref a) env).onRaise (λx=>do noteFrame x env;theTreesLotGoes x)) _ _ s;refine pP ?_;rw[compTurn_dict];refine aa (cg (aa (aX (turn n s hI) (λr s₁ h₁=>?_) λ_ _ h'=>h'.elim)));cases r with
 |none=>exact ak h₁
 |some v=>
  refine aa (aX h₁ (λ_ s₁' h₁'=>?_) λ_ _ h'=>h'.elim);refine aa (aX h₁' (λ_ s₂ h₂=>aa (aX h₂ (λok s₃ h₃=>?_) λ_ _ h'=>h'.elim)) λ_ _ h'=>h'.elim);cases ok with
  |false=>exact ak ⟨rfl,h₃⟩
  |true=>
   exact aa (aa (aX h₃ (λkv s₄ h₄=>aa (a9 (aX h₄ (λvv s₅ h₅=>aa (cg (a9 (aX h₅ (λ_ s₆ h₆=>ak ⟨rfl,h₆⟩) λ_ _ h'=>h'.elim)))) λ_ _ h'=>h'.elim))) λ_ _ h'=>h'.elim))
end
section
variable {X:Cx}{kx vx tg iter:Expr}{ifs:List Expr}{scope:Scope}{pos:Pos}{wi:TI}{g:TG}{tc:TT}{tk tv:TE}{vars:List Str}{ix:List Nat}
theorem Gz (hc:X.calm=true)(bq:List Str)(hix:ix.map (λi=>X.N.getD i "")=bq)(hlen:∀i∈ix,i<X.N.length)(ok:d7 scope X.env.scope vars bq=true)(nd:(vars++bq).Nodup)
  (hi:PI X tg iter wi) (hg:∀cl C fp s H,PG (W4 X scope (vars++bq) cl C fp s H) tg g) (ht:∀cl C fp s H,PTs (W4 X scope (vars++bq) cl C fp s H) ifs tc)
  (hk:∀cl C fp s H,PE (W4 X scope (vars++bq) cl C fp s H) kx tk) (hv:∀cl C fp s H,PE (W4 X scope (vars++bq) cl C fp s H) vx tv)
  (hs:∀x,foldedSetIterable iter X.env x=pure x:=by intro _;rfl):PE X (.DictComp kx vx [⟨tg,iter,ifs,0⟩] scope pos) (zw wi g tc tk tv vars.length ix):=by
 intro pins s σ H Q I h;obtain⟨h1,h2,h3⟩:=gb I ok;have okk:=ok;unfold d7 at okk;simp only[ag]at okk;show aq _ X.A (comprehension (.DictComp kx vx [⟨tg,iter,ifs,0⟩] scope pos) scope X.env _ newDict false (eval iter X.env)) _ _ s;refine cW (use:=none) rfl hs h1 h2 h3 (WL (hi pins s σ H _ I h) λv s1 h1'=>WL h1' λitv s2 h2'=>?_);obtain⟨it,fp,tn,J,H2,rfl,I2,T,XQ,f2,rd⟩:=h2';have hf:H2 s2.heap.objs.size=none:=I2.WJ.fresh (aw _);refine bC ?_;have I1:=I2.laid (a:=s2.heap.objs.size) (o:=.dK []) (h':=s2.heap.push { cls:=.type "dict",dict:=none,data:=.dict #[] }) (t':=s2.toks) (λb u e=>aj _ e) (aw _) (sJ s2.heap I2.big);obtain⟨W,⟨m0,w0⟩,turn⟩:=rd _ hf
 generalize hD:s2.heap.objs.size=D at *
 generalize hs3:({ s2 with heap:=s2.heap.push { cls:=.type "dict",dict:=none,data:=.dict #[] } }:ah)=s3 at *
 have st3:tn 0 s3.heap:=T.keep _ _ _ XQ λb hb o e=>by rw[←hs3];exact aj _ e
 have nD:∀b∈fp,b≠D:=λb hb z=>by
  obtain⟨o,e,_⟩:=T.obj _ _ XQ b hb;have:=ax e;rw[z,hD]at this;exact bw _ this
 have fo3:∀b∈fp,kh X pins (upd H2 D (.dK [])) b:=λb hb=>by
  obtain⟨a0,a1⟩:=f2 b hb;exact⟨by rw[aQ (nD b hb)];exact a0,a1⟩
 refine eA λh4 hh1=>?_;obtain⟨J0,st4,Xg,fin⟩:=jR (tk:=s3.toks+([]:List (Str×af)).length) bq hix hlen ok rfl rfl I1 T st3 fo3 hh1;have loop:∀s₄:ah,s₄={ s3 with heap:=h4,toks:=s3.toks+([]:List (Str×af)).length }->
   codeAny (model X.prog X.w) X.A (.compLoop (.DictComp kx vx [⟨tg,iter,ifs,0⟩] scope pos) 0 (.ref it) (.ref D) (compEnvC scope (bj (s3.heap.objs.size+1) scope.names (fX X.env scope.names [])) s3.heap.objs.size X.env)) (compPost (model X.prog X.w) X.A X.xe none (EP X pins σ Q) (.ref D) s3.heap.objs.size) s₄:=by
  rintro s₄ rfl;refine mK (λn s'=>∃i ys σ' H',Inv (Ww X scope (vars++bq) (fX X.env scope.names []) fp s3 (upd H2 D (.dK []))) [] σ' H' s'/\tn i s'.heap/\(∀b∈fp,H' b=none)/\W i n ys σ' H') ?_ m0 ⟨0,[],_,_,J0,st4,λb hb=>(fo3 b hb).1,w0⟩;rintro n s5 ⟨i,ys,σ5,H5,J5,t5,f5,w5⟩;rcases turn i n ys σ5 H5 w5 with ⟨stop,q⟩|⟨go,step⟩
  ·refine WL (T.done (Ww X scope (vars++bq) (fX X.env scope.names []) fp s3 (upd H2 D (.dK []))) rfl rfl rfl hc i [] s5 σ5 H5 _ J5 (Xg _ f5) t5 stop) λr s6 ⟨hr,J6⟩=>?_;subst hr;obtain⟨K1,⟨mm,K2⟩,K3⟩:=fin _ _ _ J6;exact⟨mm,K2,λh' sb=>⟨.ref D,H5,K1.turned (t':=s6.toks) (λb o hb e=>(sb.2 b hb).trans e) K3.1 K3.2.1 K3.2.2.2.1 K3.2.2.2.2.1 K3.2.2.2.2.2,rfl,q⟩⟩
  ·refine WL (T.item (Ww X scope (vars++bq) (fX X.env scope.names []) fp s3 (upd H2 D (.dK []))) rfl rfl rfl hc i [] s5 σ5 H5 _ J5 (Xg _ f5) t5 go) λr s6 zq=>?_;obtain⟨u,hr,h6⟩:=zq;subst hr;refine WL h6 λ_ s7 zq=>?_;obtain⟨x,H7,J7,r7,y7,t7,f7⟩:=zq;have J7':=J7.pinned (Xg _ f7) (T.obj _ _ t7);have XE:∀{σ' H' s'},Inv (Ww X scope (vars++bq) (fX X.env scope.names []) fp s3 (upd H2 D (.dK []))) ([]++gR fp s7.heap) σ' H' s'->tn (i+1) s'.heap/\∀b∈fp,H' b=none:=λ{σ' H' s'} Y=>
    ⟨T.keep _ _ _ t7 λb hb o e=>(Y.pin (b,o) (aD _ (aD _ (cZ hb e)))).1,λb hb=>by
     obtain⟨o,e,_⟩:=T.obj _ _ t7 b hb;exact(Y.pin (b,o) (aD _ (aD _ (cZ hb e)))).2.1⟩
   refine WL (hg _ _ _ _ _ _ s7 σ5 H7 x u _ J7' r7 (step x H7 y7)) λ_ s8 zq=>?_;obtain⟨σ8,H8,J8,q8⟩:=zq;refine WL (ht _ _ _ _ _ _ s8 σ8 H8 _ J8 q8) λb s9 zq=>?_;obtain⟨H9,J9,q9⟩:=zq;cases b with
   |false=>
    rw[if_neg aH]at q9 ⊢;obtain⟨m',hm,w'⟩:=q9;obtain⟨k1,k2⟩:=XE J9;exact⟨m',hm,i+1,ys,σ8,H9,J9.eW,k1,k2,w'⟩
   |true=>
    rw[if_pos rfl]at q9 ⊢;refine WL (hk _ _ _ _ _ _ s9 σ8 H9 _ J9 q9) λv s10 zq=>?_;obtain⟨y,H10,J10,r10,q10⟩:=zq;refine WL (hv _ _ _ _ _ _ s10 σ8 H10 _ J10 q10) λv2 s11 zq=>?_;obtain⟨z,H11,J11,r11,k,ek,hd,l11,m',hm,w'⟩:=zq;subst ek;obtain⟨zz,hsm,vs,rel,dd⟩:=sH J11.WJ hd;have hz:vs.length<=au:=by rw[←rel.length];exact zz
    have hl:(putK ys k z).length<=au:=by have:=il ys k z;lia
    refine wpAny_dictSet_pairs (hsz:=hz) (iL r10) dd λh' dd' hs'=>?_;have he:∃q,h'.get? D=some q:=let ⟨q,_,_,hq,_⟩:=dd';⟨q,hq⟩;have J12:=jq (t':=s11.toks+1) J11 (by rw[hd];exact True.intro) hs' he (mZ hl hsm (rel.put k r11) dd');obtain⟨k1,k2⟩:=XE J12;exact⟨m',hm,i+1,putK ys k z,σ8,_,J12.eW,k1,k2,w'⟩
 exact codeAny_compStart_dict (loop _ rfl) (T.self _ 0 _ _ _ st4 (loop _ rfl))
end
section
variable {X:Cx}
theorem vn {bs:List Bool}(r:bA (bs.map V.bl) us){v:af}(h:us[i]?=some v):∃b,bs[i]?=some b/\v=.bool b:=by
 induction bs generalizing us i with
 |nil=>cases r;cases i<;>cases h
 |cons b bs ih=>
  cases r with
  |cons a r=>
   cases i with
   |zero=>cases h;exact⟨b,rfl,a⟩
   |succ i=>exact ih r h
theorem all_range (bs:List Bool):(di bs.length).all (λi=>bs.getD i false)=bs.all id:=by
 induction bs with
 |nil=>rfl
 |cons b bs ih=>simp[List.range_succ_eq_map,List.all_map,Function.comp_def]at ih ⊢;rw[←ih]
theorem DY (hc:X.calm=true):cu X (.builtin "all") (λvs H Q=>∃(a:Addr)(bs:List Bool),vs=[.ref a]/\H a=some (.lst (bs.map V.bl))/\Q (.bl (bs.all id)) H):=by
 intro pins s σ H xs us Q I r h;obtain⟨a,bs,rfl,ha,q⟩:=h;obtain⟨u,rfl,ru⟩:=vals1 r;cases (show u=Value.ref a from ru);obtain⟨hz,its,n,rv,p⟩:=(show bJ X.prog X.w H s.heap a (.lst (bs.map V.bl)) from I.WJ a _ ha);have hl:its.length=bs.length:=by rw[←rv.length,aP]
 have isl:s.heap.IsList a its.toArray:=⟨_,p,rfl,n,rfl⟩;have na:a≠s.heap.objs.size:=aT (ax p);refine call_all_walk (iF isl ?_);refine⟨_,_,_,_,_,_,λi=>bs.getD i false,rfl,Walks.list (A:=X.A.in1) (I.ok.hd hc) s.heap.objs.size a na its.toArray,⟨⟨_,aB _ rfl,rfl,rfl⟩,isl.at λo e=>aj _ e⟩,?_,λh' tk k=>?_⟩
 ·intro i v s' Q' E' hv hq;obtain⟨b,hb,rfl⟩:=vn rv (by simpa using hv);have e:bs.getD i false=b:=by simp[dr,hb]
  have hq:Q' (bs.getD i false) s':=hq;rw[e]at hq;exact cC hq
 ·have e:(di its.toArray.size).all (λi=>bs.getD i false)=bs.all id:=by rw[az,hl];exact all_range bs
  rw[e];have fr:∀b o,s.heap.get? b=some o->h'.get? b=some o:=λb o e=>k b o (by simp;exact aT (ax e)) (aj _ e);exact⟨.bl (bs.all id),H,I.kept (t':=tk) fr,rfl,q⟩
end
end
section
def SSet (P:aI)(w:aZ)(a:Addr)(S:Str->Bool)(n:Nat):HO:=.ext λh=>h.SetOf (PySem.strKind P w) a S n
section
variable {P:aI}{w:aZ}{H:Hp}{h:Heap}{a:Addr}{S:Str->Bool}{n:Nat}
theorem BB (e:h.SetOf (PySem.strKind P w) a S n):bJ P w H h a (SSet P w a S n):=
 ⟨e,(let ⟨o,_,_,_,q,_⟩:=e;⟨o,q⟩),λh1 h2 ⟨o,es,ep,t,q,r⟩ k=>⟨o,es,ep,t,k _ q,r⟩⟩
theorem nu (WJ:Xo P w H h)(e:H a=some (SSet P w a S n)):h.SetOf (PySem.strKind P w) a S n:=(show bJ P w H h a (SSet P w a S n) from WJ a _ e).1
end
section
variable {X:Cx}
theorem str_is {k:Str}{t:Tok}:(PySem.strKind X.prog X.w).is k (.str k t)=true:=by
 show Value.isStrOf k (.str k t)=true;simp[Value.isStrOf]
theorem DO:cu X (.type "set") (λvs H Q=>vs=[]/\∀(a:Addr)(H':Hp),H a=none->H' a=some (SSet X.prog X.w a (λ_=>false) 0)->fD H H'->Q (.ref a) H'):=by
 intro pins s σ H xs us Q I r h;obtain⟨rfl,q⟩:=h;cases r;refine call_set_0 λled=>?_;have hf:H s.heap.objs.size=none:=I.WJ.fresh (aw _);have hS:(s.heap.push { cls:=.type "set",dict:=none,data:=.set #[] 0 (.fresh 0 0 led) }).SetOf (PySem.strKind X.prog X.w) s.heap.objs.size (λ_=>false) 0:=
  PyProof.Rows.SetOf_congr ((PyProof.Rows.setObjOf_fresh (knd:=PySem.strKind X.prog X.w) led).setOf (aB _ rfl) (by unfold scanBound;lia)) (λ_=>rfl) rfl
 exact⟨.ref s.heap.objs.size,_,I.laid (t':=s.toks) (λb u e=>aj _ e) (aw _) (BB hS),rfl,q _ _ hf bu (ig hf)⟩
def F3 (P:aI)(w:aZ)(g:Bool->Bool):R2:=λx y H Q=>∃k a S n,x=.str k/\y=.ref a/\H a=some (SSet P w a S n)/\Q (.bl (g (S k))) H
theorem GE:WV X (bc .In) (F3 X.prog X.w id):=by
 intro pins s σ H x y v u Q I rx ry h;obtain⟨k,a,S,n,rfl,rfl,ha,q⟩:=h;obtain⟨t,rfl⟩:=rx;cases ry;exact wpAny_inSet_of str_is rfl (nu I.WJ ha) ⟨.bl (S k),H,I.tok _,rfl,q⟩
theorem uM:WV X (bc .NotIn) (F3 X.prog X.w not):=by
 intro pins s σ H x y v u Q I rx ry h;obtain⟨k,a,S,n,rfl,rfl,ha,q⟩:=h;obtain⟨t,rfl⟩:=rx;cases ry;exact wpAny_notInSet_of str_is rfl (nu I.WJ ha) ⟨.bl (!S k),H,I.tok _,rfl,q⟩
def Ew (P:aI)(w:aZ)(to:TE)(t:TA):TE:=λσ H Q=>to σ H λx H1=>∃a S n,x=.ref a/\H1 a=some (SSet P w a S n)/\t σ H1 λvs H2=>∃k S2 n2,vs=[.str k]/\H2 a=some (SSet P w a S2 n2)/\n2+1<4096/\
 Q .WN (upd H2 a (SSet P w a (λk'=>S2 k'||decide (k'=k)) (if S2 k then n2 else n2+1)))
theorem JY {o:Expr}{t:TA}(ho:PE X o to)(ha:PA X [e] t)
  (ab3:attributeBase o "add" X.env (eval o X.env)=eval o X.env:=by rfl)
  (ai8:((backTo bO (ay [e] X.env)).all (λx=>!x.1)&&(backToKw bO (keywordEach [] X.env)).all (λx=>x.1.isSome)
   &&decide ([e].length+([]:List Keyword).length+(if ([]:List Keyword).isEmpty then 0 else 1)<30))=true:=by rfl)
  (ab4:(apos.endLine==bO.line)=true:=by rfl) (hs:ay [e] X.env=[(false,eval e X.env)]:=by rfl):
  PE X (.Call (.Attribute o "add" apos) [e] [] bO) (Ew X.prog X.w to t):=by
 intro pins s σ H Q I h;refine wpAny_Call_method_late ab3 ai8 ab4 rfl (WL (ho pins s σ H _ I h) λv s1 zq=>?_);obtain⟨x,H1,I1,r1,a,S,n,ex,ea,q1⟩:=zq;subst ex;cases (show v=Value.ref a from r1);have st:=nu I1.WJ ea;refine⟨"set","set.add",F.plainAttrs_set,F.slot_set_add,F.type_set_add,st.typeIs,st.noDict,?_⟩;have hA:=ha bO pins s1 σ H1 _ I1 q1;rw[hs]at hA ⊢;refine cQ rfl (dO ?_);refine WL hA λus s2 zq=>?_;obtain⟨vs,H2,I2,r2,k,S2,n2,ev,ea2,hn,q2⟩:=zq;subst ev;obtain⟨u,rfl,ru⟩:=vals1 r2;obtain⟨t,rfl⟩:=ru;refine call_set_add str_is rfl (nu I2.WJ ea2) (by unfold scanBound;lia) λh' sb hS=>?_;have he:∃q,h'.get? a=some q:=let ⟨o,_,_,_,q,_⟩:=hS;⟨o,q⟩;exact⟨.WN,_,I2.write (t':=s2.toks+1) (x:=a) (e:=a) (by rw[ea2];exact True.intro) (.inl rfl) (λb q hb z=>(sb.2 b hb).trans z) he (BB hS),rfl,q2⟩
end
end
section
structure Fn (K:Frag)(mg:Str->Option af)(x:Str)(st:Stmt)(ps:List Str):Prop where
 ex:∃f fd,Fun K x x st f fd/\mg x=some (.ref f)/\Binds K fd ps []
structure Callee (P:aI)(w:aZ)(K:Frag)(mg:Str->Option af)(base:Heap)(k:Nat)(x:Str)(ps:List Str)(sp:Sp):Prop where
 ex:∃f fd,d8 P w K mg base CX0 k f fd ps sp/\mg x=some (.ref f)/\keepIn K (.ref f)=true/\Binds K fd ps []
section
variable {P:aI}{w:aZ}{K:Frag}{mg:Str->Option af}{base:Heap}{k:Nat}{x:Str}{st:Stmt}{ps N:List Str}{sp:Sp}
theorem Fn.ok (F:Fn K mg x st ps)(S:eC N ps (aW st))(len:∀vs H Q E,sp vs H Q E->vs.length=ps.length)
  (Xv:∀(f:Addr)(W7:af)(A:br)(outer:List Env)(s:ah)(H:Hp)(vs:List V)(Q:VK)(E:XK),c8 k (A.deeper (envOfC x (aW st) s.heap.objs.size f W7))->sp vs H Q E->
   ∃t,PSs (pH CX0 P w K mg base N x (aW st) f W7 A outer s H E).nox (cf st) t/\t { nx:=λ_ H'=>Q .WN H',rt:=Q } (start N vs) H):Callee P w K mg base (k+1) x ps sp:=by
 obtain⟨f,fd,h1,h2,h3⟩:=F.ex;exact⟨f,fd,h1.ok S len λW7 A outer s H vs Q E hr h=>Xv f W7 A outer s H vs Q E hr h,h2,h1.kp,h3⟩
end
section
variable {X:Cx}{j k:Nat}{ps:List Str}{sp:Sp}{W:Addr->St->Hp->Prop}{x:Str}{p pos:Pos}{e:Expr}{es:List Expr}{t:TA}
def wL:TE:=λ_ _ _=>False
theorem eX:PE X e wL:=λ_ _ _ _ _ _ h=>h.elim
end
section
variable {X:Cx}{elt kx vx tg iter:Expr}{ifs:List Expr}{scope:Scope}{pos:Pos}{wi:TI}{g:TG}{tc:TT}{te tk tv:TE}{vars:List Str}{ix:List Nat}
theorem GA (bq:List Str)(hix:ix.map (λi=>X.N.getD i "")=bq)(hlen:ix.all (λi=>decide (i<X.N.length))=true)(ok:d7 scope X.env.scope vars bq=true)(nd:(vars++bq).Nodup)(hc:X.calm=true)
  (hi:PI X tg iter wi) (hg:∀cl C fp s H,PG (W4 X scope (vars++bq) cl C fp s H) tg g) (ht:∀cl C fp s H,PTs (W4 X scope (vars++bq) cl C fp s H) ifs tc) (he:∀cl C fp s H,PE (W4 X scope (vars++bq) cl C fp s H) elt te)
  (hs:∀x,foldedSetIterable iter X.env x=pure x):PE X (.ListComp elt [⟨tg,iter,ifs,0⟩] scope pos) (xC wi g tc te vars.length ix):=
 Kd hc bq hix (λi hi=>of_decide_eq_true (List.all_eq_true.mp hlen i hi)) ok nd hi hg ht he hs
theorem uJ (bq:List Str)(hix:ix.map (λi=>X.N.getD i "")=bq)(hlen:ix.all (λi=>decide (i<X.N.length))=true)(ok:d7 scope X.env.scope vars bq=true)(nd:(vars++bq).Nodup)(hc:X.calm=true)
  (hi:PI X tg iter wi) (hg:∀cl C fp s H,PG (W4 X scope (vars++bq) cl C fp s H) tg g) (ht:∀cl C fp s H,PTs (W4 X scope (vars++bq) cl C fp s H) ifs tc)
  (hk:∀cl C fp s H,PE (W4 X scope (vars++bq) cl C fp s H) kx tk) (hv:∀cl C fp s H,PE (W4 X scope (vars++bq) cl C fp s H) vx tv)
  (hs:∀x,foldedSetIterable iter X.env x=pure x):PE X (.DictComp kx vx [⟨tg,iter,ifs,0⟩] scope pos) (zw wi g tc tk tv vars.length ix):=
 Gz hc bq hix (λi hi=>of_decide_eq_true (List.all_eq_true.mp hlen i hi)) ok nd hi hg ht hk hv hs
theorem Gd (hN:X.N.Nodup)(hiy:X.N[i]?=some y)(hy:X.env.scope.names.lookup y=some .local)(hsw:swapsWith (.ListComp elt [⟨tg,iter,ifs,0⟩] scope pos) (some (.Name y p)) apos.line X.env=pure true)
  (bq:List Str) (hix:ix.map (λi=>X.N.getD i "")=bq) (hlen:ix.all (λi=>decide (i<X.N.length))=true) (ok:d7 scope X.env.scope vars bq=true) (nd:(vars++bq).Nodup) (hc:X.calm=true)
  (hi:PI X tg iter wi) (hg:∀cl C fp s H,PG (W4 X scope (vars++bq) cl C fp s H) tg g) (ht:∀cl C fp s H,PTs (W4 X scope (vars++bq) cl C fp s H) ifs tc) (he:∀cl C fp s H,PE (W4 X scope (vars++bq) cl C fp s H) elt te)
  (hs:∀x,foldedSetIterable iter X.env x=pure x):PS X (.Assign [.Name y p] (.ListComp elt [⟨tg,iter,ifs,0⟩] scope pos) apos) (CA (xC wi g tc te vars.length ix) (qd i)):=
 JM hN hiy hy hsw hc bq hix (λi hi=>of_decide_eq_true (List.all_eq_true.mp hlen i hi)) ok nd hi hg ht he hs
end
end
section
section
variable {X:Cx}
theorem mM:cu X (.type "list") (λxs H Q=>∃p ys,xs=[.ref p]/\(Xc X.K H p ys\/Xd X.K H p ys)/\jh H (.lst ys) Q):=by
 intro pins s σ H xs us Q I r h;obtain⟨p,ys,h1,h2,q⟩:=h;exact wR pins s σ H xs us Q I r ⟨p,ys,h1,h2,q.upd⟩
theorem lH:cu X (.type "tuple") (λxs H Q=>∃p ys,xs=[.ref p]/\((Xc X.K H p ys/\jh H (.tup ys) Q)\/(Xd X.K H p ys/\Q (.ref p) H))):=by
 intro pins s σ H xs us Q I r h;obtain⟨p,ys,h1,h2⟩:=h;exact t6 pins s σ H xs us Q I r ⟨p,ys,h1,h2.imp (λ⟨a,b⟩=>⟨a,b.upd⟩) id⟩
def FZ (K:Frag):V->Option Int->Option Int->Hp->VK->Prop:=λx lo hi H Q=>∃a xs,x=.ref a/\Xd K H a xs/\
 ¬(HT.W8 xs.length 0 lo=0/\HT.W8 xs.length xs.length hi=xs.length)/\jh H (.tup (tX xs lo hi)) Q
theorem BC:SlR X (FZ X.K):=by
 intro pins s σ H x v vl vu lo hi sl Q I rx hs pl pu h;obtain⟨a,xs,h1,h2,h3,q⟩:=h;exact Na pins s σ H x v vl vu lo hi sl Q I rx hs pl pu ⟨a,xs,h1,h2,h3,q.upd⟩
theorem KM:PIp X .Mult (λx y H Q=>∃i j,x=.int i/\y=.int j/\y0 i j/\Q (.int (i*j)) H):=by
 intro pins s σ H x y v u Q I r1 r2 h;obtain⟨i,j,e1,e2,c,q⟩:=h;subst e1;subst e2;obtain⟨t,rfl⟩:=r1;obtain⟨t',rfl⟩:=r2;exact imul_int ⟨.int _,H,I.tok _,⟨_,rfl⟩,q⟩ c.ok
end
end
section
section
variable {X:Cx}{K:Frag}{P:aI}{w:aZ}(hK:X.K=K)
include hK
theorem rL (hl:PE X l te):PI X e l (B5 K te):=hK ▸ JT hl
theorem JS (hl:PE X l te):PI X e l (OG K te):=hK ▸ NR hl
theorem C0 {a:Expr}(ha:PE X a te)(he:∀whole,isTrue a X.env whole=(do let v ←whole;standAt a.pos;holding [v] (truthy v))):PT X a (λσ H Q=>te σ H λx H'=>∃k,IQ K x H' k/\Q k H'):=hK ▸ F8 ha he
end
end
section
mutual
inductive DN (B H:Hp):V->PyData->Prop where
 |WN:DN B H .WN .none
 |bl (b:Bool):DN B H (.bl b) (.bool b)
 |int (i:Int):DN B H (.int i) (.int i)
 |str (x:Str):DN B H (.str x) (.str x)
 |lst {a:Addr} {vs:List V} {ds:List PyData} (n:B a=none) (e:H a=some (.lst vs)) (r:eD B H vs ds):DN B H (.ref a) (.list ds)
 |tup {a:Addr} {vs:List V} {ds:List PyData} (e:H a=some (.tup vs)) (r:eD B H vs ds):DN B H (.ref a) (.tuple ds)
inductive eD (B H:Hp):List V->List PyData->Prop where
 |nil:eD B H [] []
 |cons {v:V} {d:PyData} {vs:List V} {ds:List PyData} (a:DN B H v d) (r:eD B H vs ds):eD B H (v::vs) (d::ds)
end
theorem eD.append {B H:Hp}:∀{vs ws:List V}{ds es:List PyData},eD B H vs ds->eD B H ws es->eD B H (vs++ws) (ds++es)
 |_,_,_,_,.nil,q=>q
 |_,_,_,_,.cons a r,q=>.cons a (r.append q)
theorem eD.length {B H:Hp}:∀{vs:List V}{ds:List PyData},eD B H vs ds->vs.length=ds.length
 |_,_,.nil=>rfl
 |_,_,.cons _ r=>by rw[aN,aN,r.length]
structure mf (K:Frag)(x qual:Str)(st:Stmt)(f:Addr)(fd:aK):Prop where
 ex:∃(oc:af)(od:Option Addr)(dV kV doc pm:af)(an:Option Addr)(W7 ct:af)(osl:Array (Option af)),
  fd=fnOf x qual (dA st) (cf st) (aW st) dV kV doc pm an W7 ct/\K.lookup f=some ⟨oc,od,.func fd,osl⟩/\codeIn K W7 qual=true
 kp:keepIn K (.ref f)=true
section
variable {P:aI}{w:aZ}{K:Frag}{mg:Str->Option af}{base:Heap}
theorem mf.ok {st:Stmt}{f:Addr}{N:List Str}{k:Nat}{sp:Sp}(F:mf K x c st f fd)(S:eC N bq (aW st))(len:∀vs H Q E,sp vs H Q E->vs.length=bq.length)
  (Xv:∀(W7:af)(A:br)(outer:List Env)(s:ah)(H:Hp)(vs:List V)(Q:VK)(E:XK),c8 k (A.deeper (envOfC c (aW st) s.heap.objs.size f W7))->sp vs H Q E->
   ∃t,PSs (pH CX0 P w K mg base N c (aW st) f W7 A outer s H E).nox (cf st) t/\t { nx:=λ_ H'=>Q .WN H',rt:=Q } (start N vs) H):d8 P w K mg base CX0 (k+1) f fd bq sp:=by
 obtain⟨oc,od,dV,kV,doc,pm,an,W7,ct,osl,rfl,lk,hcd⟩:=F.ex;refine Ca lk hcd S len λA outer s H vs Q E hr hsp=>?_;obtain⟨t,h,q⟩:=Xv W7 A outer s H vs Q E hr hsp;exact⟨t,h.nox,q⟩
end
end
section
structure KD (P:aI)(w:aZ)(K:Frag)(a:Addr)(kvs:List (Key×V)):Prop where
 sm:(a==sysModules)=false
 of:∃vs,KV kvs vs/\∀h,K.In h->h.DictOf (bZ P w) a vs
section
variable {X:Cx}{o e:Expr}{apos bO pos:Pos}{td ty:TE}{kvs:List (Key×V)}{a:Addr}
def Ez (kvs:List (Key×V))(ty:TE):TE:=λσ H Q=>ty σ H λy H1=>∃k,y=kV k/\Q ((eL kvs k).getD .WN) H1
def Ey (kvs:List (Key×V))(ty:TE):TE:=λσ H Q=>ty σ H λy H1=>∃k v,y=kV k/\eL kvs k=some v/\Q v H1
theorem Gv (D:KD X.prog X.w X.K a kvs)(ho:PE X o (tC (.ref a)))(he:PE X e ty)(m:M1 X o "get" apos e bO):PE X (.Call (.Attribute o "get" apos) [e] [] bO) (Ez kvs ty):=by
 intro pins s σ H Q I h;obtain⟨vs,rel,dof⟩:=D.of;refine iG m.base m.few m.line PySem.F.plainAttrs_dict PySem.F.slot_dict_get PySem.F.type_dict_get (WL (ho pins s σ H (λv H1=>v=.ref a/\H1=H) I ⟨rfl,rfl⟩) λu s1 zq=>?_);obtain⟨x,H1,I1,rx,ex,eH⟩:=zq;subst ex eH;obtain rfl:u=Value.ref a:=rx;have dd:=dof _ I1.W5;have nod:∀b,Value.ref a=.ref b->∃ob,s1.heap.get? b=some ob/\ob.dict=none:=λb z=>by
  cases z;obtain⟨q,es,ep,hq,ex,_⟩:=dd;exact⟨q,hq,ex.2.1⟩
 refine⟨dd.typeIs,nod,?_⟩;rw[m.trees];refine cQ rfl (dO (cD (WL (he pins s1 σ _ _ I1 h) λiv s2 zp0=>?_)));obtain⟨y,H2,I2,ry,k,ey,q2⟩:=zp0;refine dw ?_;subst ey;have dd2:=dof _ I2.W5;refine fF PySem.F.slot_dict_get dd2.typeIs PySem.F.entry_dict_get (PySem.F.args_dict_get_2 _ _) (meets_dict_get (bZ X.prog X.w) a (iL ry) D.sm) ⟨_,dd2.mapOf,?_⟩;exact⟨_,H2,I2.tok _,(rel.val k).getD (d:=.WN) rfl,q2⟩
theorem Gu (D:KD X.prog X.w X.K a kvs)(ho:PE X o (tC (.ref a)))(he:PE X e ty)(hs:IU e):PE X (.Subscript o e pos) (Ey kvs ty):=by
 intro pins s σ H Q I h;obtain⟨vs,rel,dof⟩:=D.of;refine Bz PySem.F.slot_dict_getitem.lookup hs (WL (ho pins s σ H (λv H1=>v=.ref a/\H1=H) I ⟨rfl,rfl⟩) λu s1 zq=>?_);obtain⟨x,H1,I1,rx,ex,eH⟩:=zq;subst ex eH;obtain rfl:u=Value.ref a:=rx;refine WL (he pins s1 σ _ _ I1 h) λiv s2 zq=>?_;obtain⟨y,H2,I2,ry,k,v,ey,hv,q2⟩:=zq;subst ey;have dd:=dof _ I2.W5;obtain⟨w',hw,XD⟩:=gr.lN (v:=v) (o:=valueAt vs k) (by rw[←hv];exact rel.val k);exact⟨dd.typeIs,wpAny_getItem_of (iL ry) dd.mapOf hw ⟨v,H2,I2.tok _,XD,q2⟩⟩
end
end
theorem neN {a b:Nat}(h:a<b\/b<a):@Ne Addr a b:=by
 intro e;have:a=b:=e
 lia
def Itz (l1 l2 : Addr) : It :=
  ⟨λi H => ∃ xs x ys y, H l1 = some (.lst xs) /\ xs[i]? = some x /\ H l2 = some (.lst ys) /\ ys[i]? = some y,
   λi H v H' => ∃ a xs x ys y, H a = none /\ v = .ref a /\ H l1 = some (.lst xs) /\ xs[i]? = some x /\ H l2 = some (.lst ys) /\ ys[i]? = some y /\ H' = upd H a (.tup [x, y]),
   λi H => ∃ xs ys, H l1 = some (.lst xs) /\ H l2 = some (.lst ys) /\ (xs.length <= i \/ ys.length <= i)⟩
theorem kN {o1 o2:HO}(h1:H a=some o1)(h2:H C=some o2)(hf:∀b∈[n+4,n+2,n+3,n,n+1],H b=none):ZipApart (n+4) (n+2) (n+3) n (n+1) a C:=by
 have q:∀l o,H l=some o->∀b∈[n+4,n+2,n+3,n,n+1],l≠b:=λl o e b hb z=>by rw[z,hf b hb]at e;cases e
 have q1:=q a o1 h1;have q2:=q C o2 h2;exact⟨neN (by lia),neN (by lia),neN (by lia),neN (by lia),neN (by lia),neN (by lia),neN (by lia),neN (by lia),neN (by lia),neN (by lia),q1 _ (by simp),q1 _ (by simp),q1 _ (by simp),q1 _ (by simp),q2 _ (by simp),q2 _ (by simp),q2 _ (by simp),q2 _ (by simp)⟩
def RH (ta:TA):TI:=λσ H R=>ta σ H λvs H1=>∃l1 l2,vs=[.ref l1,.ref l2]/\(∃xs,H1 l1=some (.lst xs))/\(∃ys,H1 l2=some (.lst ys))/\R (Itz l1 l2) H1
theorem boot_zip:bootBuiltins "zip"=some (.type "zip"):=by decide +kernel
def Lj (te:TE)(t:TA):TA:=λσ H Q=>te σ H λx H1=>∃a xs,x=.ref a/\(H1 a=some (.lst xs)\/H1 a=some (.tup xs))/\t σ H1 λys H2=>Q (xs++ys) H2
theorem BL {t:TA}(ha:PE X e te)(hr:PA X es t)(hs:ay (.Starred e p::es) X.env=(true,eval e X.env)::ay es X.env:=by rfl):PA X (.Starred e p::es) (Lj te t):=by
 intro pos pins s σ H Q I h;refine items_star (WL (ha pins s σ H _ I h) λu s1 zq=>?_) hs;obtain⟨x,H1,I1,r1,a,xs,ex,ho,q1⟩:=zq;subst ex;obtain rfl:u=Value.ref a:=r1;have key:∃(o:Obj)(T:String)(its:List af)(n:Nat),s1.heap.get? a=some o/\o.cls=.type T/\o.data=.seq its.toArray n/\(T="list"\/T="tuple")/\bA xs its/\xs.length<=au:=by
  rcases ho with ho |ho
  ·obtain⟨hz,its,n,rv,p⟩:=(show bJ X.prog X.w H1 s1.heap a (.lst xs) from I1.WJ a _ ho);exact⟨_,"list",its,n,p,rfl,rfl,.inl rfl,rv,hz⟩
  ·obtain⟨hz,its,rv,⟨o,p,hc,n,hd⟩⟩:=(show bJ X.prog X.w H1 s1.heap a (.tup xs) from I1.WJ a _ ho);exact⟨o,"tuple",its,n,p,hc,hd,.inr rfl,rv,hz⟩
 obtain⟨o,T,its,n,hp,hc,hd,hT,rv,hz⟩:=key;have hT':s1.TypeIs (.ref a) T:=⟨o,hp,hc⟩;have z:aq (model X.prog X.w) X.A (collect (.ref a)) (λhere s2=>aq (model X.prog X.w) X.A (spliced (backTo pos (ay es X.env))) (λvs s3=>AP X pins σ Q (here++vs) s3) X.xe s2) X.xe s1:=by
  refine wpAny_collect_seq a hT hp hc hd (λh' hk=>?_) (by simpa using (rv.length ▸ hz));refine WL (hr pos pins _ σ H1 _ (I1.kept (t':=s1.toks) hk) q1) λus s2 zq=>?_;obtain⟨ys,H2,I2,r2,q2⟩:=zq;exact⟨xs++ys,H2,I2,by simpa using rv.append r2,q2⟩
 unfold StarOf notIterableAtAll;rcases hT with rfl|rfl
 ·exact aa (eQ hT' PySem.F.slot_list_iter.lookup (ak ⟨rfl,z⟩))
 ·exact aa (eQ hT' PySem.F.slot_tuple_iter.lookup (ak ⟨rfl,z⟩))
def zL (j:Int):List V:=(di j.toNat).map λ(i:Nat)=>V.int (i:Int)
def Lr (ta:TA):TE:=λσ H Q=>ta σ H λvs H1=>∃j:Int,vs=[.int j]/\-(2 ^ 62)<=j/\j<=2 ^ 24/\jh H1 (.lst (zL j)) Q
theorem Ds (h:ItemsOf (λi v=>∃t,v=Value.int (0+i*1) t) items j.toNat):bA (zL j) items.toList:=by
 have key:∀(n:Nat)(l:List af),l.length=n->(∀(i:Nat)(v:af),l[i]?=some v->∃t,v=Value.int (0+(i:Int)*1) t)->bA ((di n).map λ(i:Nat)=>V.int (i:Int)) l:=by
  intro n
  induction n with
  |zero=>intro l hl _;have:=List.length_eq_zero_iff.mp hl;subst this;exact .nil
  |succ n ih=>
   intro l hl hi;have hne:l≠[]:=λz=>by rw[z]at hl;cases hl
   obtain⟨l',v,rfl⟩:∃l' v,l=l'++[v]:=⟨l.dropLast,l.getLast hne,(List.dropLast_concat_getLast hne).symm⟩;have hl':l'.length=n:=by simpa using hl
   rw[List.range_succ,y6];refine(ih l' hl' λi u hu=>hi i u ?_).append (.cons ?_ .nil)
   ·rw[ba (List.getElem?_eq_some_iff.mp hu).1];exact hu
   ·obtain⟨t,rfl⟩:=hi n v (by rw[←hl'];simp);exact⟨t,by simp⟩
 refine key j.toNat items.toList (by simpa using h.1) λi v hv=>?_;have hv':items[i]?=some v:=by simpa using hv
 exact h.2 i v hv'
theorem Ka {a:Expr}(hc:X.calm=true)(hgl:Gl X "list")(hml:X.mg "list"=none)(hg:Gl X "range")(hm:X.mg "range"=none)(ha:PA X [a] ta)
  (hs:ay [a] X.env=[(false,eval a X.env)]):PE X (.Call (.Name "list" p) [.Call (.Name "range" apos) [a] [] bO] [] pos) (Lr ta):=by
 intro pins s σ H Q I h;refine qQ (fB I hgl hml (show bootBuiltins "list"=some (.type "list") by decide +kernel) (PyProof.Rows.callWith_type1 ?_ rfl rfl));refine cD ?_;refine qQ (fB I hg hm Bf (PyProof.Rows.callWith_type1 (WL (ha bO pins s σ H _ I h) λus s1 zq=>?_) hs rfl));obtain⟨vs,H1,I1,r1,q1⟩:=zq;obtain⟨j,e,q1,q2,q⟩:=q1;subst e;cases r1 with
 |cons r rr=>
  cases rr;obtain⟨t,rfl⟩:=r;refine call_range_1 (dw ?_);have I2:Inv X pins σ H1 { s1 with heap:=s1.heap.push { cls:=.type "range",data:=.fields #[.int 0 s1.toks,.int j t,.int 1 (s1.toks+1)] },toks:=s1.toks+1+1 }:=I1.kept λb o e=>aj _ e;have hn:Builtin.Range.rangeSize 0 j 1=((j.toNat:Nat):Int):=by rw[D3];split<;>lia
  refine call_list_range (n:=j.toNat) (I.ok.hd hc) (IsRange.new ..) (small_one (by lia) (by lia) q1 (by lia)) hn (by lia) λh' tk acc c' hk hS hacc=>?_;have rv:=Ds hacc;have hz:(zL j).length<=au:=by simp only[zL,aP,kM,au];lia
  exact⟨V.ref _,_,I2.laid (o:=.lst (zL j)) hk (aw _) ⟨hz,acc.toList,c',rv,by simpa using hS⟩,rfl,q.upd _ (I2.WJ.fresh (aw _))⟩
section
def iB {K:Type} [DecidableEq K] (l:List K):List K:=l.foldl (λacc k=>if k∈acc then acc else acc++[k]) []
section
variable {P:aI}{w:aZ}{A:br}{T:Result->ah->Prop}{it:Addr}{fp wr:List Addr}{G:Array GenState->Array GenState->Prop}{Pi:Nat->af->Prop}{St:Nat->ah->Prop}{K:Type} [DecidableEq K] {kk:KeyKind P w K}
set_option maxHeartbeats 4000000 in
end
end
def Bv (ta:TA):TE:=λσ H Q=>ta σ H λvs H1=>∃t ks,vs=[.ref t]/\H1 t=some (.tup (ks.map V.str))/\ks.length<4000/\Q (.int ((iB ks).length:Nat)) H1
def QA:List V->Hp->VK->Prop:=λvs H Q=>∃(a:Addr)(ns:List Int),vs=[.ref a]/\H a=some (.lst (ns.map V.int))/\Q (.int ns.sum) H
theorem nY:∀{ns:List Int}{us:List af},bA (ns.map V.int) us->∃xs:List (Int×Tok),us=xs.map (λp=>Value.int p.1 p.2)/\xs.map (·.1)=ns
 | [],[],.nil=>⟨[],rfl,rfl⟩
 |n::ns,_::us,.cons r rr=>by
  obtain⟨t,rfl⟩:=r;obtain⟨xs,rfl,rfl⟩:=nY rr;exact⟨(n,t)::xs,rfl,rfl⟩
theorem DM (hc:X.calm=true):cu X (.builtin "sum") QA:=by
 intro pins s σ H xs us Q I r h;obtain⟨a,ns,rfl,ha,q⟩:=h;obtain⟨u,rfl,ru⟩:=vals1 r;cases (show u=Value.ref a from ru);obtain⟨hz,its,n,rv,p⟩:=(show bJ X.prog X.w H s.heap a (.lst (ns.map V.int)) from I.WJ a _ ha);obtain⟨ps,rfl,rfl⟩:=nY rv;have isl:s.heap.IsList a (intItems ps.toArray):=⟨_,p,rfl,n,by simp[intItems]⟩;refine sum_intListG (I.ok.hd hc) isl λh' tk t' hk=>?_;refine⟨.int (ps.map (·.1)).sum,H,I.kept (t':=tk) hk,⟨t',?_⟩,q⟩;rw[preSum_eq,fJ (by simp)]
section
theorem zb:typeLookup (.type "zip") "__len__"=pure none:=by rw[jA,fR];kernel_rfl
theorem xk:typeLookup (.type "zip") "__length_hint__"=pure none:=by rw[jA,fR];kernel_rfl
section
variable {P:aI}{w:aZ}{A:br}{E:af->ah->Prop}{s:ah}{z ti to i1 i2 l1 l2 T:Addr}{k:Nat}{xs ys:Array af}{x y:af}{b:Bool}
def lX (h:Heap)(z ti to T:Addr)(b:Bool):Prop:=h.get? z=some { cls:=.type "zip",dict:=none,data:=.fields #[rawInt T,.bool b,.bool false,.ref ti,.ref to],slots:=#[] }
theorem qR (hz:lX s.heap z ti to T b){o:Obj}(hT:s.heap.get? T=some o){Q:Bool->ah->Prop}(h:∀h',lX h' z ti to T true->Heap.SameBut z s.heap h'->Q false { s with heap:=h' }):
  aq (model P w) A (Builtin.SmallTypes.ownedTupleIsFree (.ref z)) Q E s:=by
 unfold Builtin.SmallTypes.ownedTupleIsFree;refine aa (bX hz rfl (x:=rawInt T) rfl ?_);have e:(T:Int).toNat=T:=by simp
 have la:∀{Q':Option Obj->ah->Prop},Q' (some o) s->aq (model P w) A (loadIfAlive (T:Int).toNat) Q' E s:=λq=>by
  rw[e];intro Γ p ht;show Sem.wp _ _ (Sem.loadIfAlive T .pure) _ _ _ _;rw[Sem.wp_loadIfAlive,hT];exact ak q Γ p ht
 refine aa (m:=loadIfAlive (T:Int).toNat) (la ?_);refine aa (m:=field (.ref z) 1) (bX hz rfl (x:=.bool b) rfl ?_);cases b with
 |true=>exact ak (h _ hz (Heap.SameBut.refl ..))
 |false=>
  refine aa (m:=setField (.ref z) 1 (.bool true)) (wpAny_setField_rec hz (by simp) λh1 z1 sb=>?_);exact ak (h _ z1 sb)
theorem D9 (D:ZipApart z ti to i1 i2 l1 l2)(hz:lX s.heap z ti to T b){o:Obj}(hT:s.heap.get? T=some o)(hti:IsPair s.heap ti (.ref i1) (.ref i2))(j1:s.heap.IsListIter i1 l1 k)(j2:s.heap.IsListIter i2 l2 k)
  (h1:s.heap.IsList l1 xs) (h2:s.heap.IsList l2 ys) (hx:xs[k]?=some x) (hy:ys[k]?=some y) {Q:Option af->ah->Prop}
  (h:∀h',lX h' z ti to T true->h'.IsListIter i1 l1 (k+1)->h'.IsListIter i2 l2 (k+1)->IsPair h' s.heap.objs.size x y->(∀c o,c≠z->c≠i1->c≠i2->s.heap.get? c=some o->h'.get? c=some o)->Q (some (.ref s.heap.objs.size)) { s with heap:=h' }):
  aq (model P w) A (pyNext (.ref z)) Q E s:=by
 have ty:s.TypeIs (.ref z) "zip":=⟨_,hz,rfl⟩;unfold pyNext;refine aa (eV (cb (name:=Str.ofString "__next__") ty nj (cj nj ty F.entry_zip_next (Q:=λv s'=>aq (model P w) A (pure (some v)) Q E s') ?_ (F.args_zip_next_1 _))));refine aa (m:=field (.ref z) 2) (bX hz rfl (x:=.bool false) rfl ?_);refine aa (m:=field (.ref z) 3) (bX hz rfl (x:=.ref ti) rfl ?_);refine aa (fj hti rfl ?_);refine aa (m:=Builtin.SmallTypes.ownedTupleIsFree (.ref z)) (qR hz hT λha za sa=>?_);simp only[aY,if_false];rw[←Array.forIn_toList];simp only[y8,Bg];refine aa (aa (aa (a9 ?_)));refine aa (m:=Builtin.SmallTypes.nextOf (.ref i1)) (m8 (j1.extBut sa.extBut D.i1z) (h1.extBut sa.extBut D.l1z) hx λhb jb sb=>ak (ak ?_));refine aa (aa (a9 ?_));refine aa (m:=Builtin.SmallTypes.nextOf (.ref i2)) (m8 ((j2.extBut sa.extBut D.i2z).extBut sb.extBut D.i12.symm) ((h2.extBut sa.extBut D.l2z).extBut sb.extBut D.l2i1) hy λhc jc sc=>ak (ak (ak ?_)));refine aa (m:=newTuple [x,y]) (wpAny_newTuple (ak ⟨_,rfl,ak ?_⟩));have sz:hc.objs.size=s.heap.objs.size:=by rw[sc.1,sb.1,sa.1]
 have kp:∀c o,c≠z->c≠i1->c≠i2->s.heap.get? c=some o->(hc.push { cls:=.type "tuple",data:=.seq #[x,y] }).get? c=some o:=λc o q1 q2 q3 e=>aj _ (sc.extBut _ _ q3 (sb.extBut _ _ q2 (sa.extBut _ _ q1 e)));show Q (some (.ref hc.objs.size)) _;rw[sz];refine h _ ?_ ?_ ?_ ?_ kp
 ·exact aj _ (sc.extBut _ _ D.i2z.symm (sb.extBut _ _ D.i1z.symm za))
 ·exact(jb.extBut sc.extBut D.i12).at λo e=>aj _ e
 ·exact jc.at λo e=>aj _ e
 ·rw[←sz];exact aB _ rfl
theorem D8 (hh:A.handled=none)(D:ZipApart z ti to i1 i2 l1 l2)(hz:lX s.heap z ti to T b){o:Obj}(hT:s.heap.get? T=some o)(hti:IsPair s.heap ti (.ref i1) (.ref i2))(j1:s.heap.IsListIter i1 l1 k)(j2:s.heap.IsListIter i2 l2 k)
  (h1:s.heap.IsList l1 xs) (h2:s.heap.IsList l2 ys) (hx:xs[k]?=none\/ys[k]?=none) {Q:Option af->ah->Prop}
  (h:∀h',(∀c o,c≠z->c≠i1->c≠i2->s.heap.get? c=some o->h'.get? c=some o)->Q none { s with heap:=h' }):
  aq (model P w) A (pyNext (.ref z)) Q E s:=by
 have ty:s.TypeIs (.ref z) "zip":=⟨_,hz,rfl⟩;unfold pyNext;have key:∀(h':Heap)(e:Addr),(∀c o,c≠z->c≠i1->c≠i2->s.heap.get? c=some o->h'.get? c=some o)->(∃o,h'.get? e=some o/\o.cls=.type "StopIteration")->
   aq (model P w) A (do if ←isInstance (.ref e) (.type "StopIteration") then pure none else throw (.ref e)) Q E { s with heap:=h' }:=λh' e kp ⟨o,ho,hc⟩=>
  aa (mj (T:="StopIteration") (b:=true) ⟨o,ho,hc⟩ Bc (ak (h h' kp)))
 refine aa (eV (cb (name:=Str.ofString "__next__") ty nj (cj nj ty F.entry_zip_next (Q:=λv s'=>aq (model P w) A (pure (some v)) Q E s') ?_ (F.args_zip_next_1 _))));refine aa (m:=field (.ref z) 2) (bX hz rfl (x:=.bool false) rfl ?_);refine aa (m:=field (.ref z) 3) (bX hz rfl (x:=.ref ti) rfl ?_);refine aa (fj hti rfl ?_);refine aa (m:=Builtin.SmallTypes.ownedTupleIsFree (.ref z)) (qR hz hT λha za sa=>?_);simp only[aY,if_false];rw[←Array.forIn_toList];simp only[y8,Bg];refine aa (aa (aa (a9 ?_)));cases ex:xs[k]? with
 |none=>
  refine aa (m:=Builtin.SmallTypes.nextOf (.ref i1)) (wpAny_nextOf_list_end hh (j1.extBut sa.extBut D.i1z) (h1.extBut sa.extBut D.l1z) ex λhb e sb he=>?_);exact key hb e (λc o q1 q2 q3 q=>sb _ _ q2 (sa.extBut _ _ q1 q)) he
 |some x=>
  have ey:ys[k]?=none:=hx.resolve_left (by rw[ex];exact λq=>nomatch q);refine aa (m:=Builtin.SmallTypes.nextOf (.ref i1)) (m8 (j1.extBut sa.extBut D.i1z) (h1.extBut sa.extBut D.l1z) ex λhb jb sb=>ak (ak ?_));refine aa (aa (a9 ?_));refine aa (m:=Builtin.SmallTypes.nextOf (.ref i2)) (wpAny_nextOf_list_end hh ((j2.extBut sa.extBut D.i2z).extBut sb.extBut D.i12.symm) ((h2.extBut sa.extBut D.l2z).extBut sb.extBut D.l2i1) ey λhc e sc he=>?_);exact key hc e (λc o q1 q2 q3 q=>sc _ _ q3 (sb.extBut _ _ q2 (sa.extBut _ _ q1 q))) he
structure ZSt (h:Heap)(z ti to i1 i2 l1 l2:Addr)(xs ys:Array af)(S:Addr)(k:Nat):Prop where
 zr:IsZip h z ti to .none\/∃T b o,lX h z ti to T b/\h.get? T=some o/\S<T
 prs:IsPair h ti (.ref i1) (.ref i2)
 own:∃a b,IsPair h to a b
 j1:h.IsListIter i1 l1 k
 j2:h.IsListIter i2 l2 k
 h1:h.IsList l1 xs
 h2:h.IsList l2 ys
theorem ZSt.keep {h':Heap}(x:ZSt h z ti to i1 i2 l1 l2 xs ys C k)(nz:z≠C)(nti:ti≠C)(nto:to≠C)(n1:i1≠C)(n2:i2≠C)(m1:l1≠C)(m2:l2≠C)(kp:∀c o,c≠C->h.get? c=some o->h'.get? c=some o):ZSt h' z ti to i1 i2 l1 l2 xs ys C k:=by
 obtain⟨r,p,⟨a,b,q⟩,j1,j2,h1,h2⟩:=x;refine⟨?_,kp _ _ nti p,⟨a,b,kp _ _ nto q⟩,j1.at λo e=>kp _ o n1 e,j2.at λo e=>kp _ o n2 e,h1.at λo e=>kp _ o m1 e,h2.at λo e=>kp _ o m2 e⟩;rcases r with r |⟨T,b,o,r1,r2,r3⟩
 ·exact .inl (kp _ _ nz r)
 ·exact .inr ⟨T,b,o,kp _ _ nz r1,kp _ _ (λe=>bw _ (e ▸ r3)) r2,r3⟩
structure Lc (z ti to i1 i2 l1 l2 S:Addr):Prop where
 ap:ZipApart z ti to i1 i2 l1 l2
 z:z<S
 ti:ti<S
 to:to<S
 i1:i1<S
 i2:i2<S
 l1:l1<S
 l2:l2<S
theorem ZSt.item (L:Lc z ti to i1 i2 l1 l2 C)(x:ZSt s.heap z ti to i1 i2 l1 l2 xs ys C k)(hS:C<s.heap.objs.size){v:af}(hx:xs[k]?=some u)(hy:ys[k]?=some v){Q:Option af->ah->Prop}
  (h:∀h',ZSt h' z ti to i1 i2 l1 l2 xs ys C (k+1)->IsPair h' s.heap.objs.size u v->(∀c o,c≠z->c≠to->c≠i1->c≠i2->s.heap.get? c=some o->h'.get? c=some o)->Q (some (.ref s.heap.objs.size)) { s with heap:=h' }):
  aq (model P w) A (pyNext (.ref z)) Q E s:=by
 have D:=L.ap;obtain⟨r,p,⟨a,b,q⟩,j1,j2,h1,h2⟩:=x;rcases r with r |⟨T,b,o,r1,r2,r3⟩
 ·refine wpAny_pyNext_zip_item D r p q j1 j2 h1 h2 hx hy λh' a1 a2 a3 a4 a5 a6 kp=>h h' ?_ a5 kp;exact⟨.inr ⟨_,false,_,a1,a5,hS⟩,kp _ _ D.TIz D.TITO D.TIi1 D.TIi2 p,⟨_,_,a2⟩,a3,a4,h1.at λo e=>kp _ o D.l1z D.l1TO D.l1i1 D.l1i2 e,h2.at λo e=>kp _ o D.l2z D.l2TO D.l2i1 D.l2i2 e⟩
 ·refine D9 D r1 r2 p j1 j2 h1 h2 hx hy λh' a1 a3 a4 a5 kp=>h h' ?_ a5 λc o c1 _ c2 c3 e=>kp c o c1 c2 c3 e;have ne:∀{c:Addr},c<C->T≠c:=λlc e=>bw _ (eh (e ▸ r3) lc);exact⟨.inr ⟨T,true,o,a1,kp _ _ (ne L.z) (ne L.i1) (ne L.i2) r2,r3⟩,kp _ _ D.TIz D.TIi1 D.TIi2 p,⟨a,_,kp _ _ D.TOz D.TOi1 D.TOi2 q⟩,a3,a4,h1.at λo e=>kp _ o D.l1z D.l1i1 D.l1i2 e,h2.at λo e=>kp _ o D.l2z D.l2i1 D.l2i2 e⟩
theorem ZSt.stop (hh:A.handled=none)(L:Lc z ti to i1 i2 l1 l2 C)(x:ZSt s.heap z ti to i1 i2 l1 l2 xs ys C k)(hx:xs[k]?=none\/ys[k]?=none){Q:Option af->ah->Prop}
  (h:∀h',(∀c o,c≠z->c≠to->c≠i1->c≠i2->s.heap.get? c=some o->h'.get? c=some o)->Q none { s with heap:=h' }):aq (model P w) A (pyNext (.ref z)) Q E s:=by
 obtain⟨r,p,⟨a,b,q⟩,j1,j2,h1,h2⟩:=x;rcases r with r |⟨T,b,o,r1,r2,r3⟩
 ·exact wpAny_pyNext_zip_end hh L.ap r p q j1 j2 h1 h2 hx h
 ·exact D8 hh L.ap r1 r2 p j1 j2 h1 h2 hx λh' kp=>h h' λc o c1 _ c2 c3 e=>kp c o c1 c2 c3 e
structure O7 (h:Heap)(xs ys:Array af)(S:Addr)(acc:Array af)(ts:List Addr)(k:Nat):Prop where
 is:acc.toList=ts.map Value.ref
 len:ts.length=k
 nd:ts.Nodup
 hi:∀t∈ts,S<t
 at':∀(j:Nat)(t:Addr),ts[j]?=some t->∃x y,xs[j]?=some x/\ys[j]?=some y/\IsPair h t x y
theorem Ea {R:Result->ah->Prop}(hh:A.handled=none)(L:Lc z ti to i1 i2 l1 l2 C)(hz:min xs.size ys.size<=au):
  ∀(m k:Nat)(s:ah)(acc:Array af)(c:Nat)(ts:List Addr),min xs.size ys.size - k=m->k<=min xs.size ys.size->ZSt s.heap z ti to i1 i2 l1 l2 xs ys C k->s.heap.get? C=some { cls:=.type "list",dict:=none,data:=.seq acc c,slots:=#[] }->O7 s.heap xs ys C acc ts k->
  (∀h' at9 c' ts',(∀b o,b≠z->b≠to->b≠i1->b≠i2->b≠C->s.heap.get? b=some o->h'.get? b=some o)->h'.get? C=some { cls:=.type "list",dict:=none,data:=.seq at9 c',slots:=#[] }->O7 h' xs ys C at9 ts' (min xs.size ys.size)->R (.ok (.ret u)) { s with heap:=h' })->
  codeAny (model P w) A (.builtin "list.extend.loop" ⟨[.ref C,.ref z,u],[]⟩) R s:=by
 have ne:∀{c:Addr},c<C->c≠C:=λlc e=>bw _ (e ▸ lc);have ge:∀{c t:Addr},c<C->C<t->t≠c:=λlc r3 e=>bw _ (eh (e ▸ r3) lc);intro m
 induction m with
 |zero=>
  intro k s acc c ts hm hk st hS ac fin;obtain rfl:k=min xs.size ys.size:=by lia
  refine dY F.entry_extend_loop ?_;rw[c7 gE _];have en:xs[min xs.size ys.size]?=none\/ys[min xs.size ys.size]?=none:=by
   rcases Nat.le_total xs.size ys.size with q |q
   ·left;rw[Nat.min_eq_left q];simp
   ·right;rw[Nat.min_eq_right q];simp
  refine aa (m:=pyNext (.ref z)) (st.stop (A:=A.in1) hh L en λh' kp=>?_);refine ak (fin h' acc c ts (λb o b1 b2 b3 b4 _ e=>kp b o b1 b2 b3 b4 e) (kp _ _ (ne L.z).symm (ne L.to).symm (ne L.i1).symm (ne L.i2).symm hS) ⟨ac.is,ac.len,ac.nd,ac.hi,λj t e=>?_⟩);obtain⟨x,y,ex,ey,q⟩:=ac.at' j t e;have ht:=ac.hi t (bH e);exact⟨x,y,ex,ey,kp _ _ (ge L.z ht) (ge L.to ht) (ge L.i1 ht) (ge L.i2 ht) q⟩
 |succ m ih=>
  intro k s acc c ts hm hk st hS ac fin;have lt:k<min xs.size ys.size:=by lia
  refine dY F.entry_extend_loop ?_;rw[c7 gE _];have ex:xs[k]?=some xs[k]:=aS (by lia);have ey:ys[k]?=some ys[k]:=aS (by lia);have hS0:=ax hS;refine aa (m:=pyNext (.ref z)) (st.item (A:=A.in1) L hS0 ex ey λh' st' pr kp=>?_);have hS':=kp _ _ (ne L.z).symm (ne L.to).symm (ne L.i1).symm (ne L.i2).symm hS;have as:acc.size=k:=by have:=congrArg List.length ac.is;simpa [ac.len] using this
  refine aa (m:=updateSeq C (·.push (.ref s.heap.objs.size))) (fM hS' rfl (ak ⟨gG gE _,?_⟩) (by rw[as];lia) (by show(acc.push _).size<=au+1;rw[Array.size_push,as];lia));have kp2:∀b o,b≠C->h'.get? b=some o->(h'.update C (Obj.mapSeq (·.push (.ref s.heap.objs.size)))).get? b=some o:=λb o n e=>(bK _ _ n.symm).trans e;have tn:s.heap.objs.size≠C:=(d9 hS0);refine ih (k+1) _ (acc.push (.ref s.heap.objs.size)) _ (ts++[s.heap.objs.size]) (by lia) lt (st'.keep (ne L.z) (ne L.ti) (ne L.to) (ne L.i1) (ne L.i2) (ne L.l1) (ne L.l2) kp2) (bt _ hS' rfl) ⟨?_,?_,?_,?_,?_⟩ λh2 at9 c' ts' k2 hS2 ac2=>?_
  ·simp[ac.is]
  ·simp[ac.len]
  ·refine List.nodup_append.mpr ⟨ac.nd,by simp,λa ha b hb e=>?_⟩;simp at hb;subst hb;obtain⟨j,ej⟩:=pS ha;obtain⟨x,y,_,_,q⟩:=ac.at' j a ej;have:=ax q;rw[e]at this;exact bw _ this
  ·intro t ht;rcases List.mem_append.mp ht with ht |ht
   ·exact ac.hi t ht
   ·simp at ht;rw[ht];exact hS0
  ·intro j t e
   by_cases hj:j<ts.length
   ·rw[ba hj]at e;obtain⟨x,y,e1,e2,q⟩:=ac.at' j t e;have ht:=ac.hi t (bH e);exact⟨x,y,e1,e2,kp2 _ _ (d9 ht) (kp _ _ (ge L.z ht) (ge L.to ht) (ge L.i1 ht) (ge L.i2 ht) q)⟩
   ·rw[dm (by lia)]at e;have hj0:j=k:=by
     have:=(List.getElem?_eq_some_iff.mp e).1;simp at this;rw[←ac.len]
     lia
    subst hj0;rw[ac.len]at e;simp at e;subst e;exact⟨_,_,ex,ey,kp2 _ _ tn pr⟩
  ·exact fin h2 at9 c' ts' (λb o b1 b2 b3 b4 b5 e=>k2 b o b1 b2 b3 b4 b5 (kp2 b o b5 (kp b o b1 b2 b3 b4 e))) hS2 ac2
set_option maxHeartbeats 2000000 in
theorem t8 (hh:A.handled=none)(L:Lc z ti to i1 i2 l1 l2 s.heap.objs.size)(hz:IsZip s.heap z ti to .none)(p:IsPair s.heap ti (.ref i1) (.ref i2)){a b:af}(q:IsPair s.heap to a b)(j1:s.heap.IsListIter i1 l1 0)(j2:s.heap.IsListIter i2 l2 0)
  (h1:s.heap.IsList l1 xs) (h2:s.heap.IsList l2 ys) (hm:min xs.size ys.size<=au)
  (h:∀h' acc c ts,(∀b o,b≠z->b≠to->b≠i1->b≠i2->s.heap.get? b=some o->h'.get? b=some o)->h'.get? s.heap.objs.size=some { cls:=.type "list",dict:=none,data:=.seq acc c,slots:=#[] }->O7 h' xs ys s.heap.objs.size acc ts (min xs.size ys.size)->Q (.ref s.heap.objs.size) { s with heap:=h' }):
  aq (model P w) A (call (.type "list") [.ref z]) Q E s:=by
 refine callType_codes (Q₁:=λo t=>o=.ref s.heap.objs.size/\t={ s with heap:=s.heap.push { cls:=.type "list",data:=.seq #[] } }) F.called_list (F.typeCall_list_1 _) F.entry_list_init (code_list_new _ ⟨rfl,rfl⟩) λo t e=>?_;obtain⟨rfl,rfl⟩:=e;have hS:(s.heap.push { cls:=.type "list",data:=.seq #[] }).get? s.heap.objs.size=some { cls:=.type "list",data:=.seq #[] }:=aB _ rfl;have nl:∀{c:Addr},c<s.heap.objs.size->c≠s.heap.objs.size:=λlc e=>bw _ (e ▸ lc);have k0:∀b o,s.heap.get? b=some o->(s.heap.push { cls:=.type "list",data:=.seq #[] }).get? b=some o:=λb o e=>aj _ e;refine⟨⟨_,hS,rfl⟩,F.args_list_init_2 _ _,?_⟩;refine aa (m:=Builtin.List.listItems (.ref s.heap.objs.size)) (aa (fj hS rfl (ak ?_)));refine aa (m:=updateSeq s.heap.objs.size (λ_=>#[])) (fM hS rfl ?_);have g2:=bt (Obj.mapSeq (λ_=>(#[]:Array af))) hS rfl;have k2:∀b o,b≠s.heap.objs.size->s.heap.get? b=some o->((s.heap.push { cls:=.type "list",data:=.seq #[] }).update s.heap.objs.size (Obj.mapSeq λ_=>#[])).get? b=some o:=λb o n e=>(bK _ _ n.symm).trans (k0 b o e);refine aa (m:=letGo _) (wpAny_letGo ?_)
 generalize ((s.heap.push { cls:=.type "list",data:=.seq #[] }).update s.heap.objs.size (Obj.mapSeq λ_=>#[]))=ha at g2 k2
 show aq _ _ (Builtin.List.listExtendWith (.ref s.heap.objs.size) (.ref z) .none) _ _ _;unfold Builtin.List.listExtendWith;have hz2:=k2 _ _ (nl L.z) hz;have ty:({ s with heap:=ha }:ah).TypeIs (.ref z) "zip":=⟨_,hz2,rfl⟩;refine aa (gu ty ?_);have c1:Builtin.List.listSameRef (.ref s.heap.objs.size) (.ref z)=false:=by simp[Builtin.List.listSameRef,(nl L.z).symm]
 have c2:(Value.type "zip"==Value.type "list")=false:=by decide
 have c3:(Value.type "zip"==Value.type "tuple")=false:=by decide
 simp only[c1,c2,c3,D7,aY,if_false];refine aa (m:=pyIter (.ref z)) (w9 hz2 ?_);refine aa (m:=holding _ _) (a9 ?_);unfold Builtin.List.listLengthHint;refine aa (eQ ty zb ?_);refine aa (m:=specialOf (Value.ref z) (Str.ofString "__length_hint__")) (eQ ty xk (ak ?_));refine aa (m:=rule "list.extend.makes-room") (gc ?_);refine aa (m:=Builtin.List.listTouch (.ref s.heap.objs.size)) ?_;show aq _ _ (updateSeq s.heap.objs.size (·.push .none) >>=λ_=>updateSeq s.heap.objs.size (·.pop)) _ _ _;refine aa (fM g2 rfl ?_);have g3:=bt (Obj.mapSeq (·.push Value.none)) g2 rfl;refine fM (hz:=by seq_fits) g3 rfl ?_;have g4:=bt (Obj.mapSeq (·.pop)) g3 rfl;have k4:∀b o,b≠s.heap.objs.size->s.heap.get? b=some o->((ha.update s.heap.objs.size (Obj.mapSeq (·.push Value.none))).update s.heap.objs.size (Obj.mapSeq (·.pop))).get? b=some o:=λb o n e=>(bK _ _ n.symm).trans ((bK _ _ n.symm).trans (k2 b o n e));have st:ZSt s.heap z ti to i1 i2 l1 l2 xs ys s.heap.objs.size 0:=⟨.inl hz,p,⟨a,b,q⟩,j1,j2,h1,h2⟩;refine ak ⟨gG gE _,Ea (A:=A.in1) hh L hm _ 0 _ (#[]:Array af) _ [] rfl (bG _) (st.keep (nl L.z) (nl L.ti) (nl L.to) (nl L.i1) (nl L.i2) (nl L.l1) (nl L.l2) k4) g4 ⟨rfl,rfl,eI,λ_ z=>absurd z aE,λ_ _ z=>by simp at z⟩ λh' acc c ts kp hS' ac=>⟨rfl,?_⟩⟩;exact h h' acc c ts (λb o b1 b2 b3 b4 e=>kp b o b1 b2 b3 b4 (λz=>bw _ (z ▸ ax e)) (k4 b o (λz=>bw _ (z ▸ ax e)) e)) hS' ac
end
def pk:List Addr->List (V×V)->Hp->Hp
 | [],_,H=>H
 |_::_,[],H=>H
 |t::ts,p::ps,H=>upd (pk ts ps H) t (.tup [p.1,p.2])
theorem jM {b:Addr}:∀{ts:List Addr}{ps:List (V×V)}{H:Hp},b∉ts->pk ts ps H b=H b
 | [],_,_,_=>rfl
 |_::_,[],_,_=>rfl
 |t::ts,p::ps,H,n=>by
  rw[pk,aQ (λe=>n (by rw[e];exact aR)),jM λe=>n (aJ _ e)]
theorem BQ {b:Addr}{o:HO}:∀{ts:List Addr}{ps:List (V×V)}{H:Hp},pk ts ps H b=some o->b∈ts->ts.length<=ps.length->(∀t∈ts,H t=none)->∃(j:Nat)(p:V×V),ts[j]?=some b/\ps[j]?=some p/\o=.tup [p.1,p.2]
 | [],_,_,_,m,_,_=>absurd m aE
 |t::ts,[],H,e,m,l,f=>absurd l (by simp)
 |t::ts,p::ps,H,e,m,l,f=>by
  rw[pk]at e
  by_cases hb:b=t
  ·subst hb;rw[bu]at e;cases e;exact⟨0,p,rfl,rfl,rfl⟩
  ·rw[aQ hb]at e;rcases List.mem_cons.mp m with q |q
   ·exact absurd q hb
   ·obtain⟨j,p',h1,h2,h3⟩:=BQ e q (by simpa using l) λt ht=>f t (aJ _ ht);exact⟨j+1,p',by simpa using h1,by simpa using h2,h3⟩
def Lq (ta:TA):TE:=λσ H Q=>ta σ H λvs H1=>∃l1 l2 xs ys,vs=[.ref l1,.ref l2]/\H1 l1=some (.lst xs)/\H1 l2=some (.lst ys)/\
 ∀(A:Addr)(ts:List Addr),ts.length=min xs.length ys.length->ts.Nodup->A∉ts->(∀b∈A::ts,H1 b=none)->Q (.ref A) (upd (pk ts (xs.zip ys) H1) A (.lst (ts.map V.ref)))
theorem uv:∀(ts:List Addr),bA (ts.map V.ref) (ts.map Value.ref)
 | []=>.nil
 |t::ts=>.cons rfl (uv ts)
theorem J1 {a b:Expr}(hc:X.calm=true)(hgl:Gl X "list")(hml:X.mg "list"=none)(hg:Gl X "zip")(hm:X.mg "zip"=none)(ha:PA X [a,b] ta)
  (hs:ay [a,b] X.env=(false,eval a X.env)::ay [b] X.env) (hs2:(backTo bO (ay [b] X.env)).any (·.1)=false):PE X (.Call (.Name "list" p) [.Call (.Name "zip" apos) [a,b] [] bO] [] pos) (Lq ta):=by
 intro pins s σ H Q I h;refine qQ (fB I hgl hml (show bootBuiltins "list"=some (.type "list") by decide +kernel) (PyProof.Rows.callWith_type1 ?_ rfl rfl));refine cD ?_;refine qQ (fB I hg hm boot_zip (PyProof.Rows.callWith_type1 (WL (ha bO pins s σ H _ I h) λus s1 zq=>?_) hs hs2));obtain⟨vs,H1,I1,r1,q1⟩:=zq;obtain⟨l1,l2,xs,ys,e,hq,hq',q⟩:=q1;subst e;cases r1 with
 |cons ru1 r1=>cases r1 with
  |cons ru2 r1=>
   cases r1;cases (show _=Value.ref l1 from ru1);cases (show _=Value.ref l2 from ru2);obtain⟨hz,its,n,rv,pp⟩:=(show bJ X.prog X.w H1 s1.heap l1 (.lst xs) from I1.WJ l1 _ hq);obtain⟨hz',its',n',rv',pp'⟩:=(show bJ X.prog X.w H1 s1.heap l2 (.lst ys) from I1.WJ l2 _ hq');refine call_zip_2 (xs:=its.toArray) (ys:=its'.toArray) ⟨_,pp,rfl,n,rfl⟩ ⟨_,pp',rfl,n',rfl⟩ λh' b1 b2 b3 b4 b5 b6 b7=>dw ?_;have il1:h'.IsList l1 its.toArray:=⟨_,b7 _ _ pp,rfl,n,rfl⟩;have il2:h'.IsList l2 its'.toArray:=⟨_,b7 _ _ pp',rfl,n',rfl⟩;have lz:its.length=xs.length:=rv.length.symm;have lz':its'.length=ys.length:=rv'.length.symm;have mz:min its.toArray.size its'.toArray.size=min xs.length ys.length:=by simp[lz,lz']
   have lo1:l1<s1.heap.objs.size:=ax pp;have lo2:l2<s1.heap.objs.size:=ax pp';have fr:∀b,s1.heap.objs.size<=b->H1 b=none:=λb hb=>I1.WJ.fresh hb;have D:=kN (n:=s1.heap.objs.size) hq hq' λb hb=>fr b (by
    simp only[aV,aE,or_false]at hb;rcases hb with rfl|rfl|rfl|rfl|rfl<;>lia)
   refine t8 (s:={ s1 with heap:=h' }) (I.ok.hd hc) (xs:=its.toArray) (ys:=its'.toArray) ⟨D,?_,?_,?_,?_,?_,?_,?_⟩ b1 b2 b3 b4 b5 il1 il2 (by rw[mz];lia) λh2 acc c ts kp hS ac=>?_
   iterate 5 (show _<h'.objs.size;rw[b6];lia)
   ·show l1<h'.objs.size;rw[b6];exact aO lo1 (mo _ 5)
   ·show l2<h'.objs.size;rw[b6];exact aO lo2 (mo _ 5)
   rw[mz]at ac;have b6':h'.objs.size=s1.heap.objs.size+5:=b6;have k1:∀b o,s1.heap.get? b=some o->h2.get? b=some o:=λb o e=>by
    have:@LT.lt Nat _ b s1.heap.objs.size:=ax e;exact kp b o (neN (by lia)) (neN (by lia)) (neN (by lia)) (neN (by lia)) (b7 b o e)
   have hiA:∀b∈h'.objs.size::ts,s1.heap.objs.size<=b:=λb hb=>by
    rcases List.mem_cons.mp hb with rfl|hb
    ·lia
    ·have h1:@LT.lt Nat _ h'.objs.size b:=ac.hi b hb;have h2:@LE.le Nat _ s1.heap.objs.size h'.objs.size:=by lia
     exact b8 h2 (fH h1)
   have nA:h'.objs.size∉ts:=λz=>bw _ (ac.hi _ z);have frA:∀b∈h'.objs.size::ts,H1 b=none:=λb hb=>fr b (hiA b hb);have zl:ts.length=(xs.zip ys).length:=by rw[ac.len];simp
   have old:∀b,H1 b≠none->upd (pk ts (xs.zip ys) H1) h'.objs.size (.lst (ts.map V.ref)) b=H1 b:=λb hb=>by
    have n1:b∉h'.objs.size::ts:=λz=>hb (frA b z);rw[aQ (λz=>n1 (by rw[z];exact aR)),jM λz=>n1 (aJ _ z)]
   have lows:∀b o,s1.heap.get? b=some o->b∉h'.objs.size::ts:=λb o e z=>by
    have h1:@LT.lt Nat _ b s1.heap.objs.size:=ax e;have h2:@LE.le Nat _ s1.heap.objs.size b:=hiA b z;exact bw _ (aO h1 h2)
   have un:Un (frs X.stack) [] H1 (upd (pk ts (xs.zip ys) H1) h'.objs.size (.lst (ts.map V.ref))) s1.heap h2:={
    keep:=λb o e _ _ _=>k1 b o e
    slot:=λb o e _ _ _=>⟨o.slots,k1 b o e⟩
    free:=λb o e n _=>by
     have n1:=lows b o e;rw[aQ (λz=>n1 (by rw[z];exact aR)),jM λz=>n1 (aJ _ z)];exact n
    there:=λb o e _=>⟨o,k1 b o e⟩
    Xt:=λb ys e=>(old b (by rw[e];simp)).trans e
    Xp:=λb o ys e=>(old b (by rw[e];simp)).trans e
    Xu:=λb ps e=>⟨#[],by rw[old b (by rw[e];simp),e];simp⟩ }
   have WJ:Xo X.prog X.w (upd (pk ts (xs.zip ys) H1) h'.objs.size (.lst (ts.map V.ref))) h2:=λb o e=>by
    by_cases hb:b=h'.objs.size
    ·subst hb;rw[bu]at e;cases e;refine⟨by rw[aP,ac.len];lia,ts.map Value.ref,c,uv ts,?_⟩;rw[←ac.is]
     simpa using hS
    ·rw[aQ hb]at e
     by_cases ht:b∈ts
     ·obtain⟨j,pr,e1,e2,rfl⟩:=BQ e ht (by lia) λt ht=>frA t (aJ _ ht);obtain⟨u,v,eu,ev,ip⟩:=ac.at' j b e1;obtain⟨pz,pz'⟩:=List.getElem?_zip_eq_some.mp (show(xs.zip ys)[j]?=some (pr.1,pr.2) from e2);obtain⟨u',hu,ru⟩:=rv.get pz;obtain⟨v',hv,rv2⟩:=rv'.get pz';have eu':its[j]?=some u:=by simpa using eu
      have ev':its'[j]?=some v:=by simpa using ev
      rw[hu]at eu';cases eu';rw[hv]at ev';cases ev';exact⟨(by show 2<=au;decide),[u,v],.cons ru (.cons rv2 .nil),⟨_,ip,rfl,0,rfl⟩⟩
     ·rw[jM ht]at e;refine(I1.WJ b o e).kQ (λx v hx hv=>k1 x v hv) (λx hx=>(old x (by rw[hx];simp)).trans hx) λx zs hx=>(old x (by rw[hx];simp)).trans hx
   have J:=I1.call (g':=s1.gens) (d':=s1.drawn) (t':=s1.toks) (ch:=[]) un WJ I1.bare λb hb=>absurd hb aE;exact⟨V.ref _,_,J,rfl,q _ ts ac.len ac.nd nA frA⟩
end
section
theorem wq:typeLookup (.type "list") "keys"=pure none:=by rw[jA,fR];kernel_rfl
theorem Ks {P:aI}{E:af->ah->Prop}{xs:Array af}{k:Nat}{Q:Option af->ah->Prop}(hx:s.heap.get? a=some { cls:=.type "list",data:=.seq xs k })(hA:A.handled=none)
  (h:∀h' tk,(∀b o,s.heap.get? b=some o->h'.get? b=some o)->Q none { s with heap:=h',toks:=tk }):aq (model P w) A (getAttr? (.ref a) "keys") Q E s:=by
 obtain⟨hp,g,d,tk,os⟩:=s;have ty:∀t,(⟨hp,g,d,t,os⟩:ah).TypeIs (.ref a) "list":=λ_=>⟨_,hx,rfl⟩;have g1:=sub_AttributeError;have g3:=F.slot_list_getattribute.lookup;have g4:=F.slot_list_getattribute.bind (.ref a);have g5:=am_list_getattr_none;unfold getAttr? getAttrBy? getAttrBy
 repeat any_goals first |assumption |exact ty _ | ((with_reducible show aq _ _ (call (Value.builtin "list.__getattribute__") _ _) _ _ _);refine gW F.slot_list_getattribute (ty _) am_entry_list_getattribute (F.args_list_getattribute_2 _ _) (meets_getattribute_miss_list a xs k #[] "keys" _ wq (by decide) (by decide)) ⟨hx,hA,λh' tk' e new=>?_⟩)|wp_step
 obtain⟨_,_,there⟩:=new.there;refine(show aq _ _ (getattributeRaised _ _ _ _ _ _ _) _ _ _ from ?_);unfold getattributeRaised
 repeat any_goals first |assumption |wp_step
 exact h _ _ new.keeps
theorem sF:entryFor table "dict.update.loop"=some Builtin.«dict.update.loop»:=entryFor_of_fast (by kernel_rfl)
theorem j3:plainId "dict.update.loop"=true:=by decide +kernel
section
variable {P:aI}{w:aZ}{A:br}{E:af->ah->Prop}{s:ah}{R:Result->ah->Prop}{K:Type} [DecidableEq K] {kk:KeyKind P w K}{l d it:Addr}{items:Array af}{qs:List (K×af)}{h0:Heap}
def Cs (kk:KeyKind P w K)(h:Heap)(items:Array af)(qs:List (K×af)):Prop:=items.size=qs.length/\∀(i:Nat)(u:af),items[i]?=some u->∃t ku k v,u=.ref t/\qs[i]?=some (k,v)/\IsTup h t #[ku,v]/\kk.is k ku=true
theorem yg (kvs more:List (K×af))(p:K×af):merged kvs (more++[p])=stored (merged kvs more) p.1 p.2:=by unfold merged;rw[List.foldl_append];rfl
theorem zD (kvs:List (K×af))(k:K)(v:af):(stored kvs k v).length<=kvs.length+1:=by
 unfold stored;split<;>simp
theorem mU:∀(more kvs:List (K×af)),(merged kvs more).length<=kvs.length+more.length
 | [],kvs=>by simp[merged]
 |p::r,kvs=>by
  have h1:=mU r (stored kvs p.1 p.2);have h2:=zD kvs p.1 p.2;show(merged (stored kvs p.1 p.2) r).length<=_;simp only[aN];lia
theorem zT (hh:A.handled=none)(hl:h0.IsList l items)(hp:Cs kk h0 items qs)(hz:qs.length<=au)(hd:d∉[it,l])(hi:it≠l)(f1:h0.get? it=none)(f2:h0.get? d=none):
  ∀(m i:Nat)(s:ah)(t:Tok),qs.length - i=m->i<=qs.length->s.heap.IsListIter it l i->(∀b o,h0.get? b=some o->s.heap.get? b=some o)->s.heap.DictOf kk d (merged [] (qs.take i))->
  (∀h' tk,(∀b o,b≠it->b≠d->s.heap.get? b=some o->h'.get? b=some o)->h'.DictOf kk d (merged [] qs)->R (.ok (.ret .none)) { s with heap:=h',toks:=tk })->
  codeAny (model P w) A (.builtin "dict.update.loop" ⟨[.ref d,.ref it,.int i t,.none],[]⟩) R s:=by
 have wk:=Walks.list (prog:=P) (w:=w) (A:=A.in1) hh it l hi.symm items;simp only[aV,aE,or_false,not_or]at hd;intro m
 induction m with
 |zero=>
  intro i s t hm hi' st kp dd fin;obtain rfl:i=qs.length:=by lia
  rw[List.take_length]at dd;refine dY sF ?_;rw[c7 j3 _];refine aa (m:=pyNext (.ref it)) (wk.done s _ _ ⟨by rw[hp.1];exact st,hl.at λo e=>kp l o e⟩ λh' tk k=>?_);refine aa (m:=Builtin.Dict.addKeywords d []) (ak (ak (fin h' tk (λb o b1 _ e=>k b o (by simpa using b1) e) (dd.extBut (b:=it) (λb o n e=>k b o (by simpa using n) e) hd.1))))
 |succ m ih=>
  intro i s t hm hi' st kp dd fin;have lt:i<qs.length:=by lia
  refine dY sF ?_;rw[c7 j3 _];refine aa (m:=pyNext (.ref it)) (wk.item i s _ _ (by rw[hp.1];exact lt) ⟨st,hl.at λo e=>kp l o e⟩ λu h1 tk hu st1 k1=>?_);obtain⟨tp,ku,kq,v,rfl,eq,itp,isk⟩:=hp.2 i u hu;have k1':∀b o,b≠it->s.heap.get? b=some o->h1.get? b=some o:=λb o n e=>k1 b o (by simpa using n) e;have nit:∀b o,h0.get? b=some o->b≠it:=λb o e z=>by rw[z,f1]at e;cases e
  have nd:∀b o,h0.get? b=some o->b≠d:=λb o e z=>by rw[z,f2]at e;cases e
  obtain⟨ot,hot,oc,n,od⟩:=itp;have hot1:h1.get? tp=some ot:=k1' _ _ (nit _ _ hot) (kp _ _ hot);have dd1:h1.DictOf kk d (merged [] (qs.take i)):=dd.extBut (b:=it) (λb o n e=>k1' b o n e) hd.1;refine aa (m:=holding [.ref tp] _) (a9 ?_);refine aa (wpAny_tryCatch ?_);unfold Builtin.Dict.pairItems;refine aa (gu (T:="tuple") ⟨ot,hot1,oc⟩ ?_);rw[if_pos (by decide)];refine aa (fj hot1 od (ak ?_));have ml:(merged [] (qs.take i)).length<=au:=by
   have:=mU (qs.take i) ([]:List (K×af));simp at this
   lia
  refine a9 (wpAny_dictSet_pairs (hsz:=ml) isk dd1 λh2 dd2 sb=>?_);have etk:merged [] (qs.take (i+1))=stored (merged [] (qs.take i)) kq v:=by
   rw[List.take_add_one,eq];exact yg _ _ (kq,v)
  refine ak ⟨gG j3 _,?_⟩;refine ih (i+1) _ 0 (by lia) lt (st1.1.extBut sb.extBut λz=>hd.1 z.symm) (λb o e=>sb.extBut _ _ (nd _ _ e) (k1' _ _ (nit _ _ e) (kp _ _ e))) (by rw[etk];exact dd2) λh' tk' k2 dq=>?_;exact fin h' tk' (λb o b1 b2 e=>k2 b o b1 b2 (sb.extBut _ _ b2 (k1' _ _ b1 e))) dq
theorem qu {xs:Array af}{c:Nat}(hh:A.handled=none)(hx:s.heap.get? l=some { cls:=.type "list",data:=.seq items c })(hp:Cs kk s.heap items qs)(hz:qs.length<=au)
  (h:∀h' tk,(∀b o,s.heap.get? b=some o->h'.get? b=some o)->h'.DictOf kk s.heap.objs.size (merged [] qs)->Q (.ref s.heap.objs.size) { s with heap:=h',toks:=tk }):
  aq (model P w) A (call (.type "dict") [.ref l]) Q E s:=by
 refine callType_codes (Q₁:=λo t=>o=.ref s.heap.objs.size/\t={ s with heap:=s.heap.push { cls:=.type "dict",data:=.dict #[] } }) F.kt_called_dict (F.kt_typeCall_dict_1 _) F.entry_dict_init (kt_code_dict_new _ ⟨rfl,rfl⟩) ?_;rintro o t ⟨rfl,rfl⟩;have new:(s.heap.push { cls:=.type "dict",data:=.dict #[] }).DictOf kk s.heap.objs.size []:=Heap.DictOf.new s.heap;have sz1:(s.heap.push { cls:=.type "dict",data:=.dict #[] }).objs.size=s.heap.objs.size+1:=bI ..;have k0:∀b o,s.heap.get? b=some o->(s.heap.push { cls:=.type "dict",data:=.dict #[] }).get? b=some o:=λb o e=>aj _ e;have fr:s.heap.get? s.heap.objs.size=none:=by
  cases e:s.heap.get? s.heap.objs.size with
  |none=>rfl
  |some o=>exact absurd (ax e) (bw _)
 generalize s.heap.push { cls:=.type "dict",data:=.dict #[] }=ha at new sz1 k0
 refine⟨new.typeIs,F.args_dict_init_2 _ _,?_⟩;unfold Builtin.«dict.__init__»;refine aa (aa (wpAny_notOrdered_dict new.typeIs (ak ?_)));refine(show aq _ _ (Builtin.Dict.updateFrom "dict.__init__" s.heap.objs.size (.ref l) [] .none) _ _ _ from ?_);unfold Builtin.Dict.updateFrom;have hx1:=k0 _ _ hx;refine aa (gu (T:="list") ⟨_,hx1,rfl⟩ ?_);rw[if_pos (by decide)];refine aa (Ks (s:={ s with heap:=ha }) hx1 hh λh1 tk k1=>?_);simp only[Option.isNone_none,if_true];refine aa (m:=rule _) (gc ?_);have hx2:h1.IsList l items:=⟨_,k1 _ _ hx1,rfl,c,rfl⟩;refine aa (m:=pyIter (.ref l)) (iF hx2 ?_);have le1:s.heap.objs.size<h1.objs.size:=by
  obtain⟨od,_,_,hod,_⟩:=new;exact ax (k1 _ _ hod)
 have dd1:h1.DictOf kk s.heap.objs.size []:=by
  obtain⟨od,es,ep,hod,r⟩:=new;exact⟨od,es,ep,k1 _ _ hod,r⟩
 have lt:l<s.heap.objs.size:=ax hx;have fr2:s.heap.get? h1.objs.size=none:=by
  cases e:s.heap.get? h1.objs.size with
  |none=>rfl
  |some o=>exact absurd (eh (ax e) le1) (bw _)
 refine ak ⟨gG j3 _,zT (A:=A.in1) (h0:=s.heap) hh ⟨_,hx,rfl,c,rfl⟩ hp hz ?_ ?_ fr2 fr _ 0 _ 0 rfl (bG _) ⟨_,aB _ rfl,rfl,rfl⟩ (λb o e=>aj _ (k1 _ _ (k0 _ _ e))) (dd1.push _) λh' tk' k2 dq=>⟨rfl,h h' tk' (λb o e=>k2 b o ?_ ?_ (aj _ (k1 _ _ (k0 _ _ e)))) dq⟩⟩
 ·simp only[aV,aE,or_false,not_or];exact⟨aT le1,d9 lt⟩
 ·exact d9 (eh lt le1)
 ·exact λz=>by rw[z,fr2]at e;cases e
 ·exact λz=>by rw[z,fr]at e;cases e
end
inductive vz (H:Hp):List V->List (Key×V)->Prop where
 |nil:vz H [] []
 |cons {t:Addr} {k:Key} {v:V} {xs:List V} {kvs:List (Key×V)} (e:H t=some (.tup [kV k,v])) (r:vz H xs kvs):vz H (.ref t::xs) ((k,v)::kvs)
theorem xV {X:Cx}{H:Hp}{h:Heap}(ok:Xo X.prog X.w H h):∀{xs:List V}{kvs:List (Key×V)}{us:List af},vz H xs kvs->bA xs us->∃qs,KV kvs qs/\us.length=qs.length/\∀(i:Nat)(u:af),us[i]?=some u->∃t ku k v,u=.ref t/\qs[i]?=some (k,v)/\IsTup h t #[ku,v]/\(bZ X.prog X.w).is k ku=true
 |_,_,_,.nil,.nil=>⟨[],.nil,rfl,λi u z=>by simp at z⟩
 |_,_,_,.cons (t:=t) (k:=k) e r,.cons a b=>by
  obtain⟨qs,rk,ln,at'⟩:=xV ok r b;obtain rfl:=(show _=Value.ref t from a);obtain⟨_,its,rv,tp⟩:=(show bJ X.prog X.w H h t (.tup _) from ok t _ e);cases rv with
  |cons rk' rv=>cases rv with
   |cons rv' rv=>
    cases rv;rename_i ku vu;refine⟨(k,vu)::qs,.cons ⟨rfl,rv'⟩ rk,by simp[ln],λi u z=>?_⟩;cases i with
    |zero=>simp at z;subst z;exact⟨t,ku,k,vu,rfl,rfl,tp,iL rk'⟩
    |succ i=>exact at' i u (by simpa using z)
def F5:List V->Hp->VK->Prop:=λvs H Q=>∃l xs kvs,vs=[.ref l]/\H l=some (.lst xs)/\vz H xs kvs/\jh H (.dK (kX [] kvs)) Q
theorem AQ (hc:X.calm=true):cu X (.type "dict") F5:=by
 intro pins s σ H xs us Q I r h;obtain⟨l,xs,kvs,rfl,hl,pv,q⟩:=h;obtain⟨u,rfl,ru⟩:=vals1 r;cases (show u=Value.ref l from ru);obtain⟨hz,its,n,rv,p⟩:=(show bJ X.prog X.w H s.heap l (.lst xs) from I.WJ l _ hl);obtain⟨qs,rk,ln,at'⟩:=xV I.WJ pv rv;have lq:qs.length<=au:=by rw[←ln,←rv.length];exact hz
 refine qu (xs:=#[]) (kk:=bZ X.prog X.w) (I.ok.hd hc) p ⟨by simp[ln],λi u e=>at' i u (by simpa using e)⟩ lq λh' tk k dd=>?_;have rm:=KV.merge rk (show KV ([]:List (Key×V)) ([]:List (Key×af)) from .nil);refine⟨V.ref _,_,I.laid (a:=s.heap.objs.size) (o:=.dK (kX [] kvs)) (t':=tk) k (aw _) ⟨?_,?_,_,rm,dd⟩,rfl,q.upd _ (I.WJ.fresh (aw _))⟩
 ·rw[rm.length];have:=mU qs ([]:List (Key×af));simp at this
  lia
 ·have:=I.big;exact beq_false_of_ne (d9 this)
end
section
section
variable {P:aI}{w:aZ}{A:br}{s:ah}{R:Result->ah->Prop}{elt t0 i0 t1 i1:Expr}{scope:Scope}{pos:Pos}{it acc:af}{env:Env}
abbrev two (elt t0 i0 t1 i1:Expr)(scope:Scope)(pos:Pos):Expr:=.ListComp elt [⟨t0,i0,[],0⟩,⟨t1,i1,[],0⟩] scope pos
theorem Eo:compTurn (two elt t0 i0 t1 i1 scope pos) 0 it acc env=(standAt i0.pos >>=λ_=>pyNext it >>=λr=>match r with
  |none=>pure (.done .next)
  |some v=>letOwnedTupleGo t0 it v >>=λ_=>assign t0 env v >>=λ_=>
   (eval i1 env >>=λx=>standAt i1.pos >>=λ_=>foldedSetIterable i1 env x >>=λx=>holding [x] (pyIter x) >>=λit2=>runOwn (.compStart (two elt t0 i0 t1 i1 scope pos) 1 it2 acc env) env >>=λ_=>again (.compLoop (two elt t0 i0 t1 i1 scope pos) 0 it acc env))):=by rfl
theorem I8:compTurn (two elt t0 i0 t1 i1 scope pos) 1 it acc env=(standAt i1.pos >>=λ_=>pyNext it >>=λr=>match r with
  |none=>pure (.done .next)
  |some v=>letOwnedTupleGo t1 it v >>=λ_=>assign t1 env v >>=λ_=>
   (eval elt env >>=λx=>call (.builtin "list.append") [acc,x] >>=λ_=>pure ()) >>=λ_=>again (.compLoop (two elt t0 i0 t1 i1 scope pos) 1 it acc env)):=by rfl
theorem KA (I:Nat->ah->Prop)
  (turn:∀n s,I n s->aq (model P w) A (pyNext it) (λr s1=>match r with
   |none=>R (.ok .next) s1
   |some v=>aq (model P w) A (letOwnedTupleGo t1 it v) (λ_ s2=>aq (model P w) A (assign t1 env v) (λ_ s3=>aq (model P w) A (eval elt env) (λx s4=>
     aq (model P w) A (call (.builtin "list.append") [acc,x]) (λ_ s5=>∃m,m<n/\I m s5) (λ_ _=>False) s4) (λ_ _=>False) s3) (λ_ _=>False) s2) (λ_ _=>False) s1) (λ_ _=>False) s)
  (n:Nat) (h:I n s):codeAny (model P w) A (.compLoop (two elt t0 i0 t1 i1 scope pos) 1 it acc env) R s:=by
 refine m9 rfl I (λn s hI=>?_) n h;refine(show aq _ A ((compTurn (two elt t0 i0 t1 i1 scope pos) 1 it acc env).onRaise (λx=>do noteFrame x env;theTreesLotGoes x)) _ _ s from pP ?_);rw[I8];refine aa (cg (aa (aX (turn n s hI) (λr s1 h1=>?_) λ_ _ z=>z.elim)));cases r with
 |none=>exact ak h1
 |some v=>exact aa (aX h1 (λ_ s2 h2=>aa (aX h2 (λ_ s3 h3=>aa (aa (aX h3 (λx s4 h4=>aa (aX h4 (λ_ s5 h5=>ak (ak ⟨rfl,h5⟩)) λ_ _ z=>z.elim)) λ_ _ z=>z.elim))) λ_ _ z=>z.elim)) λ_ _ z=>z.elim)
theorem G3 (hs:∀x,foldedSetIterable i1 env x=pure x)(I:Nat->ah->Prop)
  (turn:∀n s,I n s->aq (model P w) A (pyNext it) (λr s1=>match r with
   |none=>R (.ok .next) s1
   |some v=>aq (model P w) A (letOwnedTupleGo t0 it v) (λ_ s2=>aq (model P w) A (assign t0 env v) (λ_ s3=>aq (model P w) A (eval i1 env) (λx s4=>aq (model P w) A (pyIter x) (λit2 s5=>
     codeAny (model P w) A (.compStart (two elt t0 i0 t1 i1 scope pos) 1 it2 acc env) (λr s6=>r=.ok .next/\∃m,m<n/\I m s6) s5) (λ_ _=>False) s4) (λ_ _=>False) s3) (λ_ _=>False) s2) (λ_ _=>False) s1) (λ_ _=>False) s)
  (n:Nat) (h:I n s):codeAny (model P w) A (.compLoop (two elt t0 i0 t1 i1 scope pos) 0 it acc env) R s:=by
 refine m9 rfl I (λn s hI=>?_) n h;refine(show aq _ A ((compTurn (two elt t0 i0 t1 i1 scope pos) 0 it acc env).onRaise (λx=>do noteFrame x env;theTreesLotGoes x)) _ _ s from pP ?_);rw[Eo];refine aa (cg (aa (aX (turn n s hI) (λr s1 h1=>?_) λ_ _ z=>z.elim)));cases r with
 |none=>exact ak h1
 |some v=>
  refine aa (aX h1 (λ_ s2 h2=>aa (aX h2 (λ_ s3 h3=>aa (aX h3 (λx s4 h4=>aa (cg ?_)) λ_ _ z=>z.elim)) λ_ _ z=>z.elim)) λ_ _ z=>z.elim);rw[hs];refine aa (ak (aa (a9 (aX h4 (λit2 s5 h5=>aa ?_) λ_ _ z=>z.elim))));exact wpAny_runOwn (dJ h5 λr s6 ⟨e,q⟩=>by subst e;exact ak ⟨rfl,q⟩)
theorem E4 (h0:codeAny (model P w) A (.compLoop (two elt t0 i0 t1 i1 scope pos) 1 it acc env) R s)
  (h:aq (model P w) A (pyIter it) (λj s'=>codeAny (model P w) A (.compLoop (two elt t0 i0 t1 i1 scope pos) 1 j acc env) R s') (λ_ _=>False) s):
  codeAny (model P w) A (.compStart (two elt t0 i0 t1 i1 scope pos) 1 it acc env) R s:=by
 refine jB ?_;refine(show aq _ _ ((compStart (two elt t0 i0 t1 i1 scope pos) 1 it acc env).onRaise (λx=>do noteFrame x env;standAt theWindowsPlace)) _ _ s from wpAny_notedAt ?_);unfold compStart;refine(show aq _ _ (ask >>=_) _ _ s from aa (i9 (wpAny_ite ?_)));have h':=aX h (λj s' q=>q) (λ_ _ z=>z.elim) (E':=notedBy (model P w) A env λx s'=>R (.error x) s');split
 ·first
   |exact aa (ak (ak (And.intro rfl h0)))
   |exact ak (And.intro rfl h0)
 ·refine aa (m:=rule _) (gc ?_);exact aa (m:=standAt i1.pos) (cg (aa (aX h' (λj s' q=>ak ⟨rfl,q⟩) λ_ _ x=>x)))
end
def Ct (J:It)(g:TG)(wi2:TI)(g2:TG)(te:TE)(D:Addr)(σ0:St)(H:Hp)(Q:VK):Prop:=
 ∃W:Nat->Nat->List V->St->Hp->Prop,(∃m,W 0 m [] σ0 (upd H D (.lst [])))/\∀i m ys σ' H',W i m ys σ' H'->(J.stop i H'/\Q (.ref D) H')\/(J.go i H'/\∀x H2,J.yld i H' x H2->g x σ' H2 λσ3 H3=>wi2 σ3 H3 λJ2 H4=>
  ∃U:Nat->Nat->List V->St->Hp->Prop,(∃n,U 0 n ys σ3 H4)/\∀j n zs σ5 H5,U j n zs σ5 H5->(J2.stop j H5/\∃m',m'<m/\W (i+1) m' zs σ5 H5)\/(J2.go j H5/\∀x2 H6,J2.yld j H5 x2 H6->g2 x2 σ5 H6 λσ7 H7=>te σ7 H7 λy H8=>
   H8 D=some (.lst zs)/\zs.length<au/\∃n',n'<n/\U (j+1) n' (zs++[y]) σ7 (upd H8 D (.lst (zs++[y])))))
def zy (wi:TI)(g:TG)(wi2:TI)(g2:TG)(te:TE)(nv:Nat)(ix:List Nat):TE:=λσ H Q=>wi σ H λJ H1=>∀D,H1 D=none->Ct J g wi2 g2 te D (eE nv ix σ) H1 Q
section
variable {X:Cx}{elt t0 i0 t1 i1:Expr}{scope:Scope}{pos:Pos}{g g2:TG}{wi wi2:TI}{te:TE}{vars:List Str}{ix:List Nat}
theorem qj {E:af->ah->Prop}{RR:af->Addr->Result->ah->Prop}{it:Addr}{J:It}
  (hc:X.calm=true) (bq:List Str) (hix:ix.map (λi=>X.N.getD i "")=bq) (hlen:∀i∈ix,i<X.N.length) (ok:d7 scope X.env.scope vars bq=true) (nd:(vars++bq).Nodup)
  (hg:∀cl C ι s H,PG (W4 X scope (vars++bq) cl C ι s H) t0 g) (hi2:∀cl C ι s H,PI (W4 X scope (vars++bq) cl C ι s H) t1 i1 wi2) (hg2:∀cl C ι s H,PG (W4 X scope (vars++bq) cl C ι s H) t1 g2) (he:∀cl C ι s H,PE (W4 X scope (vars++bq) cl C ι s H) elt te)
  (hs2:∀env x,foldedSetIterable i1 env x=pure x)
  (hcl:cl=fX X.env scope.names []) (I:Inv X pins σ H s) (T:Turn X.prog X.w X.K t0 J ι it tn) (st:tn 0 s.heap) (fo:∀b∈ι,kh X pins H b)
  (rd:∀D,H D=none->Ct J g wi2 g2 te D (eE vars.length ix σ) H Qr)
  (hRR:∀D C H' s' m,Inv X pins σ H' s'->s'.heap.Ns C m->kh X pins H' C->Qr (.ref D) H'->RR (.ref D) C (.ok .next) s'):
  aq (model X.prog X.w) X.A (newList []) (λacc s₃=>aq (model X.prog X.w) X.A (newFunctionEnv scope X.env.globals cl [] X.env.qual none .none (some X.env)) (λay8 s₄=>
   codeAny (model X.prog X.w) X.A (.compStart (two elt t0 i0 t1 i1 scope pos) 0 (.ref it) acc { ay8 with scope:=relabel scope X.env }) (RR acc ay8.locals) s₄) E s₃) E s:=by
 have okk:=ok;unfold d7 at okk;simp only[ag]at okk;have ad2:scope.kind=.function:=eq_of_beq okk.1.1.1;have hf:H s.heap.objs.size=none:=I.WJ.fresh (aw _);refine bC ?_;have I1:=I.laid (a:=s.heap.objs.size) (o:=.lst []) (h':=s.heap.push { cls:=.type "list",dict:=none,data:=.seq ([]:List af).toArray }) (t':=s.toks) (λb u e=>aj _ e) (aw _) ⟨bG _,[],0,.nil,aB _ rfl⟩;obtain⟨W,⟨m0,w0⟩,turn⟩:=rd _ hf
 generalize hD:s.heap.objs.size=D at *
 generalize hs3:({ s with heap:=s.heap.push { cls:=.type "list",dict:=none,data:=.seq ([]:List af).toArray } }:ah)=s3 at *
 have st3:tn 0 s3.heap:=T.keep _ _ _ st λb hb o e=>by rw[←hs3];exact aj _ e
 have nD:∀b∈ι,b≠D:=λb hb z=>by
  obtain⟨o,e,_⟩:=T.obj _ _ st b hb;have:=ax e;rw[z,hD]at this;exact bw _ this
 have fo3:∀b∈ι,kh X pins (upd H D (.lst [])) b:=λb hb=>by
  obtain⟨a0,a1⟩:=fo b hb;exact⟨by rw[aQ (nD b hb)];exact a0,a1⟩
 refine eA λh1 hh1=>?_;obtain⟨J0,st4,Xg,fin⟩:=jR (tk:=s3.toks+([]:List (Str×af)).length) bq hix hlen ok hcl rfl I1 T st3 fo3 hh1;have loop:∀s₄:ah,s₄={ s3 with heap:=h1,toks:=s3.toks+([]:List (Str×af)).length }->
   codeAny (model X.prog X.w) X.A (.compLoop (two elt t0 i0 t1 i1 scope pos) 0 (.ref it) (.ref D) (compEnvC scope (bj (s3.heap.objs.size+1) scope.names cl) s3.heap.objs.size X.env)) (RR (.ref D) s3.heap.objs.size) s₄:=by
  rintro s₄ rfl;refine G3 (hs2 _) (λn s'=>∃i ys σ' H',Inv (Ww X scope (vars++bq) cl ι s3 (upd H D (.lst []))) [] σ' H' s'/\tn i s'.heap/\(∀b∈ι,H' b=none)/\W i n ys σ' H') ?_ m0 ⟨0,[],_,_,J0,st4,λb hb=>(fo3 b hb).1,w0⟩;rintro n s5 ⟨i,ys,σ5,H5,J5,t5,f5,w5⟩;rcases turn i n ys σ5 H5 w5 with ⟨stop,q⟩|⟨go,step⟩
  ·refine WL (T.done (Ww X scope (vars++bq) cl ι s3 (upd H D (.lst []))) rfl rfl rfl hc i [] s5 σ5 H5 _ J5 (Xg _ f5) t5 stop) λr s6 ⟨hr,J6⟩=>?_;subst hr;obtain⟨K1,⟨mm,K2⟩,K3⟩:=fin _ _ _ J6;exact hRR D _ _ _ mm K1 K2 K3 q
  ·refine WL (T.item (Ww X scope (vars++bq) cl ι s3 (upd H D (.lst []))) rfl rfl rfl hc i [] s5 σ5 H5 _ J5 (Xg _ f5) t5 go) λr s6 zq=>?_;obtain⟨u,hr,h6⟩:=zq;subst hr;refine WL h6 λ_ s7 zq=>?_;obtain⟨x,H7,J7,r7,y7,t7,f7⟩:=zq;have J7':=J7.pinned (Xg _ f7) (T.obj _ _ t7);have XE:∀{σ' H' s'},Inv (Ww X scope (vars++bq) cl ι s3 (upd H D (.lst []))) ([]++gR ι s7.heap) σ' H' s'->tn (i+1) s'.heap/\∀b∈ι,H' b=none:=λ{σ' H' s'} Y=>
    ⟨T.keep _ _ _ t7 λb hb o e=>(Y.pin (b,o) (aD _ (aD _ (cZ hb e)))).1,λb hb=>by
     obtain⟨o,e,_⟩:=T.obj _ _ t7 b hb;exact(Y.pin (b,o) (aD _ (aD _ (cZ hb e)))).2.1⟩
   refine WL (hg _ _ _ _ _ _ s7 σ5 H7 x u _ J7' r7 (step x H7 y7)) λ_ s8 zq=>?_;obtain⟨σ8,H8,J8,q8⟩:=zq;refine WL (hi2 _ _ _ _ _ _ s8 σ8 H8 _ J8 q8) λv9 s9 h9=>?_;refine WL h9 λitv s10 zq=>?_;obtain⟨it2,fp2,tn2,J2,H10,e10,J10,T2,st10,fo10,U,⟨n0,u0⟩,turn2⟩:=zq;subst e10;have ao6:∀H':Hp,(∀b∈fp2,H' b=none)->∀b∈fp2,kh (Ww X scope (vars++bq) cl ι s3 (upd H D (.lst []))) ([]++gR ι s7.heap) H' b:=λH' hn b hb=>⟨hn b hb,(fo10 b hb).2⟩;have aw0:codeAny (model X.prog X.w) X.A (.compLoop (two elt t0 i0 t1 i1 scope pos) 1 (.ref it2) (.ref D) (compEnvC scope (bj (s3.heap.objs.size+1) scope.names cl) s3.heap.objs.size X.env)) (λr s6=>r=.ok .next/\∃m,m<n/\∃i ys σ' H',Inv (Ww X scope (vars++bq) cl ι s3 (upd H D (.lst []))) [] σ' H' s6/\tn i s6.heap/\(∀b∈ι,H' b=none)/\W i m ys σ' H') s10:=by
    refine KA (λn' s'=>∃j zs σ' H',Inv (Ww X scope (vars++bq) cl ι s3 (upd H D (.lst []))) ([]++gR ι s7.heap) σ' H' s'/\tn2 j s'.heap/\(∀b∈fp2,H' b=none)/\U j n' zs σ' H') ?_ n0 ⟨0,ys,_,_,J10,st10,λb hb=>(fo10 b hb).1,u0⟩;rintro n' s11 ⟨j,zs,σ11,H11,J11,t11,f11,u11⟩;rcases turn2 j n' zs σ11 H11 u11 with ⟨stop2,m',hm,w'⟩|⟨go2,step2⟩
    ·refine WL (T2.done (Ww X scope (vars++bq) cl ι s3 (upd H D (.lst []))) rfl rfl rfl hc j _ s11 σ11 H11 _ J11 (ao6 _ f11) t11 stop2) λr s12 ⟨hr,J12⟩=>?_;subst hr;obtain⟨k1,k2⟩:=XE J12;exact⟨rfl,m',hm,i+1,zs,σ11,H11,J12.eW,k1,k2,w'⟩
    ·refine WL (T2.item (Ww X scope (vars++bq) cl ι s3 (upd H D (.lst []))) rfl rfl rfl hc j _ s11 σ11 H11 _ J11 (ao6 _ f11) t11 go2) λr s12 zq=>?_;obtain⟨u2,hr,h12⟩:=zq;subst hr;refine WL h12 λ_ s13 zq=>?_;obtain⟨x2,H13,J13,r13,y13,t13,f13⟩:=zq;have J13':=J13.pinned (ao6 _ f13) (T2.obj _ _ t13);have ag9:∀{σ' H' s'},Inv (Ww X scope (vars++bq) cl ι s3 (upd H D (.lst []))) (([]++gR ι s7.heap)++gR fp2 s13.heap) σ' H' s'->tn2 (j+1) s'.heap/\∀b∈fp2,H' b=none:=λ{σ' H' s'} Y=>
      ⟨T2.keep _ _ _ t13 λb hb o e=>(Y.pin (b,o) (aD _ (aD _ (cZ hb e)))).1,λb hb=>by
       obtain⟨o,e,_⟩:=T2.obj _ _ t13 b hb;exact(Y.pin (b,o) (aD _ (aD _ (cZ hb e)))).2.1⟩
     refine WL (hg2 _ _ _ _ _ _ s13 σ11 H13 x2 u2 _ J13' r13 (step2 x2 H13 y13)) λ_ s14 zq=>?_;obtain⟨σ14,H14,J14,q14⟩:=zq;refine WL (he _ _ _ _ _ _ s14 σ14 H14 _ J14 q14) λv s15 zq=>?_;obtain⟨y,H15,J15,r15,q15,l15,n2,hn2,u'⟩:=zq;refine WL (oZ _ s15 σ14 H15 (.ref D) [y] (.ref D) [v] (λz H16=>z=.WN/\H16=upd H15 D (.lst (zs++[y]))) J15 rfl (.cons r15 .nil) ⟨D,zs,y,rfl,rfl,q15,l15,rfl,rfl⟩) λ_ s16 zq=>?_;obtain⟨_,H16,J16,_,_,e16⟩:=zq;subst e16;obtain⟨k1,k2⟩:=ag9 J16;exact⟨n2,hn2,j+1,zs++[y],σ14,_,J16.eW,k1,k2,u'⟩
   exact E4 aw0 (T2.self _ 0 _ _ _ st10 aw0)
 exact codeAny_compStart_list (loop _ rfl) (T.self _ 0 _ _ _ st4 (loop _ rfl))
theorem GB (hc:X.calm=true)(bq:List Str)(hix:ix.map (λi=>X.N.getD i "")=bq)(hlen:ix.all (λi=>decide (i<X.N.length))=true)(ok:d7 scope X.env.scope vars bq=true)(nd:(vars++bq).Nodup)
  (hi:PI X t0 i0 wi) (hg:∀cl C fp s H,PG (W4 X scope (vars++bq) cl C fp s H) t0 g) (hi2:∀cl C fp s H,PI (W4 X scope (vars++bq) cl C fp s H) t1 i1 wi2) (hg2:∀cl C fp s H,PG (W4 X scope (vars++bq) cl C fp s H) t1 g2) (he:∀cl C fp s H,PE (W4 X scope (vars++bq) cl C fp s H) elt te)
  (hs:∀env x,foldedSetIterable i0 env x=pure x) (hs2:∀env x,foldedSetIterable i1 env x=pure x):PE X (two elt t0 i0 t1 i1 scope pos) (zy wi g wi2 g2 te vars.length ix):=by
 intro pins s σ H Q I h;obtain⟨h1,h2,h3⟩:=gb I ok;rw[eval_ListComp];refine cW (use:=none) rfl (hs _) h1 h2 h3 (WL (hi pins s σ H _ I h) λv s1 h1=>WL h1 λitv s2 h2=>?_);obtain⟨it,fp,tn,J,H2,rfl,I2,T,XQ,f2,rd⟩:=h2;refine qj (RR:=λacc C=>compPost (model X.prog X.w) X.A X.xe none (EP X pins σ Q) acc C) hc bq hix (λi hi=>of_decide_eq_true (List.all_eq_true.mp hlen i hi)) ok nd hg hi2 hg2 he hs2 rfl I2 T XQ f2 rd λD C H' s' m Y hn fo q=>⟨m,hn,λh' sb=>?_⟩;exact⟨.ref D,H',Y.turned (t':=s'.toks) (λb o hb e=>(sb.2 b hb).trans e) fo.1 fo.2.1 fo.2.2.2.1 fo.2.2.2.2.1 fo.2.2.2.2.2,rfl,q⟩
theorem Ge (hN:X.N.Nodup)(hiy:X.N[i]?=some y)(hy:X.env.scope.names.lookup y=some .local)(hsw:swapsWith (two elt t0 i0 t1 i1 scope pos) (some (.Name y p)) apos.line X.env=pure true)
  (hc:X.calm=true) (bq:List Str) (hix:ix.map (λi=>X.N.getD i "")=bq) (hlen:ix.all (λi=>decide (i<X.N.length))=true) (ok:d7 scope X.env.scope vars bq=true) (nd:(vars++bq).Nodup)
  (hi:PI X t0 i0 wi) (hg:∀cl C fp s H,PG (W4 X scope (vars++bq) cl C fp s H) t0 g) (hi2:∀cl C fp s H,PI (W4 X scope (vars++bq) cl C fp s H) t1 i1 wi2) (hg2:∀cl C fp s H,PG (W4 X scope (vars++bq) cl C fp s H) t1 g2) (he:∀cl C fp s H,PE (W4 X scope (vars++bq) cl C fp s H) elt te)
  (hs:∀env x,foldedSetIterable i0 env x=pure x) (hs2:∀env x,foldedSetIterable i1 env x=pure x):PS X (.Assign [.Name y p] (two elt t0 i0 t1 i1 scope pos) apos) (CA (zy wi g wi2 g2 te vars.length ix) (qd i)):=by
 intro pins s σ H D I h;obtain⟨h1,h2,h3⟩:=gb I ok;rw[exec_Assign_Name_used _ _ _ _ hsw];refine aa (cg (aa ?_));refine(show aq _ X.A (do let _ ←comprehension (two elt t0 i0 t1 i1 scope pos) scope X.env _ (newList []) false (eval i0 X.env) (some (assign (.Name y p) X.env))) _ _ s from ?_);refine aa (aX (cW (use:=some (assign (.Name y p) X.env)) (Q:=λ_ s'=>SP X pins D .next s') rfl (hs _) h1 h2 h3 (WL (hi pins s σ H _ I h) λv s1 h1=>WL h1 λitv s2 h2=>?_)) (λ_ s' hq=>ak (ak hq)) λ_ _ e=>e);obtain⟨it,fp,tn,J,H2,rfl,I2,T,XQ,f2,rd⟩:=h2;refine qj (Qr:=λx H1=>qd i x σ H1 D.nx) (RR:=λacc C=>compPost (model X.prog X.w) X.A X.xe (some (assign (.Name y p) X.env)) (λ_ s'=>SP X pins D .next s') acc C) hc bq hix (λi hi=>of_decide_eq_true (List.all_eq_true.mp hlen i hi)) ok nd hg hi2 hg2 he hs2 rfl I2 T XQ f2 rd λDa C H' s' m Y hn fo q=>?_;refine(show aq _ X.A (assign (.Name y p) X.env (.ref Da)) _ _ _ from ?_);refine uc (oJ Y hN hiy (Or.inl hy) (v:=.ref Da) rfl (λs2 Y2 ⟨a,sb,ha⟩=>?_) (.inr hy));have ne:C≠a:=by
  rcases ha with rfl|ha
  ·exact fo.2.1
  ·exact λz=>fo.2.2.2.2.1 _ _ ha z.symm
 refine⟨m,hn.sameBut sb ne,λh' sb2=>?_⟩;exact⟨_,H',Y2.turned (t':=s2.toks) (λb o hb e=>(sb2.2 b hb).trans e) fo.1 fo.2.1 fo.2.2.2.1 fo.2.2.2.2.1 fo.2.2.2.2.2,q⟩
end
end
section
def Bw (wi:TI)(g:TG)(tc:TT)(tk tv:TE)(nv:Nat)(ix:List Nat):TE:=λσ H Q=>wi σ H λJ H1=>∀D,H1 D=none->∃W:Nat->Nat->List (List Key×V)->St->Hp->Prop,(∃m,W 0 m [] (eE nv ix σ) (upd H1 D (.dT [])))/\
 ∀i m ys σ' H',W i m ys σ' H'->(J.stop i H'/\Q (.ref D) H')\/(J.go i H'/\∀x H2,J.yld i H' x H2->g x σ' H2 λσ3 H3=>tc σ3 H3 λb H4=>
  if b=true then tk σ3 H4 λy H5=>tv σ3 H5 λz H6=>∃k b,y=.ref b/\H6 b=some (.tup (k.map kV))/\H6 D=some (.dT ys)/\ys.length<au/\∃m',m'<m/\W (i+1) m' (putK ys k z) σ3 (upd H6 D (.dT (putK ys k z))) else ∃m',m'<m/\W (i+1) m' ys σ3 H4)
section
variable {X:Cx}{kx vx tg iter:Expr}{ifs:List Expr}{scope:Scope}{pos:Pos}{wi:TI}{g:TG}{tc:TT}{tk tv:TE}{vars:List Str}{ix:List Nat}
theorem C7 (hc:X.calm=true)(bq:List Str)(hix:ix.map (λi=>X.N.getD i "")=bq)(hlen:∀i∈ix,i<X.N.length)(ok:d7 scope X.env.scope vars bq=true)(nd:(vars++bq).Nodup)
  (hi:PI X tg iter wi) (hg:∀cl C fp s H,PG (W4 X scope (vars++bq) cl C fp s H) tg g) (ht:∀cl C fp s H,PTs (W4 X scope (vars++bq) cl C fp s H) ifs tc)
  (hk:∀cl C fp s H,PE (W4 X scope (vars++bq) cl C fp s H) kx tk) (hv:∀cl C fp s H,PE (W4 X scope (vars++bq) cl C fp s H) vx tv)
  (hs:∀x,foldedSetIterable iter X.env x=pure x) (hu:X.A.units+1<cLine):PE X (.DictComp kx vx [⟨tg,iter,ifs,0⟩] scope pos) (Bw wi g tc tk tv vars.length ix):=by
 intro pins s σ H Q I h;obtain⟨h1,h2,h3⟩:=gb I ok;have okk:=ok;unfold d7 at okk;simp only[ag]at okk;show aq _ X.A (comprehension (.DictComp kx vx [⟨tg,iter,ifs,0⟩] scope pos) scope X.env _ newDict false (eval iter X.env)) _ _ s;refine cW (use:=none) rfl hs h1 h2 h3 (WL (hi pins s σ H _ I h) λv s1 h1'=>WL h1' λitv s2 h2'=>?_);obtain⟨it,fp,tn,J,H2,rfl,I2,T,XQ,f2,rd⟩:=h2';have hf:H2 s2.heap.objs.size=none:=I2.WJ.fresh (aw _);refine bC ?_;have I1:=I2.laid (a:=s2.heap.objs.size) (o:=.dT []) (h':=s2.heap.push { cls:=.type "dict",dict:=none,data:=.dict #[] }) (t':=s2.toks) (λb u e=>aj _ e) (aw _) (yI s2.heap I2.big);obtain⟨W,⟨m0,w0⟩,turn⟩:=rd _ hf
 generalize hD:s2.heap.objs.size=D at *
 generalize hs3:({ s2 with heap:=s2.heap.push { cls:=.type "dict",dict:=none,data:=.dict #[] } }:ah)=s3 at *
 have st3:tn 0 s3.heap:=T.keep _ _ _ XQ λb hb o e=>by rw[←hs3];exact aj _ e
 have nD:∀b∈fp,b≠D:=λb hb z=>by
  obtain⟨o,e,_⟩:=T.obj _ _ XQ b hb;have:=ax e;rw[z,hD]at this;exact bw _ this
 have fo3:∀b∈fp,kh X pins (upd H2 D (.dT [])) b:=λb hb=>by
  obtain⟨a0,a1⟩:=f2 b hb;exact⟨by rw[aQ (nD b hb)];exact a0,a1⟩
 refine eA λh4 hh1=>?_;obtain⟨J0,st4,Xg,fin⟩:=jR (tk:=s3.toks+([]:List (Str×af)).length) bq hix hlen ok rfl rfl I1 T st3 fo3 hh1;have loop:∀s₄:ah,s₄={ s3 with heap:=h4,toks:=s3.toks+([]:List (Str×af)).length }->
   codeAny (model X.prog X.w) X.A (.compLoop (.DictComp kx vx [⟨tg,iter,ifs,0⟩] scope pos) 0 (.ref it) (.ref D) (compEnvC scope (bj (s3.heap.objs.size+1) scope.names (fX X.env scope.names [])) s3.heap.objs.size X.env)) (compPost (model X.prog X.w) X.A X.xe none (EP X pins σ Q) (.ref D) s3.heap.objs.size) s₄:=by
  rintro s₄ rfl;refine mK (λn s'=>∃i ys σ' H',Inv (Ww X scope (vars++bq) (fX X.env scope.names []) fp s3 (upd H2 D (.dT []))) [] σ' H' s'/\tn i s'.heap/\(∀b∈fp,H' b=none)/\W i n ys σ' H') ?_ m0 ⟨0,[],_,_,J0,st4,λb hb=>(fo3 b hb).1,w0⟩;rintro n s5 ⟨i,ys,σ5,H5,J5,t5,f5,w5⟩;rcases turn i n ys σ5 H5 w5 with ⟨stop,q⟩|⟨go,step⟩
  ·refine WL (T.done (Ww X scope (vars++bq) (fX X.env scope.names []) fp s3 (upd H2 D (.dT []))) rfl rfl rfl hc i [] s5 σ5 H5 _ J5 (Xg _ f5) t5 stop) λr s6 ⟨hr,J6⟩=>?_;subst hr;obtain⟨K1,⟨mm,K2⟩,K3⟩:=fin _ _ _ J6;exact⟨mm,K2,λh' sb=>⟨.ref D,H5,K1.turned (t':=s6.toks) (λb o hb e=>(sb.2 b hb).trans e) K3.1 K3.2.1 K3.2.2.2.1 K3.2.2.2.2.1 K3.2.2.2.2.2,rfl,q⟩⟩
  ·refine WL (T.item (Ww X scope (vars++bq) (fX X.env scope.names []) fp s3 (upd H2 D (.dT []))) rfl rfl rfl hc i [] s5 σ5 H5 _ J5 (Xg _ f5) t5 go) λr s6 zq=>?_;obtain⟨u,hr,h6⟩:=zq;subst hr;refine WL h6 λ_ s7 zq=>?_;obtain⟨x,H7,J7,r7,y7,t7,f7⟩:=zq;have J7':=J7.pinned (Xg _ f7) (T.obj _ _ t7);have XE:∀{σ' H' s'},Inv (Ww X scope (vars++bq) (fX X.env scope.names []) fp s3 (upd H2 D (.dT []))) ([]++gR fp s7.heap) σ' H' s'->tn (i+1) s'.heap/\∀b∈fp,H' b=none:=λ{σ' H' s'} Y=>
    ⟨T.keep _ _ _ t7 λb hb o e=>(Y.pin (b,o) (aD _ (aD _ (cZ hb e)))).1,λb hb=>by
     obtain⟨o,e,_⟩:=T.obj _ _ t7 b hb;exact(Y.pin (b,o) (aD _ (aD _ (cZ hb e)))).2.1⟩
   refine WL (hg _ _ _ _ _ _ s7 σ5 H7 x u _ J7' r7 (step x H7 y7)) λ_ s8 zq=>?_;obtain⟨σ8,H8,J8,q8⟩:=zq;refine WL (ht _ _ _ _ _ _ s8 σ8 H8 _ J8 q8) λb s9 zq=>?_;obtain⟨H9,J9,q9⟩:=zq;cases b with
   |false=>
    rw[if_neg aH]at q9 ⊢;obtain⟨m',hm,w'⟩:=q9;obtain⟨k1,k2⟩:=XE J9;exact⟨m',hm,i+1,ys,σ8,H9,J9.eW,k1,k2,w'⟩
   |true=>
    rw[if_pos rfl]at q9 ⊢;refine WL (hk _ _ _ _ _ _ s9 σ8 H9 _ J9 q9) λv s10 zq=>?_;obtain⟨y,H10,J10,r10,q10⟩:=zq;refine WL (hv _ _ _ _ _ _ s10 σ8 H10 _ J10 q10) λv2 s11 zq=>?_;obtain⟨z,H11,J11,r11,k,bk,ek,hbk,hd,l11,m',hm,w'⟩:=zq;subst ek;cases (show v=Value.ref bk from r10);obtain⟨zz,hsm,xs,rel,dd⟩:=Me J11.WJ hd;have hz:xs.length<=au:=by rw[←Paired.length rel];exact zz
    have hl:(putK ys k z).length<=au:=by have:=il ys k z;lia
    refine wpAny_dictSet_heap (hsz:=hz) (show X.A.units<cLine by lia) (j7 J11.WJ hbk) dd λh' dd' hs'=>?_;obtain⟨q,es,ep,hq,g2,g3,g4,_,g5⟩:=dd';have J12:=jq (t':=s11.toks+(tupleKind (bZ X.prog X.w)).draws k) (ob:=.dT (putK ys k z)) J11 (by rw[hd];exact True.intro) hs' ⟨q,hq⟩ ⟨hl,hsm,_,(rel.put k hbk r11).keeps λc zs ec=>(by rw[aQ (mE ec hd (λz=>nomatch z))];exact ec),q,es,ep,hq,g2,g3,g4,g5⟩;obtain⟨k1,k2⟩:=XE J12;exact⟨m',hm,i+1,putK ys k z,σ8,_,J12.eW,k1,k2,w'⟩
 exact codeAny_compStart_dict (loop _ rfl) (T.self _ 0 _ _ _ st4 (loop _ rfl))
end
end
structure TOk (t:SetTable):Prop where
 up:t.place.toList.Pairwise (·<·)
 nd:t.dummies=#[]
theorem Ej (up:xs.toList.Pairwise (·<·)){j k m:Nat}(h:k<=m)(hm:m<xs.size):xs.getD k j<=xs.getD m j:=by
 rcases Nat.lt_or_eq_of_le h with h |h
 ·have hk:k<xs.size:=eh h hm;have q:=List.pairwise_iff_getElem.mp up k m (by simpa using hk) (by simpa using hm) h;simp only[pV]at q;rw[bW,bW,aS hk,aS hm];exact fH q
 ·rw[h];exact aw _
theorem sY {xs:Array Nat}{j:Nat}(up:xs.toList.Pairwise (·<·)):∀(fuel lo hi:Nat),lo<=hi->hi<=xs.size->hi - lo<=fuel->(∀k,k<lo->xs.getD k j<j)->(∀k,hi<=k->k<xs.size->j<=xs.getD k j)->
  SetTable.below.go xs j fuel lo hi<=xs.size/\(∀k,k<SetTable.below.go xs j fuel lo hi->xs.getD k j<j)/\∀k,SetTable.below.go xs j fuel lo hi<=k->k<xs.size->j<=xs.getD k j
 | 0,lo,hi,h1,h2,h3,h4,h5=>by
  have e:lo=hi:=by lia
  subst e;unfold SetTable.below.go;exact⟨h2,h4,h5⟩
 |fuel+1,lo,hi,h1,h2,h3,h4,h5=>by
  have e:SetTable.below.go xs j (fuel+1) lo hi=if lo<hi then (if xs.getD ((lo+hi)/2) j<j then SetTable.below.go xs j fuel ((lo+hi)/2+1) hi else SetTable.below.go xs j fuel lo ((lo+hi)/2)) else lo:=rfl
  rw[e]
  by_cases XH:lo<hi
  ·rw[if_pos XH];have hm:(lo+hi)/2<hi:=by lia
   have hm2:(lo+hi)/2<xs.size:=by lia
   by_cases hj:xs.getD ((lo+hi)/2) j<j
   ·rw[if_pos hj];exact sY up fuel _ hi (by lia) h2 (by lia) (λk hk=>fG (Ej up (by lia) hm2) hj) h5
   ·rw[if_neg hj];exact sY up fuel lo _ (by lia) (by lia) (by lia) h4 λk hk hs=>b8 (Nat.not_lt.mp hj) (Ej up hk hs)
  ·rw[if_neg XH];have e:lo=hi:=by lia
   subst e;exact⟨h2,h4,h5⟩
theorem sX (up:xs.toList.Pairwise (·<·))(j:Nat):SetTable.below xs j<=xs.size/\(∀k,k<SetTable.below xs j->xs.getD k j<j)/\∀k,SetTable.below xs j<=k->k<xs.size->j<=xs.getD k j:=
 sY up xs.size 0 xs.size (bG _) (aw _) (by lia) (λk h=>absurd h (jC _)) λk h1 h2=>absurd h2 (by lia)
theorem AZ (up:xs.toList.Pairwise (·<·)):SetTable.below xs 0=0:=by
 obtain⟨_,h,_⟩:=sX up 0;cases e:SetTable.below xs 0 with
 |zero=>rfl
 |succ n=>exact absurd (h n (by rw[e];exact cF n)) (jC _)
theorem A0 (up:xs.toList.Pairwise (·<·))(hi:i<xs.size):SetTable.below xs (xs[i]+1)=i+1:=by
 obtain⟨h0,h1,h2⟩:=sX up (xs[i]+1);have gi:xs.getD i (xs[i]+1)=xs[i]:=by rw[bW,aS hi];rfl
 apply Nat.le_antisymm
 ·apply Nat.le_of_not_lt;intro XH;have hi1:i+1<xs.size:=aO XH h0;have q:=h1 (i+1) XH;have q2:=List.pairwise_iff_getElem.mp up i (i+1) (by simpa using hi) (by simpa using hi1) (cF i);simp only[pV]at q2;rw[bW,aS hi1]at q;simp only[Option.getD_some]at q
  lia
 ·apply Nat.lt_of_not_le;intro hle;have q:=h2 i hle hi;rw[gi]at q
  lia
theorem Dw (up:xs.toList.Pairwise (·<·)){j:Nat}(hn:xs[SetTable.below xs j]?≠some j):(SetTable.insertAt xs (SetTable.below xs j) j).toList.Pairwise (·<·):=by
 obtain⟨h0,h1,h2⟩:=sX up j;rw[SetTable.toList_insertAt];have gk:∀k (hk:k<xs.size),xs.getD k j=xs[k]:=λk hk=>by rw[bW,aS hk];rfl
 have lft:∀x∈xs.toList.take (SetTable.below xs j),x<j:=λx hx=>by
  obtain⟨k,hk,rfl⟩:=List.mem_iff_getElem.mp hx;rw[fm,cH]at hk;have hk1:k<SetTable.below xs j:=aO hk (Nat.min_le_left _ _);have hk2:k<xs.size:=aO hk (Nat.min_le_right _ _);have q:=h1 k hk1;rw[gk k hk2]at q
  simpa using q
 have rgt:∀x∈xs.toList.drop (SetTable.below xs j),j<x:=λx hx=>by
  obtain⟨k,hk,rfl⟩:=List.mem_iff_getElem.mp hx;rw[jf,cH]at hk;have hk2:SetTable.below xs j+k<xs.size:=by lia
  have q:=h2 (SetTable.below xs j+k) (by lia) hk2;rw[gk _ hk2]at q;have hb:SetTable.below xs j<xs.size:=by lia
  have q0:=h2 (SetTable.below xs j) (aw _) hb;rw[gk _ hb]at q0;have q1:xs[SetTable.below xs j]≠j:=λz=>hn (by rw[aS hb,z]);have q2:xs[SetTable.below xs j]<=xs[SetTable.below xs j+k]:=by
   have:=Ej up (j:=j) (mo (SetTable.below xs j) k) hk2
   rwa [gk _ hb,gk _ hk2]at this
  simp only[List.getElem_drop,pV]
  lia
 refine List.pairwise_append.mpr ⟨up.sublist (List.take_sublist _ _),List.pairwise_cons.mpr ⟨rgt,up.sublist (List.drop_sublist _ _)⟩,λx hx y hy=>?_⟩;rcases List.mem_cons.mp hy with rfl|hy
 ·exact lft x hx
 ·exact eh (lft x hx) (rgt y hy)
theorem has_none (j:Nat):SetTable.has #[] j=false:=by
 unfold SetTable.has;simp
theorem rH {t:SetTable}(nd:t.dummies=#[]){hs:Nat->Int}{h:Int}:∀(fuel:Nat)(p:SetTable.Probe)(j:Nat)(d:Option Nat),p.dummy=none->SetTable.probe.go t hs h fuel p=some (.empty j d)->d=none/\t.slot j=.empty
 | 0,p,j,d,hp,e=>by simp[SetTable.probe.go]at e
 |fuel+1,p,j,d,hp,e=>by
  unfold SetTable.probe.go at e;cases q:t.slot p.j with
  |empty=>
   rw[q]at e;simp only[Option.some.injEq,SetTable.Met.empty.injEq]at e;obtain⟨e1,e2⟩:=e;subst e1;exact⟨by rw[←e2,hp],q⟩
  |dummy=>
   exfalso;unfold SetTable.slot at q;simp only[nd,has_none]at q;split at q<;>cases q
  |live i=>
   rw[q]at e;simp only at e;split at e
   ·cases e
   ·refine rH nd fuel _ j d ?_ e;unfold SetTable.advance;split
    ·exact hp
    ·exact hp
theorem zH {t:SetTable}{j:Nat}(h:t.slot j=.empty):t.place[SetTable.below t.place j]?≠some j:=λz=>by
 unfold SetTable.slot at h;simp[z]at h
theorem NI {t:SetTable}(T:TOk t){h:Int}(e:t.freeSlot h=some (i,b)):TOk (t.put i).1:=by
 unfold SetTable.freeSlot SetTable.probe at e;split at e
 ·rename_i j d hp;obtain⟨rfl,he⟩:=rH T.nd _ _ j d rfl hp;simp only[mn,Option.isSome_none,Option.some.injEq,Prod.mk.injEq]at e;obtain⟨rfl,_⟩:=e;refine⟨?_,?_⟩
  ·show(SetTable.insertAt t.place (SetTable.below t.place j) j).toList.Pairwise (·<·);exact Dw T.up (zH he)
  ·show(if SetTable.has t.dummies j then SetTable.eraseAt t.dummies (SetTable.below t.dummies j) else t.dummies)=#[];rw[T.nd,has_none];rfl
 ·cases e
theorem FX (n:Nat):(Array.range n).toList.Pairwise (·<·):=by
 rw[Array.toList_range];exact List.pairwise_lt_range
theorem jW {t:SetTable}(n:Nat):TOk (t.standIn n):=⟨FX n,rfl⟩
theorem vV {t:SetTable}(T:TOk t)(n:Nat):TOk (t.orStandIn n):=by
 unfold SetTable.orStandIn;split
 ·exact T
 ·exact jW n
theorem tM {t:SetTable}(n:Nat):(t.orStandIn n).led=t.led:=by
 unfold SetTable.orStandIn;split<;>rfl
theorem Dp {t:SetTable}(T:TOk t)(es:Array (Int×af))(h:Int)(x:af):TOk (layNew t es h x).2.1/\(layNew t es h x).2.1.led=t.led:=by
 unfold layNew;split
 ·rename_i slot wd e;exact⟨vV (NI T e) _,tM _⟩
 ·exact⟨jW _,rfl⟩
theorem KF {plain:Bool}{hs:Array Int}{t:SetTable}{o:Array Nat}(e:SetTable.laid i n ep r plain hs=some (t,o)):TOk t/\t.led=r:=by
 unfold SetTable.laid at e;cases q:SetTable.layClean i hs with
 |none=>rw[q]at e;cases e
 |some ow=>
  rw[q]at e;simp only[Option.bind_eq_bind,je,Option.pure_def,Option.some.injEq,Prod.mk.injEq]at e;obtain⟨rfl,_⟩:=e;refine⟨⟨?_,rfl⟩,rfl⟩;simp only[List.toList_toArray];rw[List.pairwise_map,List.pairwise_filterMap];refine List.pairwise_lt_range.imp λ{a b} hab c hc d hd=>?_;obtain⟨_,_,rfl⟩:=Option.map_eq_some_iff.mp hc;obtain⟨_,_,rfl⟩:=Option.map_eq_some_iff.mp hd;exact hab
theorem xQ {t:SetTable}(T:TOk t)(es:Array (Int×af))(n:Nat):TOk (relayAll t es n).2.1/\(relayAll t es n).2.1.led=t.led:=by
 unfold relayAll;split
 ·rename_i t' o e;have:=KF e;simp only;split
  ·exact this
  ·exact⟨jW _,rfl⟩
 ·exact⟨jW _,rfl⟩
theorem HC (led:Bool):TOk (.fresh 0 0 led):=⟨List.Pairwise.nil,rfl⟩
theorem BI {α:Type}(next:Nat->Nat):∀(fuel k:Nat)(left:List α)(out:Array α),left.length<=fuel->(pickOrder.go next fuel k left out).toList.Perm (out.toList++left)
 | 0,k,left,out,h=>by
  have:left=[]:=List.length_eq_zero_iff.mp (by lia);subst this;unfold pickOrder.go;simp
 |fuel+1,k,left,out,h=>by
  unfold pickOrder.go;cases q:left[next k % left.length]? with
  |none=>
   simp only;have:left=[]:=by
    cases left with
    |nil=>rfl
    |cons a r=>
     have hl:next k % (a::r).length<(a::r).length:=Nat.mod_lt _ (by simp)
     rw[bB hl]at q;cases q
   subst this;simp
  |some x=>
   simp only;obtain⟨hl,hx⟩:=List.getElem?_eq_some_iff.mp q;have le:(left.eraseIdx (next k % left.length)).length<=fuel:=by rw[List.length_eraseIdx_of_lt hl];lia
   refine(BI next fuel (k+1) _ _ le).trans ?_;rw[Array.toList_push,ug];refine List.Perm.append_left _ ?_;show(x::left.eraseIdx (next k % left.length)).Perm left;rw[←hx,List.eraseIdx_eq_take_drop_succ];refine List.perm_middle.symm.trans (List.Perm.of_eq ?_);rw[←bU hl,List.take_append_drop]
theorem uI {α:Type}(next:Nat->Nat)(xs:Array α):(pickOrder next xs).toList.Perm xs.toList:=by
 have:=BI next xs.size 0 xs.toList #[] (by simp)
 simpa [pickOrder] using this
theorem uH {α:Type}(next:Nat->Nat)(xs:Array α):(pickOrder next xs).size=xs.size:=by
 have:=(uI next xs).length_eq
 simpa using this
section
def numOf:af->Int
 |.int i _=>i
 |_=>0
def nums (es:Array (Int×af)):List Int:=es.toList.map λe=>numOf e.2
def lI (w:aZ):Bool:=w.params.followText "set-order"
structure IT (P:aI)(w:aZ)(o:Obj)(es:Array (Int×af))(ep:Nat)(t:SetTable)(xs:List Int):Prop where
 ex:o.ExactSet
 dat:o.data=.set es ep t
 el:ElemsOf (PySem.intKind P w) es.toList
 few:es.size<scanBound
 fit:t.fits es.size=true
 tok:TOk t
 led:lI w=true\/t.led=true
 perm:(nums es).Perm xs
 nd:xs.Nodup
def jt (P:aI)(w:aZ)(h:Heap)(a:Addr)(xs:List Int):Prop:=∃o es ep t,h.get? a=some o/\IT P w o es ep t xs
section
variable {P:aI}{w:aZ}{A:br}{E:af->ah->Prop}{s:ah}{a:Addr}{xs:List Int}{k:Int}
theorem GN {es:Array (Int×af)}(el:ElemsOf (PySem.intKind P w) es.toList):k∈nums es↔∃e∈es.toList,(PySem.intKind P w).is k e.2=true:=by
 unfold nums;rw[List.mem_map];constructor
 ·rintro⟨e,he,rfl⟩;obtain⟨⟨j,hj,_⟩,_⟩:=el e he;obtain⟨t,ht⟩:=Value.isInt_shape hj;refine⟨e,he,?_⟩;rw[ht];show Value.isInt (numOf (.int j t)) (.int j t)=true;rw[ht]at hj;exact hj
 ·rintro⟨e,he,hk⟩;obtain⟨t,ht⟩:=Value.isInt_shape hk;exact⟨e,he,by rw[ht];rfl⟩
theorem Aq (k:Int)(t:Tok):(PySem.intKind P w).is k (.int k t)=true:=by
 show Value.isInt k (.int k t)=true;simp[Value.isInt]
theorem wt {t:SetTable}(h:lI w=true\/t.led=true)(e:t'.led=t.led):lI w=true\/t'.led=true:=by rw[e];exact h
theorem C3 {t:SetTable}(T:TOk t)(f:t.fits n=true):TOk (if b=true then t else { t with plain:=false })/\(if b=true then t else { t with plain:=false }:SetTable).fits n=true/\(if b=true then t else { t with plain:=false }:SetTable).led=t.led:=by
 cases b
 ·exact⟨⟨T.up,T.nd⟩,f,rfl⟩
 ·exact⟨T,f,rfl⟩
theorem uE {o:Obj}{es:Array (Int×af)}{t:SetTable}(ho:h.get? a=some o)(hd:o.data=.set es ep t):(h.update a (Obj.putSet es1 t1)).get? a=some { o with data:=.set es1 (ep+1) t1 }:=by
 have q:=bt (Obj.putSet es1 t1) ho (by rw[putSet_of es1 t1 hd];rfl)
 rwa [putSet_of es1 t1 hd]at q
theorem Cp {g:Bool->Sem Unit}(hg:∀(b:Bool)(s1:ah)(Q':Unit->ah->Prop),Q' () s1->aq (model P w) A (g b) Q' E s1){o:Obj}{es:Array (Int×af)}{t:SetTable}{ys:List Int}{R:Option Bool->ah->Prop}
  (ho:s.heap.get? a=some o) (S:IT P w o es ep t xs) (el:ElemsOf (PySem.intKind P w) es1.toList) (few:es1.size<scanBound) (fit:t1.fits es1.size=true) (tok:TOk t1) (led:lI w=true\/t1.led=true) (pm:(nums es1).Perm ys) (nd:ys.Nodup)
  (h:∀h',Heap.SameBut a s.heap h'->jt P w h' a ys->R (some true) { s with heap:=h' }):
  aq (model P w) A (do
   storeSet a es1 t1
   if (!r&&t1.tooFull)=true then do
    g (relayAll t1 es1 (SetTable.grown es1.size)).2.2
    storeSet a (relayAll t1 es1 (SetTable.grown es1.size)).1 (relayAll t1 es1 (SetTable.grown es1.size)).2.1
    pure (some true)
   else pure (some true)) R E s:=by
 refine aa (wpAny_storeSet_of ho S.dat ?_ (ue few));have o1:=uE (es1:=es1) (t1:=t1) ho S.dat;have b1:=Heap.SameBut.update s.heap a (Obj.putSet es1 t1);split
 ·have pr:=relayAll_perm t1 es1 (SetTable.grown es1.size);have ft:=relayAll_fits t1 es1 (SetTable.grown es1.size);have tk:=xQ tok es1 (SetTable.grown es1.size)
  generalize relayAll t1 es1 (SetTable.grown es1.size)=Y at pr ft tk ⊢
  obtain⟨es2,t2,gv⟩:=Y;dsimp only at pr ft tk ⊢;have sz:es2.size=es1.size:=by rw[←cH,pr.length_eq,cH]
  refine aa (hg _ _ _ (aa (wpAny_storeSet_of o1 rfl ?_ (ue (sz ▸ few)))));exact ak (h _ (b1.trans (Heap.SameBut.update _ a _)) ⟨_,es2,ep+1+1,t2,uE o1 rfl,⟨S.ex,rfl,el.perm pr,sz ▸ few,ft,tk.1,wt led tk.2,(List.Perm.map _ pr).trans pm,nd⟩⟩)
 ·exact ak (h _ b1 ⟨_,es1,ep+1,t1,o1,⟨S.ex,rfl,el,few,fit,tok,led,pm,nd⟩⟩)
def pM (xs:List Int)(k:Int):List Int:=if k∈xs then xs else xs++[k]
theorem Cq {xs:List Int}{k:Int}(h:xs.Nodup):(pM xs k).Nodup:=by
 unfold pM;split
 ·exact h
 ·rename_i hk;exact List.nodup_append.mpr ⟨h,by simp,λa ha b hb z=>by simp at hb;subst z;subst hb;exact hk ha⟩
theorem A3 {Q:Bool->ah->Prop}(S:jt P w s.heap a xs)(room:xs.length+1<scanBound)
  (h:∀b h',Heap.SameBut a s.heap h'->jt P w h' a (pM xs k)->Q b { s with heap:=h' }):aq (model P w) A (setAddHashed a (.int k tk) ((PySem.intKind P w).hash k)) Q E s:=by
 obtain⟨o,es,ep,t,ho,S⟩:=S;have ln:es.size=xs.length:=by rw[←S.perm.length_eq];simp[nums]
 unfold setAddHashed setAddHashedIn;refine a9 (aa (fS ho S.dat S.fit ?_));dsimp only;rw[byScan_of (x:=.int k tk) rfl S.few S.el];simp only[if_true];unfold setAddByScan;refine aa (aa (gc (aa (wpAny_setScan_of (Aq k tk) ho S.dat S.fit S.el ?_))));have key:k∈xs↔∃e∈es.toList,(PySem.intKind P w).is k e.2=true:=by rw[←S.perm.mem_iff];exact GN S.el
 cases hr:es.toList.findIdx? λe=>(PySem.intKind P w).is k e.2 with
 |some j=>
  dsimp only;obtain⟨hj,hp,_⟩:=List.findIdx?_eq_some_iff_getElem.mp hr;have hk:k∈xs:=key.mpr ⟨_,List.getElem_mem hj,hp⟩;have ea:pM xs k=xs:=if_pos hk;refine ak (ak ?_);have q:=h false s.heap (Heap.SameBut.refl a s.heap) ⟨o,es,ep,t,ho,by rw[ea];exact S⟩;cases s;exact q
 |none=>
  dsimp only;have hk:¬k∈xs:=λz=>by
   obtain⟨e,he,hp⟩:=key.mp z;have:=List.findIdx?_eq_none_iff.mp hr e he;rw[hp]at this;cases this
  have ea:pM xs k=xs++[k]:=if_neg hk;have pr:=layNew_perm t es ((PySem.intKind P w).hash k) (.int k tk);have ft:=layNew_fits t es ((PySem.intKind P w).hash k) (.int k tk);have tko:=Dp S.tok es ((PySem.intKind P w).hash k) (.int k tk)
  generalize layNew t es ((PySem.intKind P w).hash k) (.int k tk)=L at pr ft tko ⊢
  obtain⟨es1,t1,wd,gv⟩:=L;dsimp only at pr ft tko ⊢;rw[Array.toList_push]at pr;have el1:ElemsOf (PySem.intKind P w) es1.toList:=(S.el.push (Aq k tk) rfl).perm pr;have HF:es1.size<scanBound:=by
   rw[←cH,pr.length_eq,bE,cH,ln]
   simpa using room
  have pm1:(nums es1).Perm (pM xs k):=by
   rw[ea];refine(List.Perm.map _ pr).trans ?_;rw[y6];exact List.Perm.append S.perm (List.Perm.refl _)
  have gw:∀(b:Bool)(s1:ah)(Q':Unit->ah->Prop),Q' () s1->aq (model P w) A (match b with |true=>rule "set.scan.the-table-gave-way" |false=>pure ()) Q' E s1:=λb s1 Q' q=>by
   cases b
   ·exact ak q
   ·exact gc q
  refine aa (gw _ _ _ ?_);have fin:∀h',Heap.SameBut a s.heap h'->jt P w h' a (pM xs k)->aq (model P w) A (pure true) Q E { s with heap:=h' }:=λh' b i=>ak (h true h' b i);split
  ·refine aa ?_;rw[hashByValue_scannable 8 (x:=.int k tk) rfl];refine ak ?_;have po:=C3 (b:=plainKind (.int k tk)) tko.1 ft;refine Cp (λb s1 Q' q=>gw b s1 Q' q) ho S el1 HF ?_ ?_ ?_ pm1 (Cq S.nd) λh' b i=>?_
   ·exact po.2.1
   ·exact po.1
   ·exact wt S.led (po.2.2.trans tko.2)
   ·dsimp only;exact fin h' b i
  ·refine aa (ak ?_);simp only[if_true];refine Cp (λb s1 Q' q=>gw b s1 Q' q) ho S el1 HF ft tko.1 (wt S.led tko.2) pm1 (Cq S.nd) λh' b i=>?_;dsimp only;exact fin h' b i
theorem jt.typeIs (S:jt P w s.heap a xs):s.TypeIs (.ref a) "set":=let ⟨o,_,_,_,ho,q⟩:=S;⟨o,ho,q.ex.1⟩
theorem DZ (S:jt P w s.heap a xs)(room:xs.length+1<scanBound)
  (h:∀h',Heap.SameBut a s.heap h'->jt P w h' a (pM xs k)->Q .none { s with heap:=h',toks:=s.toks+1 }):aq (model P w) A (call (.builtin "set.add") [.ref a,.int k tk]) Q E s:=by
 refine cj F.slot_set_add S.typeIs F.entry_set_add ?_ (F.args_set_add_2 _ _);unfold Builtin.«set.add» Builtin.Frozenset.oneOther;simp only[List.isEmpty_nil,bind_assoc];unfold Builtin.Frozenset.addrOf setAdd;refine aa (ak (aa (ak (aa (a9 (aa ((PySem.intKind P w).pyHash (Aq k tk) ?_)))))));refine A3 (s:={ s with toks:=s.toks+1 }) S room λb h' sb i=>?_;refine(show aq _ _ (ret Value.none) _ _ _ from ak ⟨_,rfl,h h' sb i⟩)
theorem Ku (h:∀t,jt P w (s.heap.push { cls:=.type "set",dict:=none,data:=.set #[] 0 t }) s.heap.objs.size []->Q (.ref s.heap.objs.size) { s with heap:=s.heap.push { cls:=.type "set",dict:=none,data:=.set #[] 0 t } }):
  aq (model P w) A (newSet (.type "set")) Q E s:=by
 unfold newSet setsByText;refine aa (aa (i9 (ak ?_)));dsimp only;simp only[newObj];refine aa (wpAny_alloc (ak (h _ ⟨_,#[],0,_,aB _ rfl,⟨⟨rfl,rfl,rfl⟩,rfl,λe he=>by simp at he,by decide,by rfl,HC _,?_,by simp[nums],eI⟩⟩)));show lI w=true\/(!w.params.followText "set-order")=true;unfold lI;cases w.params.followText "set-order"
 ·exact .inr rfl
 ·exact .inl rfl
end
end
theorem gz:Slot "set_iterator" "__next__" "set_iterator.__next__":=.of (owner:="set_iterator") (n:="__next__") (by rw[jA,fR];kernel_rfl) (by decide +kernel) (by decide +kernel) (by decide +kernel) (by first |exact .inl (by decide +kernel)|exact .inr (by decide +kernel)) (by rw[isSubtype_type];kernel_rfl)
theorem BE:Slot "set_iterator" "__iter__" "set_iterator.__iter__":=.of (owner:="set_iterator") (n:="__iter__") (by rw[jA,fR];kernel_rfl) (by decide +kernel) (by decide +kernel) (by decide +kernel) (by first |exact .inl (by decide +kernel)|exact .inr (by decide +kernel)) (by rw[isSubtype_type];kernel_rfl)
theorem g8:entryFor table "set_iterator.__next__"=some Builtin.«set_iterator.__next__»:=entryFor_of_tree (by kernel_rfl)
theorem tI:entryFor table "set_iterator.__iter__"=some Builtin.«dict_keyiterator.__iter__»:=entryFor_alias (id':="dict_keyiterator.__iter__") (by kernel_rfl) rfl (by decide +kernel) (by kernel_rfl)
theorem vN:entryFor table "set.__iter__"=some Builtin.«frozenset.__iter__»:=entryFor_alias (id':="frozenset.__iter__") (by kernel_rfl) rfl (by decide +kernel) (by kernel_rfl)
theorem iM (a:af):argsOk "set_iterator.__next__" ⟨[a],[]⟩:=by unfold argsOk;kernel_rfl
theorem vK (a:af):argsOk "set_iterator.__iter__" ⟨[a],[]⟩:=by unfold argsOk;kernel_rfl
section
def ib (first:af)(a:Addr)(i n ep:Nat):Obj:={ cls:=.type "set_iterator",data:=.fields #[first,.int i 0,.ref a,.int n 0,.int ep 0] }
section
variable {P:aI}{w:aZ}{A:br}{E:af->ah->Prop}{s:ah}{a it:Addr}{xs:List Int}
theorem Jy {nx:Nat}{o:Obj}{es:Array (Int×af)}{t:SetTable}{x:af}{Q:Option af->ah->Prop}(hi:s.heap.get? it=some (ib (.int n 0) a i es.size ep))(ho:s.heap.get? a=some o)(hd:o.data=.set es ep t)(hf:t.fits es.size=true)
  (hn:∀(B:br)(Q':Option (af×Nat)->ah->Prop)(E':af->ah->Prop),Q' (some (x,nx)) s->aq (model P w) B (setNext a n i ep) Q' E' s)
  (h:∀h',h'.get? it=some (ib (.int nx 0) a (i+1) es.size ep)->Heap.SameBut it s.heap h'->Q (some x) { s with heap:=h' }):aq (model P w) A (pyNext (.ref it)) Q E s:=by
 have hT:s.TypeIs (.ref it) "set_iterator":=⟨_,hi,rfl⟩;unfold pyNext;refine aa (eV (cb (name:=Str.ofString "__next__") hT gz (cj gz hT g8 ?_ (iM _))));unfold Builtin.«set_iterator.__next__»;refine aa (m:=slotArgs "__next__" 0 _) (ak ?_);refine aa (pR hi rfl ?_);dsimp only;refine aa (gD ho hd hf ?_);simp only[bne_self_eq_false,aY,if_false];refine aa ?_;simp only[cU];refine hn _ _ _ ?_;dsimp only;have h1:(s.heap.update it (Obj.mapFields (·.setIfInBounds 0 (rawInt (nx:Int))))).get? it=some (ib (.int nx 0) a i es.size ep):=by
  have:=bt (Obj.mapFields (·.setIfInBounds 0 (rawInt (nx:Int)))) hi (cV (cL rfl _));exact this
 have h2:((s.heap.update it (Obj.mapFields (·.setIfInBounds 0 (rawInt (nx:Int))))).update it (Obj.mapFields (·.setIfInBounds 1 (rawInt ((i:Int)+1))))).get? it=some (ib (.int nx 0) a (i+1) es.size ep):=by
  have:=bt (Obj.mapFields (·.setIfInBounds 1 (rawInt ((i:Int)+1)))) h1 (cV (cL rfl _));exact this
 refine aa (dg hi rfl (by show 0<5;decide) ?_);refine aa (dg h1 rfl (by show 1<5;decide) ?_);refine ak ⟨_,rfl,ak (h _ h2 ((Heap.SameBut.update s.heap it _).trans (Heap.SameBut.update _ it _)))⟩
theorem Nq {o:Obj}{es:Array (Int×af)}{t:SetTable}{Q:Option af->ah->Prop}(hh:A.handled=none)(hi:s.heap.get? it=some (ib (.int n 0) a i es.size ep))(ho:s.heap.get? a=some o)(hd:o.data=.set es ep t)(hf:t.fits es.size=true)
  (hn:∀(B:br)(Q':Option (af×Nat)->ah->Prop)(E':af->ah->Prop),Q' none s->aq (model P w) B (setNext a n i ep) Q' E' s)
  (h:∀h',Heap.ExtBut it s.heap h'->Q none { s with heap:=h' }):aq (model P w) A (pyNext (.ref it)) Q E s:=by
 have hT:s.TypeIs (.ref it) "set_iterator":=⟨_,hi,rfl⟩;unfold pyNext;refine aa (eV (cb (name:=Str.ofString "__next__") hT gz (cj gz hT g8 ?_ (iM _))));unfold Builtin.«set_iterator.__next__»;refine aa (m:=slotArgs "__next__" 0 _) (ak ?_);refine aa (pR hi rfl ?_);dsimp only;refine aa (gD ho hd hf ?_);simp only[bne_self_eq_false,aY,if_false];refine aa ?_;simp only[cU];refine hn _ _ _ ?_;dsimp only;refine aa (dg hi rfl (by show 2<5;decide) ?_);refine aa ?_;simp only[newExc,newTuple];refine aa (bC ?_ (by size_fits));refine aa (m:=firstArgMember _ _) (kK (a:=Value.none) (by first |rfl| (simp only[firstArgMember];rfl)) ?_);refine bC ?_ (by size_fits);simp only[raiseNew];refine aa (D1 ?_);rw[show A.in1.handled=none from hh];refine aa (ak (wpAny_throw ?_));refine aa (mj (T:="StopIteration") (b:=true) ⟨_,aB _ rfl,rfl⟩ Bc ?_);refine ak (h _ ?_);exact((Heap.SameBut.update s.heap it _).extBut.push _).push _
theorem Fw {T:Addr}{p:Nat}{o:Obj}{es:Array (Int×af)}{t:SetTable}{x:af}{k:Int}{m:Nat}{Q:Option af->ah->Prop}(hi:s.heap.get? it=some (ib (.ref T) a i es.size ep))(hT':s.heap.get? T=some oT)(hTd:oT.data=.seq items m)(ho:s.heap.get? a=some o)(hd:o.data=.set es ep t)(hf:t.fits es.size=true)
  (hp:items[i]?=some (.int p tk)) (hx:es[p]?=some (k,x))
  (h:∀h',h'.get? it=some (ib (.ref T) a (i+1) es.size ep)->Heap.SameBut it s.heap h'->Q (some x) { s with heap:=h' }):aq (model P w) A (pyNext (.ref it)) Q E s:=by
 have hT:s.TypeIs (.ref it) "set_iterator":=⟨_,hi,rfl⟩;unfold pyNext;refine aa (eV (cb (name:=Str.ofString "__next__") hT gz (cj gz hT g8 ?_ (iM _))));unfold Builtin.«set_iterator.__next__»;refine aa (m:=slotArgs "__next__" 0 _) (ak ?_);refine aa (pR hi rfl ?_);dsimp only;refine aa (gD ho hd hf ?_);simp only[bne_self_eq_false,aY,if_false];unfold seqItems?;refine aa (aa (A8 hT' ?_));rw[hTd];refine ak ?_;dsimp only;simp only[cU,hp];unfold setNextDrawn;refine aa (aa (fS ho hd hf ?_));dsimp only;simp only[cU,bne_self_eq_false,aY,if_false,hx];refine ak ?_;have h2:(s.heap.update it (Obj.mapFields (·.setIfInBounds 1 (rawInt ((i:Int)+1))))).get? it=some (ib (.ref T) a (i+1) es.size ep):=by
  have:=bt (Obj.mapFields (·.setIfInBounds 1 (rawInt ((i:Int)+1)))) hi (cV (cL rfl _));exact this
 refine aa (dg hi rfl (by show 1<5;decide) ?_);refine ak ⟨_,rfl,ak (h _ h2 (Heap.SameBut.update s.heap it _))⟩
theorem vL {T:Addr}{o:Obj}{es:Array (Int×af)}{t:SetTable}{m:Nat}{Q:Option af->ah->Prop}(hh:A.handled=none)(hi:s.heap.get? it=some (ib (.ref T) a i es.size ep))(hT':s.heap.get? T=some oT)(hTd:oT.data=.seq items m)(ho:s.heap.get? a=some o)(hd:o.data=.set es ep t)(hf:t.fits es.size=true)
  (hp:items[i]?=none)
  (h:∀h',Heap.ExtBut it s.heap h'->Q none { s with heap:=h' }):aq (model P w) A (pyNext (.ref it)) Q E s:=by
 have hT:s.TypeIs (.ref it) "set_iterator":=⟨_,hi,rfl⟩;unfold pyNext;refine aa (eV (cb (name:=Str.ofString "__next__") hT gz (cj gz hT g8 ?_ (iM _))));unfold Builtin.«set_iterator.__next__»;refine aa (m:=slotArgs "__next__" 0 _) (ak ?_);refine aa (pR hi rfl ?_);dsimp only;refine aa (gD ho hd hf ?_);simp only[bne_self_eq_false,aY,if_false];unfold seqItems?;refine aa (aa (A8 hT' ?_));rw[hTd];refine ak ?_;dsimp only;simp only[cU,hp];have h0:(s.heap.update it (Obj.mapFields (·.setIfInBounds 0 (rawInt 0)))).get? it=some (ib (.int 0 0) a i es.size ep):=by
  have:=bt (Obj.mapFields (·.setIfInBounds 0 (rawInt 0))) hi (cV (cL rfl _));exact this
 refine aa (dg hi rfl (by show 0<5;decide) ?_);refine aa (dg h0 rfl (by show 2<5;decide) ?_);refine aa ?_;simp only[newExc,newTuple];refine aa (bC ?_ (by size_fits));refine aa (m:=firstArgMember _ _) (kK (a:=Value.none) (by first |rfl| (simp only[firstArgMember];rfl)) ?_);refine bC ?_ (by size_fits);simp only[raiseNew];refine aa (D1 ?_);rw[show A.in1.handled=none from hh];refine aa (ak (wpAny_throw ?_));refine aa (mj (T:="StopIteration") (b:=true) ⟨_,aB _ rfl,rfl⟩ Bc ?_);refine ak (h _ ?_);exact(((Heap.SameBut.update s.heap it _).trans (Heap.SameBut.update _ it _)).extBut.push _).push _
theorem BD {first:af}(hi:s.heap.get? it=some (ib first a i n ep))(h:Q (.ref it) s):aq (model P w) A (pyIter (.ref it)) Q E s:=by
 have hT:s.TypeIs (.ref it) "set_iterator":=⟨_,hi,rfl⟩;refine wpAny_pyIter_slot hT BE (cj BE hT tI ?_ (vK _));refine(show aq _ _ (ret (.ref it)) _ _ s from ?_);exact ak ⟨_,rfl,"set_iterator",_,hT,gz.lookup,h⟩
end
end
section
section
variable {P:aI}{w:aZ}{A:br}{E:af->ah->Prop}{s:ah}{a I:Addr}{xs:List Int}{o:Obj}{es:Array (Int×af)}{ep:Nat}{t:SetTable}
theorem qM {B:br}{Q:Bool->ah->Prop}(h:Q (lI w) s):aq (model P w) B setsByText Q E s:=by
 unfold setsByText;exact aa (i9 (ak h))
theorem Ee (hh:A.handled=none)(hne:a≠I)(hd:o.data=.set es ep t)(hf:t.fits es.size=true)(at_:Nat->Nat)(L:List af)(hL:L.length=es.size)
  (hn:∀(z:ah)(B:br)(i:Nat)(x:af),z.heap.get? a=some o->L[i]?=some x->∀(Q':Option (af×Nat)->ah->Prop)(E':af->ah->Prop),Q' (some (x,at_ (i+1))) z->aq (model P w) B (setNext a (at_ i) i ep) Q' E' z)
  (he:∀(z:ah)(B:br),z.heap.get? a=some o->∀(Q':Option (af×Nat)->ah->Prop)(E':af->ah->Prop),Q' none z->aq (model P w) B (setNext a (at_ es.size) es.size ep) Q' E' z):
  Walks P w A I [I,a] [I] es.size (λi v=>L[i]?=some v) (λi h=>h.get? I=some (ib (.int (at_ i) 0) a i es.size ep)/\h.get? a=some o) where
 sub:=λb hb=>by simp at hb;simp[hb]
 frame:=λi h h' st k=>⟨k I (by simp) _ st.1,k a (by simp) _ st.2⟩
 item:=λi z Q E' hi st hQ=>by
  have hl:i<L.length:=by rw[hL];exact hi
  have hx:L[i]?=some L[i]:=bB hl;refine Jy st.1 st.2 hd hf (λB Q' E'' q=>hn z B i _ st.2 hx Q' E'' q) λh' h1 sb=>?_;exact hQ _ h' z.toks hx ⟨h1,(sb.2 a hne).trans st.2⟩ λb u hb e=>(sb.2 b (λq=>hb (by simp[q]))).trans e
 done:=λz Q E' st hQ=>Nq hh st.1 st.2 hd hf (λB Q' E'' q=>he z B st.2 Q' E'' q) λh' ex=>hQ h' z.toks λb u hb e=>ex b u (λq=>hb (by simp[q])) e
 self:=λi z Q E' st hQ=>BD st.1 hQ
theorem zd {T:Addr}{m:Nat}(hh:A.handled=none)(hne:a≠I)(hT:T≠I)(hd:o.data=.set es ep t)(hf:t.fits es.size=true)(hTd:oT.data=.seq (ix.map λ(i:Nat)=>rawInt i).toArray m)(hl:ix.length=es.size)(hp:∀p∈ix,p<es.size):
  Walks P w A I [I,a,T] [I] es.size (λi v=>(ix.map λp=>(es.getD p (0,.none)).2)[i]?=some v) (λi h=>h.get? I=some (ib (.ref T) a i es.size ep)/\h.get? a=some o/\h.get? T=some oT) where
 sub:=λb hb=>by simp at hb;simp[hb]
 frame:=λi h h' st k=>⟨k I (by simp) _ st.1,k a (by simp) _ st.2.1,k T (by simp) _ st.2.2⟩
 item:=λi z Q E' hi st hQ=>by
  have h1:i<ix.length:=by rw[hl];exact hi
  have h2:ix[i]<es.size:=hp _ (List.getElem_mem h1);have e1:es[ix[i]]?=some (es[ix[i]].1,es[ix[i]].2):=by rw[aS h2]
  have e2:(ix.map λp=>(es.getD p (0,.none)).2)[i]?=some es[ix[i]].2:=by
   rw[bS,bB h1,cy,bW,aS h2];rfl
  refine Fw (p:=ix[i]) (tk:=0) st.1 st.2.2 hTd st.2.1 hd hf (by simp[h1,rawInt]) e1 λh' g1 sb=>?_;exact hQ _ h' z.toks e2 ⟨g1,(sb.2 a hne).trans st.2.1,(sb.2 T hT).trans st.2.2⟩ λb u hb e=>(sb.2 b (λq=>hb (by simp[q]))).trans e
 done:=λz Q E' st hQ=>vL hh st.1 st.2.2 hTd st.2.1 hd hf (by simp[hl]) λh' ex=>hQ h' z.toks λb u hb e=>ex b u (λq=>hb (by simp[q])) e
 self:=λi z Q E' st hQ=>BD st.1 hQ
theorem DL {src:Source}{Q:Nat->ah->Prop}(hn:n≠0)(h:∀i d,i<n->Q i { s with drawn:=d }):aq (model P w) A (choose src n) Q E s:=λΓ p hΓ=>by
 unfold choose;rw[PySem.Sem.wp_choose];refine⟨hn,?_⟩;rw[PySem.Sem.wp];exact h _ _ (Nat.mod_lt _ (Nat.pos_of_ne_zero hn))
theorem va {α:Type}:∀(n:Nat)(l:List α)(s:ah)(Q:List α->ah->Prop),l.length<=n->(∀r d,r.Perm l->Q r { s with drawn:=d })->aq (model P w) A (drawOrder n l) Q E s
 | 0,l,s,Q,hl,h=>by
  have:l=[]:=List.length_eq_zero_iff.mp (by lia);subst this;unfold drawOrder;exact ak (h [] s.drawn (List.Perm.refl _))
 |n+1,[],s,Q,hl,h=>by
  unfold drawOrder;exact ak (h [] s.drawn (List.Perm.refl _))
 |n+1,x::l,s,Q,hl,h=>by
  unfold drawOrder;refine aa (DL (by simp) λi d hi=>?_);have q:(x::l)[i]?=some (x::l)[i]:=bB hi;rw[q];dsimp only;have le:((x::l).eraseIdx i).length<=n:=by rw[List.length_eraseIdx_of_lt hi];simp at hl ⊢;lia
  refine aa (va n ((x::l).eraseIdx i) { s with drawn:=d } _ le λr d' pr=>ak (h _ d' ?_));refine(List.Perm.cons _ pr).trans ?_;rw[List.eraseIdx_eq_take_drop_succ];refine List.perm_middle.symm.trans (List.Perm.of_eq ?_);rw[←bU hi,List.take_append_drop]
def slotAt (t:SetTable):Nat->Nat
 | 0=>0
 |i+1=>t.place.getD i 0+1
theorem uA {t:SetTable}(up:t.place.toList.Pairwise (·<·)):∀i,i<=t.place.size->SetTable.below t.place (slotAt t i)=i
 | 0,_=>AZ up
 |i+1,h=>by
  have hl:i<t.place.size:=h;show SetTable.below t.place (t.place.getD i 0+1)=i+1;rw[bW,aS hl];exact A0 up hl
theorem Hk (ho:s.heap.get? a=some o)(S:IT P w o es ep t xs)
  (h:∀(h1:Heap)(d:Drawn)(I:Addr)(fp:List Addr)(L:List af)(St:Nat->Heap->Prop),(∀b u,s.heap.get? b=some u->h1.get? b=some u)->s.heap.objs.size<=I->(∀b∈fp,b<h1.objs.size)->(∀b∈fp,b=a\/s.heap.objs.size<=b)->I∈fp->St 0 h1->L.Perm (es.toList.map (·.2))->L.length=es.size->
   (∀B:br,B.handled=none->Walks P w B I fp [I] es.size (λi v=>L[i]?=some v) St)->Q (.ref I) { s with heap:=h1,drawn:=d }):
  aq (model P w) A (pyIter (.ref a)) Q E s:=by
 have hT:s.TypeIs (.ref a) "set":=⟨o,ho,S.ex.1⟩;have hd:=S.dat;have hf:=S.fit;have alt:a<s.heap.objs.size:=ax ho;have psz:t.place.size=es.size:=by
  have:=hf;unfold SetTable.fits at this;rw[ag,beq_iff_eq]at this;exact this.1
 refine wpAny_pyIter_slot hT F.slot_set_iter (cj F.slot_set_iter hT vN ?_ (F.args_set_iter_1 _));unfold Builtin.«frozenset.__iter__» Builtin.Frozenset.slot0;refine aa (aa (m:=slotArgs "__iter__" 0 _) (ak (ak ?_)));unfold Builtin.Frozenset.sizeOf;refine aa (aa (gD ho hd hf (ak ?_)));unfold setDrawn;refine aa (aa (fS ho hd hf ?_));dsimp only;refine aa (qM (ak ?_));have ak3:∀(at_:Nat->Nat)(L:List af),at_ 0=0->L.length=es.size->L.Perm (es.toList.map (·.2))->
   (∀(z:ah)(B:br)(i:Nat)(x:af),z.heap.get? a=some o->L[i]?=some x->∀(Q':Option (af×Nat)->ah->Prop)(E':af->ah->Prop),Q' (some (x,at_ (i+1))) z->aq (model P w) B (setNext a (at_ i) i ep) Q' E' z)->
   (∀(z:ah)(B:br),z.heap.get? a=some o->∀(Q':Option (af×Nat)->ah->Prop)(E':af->ah->Prop),Q' none z->aq (model P w) B (setNext a (at_ es.size) es.size ep) Q' E' z)->
   aq (model P w) A.in1 (do
    let ep ←setEpoch a
    let r ←newFields "set_iterator" [rawInt 0,rawInt 0,Value.ref a,rawInt (es.size:Int),rawInt (ep:Int)]
    ret r) (λfin s'=>∃v,fin=.done (.ret v)/\∃T' r,s'.TypeIs v T'/\typeLookup (.type T') "__next__"=pure (some r)/\Q v s') E s:=λat_ L h0 hL pm hn he=>by
  refine aa (wpAny_setEpoch_of ho hd hf ?_);unfold newFields;refine aa (bC ?_);have hI:(s.heap.push { cls:=.type "set_iterator",dict:=none,data:=.fields [rawInt 0,rawInt 0,Value.ref a,rawInt (es.size:Int),rawInt (ep:Int)].toArray }).get? s.heap.objs.size=some (ib (.int (at_ 0) 0) a 0 es.size ep):=by
   rw[aB _ rfl,h0];rfl
  refine ak ⟨_,rfl,"set_iterator",_,⟨_,aB _ rfl,rfl⟩,gz.lookup,?_⟩;refine h _ s.drawn s.heap.objs.size [s.heap.objs.size,a] L (λi h=>h.get? s.heap.objs.size=some (ib (.int (at_ i) 0) a i es.size ep)/\h.get? a=some o) (λb u e=>aj _ e) (aw _) (λb hb=>?_) (λb hb=>(by simp at hb;rcases hb with rfl|rfl;exact .inr (aw _);exact .inl rfl)) (by simp) ⟨hI,aj _ ho⟩ pm hL λB hB=>Ee hB (aT alt) hd hf at_ L hL hn he;rw[bI];simp at hb;rcases hb with rfl|rfl
  ·exact cF _
  ·exact cS alt
 cases hb:lI w with
 |true=>
  simp only[Bool.not_true,pT,aY,if_false];refine aa (ak ?_);have au0:∀(z:ah)(B:br)(Q':Array (Int×af)->ah->Prop)(E':af->ah->Prop),z.heap.get? a=some o->Q' (pickOrder (w.params.setOrder a ep) es) z->aq (model P w) B (setWalk a) Q' E' z:=λz B Q' E' hz q=>by
   unfold setWalk;refine aa (fS hz hd hf ?_);dsimp only;refine aa (qM ?_);rw[hb];simp only[if_true];exact aa (i9 (ak q))
  have nx:∀(z:ah)(B:br)(i:Nat),z.heap.get? a=some o->∀(Q':Option (af×Nat)->ah->Prop)(E':af->ah->Prop),Q' (((pickOrder (w.params.setOrder a ep) es)[i]?).map λe=>(e.2,0)) z->aq (model P w) B (setNext a 0 i ep) Q' E' z:=λz B i hz Q' E' q=>by
   unfold setNext;refine aa (fS hz hd hf ?_);dsimp only;refine aa (qM ?_);rw[hb];simp only[if_true,bne_self_eq_false,aY,if_false];exact aa (au0 z B _ _ hz (ak q))
  refine ak3 (λ_=>0) ((pickOrder (w.params.setOrder a ep) es).toList.map (·.2)) rfl (by simp[uH]) (List.Perm.map _ (uI _ _)) (λz B i x hz hx Q' E' q=>nx z B i hz Q' E' ?_) λz B hz Q' E' q=>nx z B _ hz Q' E' ?_
  ·rw[bS]at hx;obtain⟨e,he,rfl⟩:=Option.map_eq_some_iff.mp hx;rw[eK]at he;rw[he];exact q
  ·rw[ng (by rw[uH];exact aw _)];exact q
 |false=>
  have led:t.led=true:=by
   rcases S.led with q |q
   ·rw[hb]at q;cases q
   ·exact q
  cases hdr:(!t.plain&&decide (es.size>1)) with
  |false=>
   refine(show aq _ _ (if (!false&&(!t.plain&&decide (es.size>1)))=true then _ else _) _ _ s from ?_);rw[hdr];simp only[pU,aY,if_false];refine aa (ak ?_);have nx:∀(z:ah)(B:br)(j i:Nat),z.heap.get? a=some o->∀(Q':Option (af×Nat)->ah->Prop)(E':af->ah->Prop),Q' (match es[SetTable.below t.place j]?,t.place[SetTable.below t.place j]? with
     |some (_,x),some k=>some (x,k+1)
     |_,_=>none) z->aq (model P w) B (setNext a j i ep) Q' E' z:=λz B j i hz Q' E' q=>by
    unfold setNext;refine aa (fS hz hd hf ?_);dsimp only;refine aa (qM ?_);rw[hb];simp only[aY,if_false];refine(show aq _ _ (if (!t.plain&&decide (es.size>1))=true then _ else _) _ _ z from ?_);rw[hdr];simp only[aY,if_false];refine aa (kK (a:=()) ?_ (ak q));refine(show(if (!t.led&&!es.isEmpty)=true then _ else _)=_ from ?_);rw[led];rfl
   refine ak3 (slotAt t) (es.toList.map (·.2)) rfl (by simp) (List.Perm.refl _) (λz B i x hz hx Q' E' q=>nx z B _ i hz Q' E' ?_) λz B hz Q' E' q=>nx z B _ _ hz Q' E' ?_
   ·have hi:i<es.size:=by
     have:=(List.getElem?_eq_some_iff.mp hx).1
     simpa using this
    have hi':i<t.place.size:=by rw[psz];exact hi
    have e0:=uA S.tok.up i (fH hi');rw[e0,aS hi,aS hi'];rw[bS,eK,aS hi]at hx;cases hx;have e1:t.place.getD i 0=t.place[i]:=by rw[bW,aS hi'];rfl
    have q':Q' (some (es[i].2,t.place.getD i 0+1)) z:=q;rw[e1]at q';exact q'
   ·have e0:=uA S.tok.up es.size (Nat.le_of_eq psz.symm);rw[e0,ng (aw _)];exact q
  |true=>
   refine(show aq _ _ (if (!false&&(!t.plain&&decide (es.size>1)))=true then _ else _) _ _ s from ?_);rw[hdr];simp only[Bool.not_false,Bool.and_self,if_true];refine aa (va es.size (di es.size) s _ (by simp) λr d pr=>?_);unfold newTuple;refine aa (bC ?_ (by
    show(r.map λ(i:Nat)=>rawInt i).toArray.size<=au;rw[az,aP,pr.length_eq,kM];have:=S.few;unfold scanBound at this;rw[bT];lia))
   have hoT:(s.heap.push { cls:=.type "tuple",dict:=none,data:=.seq (r.map λ(i:Nat)=>rawInt i).toArray }).get? a=some o:=aj _ ho;refine aa (wpAny_setEpoch_of hoT hd hf ?_);unfold newFields;refine aa (bC ?_);refine ak ⟨_,rfl,"set_iterator",_,⟨_,aB _ rfl,rfl⟩,gz.lookup,?_⟩;have hl:r.length=es.size:=by rw[pr.length_eq,kM]
   have sz1:(s.heap.push { cls:=.type "tuple",dict:=none,data:=.seq (r.map λ(i:Nat)=>rawInt i).toArray }).objs.size=s.heap.objs.size+1:=bI ..;have pm:(r.map λp=>(es.getD p (0,.none)).2).Perm (es.toList.map (·.2)):=by
    refine(List.Perm.map _ pr).trans (List.Perm.of_eq ?_);apply List.ext_getElem?;intro i;rw[bS,bS,eK (xs:=es)]
    by_cases hi:i<es.size
    ·rw[List.getElem?_range hi,aS hi,cy,cy,bW,aS hi];rfl
    ·rw[oC (by simp;lia),ng (by lia)];rfl
   refine h _ d _ [(s.heap.push { cls:=.type "tuple",dict:=none,data:=.seq (r.map λ(i:Nat)=>rawInt i).toArray }).objs.size,a,s.heap.objs.size] (r.map λp=>(es.getD p (0,.none)).2) (λi h=>h.get? (s.heap.push { cls:=.type "tuple",dict:=none,data:=.seq (r.map λ(i:Nat)=>rawInt i).toArray }).objs.size=some (ib (.ref s.heap.objs.size) a i es.size ep)/\h.get? a=some o/\h.get? s.heap.objs.size=some { cls:=.type "tuple",dict:=none,data:=.seq (r.map λ(i:Nat)=>rawInt i).toArray })
    (λb u e=>aj _ (aj _ e)) (by rw[sz1];exact cT _) (λb hb=>?_) (λb hb=>(by simp only[aV,aE,or_false,sz1]at hb;rcases hb with rfl|rfl|rfl;exact .inr (cT _);exact .inl rfl;exact .inr (aw _))) (by simp) ⟨?_,aj _ hoT,aj _ (aB _ rfl)⟩ pm (by simp[hl]) λB hB=>zd hB ?_ ?_ hd hf rfl hl λp hp=>?_
   ·rw[bI,sz1];simp only[aV,aE,or_false,sz1]at hb;rcases hb with hb |hb |hb
    ·rw[hb];exact cF _
    ·rw[hb];exact cS (cS alt)
    ·rw[hb];exact cS (cF _)
   ·rw[aB _ rfl];rfl
   ·rw[sz1];exact aT (cS alt)
   ·rw[sz1];exact aT (cF _)
   ·have:=pr.mem_iff.mp hp
    simpa using this
end
end
section
theorem u3 {P:aI}{w:aZ}:∀{vs:List af},(∀v∈vs,∃k t,v=Value.int k t)->IntsAre vs (vs.map numOf)
 | [],_=>.nil
 |v::vs,h=>by
  obtain⟨k,t,rfl⟩:=h v aR;exact .cons k t (u3 (P:=P) (w:=w) λu hu=>h u (aJ _ hu))
section
variable {P:aI}{w:aZ}{A:br}{E:af->ah->Prop}{s:ah}{a:Addr}{xs:List Int}
theorem Fx {es:Array (Int×af)}(el:ElemsOf (PySem.intKind P w) es.toList){vs:List af}(pm:vs.Perm (es.toList.map (·.2))):IntsAre vs (vs.map numOf)/\(vs.map numOf).Perm (nums es):=by
 refine⟨u3 (P:=P) (w:=w) λv hv=>?_,?_⟩
 ·obtain⟨e,he,rfl⟩:=List.mem_map.mp (pm.mem_iff.mp hv);obtain⟨⟨k,hk,_⟩,_⟩:=el e he;obtain⟨t,ht⟩:=Value.isInt_shape hk;exact⟨k,t,ht⟩
 ·refine(List.Perm.map _ pm).trans (List.Perm.of_eq ?_);rw[iI];rfl
theorem zJ:splitId "set.__len__"=some ("set","__len__"):=by decide +kernel
theorem yP {Q:List af->ah->Prop}(hh:A.handled=none)(S:jt P w s.heap a xs)
  (h:∀(h':Heap)(d:Drawn)(tk:Nat)(vs:List af)(ns:List Int),(∀b u,s.heap.get? b=some u->h'.get? b=some u)->s.heap.objs.size<=h'.objs.size->IntsAre vs ns->ns.Perm xs->Q vs { s with heap:=h',drawn:=d,toks:=tk }):aq (model P w) A (collect (.ref a)) Q E s:=by
 obtain⟨o,es,ep,t,ho,S⟩:=S;have alt:a<s.heap.objs.size:=ax ho;unfold collect;refine aa (wpAny_runValue (dY F.entry_proto_collect ?_));rw[c7 F.plain_proto_collect _];refine(show aq _ A.in1 (newList [] >>=λl=>again (.builtin "list.__iadd__" ⟨[l,.ref a],[]⟩)) _ _ s from ?_);refine aa (bC (ak ⟨gG F.plain_list_iadd _,dY F.entry_list_iadd ?_⟩));rw[c7 F.plain_list_iadd _];have ho1:(s.heap.push { cls:=.type "list",data:=.seq ([]:List af).toArray }).get? a=some o:=aj _ ho;have hl1:(s.heap.push { cls:=.type "list",data:=.seq ([]:List af).toArray }).get? s.heap.objs.size=some { cls:=.type "list",data:=.seq ([]:List af).toArray }:=aB _ rfl;have hs0:Builtin.List.listSameRef (.ref s.heap.objs.size) (.ref a)=false:=by
  simp only[Builtin.List.listSameRef,beq_eq_false_iff_ne];exact d9 alt
 refine(show aq _ A.in1 (Builtin.List.listExtendWith (.ref s.heap.objs.size) (.ref a) (.ref s.heap.objs.size)) _ _ _ from ?_);unfold Builtin.List.listExtendWith;refine aa (gu (T:="set") ⟨o,ho1,S.ex.1⟩ ?_);rw[if_neg (by rw[hs0];decide)];refine aa (Hk (s:={ s with heap:=s.heap.push { cls:=.type "list",data:=.seq ([]:List af).toArray } }) ho1 S λh1 d I fp L St k1 hI hfp hof hm st pm hL W=>?_);have hT2:Shared.TypeIs { s with heap:=h1,drawn:=d } (.ref a) "set":=⟨o,k1 _ _ ho1,S.ex.1⟩;refine aa (a9 ?_);unfold Builtin.List.listLengthHint;refine aa (eQ hT2 F.slot_set_len.lookup ?_);dsimp only;rw[zJ];dsimp only;refine aa (mj (T:="set") (b:=true) hT2 sub_set_self ?_);refine(show aq _ _ (typeOf (Value.ref a) >>=_) _ _ _ from ?_);refine aa (gu hT2 ?_);refine ak ?_;have hl2:=k1 _ _ hl1;have sz1:(s.heap.push { cls:=.type "list",data:=.seq ([]:List af).toArray }).objs.size=s.heap.objs.size+1:=bI ..;have hSf:s.heap.objs.size∉fp:=λz=>by
  rcases hof _ z with q |q
  ·exact absurd q (d9 alt)
  ·have q:(s.heap.push { cls:=.type "list",data:=.seq ([]:List af).toArray }).objs.size<=s.heap.objs.size:=q;rw[sz1]at q;exact absurd q (Nat.not_succ_le_self _)
 have nsz:es.size<=au:=ue S.few;refine(show aq _ A.in1 (rule "list.extend.makes-room" >>=λ_=>Builtin.List.listTouch (.ref s.heap.objs.size) >>=λ_=>again (.builtin "list.extend.loop" ⟨[.ref s.heap.objs.size,.ref I,.ref s.heap.objs.size],[]⟩)) _ _ _ from ?_);refine aa (gc (aa ?_));refine(show aq _ A.in1 (updateSeq s.heap.objs.size (·.push .none) >>=λ_=>updateSeq s.heap.objs.size (·.pop)) _ _ _ from ?_);refine aa (fM hl2 rfl ?_);have u1:=bt (Obj.mapSeq (·.push Value.none)) hl2 rfl;refine fM u1 rfl ?_;have u2:=bt (Obj.mapSeq (·.pop)) u1 rfl;have oth:∀b u,b≠s.heap.objs.size->h1.get? b=some u->((h1.update s.heap.objs.size (Obj.mapSeq (·.push Value.none))).update s.heap.objs.size (Obj.mapSeq (·.pop))).get? b=some u:=λb u hb e=>
  (bK _ _ (Ne.symm hb)).trans ((bK _ _ (Ne.symm hb)).trans e)
 have W1:=W A.in1 hh;refine ak ⟨gG gE _,codeAny_extend_loopS W1.toS nsz _ hSf _ es.size 0 _ _ _ rfl (bG _) (W1.frame 0 h1 _ st λb hb u e=>oth b u (λq=>hSf (q ▸ hb)) e) u2 (ItemsOf.nil _) λs' acc c mv hS' ia=>?_⟩;refine(show aq _ A (load s.heap.objs.size >>=_) _ _ s' from ?_);refine aa (A8 hS' (ak ?_));have vals:acc.toList=L:=by
  apply List.ext_getElem?;intro i
  by_cases hi:i<es.size
  ·have h0:i<acc.size:=by rw[ia.1];exact hi
   have:=ia.2 i acc[i] (aS h0);rw[this,eK,aS h0]
  ·rw[oC (by rw[cH,ia.1];lia),oC (by lia)]
 have sv:=Fx S.el pm;have fin:=h s'.heap s'.drawn s'.toks L _ (λb u e=>?_) (fH (ax hS')) sv.1 (sv.2.trans S.perm)
 ·rw[vals];have e1:s'.gens=s.gens:=mv.gens;have e2:s'.os=s.os:=mv.os;obtain⟨a1,a2,a3,a4,a5⟩:=s';simp only at e1 e2;subst e1;subst e2;exact fin
 ·have hb:b<s.heap.objs.size:=ax e;have hbI:b≠I:=λz=>by
   have q:(s.heap.push { cls:=.type "list",data:=.seq ([]:List af).toArray }).objs.size<=I:=hI;rw[sz1,←z]at q;exact absurd (aO (cS hb) q) (bw _)
  refine mv.heap b u ?_ (oth b u (aT hb) (k1 b u (aj _ e)));simp only[aV,aE,or_false,not_or];exact⟨aT hb,hbI⟩
theorem zG (hh:A.handled=none)(S:jt P w s.heap a xs)(h64:xs.length<64)
  (h:∀(h':Heap)(d:Drawn)(tk:Nat)(p:Addr)(vs:List af)(ns:List Int)(e:Nat),(∀b u,s.heap.get? b=some u->h'.get? b=some u)->s.heap.objs.size<=p->h'.get? p=some (seqObj "list" vs.toArray e)->IntsAre vs ns->ns.Perm xs->ns.Pairwise (·<=·)->Q (.ref p) { s with heap:=h',drawn:=d,toks:=tk }):
  aq (model P w) A (call (.builtin "sorted") [.ref a]) Q E s:=by
 refine Calls.call_function_entry kind_sorted plain_sorted entry_sorted (args_sorted1 _) ?_;unfold Builtin.«sorted»;refine aa (m:=checkCount "sorted" 1 1 _) (ak ?_);refine aa (yP (by exact hh) S λh1 d tk vs ns k1 ssz ia pm=>?_);have l64:vs.length<64:=by rw[IntsAre.length ia,pm.length_eq];exact h64
 refine aa (wpAny_newList ?_ (hsz:=by rw[bT];lia));have hoL:(h1.push (seqObj "list" vs.toArray 0)).get? h1.objs.size=some (seqObj "list" vs.toArray 0):=aB _ rfl;refine aa (a9 (cj slot_list_sort ⟨_,hoL,rfl⟩ entry_list_sort (list_sort_tree hoL ia l64 λout ns' a1 a2 a3=>⟨_,rfl,?_⟩) (args_list_sort _)));obtain⟨e,he⟩:=sortedHeap_at (out:=out) hoL;refine ak ⟨_,rfl,h _ d tk h1.objs.size out.toList ns' e (λb u z=>?_) ssz (by simpa using he) a1 (a2.trans pm) a3⟩;have hb:b<h1.objs.size:=ax (k1 b u z);rw[sortedHeap_old (aT hb) (by rw[bI];exact cS hb)];exact aj _ (k1 b u z)
end
end
section
def gL (P:aI)(w:aZ)(a:Addr)(xs:List Int):HO:=.ext λh=>jt P w h a xs
section
variable {P:aI}{w:aZ}{H:Hp}{h:Heap}{a:Addr}{xs:List Int}
theorem B0 (e:jt P w h a xs):bJ P w H h a (gL P w a xs):=
 ⟨e,(let ⟨o,_,_,_,q,_⟩:=e;⟨o,q⟩),λh1 h2 ⟨o,es,ep,t,q,r⟩ k=>⟨o,es,ep,t,k _ q,r⟩⟩
theorem yA (WJ:Xo P w H h)(e:H a=some (gL P w a xs)):jt P w h a xs:=(show bJ P w H h a (gL P w a xs) from WJ a _ e).1
end
section
variable {prog:aI}{w:aZ}{A:br}{E:af->ah->Prop}{R:Result->ah->Prop}{s:ah}{elt target iter:Expr}{scope:Scope}{pos:Pos}{it acc:af}{env:Env}
theorem En:compTurn (.SetComp elt [⟨target,iter,[],0⟩] scope pos) 0 it acc env=(standAt iter.pos >>=λ_=>pyNext it >>=λr=>match r with
  |none=>pure (.done .next)
  |some v=>letOwnedTupleGo target it v >>=λ_=>assign target env v >>=λ_=>
   (eval elt env >>=λx=>standAt elt.pos >>=λ_=>call (.builtin "set.add") [acc,x] >>=λ_=>pure ()) >>=λ_=>again (.compLoop (.SetComp elt [⟨target,iter,[],0⟩] scope pos) 0 it acc env)):=by rfl
theorem tK (I:Nat->ah->Prop)
  (turn:∀n s,I n s->aq (model prog w) A (pyNext it) (λr s1=>match r with
   |none=>R (.ok .next) s1
   |some v=>aq (model prog w) A (letOwnedTupleGo target it v) (λ_ s2=>aq (model prog w) A (assign target env v) (λ_ s3=>aq (model prog w) A (eval elt env) (λx s4=>
     aq (model prog w) A (call (.builtin "set.add") [acc,x]) (λ_ s5=>∃m,m<n/\I m s5) (λ_ _=>False) s4) (λ_ _=>False) s3) (λ_ _=>False) s2) (λ_ _=>False) s1) (λ_ _=>False) s)
  (n:Nat) (h:I n s):codeAny (model prog w) A (.compLoop (.SetComp elt [⟨target,iter,[],0⟩] scope pos) 0 it acc env) R s:=by
 refine m9 rfl I (λn s hI=>?_) n h;refine(show aq _ A ((compTurn (.SetComp elt [⟨target,iter,[],0⟩] scope pos) 0 it acc env).onRaise (λx=>do noteFrame x env;theTreesLotGoes x)) _ _ s from pP ?_);rw[En];refine aa (cg (aa (aX (turn n s hI) (λr s1 h1=>?_) λ_ _ z=>z.elim)));cases r with
 |none=>exact ak h1
 |some v=>exact aa (aX h1 (λ_ s2 h2=>aa (aX h2 (λ_ s3 h3=>aa (aa (aX h3 (λx s4 h4=>aa (cg (aa (aX h4 (λ_ s5 h5=>ak (ak ⟨rfl,h5⟩)) λ_ _ z=>z.elim)))) λ_ _ z=>z.elim))) λ_ _ z=>z.elim)) λ_ _ z=>z.elim)
theorem kH (h0:codeAny (model prog w) A (.compLoop (.SetComp elt [⟨target,iter,[],0⟩] scope pos) 0 it acc env) R s)
  (h:aq (model prog w) A (pyIter it) (λj s'=>codeAny (model prog w) A (.compLoop (.SetComp elt [⟨target,iter,[],0⟩] scope pos) 0 j acc env) R s') (notedBy (model prog w) A env λx s'=>R (.error x) s') s):
  codeAny (model prog w) A (.compStart (.SetComp elt [⟨target,iter,[],0⟩] scope pos) 0 it acc env) R s:=by
 refine jB ?_;refine(show aq _ _ ((compStart (.SetComp elt [⟨target,iter,[],0⟩] scope pos) 0 it acc env).onRaise (λx=>do noteFrame x env;standAt theWindowsPlace)) _ _ s from wpAny_notedAt ?_);unfold compStart;refine(show aq _ _ (ask >>=_) _ _ s from aa (i9 (wpAny_ite ?_)));split
 ·first
   |exact aa (ak (ak (And.intro rfl h0)))
   |exact ak (And.intro rfl h0)
 ·refine aa (m:=rule _) (gc ?_);exact aa (m:=standAt iter.pos) (cg (aa (aX h (λj s' q=>ak ⟨rfl,q⟩) λ_ _ x=>x)))
end
def Eu (P:aI)(w:aZ)(wi:TI)(g:TG)(te:TE)(nv:Nat)(ix:List Nat):TE:=λσ H Q=>wi σ H λJ H1=>∀D,H1 D=none->∃W:Nat->Nat->List Int->St->Hp->Prop,(∃m,W 0 m [] (eE nv ix σ) (upd H1 D (gL P w D [])))/\
 ∀i m ys σ' H',W i m ys σ' H'->(J.stop i H'/\Q (.ref D) H')\/(J.go i H'/\∀x H2,J.yld i H' x H2->g x σ' H2 λσ3 H3=>te σ3 H3 λy H5=>
  ∃k,y=.int k/\H5 D=some (gL P w D ys)/\ys.length<4000/\∃m',m'<m/\W (i+1) m' (pM ys k) σ3 (upd H5 D (gL P w D (pM ys k))))
section
variable {X:Cx}{elt tg iter:Expr}{scope:Scope}{pos:Pos}{wi:TI}{g:TG}{te:TE}{vars:List Str}{ix:List Nat}
theorem Gp (hc:X.calm=true)(bq:List Str)(hix:ix.map (λi=>X.N.getD i "")=bq)(hlen:∀i∈ix,i<X.N.length)(ok:d7 scope X.env.scope vars bq=true)(nd:(vars++bq).Nodup)
  (hi:PI X tg iter wi) (hg:∀cl C fp s H,PG (W4 X scope (vars++bq) cl C fp s H) tg g) (he:∀cl C fp s H,PE (W4 X scope (vars++bq) cl C fp s H) elt te)
  (hs:∀x,foldedSetIterable iter X.env x=pure x):PE X (.SetComp elt [⟨tg,iter,[],0⟩] scope pos) (Eu X.prog X.w wi g te vars.length ix):=by
 intro pins s σ H Q I h;obtain⟨h1,h2,h3⟩:=gb I ok;have okk:=ok;unfold d7 at okk;simp only[ag]at okk;show aq _ X.A (comprehension (.SetComp elt [⟨tg,iter,[],0⟩] scope pos) scope X.env _ (newSet (.type "set")) false (eval iter X.env)) _ _ s;refine cW (use:=none) rfl hs h1 h2 h3 (WL (hi pins s σ H _ I h) λv s1 h1'=>WL h1' λitv s2 h2'=>?_);obtain⟨it,fp,tn,J,H2,rfl,I2,T,XQ,f2,rd⟩:=h2';have hf:H2 s2.heap.objs.size=none:=I2.WJ.fresh (aw _);refine Ku λtb hS0=>?_;have I1:=I2.laid (a:=s2.heap.objs.size) (o:=gL X.prog X.w s2.heap.objs.size []) (h':=s2.heap.push { cls:=.type "set",dict:=none,data:=.set #[] 0 tb }) (t':=s2.toks) (λb u e=>aj _ e) (aw _) (B0 hS0);obtain⟨W,⟨m0,w0⟩,turn⟩:=rd _ hf
 generalize hD:s2.heap.objs.size=D at *
 generalize hs3:({ s2 with heap:=s2.heap.push { cls:=.type "set",dict:=none,data:=.set #[] 0 tb } }:ah)=s3 at *
 have st3:tn 0 s3.heap:=T.keep _ _ _ XQ λb hb o e=>by rw[←hs3];exact aj _ e
 have nD:∀b∈fp,b≠D:=λb hb z=>by
  obtain⟨o,e,_⟩:=T.obj _ _ XQ b hb;have:=ax e;rw[z,hD]at this;exact bw _ this
 have fo3:∀b∈fp,kh X pins (upd H2 D (gL X.prog X.w D [])) b:=λb hb=>by
  obtain⟨a0,a1⟩:=f2 b hb;exact⟨by rw[aQ (nD b hb)];exact a0,a1⟩
 refine eA λh4 hh1=>?_;obtain⟨J0,st4,Xg,fin⟩:=jR (tk:=s3.toks+([]:List (Str×af)).length) bq hix hlen ok rfl rfl I1 T st3 fo3 hh1;have loop:∀s₄:ah,s₄={ s3 with heap:=h4,toks:=s3.toks+([]:List (Str×af)).length }->
   codeAny (model X.prog X.w) X.A (.compLoop (.SetComp elt [⟨tg,iter,[],0⟩] scope pos) 0 (.ref it) (.ref D) (compEnvC scope (bj (s3.heap.objs.size+1) scope.names (fX X.env scope.names [])) s3.heap.objs.size X.env)) (compPost (model X.prog X.w) X.A X.xe none (EP X pins σ Q) (.ref D) s3.heap.objs.size) s₄:=by
  rintro s₄ rfl;refine tK (λn s'=>∃i ys σ' H',Inv (Ww X scope (vars++bq) (fX X.env scope.names []) fp s3 (upd H2 D (gL X.prog X.w D []))) [] σ' H' s'/\tn i s'.heap/\(∀b∈fp,H' b=none)/\W i n ys σ' H') ?_ m0 ⟨0,[],_,_,J0,st4,λb hb=>(fo3 b hb).1,w0⟩;rintro n s5 ⟨i,ys,σ5,H5,J5,t5,f5,w5⟩;rcases turn i n ys σ5 H5 w5 with ⟨stop,q⟩|⟨go,step⟩
  ·refine WL (T.done (Ww X scope (vars++bq) (fX X.env scope.names []) fp s3 (upd H2 D (gL X.prog X.w D []))) rfl rfl rfl hc i [] s5 σ5 H5 _ J5 (Xg _ f5) t5 stop) λr s6 ⟨hr,J6⟩=>?_;subst hr;obtain⟨K1,⟨mm,K2⟩,K3⟩:=fin _ _ _ J6;exact⟨mm,K2,λh' sb=>⟨.ref D,H5,K1.turned (t':=s6.toks) (λb o hb e=>(sb.2 b hb).trans e) K3.1 K3.2.1 K3.2.2.2.1 K3.2.2.2.2.1 K3.2.2.2.2.2,rfl,q⟩⟩
  ·refine WL (T.item (Ww X scope (vars++bq) (fX X.env scope.names []) fp s3 (upd H2 D (gL X.prog X.w D []))) rfl rfl rfl hc i [] s5 σ5 H5 _ J5 (Xg _ f5) t5 go) λr s6 zq=>?_;obtain⟨u,hr,h6⟩:=zq;subst hr;refine WL h6 λ_ s7 zq=>?_;obtain⟨x,H7,J7,r7,y7,t7,f7⟩:=zq;have J7':=J7.pinned (Xg _ f7) (T.obj _ _ t7);have XE:∀{σ' H' s'},Inv (Ww X scope (vars++bq) (fX X.env scope.names []) fp s3 (upd H2 D (gL X.prog X.w D []))) ([]++gR fp s7.heap) σ' H' s'->tn (i+1) s'.heap/\∀b∈fp,H' b=none:=λ{σ' H' s'} Y=>
    ⟨T.keep _ _ _ t7 λb hb o e=>(Y.pin (b,o) (aD _ (aD _ (cZ hb e)))).1,λb hb=>by
     obtain⟨o,e,_⟩:=T.obj _ _ t7 b hb;exact(Y.pin (b,o) (aD _ (aD _ (cZ hb e)))).2.1⟩
   refine WL (hg _ _ _ _ _ _ s7 σ5 H7 x u _ J7' r7 (step x H7 y7)) λ_ s8 zq=>?_;obtain⟨σ8,H8,J8,q8⟩:=zq;refine WL (he _ _ _ _ _ _ s8 σ8 H8 _ J8 q8) λv s10 zq=>?_;obtain⟨y,H10,J10,r10,k,ek,hd,l10,m',hm,w'⟩:=zq;subst ek;obtain⟨tv,rfl⟩:=(show ∃t,v=Value.int k t from r10);refine DZ (yA J10.WJ hd) (by unfold scanBound;lia) λh' sb hS'=>?_;have hq:∃q,h'.get? D=some q:=let ⟨q,_,_,_,z,_⟩:=hS';⟨q,z⟩;have J12:=J10.write (t':=s10.toks+1) (x:=D) (e:=D) (o:=gL X.prog X.w D (pM ys k)) (by rw[hd];exact True.intro) (.inl rfl) (λb q hb z=>(sb.2 b hb).trans z) hq (B0 hS');obtain⟨k1,k2⟩:=XE J12;exact⟨m',hm,i+1,pM ys k,σ8,_,J12.eW,k1,k2,w'⟩
 exact kH (loop _ rfl) (T.self _ 0 _ _ _ st4 (loop _ rfl))
end
def Au (k:Int):List Int->List Int
 | []=>[k]
 |x::r=>if k<=x then k::x::r else x::Au k r
def qc:List Int->List Int
 | []=>[]
 |k::r=>Au k (qc r)
theorem pB (k:Int):∀l:List Int,(Au k l).Perm (k::l)
 | []=>List.Perm.refl _
 |x::r=>by
  unfold Au;split
  ·exact List.Perm.refl _
  ·exact((pB k r).cons x).trans (List.Perm.swap k x r)
theorem mX:∀l:List Int,(qc l).Perm l
 | []=>List.Perm.refl _
 |k::r=>(pB k _).trans ((mX r).cons k)
theorem B2 (k:Int):∀l:List Int,l.Pairwise (·<=·)->(Au k l).Pairwise (·<=·)
 | [],_=>by simp[Au]
 |x::r,h=>by
  unfold Au;obtain⟨h1,h2⟩:=List.pairwise_cons.mp h;split
  ·rename_i hk;exact List.pairwise_cons.mpr ⟨λy hy=>by
    rcases List.mem_cons.mp hy with rfl|hy
    ·exact hk
    ·exact Int.le_trans hk (h1 y hy),h⟩
  ·rename_i hk;refine List.pairwise_cons.mpr ⟨λy hy=>?_,B2 k r h2⟩;rcases List.mem_cons.mp ((pB k r).mem_iff.mp hy) with rfl|hy
   ·lia
   ·exact h1 y hy
theorem yz:∀l:List Int,(qc l).Pairwise (·<=·)
 | []=>List.Pairwise.nil
 |k::r=>B2 k _ (yz r)
theorem IZ:∀{a b:List Int},a.Perm b->a.Pairwise (·<=·)->b.Pairwise (·<=·)->a=b:=λ{a b} p ha hb=>p.eq_of_pairwise (λx y _ _ h1 h2=>Int.le_antisymm h1 h2) ha hb
section
variable {X:Cx}
def zM (P:aI)(w:aZ):List V->Hp->VK->Prop:=λxs H Q=>∃a ys,xs=[.ref a]/\H a=some (gL P w a ys)/\ys.length<64/\jh H (.lst ((qc ys).map V.int)) Q
theorem qW:∀{vs:List af}{ns:List Int},IntsAre vs ns->bA (ns.map V.int) vs
 |_,_,.nil=>.nil
 |_,_,.cons n t r=>.cons ⟨t,rfl⟩ (qW r)
theorem AL (hc:X.calm=true):cu X (.builtin "sorted") (zM X.prog X.w):=by
 intro pins s σ H xs us Q I r h;obtain⟨a,ys,rfl,ha,hl,q⟩:=h;obtain⟨u,rfl,ru⟩:=vals1 r;cases (show u=Value.ref a from ru);refine zG (I.ok.hd hc) (yA I.WJ ha) hl λh' d tk p vs ns e k1 hp hlist ia pm up=>?_;have en:ns=qc ys:=IZ (pm.trans (mX ys).symm) up (yz ys);subst en;have hf:H p=none:=I.WJ.fresh hp;have J:Inv X pins σ (upd H p (.lst ((qc ys).map V.int))) { s with heap:=h',toks:=tk }:=I.laid k1 hp ⟨by
  rw[aP,(mX ys).length_eq,bT];lia,vs,e,qW ia,hlist⟩
 have J':Inv X pins σ (upd H p (.lst ((qc ys).map V.int))) { s with heap:=h',drawn:=d,toks:=tk }:=⟨J.ok,J.os,J.bare,J.base,J.loc,J.cell,J.free,J.W6,J.pin,J.WJ,J.len⟩;exact⟨.ref p,_,J',rfl,q p _ hf bu (ig hf)⟩
end
end
section
section
variable {prog:aI}{w:aZ}{A:br}{E:af->ah->Prop}{s:ah}
theorem zX {it t:Addr}{x:af}(hit:s.heap.IsTupleIter it t i)(ht:s.heap.IsTuple t items)(hx:items[i]?=some x)
  (hQ:∀h',h'.IsTupleIter it t (i+1)->Heap.SameBut it s.heap h'->Q x { s with heap:=h' }):aq (model prog w) A (Builtin.SmallTypes.nextOf (.ref it)) Q E s:=by
 obtain⟨o,ho,hc,hd⟩:=id hit;obtain⟨ol,hol,_,nl,hdl⟩:=ht;unfold Builtin.SmallTypes.nextOf;refine aa (cb (name:=Str.ofString "__next__") hit.typeIs gm (cj gm hit.typeIs F.entry_tuple_iterator_next ?_ (F.args_tuple_iterator_next_1 _)));refine(show aq _ _ (field (.ref it) 0 >>=_) _ _ s from aa (bX ho hd (x:=.ref t) rfl ?_));refine(show aq _ _ (if (Value.ref t==Value.none)=true then _ else _) _ _ s from ?_);rw[if_neg (show ¬((Value.ref t==Value.none)=true) from aH)];refine(show aq _ _ (field (.ref it) 1 >>=_) _ _ s from aa (bX ho hd (x:=.int i 0) rfl ?_));refine(show aq _ _ (seqItems? (.ref t) >>=_) _ _ s from aa (fj hol hdl ?_));simp only[cU,hx];refine aa (dg ho hd (by simp) (ak ⟨x,rfl,ak (hQ _ ?_ (Heap.SameBut.update ..))⟩));exact⟨_,bt _ ho (cV (cL hd _)),(Obj.cls_mapFields ..).trans hc,by rw[cL hd];simp[rawInt]⟩
theorem Dj {it t:Addr}(hh:A.handled=none)(hit:s.heap.IsTupleIter it t i)(ht:s.heap.IsTuple t items)(hx:items[i]?=none)
  (hE:∀h' e,Heap.ExtBut it s.heap h'->(∃o,h'.get? e=some o/\o.cls=.type "StopIteration")->E (.ref e) { s with heap:=h' }):aq (model prog w) A (Builtin.SmallTypes.nextOf (.ref it)) Q E s:=by
 obtain⟨o,ho,hc,hd⟩:=id hit;obtain⟨ol,hol,_,nl,hdl⟩:=ht;unfold Builtin.SmallTypes.nextOf;refine aa (cb (name:=Str.ofString "__next__") hit.typeIs gm (cj gm hit.typeIs F.entry_tuple_iterator_next ?_ (F.args_tuple_iterator_next_1 _)));refine(show aq _ _ (field (.ref it) 0 >>=_) _ _ s from aa (bX ho hd (x:=.ref t) rfl ?_));refine(show aq _ _ (if (Value.ref t==Value.none)=true then _ else _) _ _ s from ?_);rw[if_neg (show ¬((Value.ref t==Value.none)=true) from aH)];refine(show aq _ _ (field (.ref it) 1 >>=_) _ _ s from aa (bX ho hd (x:=.int i 0) rfl ?_));refine(show aq _ _ (seqItems? (.ref t) >>=_) _ _ s from aa (fj hol hdl ?_));simp only[cU,hx];refine aa (gc (aa (dg ho hd (by simp) ?_)));refine(show aq _ _ (newExc (.type "StopIteration") [] >>=_) _ _ _ from aa ?_);simp only[newExc,newTuple];refine aa (bC ?_ (by size_fits));refine aa (m:=firstArgMember _ _) (kK (a:=Value.none) (by first |rfl| (simp only[firstArgMember];rfl)) ?_);refine bC ?_ (by size_fits);simp only[raiseNew];refine aa (D1 ?_);rw[show A.in1.handled=none from hh];refine aa (ak (wpAny_throw ?_));exact hE _ _ (((Heap.SameBut.update ..).extBut.push _).push _) ⟨_,aB _ rfl,rfl⟩
end
theorem Ia (hh:A.handled=none)(it l:Addr)(hne:l≠it)(items:Array af):
  Draws prog w A it [it,l] items.size (λi v=>items[i]?=some v) (λi h=>h.IsTupleIter it l i/\h.IsTuple l items) where
 live:=λ_ _ st=>let ⟨o,ho,_⟩:=st.1;⟨o,ho⟩
 frame:=λ_ _ _ st hk=>⟨let ⟨o,e,r⟩:=st.1;⟨o,hk it (by simp) o e,r⟩,let ⟨o,e,r⟩:=st.2;⟨o,hk l (by simp) o e,r⟩⟩
 item:=λi s Q E hi st hQ=>by
  refine zX st.1 st.2 (x:=items[i]) (by simp[hi]) λh' hit' hs'=>?_;exact hQ _ h' s.toks (by simp[hi]) ⟨hit',let ⟨o,e,r⟩:=st.2;⟨o,(hs'.2 l hne).trans e,r⟩⟩ hs'
 done:=λs Q E st hE=>Dj hh st.1 st.2 (by simp) hE
theorem DD (l:Addr)(items:Array af):Meets (Builtin.«enumerate.__new__» ⟨[.type "enumerate",.ref l],[]⟩) (λ_ R s=>s.heap.IsTuple l items/\
   R (.ok (.ret (.ref (s.heap.push { cls:=.type "tuple_iterator",data:=.fields #[.ref l,.int 0 0] }).objs.size)))
    { s with heap:=(s.heap.push { cls:=.type "tuple_iterator",data:=.fields #[.ref l,.int 0 0] }).push { cls:=.type "enumerate",data:=.fields #[.none,.bool false,.ref s.heap.objs.size,rawInt 0,.none,.none] } }):=
 .of_wp λprog w A R s h=>by
  obtain⟨hp,g,d,tk,os⟩:=s;obtain⟨hl,h⟩:=h;have hsub:=sub_enumerate
  wp_walk
  refine wpAny_stack_any λst=>ak ?_;split
  ·rename_i c _ _ _ _ _;cases (c==Value.type "enumerate")
   ·wp_walk using gU hl
    exact⟨_,rfl,h⟩
   ·wp_walk using gU hl
    exact⟨_,rfl,h⟩
  ·wp_walk using gU hl
   exact⟨_,rfl,h⟩
theorem AO {E:af->ah->Prop}{l:Addr}(hl:s.heap.IsTuple l items)
  (h:∀h',IsEnum h' (s.heap.objs.size+1) s.heap.objs.size 0 .none->h'.IsTupleIter s.heap.objs.size l 0->h'.objs.size=s.heap.objs.size+2->(∀b o,s.heap.get? b=some o->h'.get? b=some o)->Q (.ref (s.heap.objs.size+1)) { s with heap:=h' }):
  aq (model prog w) A (call (.type "enumerate") [.ref l]) Q E s:=by
 refine callType_new F.called_enumerate (by decide) (F.typeCall_enumerate_1 _) (F.newCall_enumerate_1 _) (λobj=>F.args_object_init_2 obj _) F.entry_enumerate_new (DD l items) ⟨hl,?_⟩;have hz:(s.heap.push { cls:=.type "tuple_iterator",data:=.fields #[.ref l,.int 0 0] }).objs.size=s.heap.objs.size+1:=bI ..;refine(show _/\_ from ?_);rw[hz];have he:IsEnum ((s.heap.push { cls:=.type "tuple_iterator",data:=.fields #[.ref l,.int 0 0] }).push { cls:=.type "enumerate",data:=.fields #[.none,.bool false,.ref s.heap.objs.size,rawInt 0,.none,.none] }) (s.heap.objs.size+1) s.heap.objs.size 0 .none:=by
  have:=aB (s.heap.push { cls:=.type "tuple_iterator",data:=.fields #[.ref l,.int 0 0] }) (o:={ cls:=.type "enumerate",data:=.fields #[.none,.bool false,.ref s.heap.objs.size,rawInt 0,.none,.none] }) rfl;rw[hz]at this;exact this
 refine⟨⟨_,he,rfl⟩,h _ he ⟨_,aj _ (aB _ rfl),rfl,rfl⟩ (by rw[bI,hz]) λb o x=>aj _ (aj _ x)⟩
def SM (l:Addr):It:=
 ⟨λi H=>∃xs x,H l=some (.tup xs)/\xs[i]?=some x,λi H v H'=>∃a xs x,H a=none/\v=.ref a/\H l=some (.tup xs)/\xs[i]?=some x/\H'=upd H a (.tup [.int i,x]),λi H=>∃xs,H l=some (.tup xs)/\xs.length=i⟩
theorem zh {P:aI}{K:Frag}{x1}(l e it:Addr)(hne:e≠it):Turn P w K (.Tuple es x1 pos) (SM l) [e,it] e (λi h=>(∃old,IsEnum h e it i old)/\h.IsTupleIter it l i) where
 mem:=by simp
 obj:=λi h st b hb=>by
  obtain⟨⟨old,st1⟩,o,e1,c,d⟩:=st;rcases List.mem_cons.mp hb with rfl|hb
  ·exact⟨_,st1,λv z=>by cases (show Data.fields _=Data.cell v from z)⟩
  ·obtain rfl:b=it:=by simpa using hb
   exact⟨o,e1,λv z=>by rw[d]at z;cases z⟩
 keep:=λi h h' st k=>by
  obtain⟨⟨old,st1⟩,XQ⟩:=st;exact⟨⟨old,k e (by simp) _ st1⟩,(let ⟨o,eo,r⟩:=XQ;⟨o,k it (by simp) o eo,r⟩)⟩
 item:=by
  intro X hP hw hK hc i pins s σ H E I hf st hg;subst hP hw hK;obtain⟨⟨old,st1⟩,XQ⟩:=st;obtain⟨xs,x,hq,hx⟩:=hg;obtain⟨hz,its,rv,p⟩:=(show bJ X.prog X.w H s.heap l (.tup xs) from I.WJ l _ hq);have lne:l≠it:=bh hq (hf it (by simp)).1;have lne2:l≠e:=bh hq (hf e (by simp)).1;have hl':=rv.length;obtain⟨u,hu,ru⟩:=rv.get hx;have fe:=hf e (by simp);have fi:=hf it (by simp);have XH:i<its.toArray.size:=by
   have:=(List.getElem?_eq_some_iff.mp hu).1
   simpa using this
  refine wpAny_pyNext_enum_itemD (Ia (show X.A.in1.handled=none from I.ok.hd hc) it l lne its.toArray) st1 ⟨XQ,p⟩ XH hne (by simp[hne,lne2.symm]) λx' h' tk hx' a1 a2' a3 a4 a5=>?_;obtain rfl:x'=u:=by
   have q1:its.toArray[i]?=some x':=hx';rw[List.getElem?_toArray,hu]at q1;exact(Option.some.inj q1).symm
  have a2:=a2'.1;refine⟨_,rfl,wpAny_letOwnedTupleGo_enum a1 λh2 b1 sb=>?_⟩;have fresh:H s.heap.objs.size=none:=I.WJ.fresh (aw _);have sz:∀b o,s.heap.get? b=some o->b≠s.heap.objs.size:=λb o q=>aT (ax q);have keep:∀b o,s.heap.get? b=some o->b≠e->b≠it->h2.get? b=some o:=λb o q n1 n2=>(sb.2 b n1).trans (a5 b o n1 n2 q);have ne1:s.heap.objs.size≠e:=(sz e _ st1).symm;have ah1:h2.get? s.heap.objs.size=some { cls:=.type "tuple",data:=.seq #[.int i tk,x'] }:=(sb.2 _ ne1).trans a3;have ac0:∀b,b∉[e,it]->b≠e/\b≠it:=λb z=>⟨λq=>z (by simp[q]),λq=>z (by simp[q])⟩;have tr:∀b o,H b=some o->b≠e/\b≠it:=λb o q=>⟨(λz=>by rw[z,fe.1]at q;cases q),(λz=>by rw[z,fi.1]at q;cases q)⟩;have un:Un (frs X.stack) [e,it] H (upd H s.heap.objs.size (.tup [.int i,x])) s.heap h2:={
   keep:=λb o q _ _ z=>keep b o q (ac0 b z).1 (ac0 b z).2
   slot:=λb o q _ _ z=>⟨o.slots,keep b o q (ac0 b z).1 (ac0 b z).2⟩
   free:=λb o q n _=>by rw[aQ (sz b o q)];exact n
   there:=λb o q z=>⟨o,keep b o q (ac0 b z).1 (ac0 b z).2⟩
   Xt:=λb ys q=>by rw[aQ (bh q fresh)];exact q
   Xp:=λb o ys q=>by rw[aQ (bh q fresh)];exact q
   Xu:=λb ps q=>⟨#[],by rw[aQ (bh q fresh),q];simp⟩ }
  have WJ:Xo X.prog X.w (upd H s.heap.objs.size (.tup [.int i,x])) h2:=λb o q=>by
   by_cases hb:b=s.heap.objs.size
   ·subst hb;rw[bu]at q;cases q;exact⟨(by show 2<=au;decide),[.int i tk,x'],.cons ⟨_,rfl⟩ (.cons ru .nil),⟨_,ah1,rfl,0,rfl⟩⟩
   ·rw[aQ hb]at q;refine(I.WJ b o q).kQ (λc v hc hv=>?_) (λc hc=>by rw[aQ (bh hc fresh)];exact hc) λc ys hc=>by rw[aQ (bh hc fresh)];exact hc
    rcases hc with rfl|hc
    ·exact keep c v hv (tr c _ q).1 (tr c _ q).2
    ·exact keep c v hv (tr c _ hc).1 (tr c _ hc).2
  have J:=I.call (g':=s.gens) (d':=s.drawn) (t':=tk+1) (ch:=[e,it]) un WJ I.bare λb hb=>by
   have:=hf b hb;exact⟨this.2.2.2.1,this.2.1,this.2.2.2.2.1,this.2.2.2.2.2⟩
  refine⟨.ref s.heap.objs.size,_,J,rfl,⟨_,xs,x,fresh,rfl,hq,hx,rfl⟩,⟨⟨x',?_⟩,(let ⟨o,eo,r⟩:=a2;⟨o,(sb.2 it hne.symm).trans eo,r⟩)⟩,λb hb=>?_⟩
  ·have e1:((i:Int)+1)=((i+1:Nat):Int):=by lia
   rw[←e1];exact b1
  ·rcases List.mem_cons.mp hb with rfl|hb
   ·rw[aQ ne1.symm];exact fe.1
   ·obtain rfl:b=it:=by simpa using hb
    obtain⟨o,q,_⟩:=XQ;rw[aQ (sz _ _ q)];exact fi.1
 done:=by
  intro X hP hw hK hc i pins s σ H E I hf st hg;subst hP hw hK;obtain⟨⟨old,st1⟩,XQ⟩:=st;obtain⟨xs,hq,hx⟩:=hg;obtain⟨hz,its,rv,p⟩:=(show bJ X.prog X.w H s.heap l (.tup xs) from I.WJ l _ hq);have lne:l≠it:=bh hq (hf it (by simp)).1;have lne2:l≠e:=bh hq (hf e (by simp)).1;have hl':=rv.length;obtain⟨f0,f1,f2,f3,f4,f5⟩:=hf it (by simp);have en:i=its.toArray.size:=by simp;lia
  subst en;exact wpAny_pyNext_enum_endD (Ia (show X.A.in1.handled=none from I.ok.hd hc) it l lne its.toArray) st1 ⟨XQ,p⟩ λh' eb=>⟨rfl,I.turned (t':=s.toks) (λb o hb e=>eb b o hb e) f0 f1 f3 f4 f5⟩
 self:=λ_ _ _ _ _ st h=>by
  obtain⟨⟨old,st1⟩,_⟩:=st;exact kJ st1 h
def Hm (ta:TA):TI:=λσ H R=>ta σ H λvs H1=>∃l,vs=[.ref l]/\(∃xs,H1 l=some (.tup xs))/\R (SM l) H1
theorem Gh {a:Expr}{x1}(hg:Gl X "enumerate")(hm:X.mg "enumerate"=none)(ha:PA X [a] ta)(hs:ay [a] X.env=[(false,eval a X.env)]:=by rfl):
  PI X (.Tuple es x1 apos) (.Call (.Name "enumerate" p) [a] [] pos) (Hm ta):=by
 intro pins s σ H R I h;refine qQ (fB I hg hm boot_enumerate (PyProof.Rows.callWith_type1 (WL (ha pos pins s σ H _ I h) λus s1 zq=>?_) hs rfl));obtain⟨vs,H1,I1,r1,q1⟩:=zq;obtain⟨l,e,⟨xs,hq⟩,q⟩:=q1;subst e;obtain⟨u,rfl,ru⟩:=vals1 r1;cases (show u=Value.ref l from ru);obtain⟨hz,its,rv,pp⟩:=(show bJ X.prog X.w H1 s1.heap l (.tup xs) from I1.WJ l _ hq);refine AO pp λh' b1 b2 b3 b4=>?_;refine kJ b1 ?_;refine⟨s1.heap.objs.size+1,[s1.heap.objs.size+1,s1.heap.objs.size],_,_,H1,rfl,I1.kept (t':=s1.toks) b4,zh l (s1.heap.objs.size+1) s1.heap.objs.size (Nat.succ_ne_self _),⟨⟨.none,b1⟩,b2⟩,λb hb=>?_,q⟩;rcases List.mem_cons.mp hb with rfl|hb
 ·exact I1.tU (cT _) (I1.WJ.fresh (cT _))
 ·obtain rfl:b=s1.heap.objs.size:=by simpa using hb
  exact I1.tU (aw _) (I1.WJ.fresh (aw _))
end
section
section
variable {prog:aI}{w:aZ}{A:br}{E:af->ah->Prop}{s:ah}
theorem vb {it t:Addr}{items:Array af}(hne:t≠it):∀(n i:Nat)(s:ah)(Q:List af->ah->Prop),s.heap.IsListIter it t i->s.heap.IsList t items->i+n<=items.size->
  (∀h',h'.IsListIter it t (i+n)->Heap.SameBut it s.heap h'->Q ((items.toList.drop i).take n) { s with heap:=h' })->aq (model prog w) A (draw (.ref it) n) Q E s
 | 0,i,s,Q,hit,_,_,hQ=>(show aq _ _ (pure []) Q E s from ak (by simpa using hQ s.heap hit (Heap.SameBut.refl ..)))
 |n+1,i,s,Q,hit,ht,hle,hQ=>by
  have XH:i<items.size:=by lia
  refine(show aq _ _ (pyNext (.ref it) >>=_) Q E s from ?_);refine aa (wpAny_pyNext_list_item hit ht (x:=items[i]) (by simp[XH]) λh1 az6 hs1=>?_);refine aa (a9 (vb hne n (i+1) _ _ az6 (ht.extBut hs1.extBut hne) (by lia) λh2 hit2 hs2=>ak ?_));have hd:items.toList.drop i=items[i]::items.toList.drop (i+1):=by simp[bU,XH]
  have q:=hQ h2 (by rw[show i+(n+1)=i+1+n by lia];exact hit2) (hs1.trans hs2);rw[hd,List.take_succ_cons]at q;exact q
theorem oI {t:Addr}{Q:List af->ah->Prop}(hh:A.handled=none)(ht:s.heap.IsList t items)
  (hQ:∀h',Heap.ExtBut s.heap.objs.size s.heap h'->Q items.toList { s with heap:=h' }):aq (model prog w) A (unpackItems (.ref t) items.size none) Q E s:=by
 have XH:t≠s.heap.objs.size:=by obtain⟨o,ho,_⟩:=ht;exact aT (ax ho)
 obtain⟨o,ho,hc,n,hd⟩:=id ht;have htp:(s.heap.push { cls:=.type "list_iterator",data:=.fields #[.ref t,.int 0 0] }).IsList t items:=⟨o,aj _ ho,hc,n,hd⟩;unfold unpackItems;refine aa ?_;unfold notIterableAtAll;refine aa (eQ ht.typeIs PySem.F.slot_list_iter.lookup (ak ?_));simp only[aY,if_false];refine aa (a9 (iF ht ?_));refine aa (a9 (vb XH items.size 0 _ _ ⟨_,aB _ rfl,rfl,rfl⟩ htp (by lia) λh1 az6 hs1=>?_));have af6:List.take items.size (List.drop 0 items.toList)=items.toList:=by rw[List.drop_zero];exact fJ (by simp)
 rw[af6,if_neg (by simp)];refine aa (a9 (wpAny_pyNext_list_end hh az6 (htp.extBut hs1.extBut XH) (by simp) λh2 he2=>?_));simp only[Option.isSome_none,aY,if_false];exact ak (hQ h2 λb u hb e=>he2 b u hb (hs1.extBut b u hb (aj _ e)))
end
section
variable {X:Cx}{pos:Pos}
def RJ (K:Frag)(n:Nat)(t:WZ):TG:=λv σ H Q=>∃a xs,v=.ref a/\Xc K H a xs/\xs.length=n/\t xs σ H Q
def Ht (K:Frag)(n:Nat)(t:WZ):TG:=λv σ H Q=>OJ K n t v σ H Q\/RJ K n t v σ H Q
theorem JW {k:Nat}{t:WZ}(hc:X.calm=true)(h:PGs X es t)(hn:(assignEach es X.env).length=n)(hst:(assignEach es X.env).findIdx? (·.1)=none):PG X (.Tuple es k pos) (Ht X.K n t):=by
 intro pins s σ H v u Q I r hw;rcases hw with hw |hw
 ·exact Gk hc h hn hst pins s σ H v u Q I r hw
 ·obtain⟨a,xs,e1,hq,hl,hw⟩:=hw;subst e1;cases r;obtain⟨its,rv,ht,hz⟩:=I.list hq;rw[arm_assign_Tuple];refine aa (cg ?_);unfold unpack;have hsz:its.toArray.size=n:=by simp[←hl,rv.length]
  rw[hn,hst,←hsz];refine aa (a9 (oI (I.ok.hd hc) ht.isList λh' hx=>?_));have I1:Inv X pins σ H { s with heap:=h' }:=I.kept (t':=s.toks) λb o e=>hx b o (aT (ax e)) e;exact h pins _ σ H xs _ Q I1 (by simpa using rv) hw
end
end
def bestOf (lt:Int->Int->Bool)(ns:List Int):Int:=ns.getD (argBest (λi j=>lt (ns.getD i 0) (ns.getD j 0)) (ns.length - 1)) 0
def F6 (lt:Int->Int->Bool):List V->Hp->VK->Prop:=λvs H Q=>∃(a:Addr)(ns:List Int),vs=[.ref a]/\H a=some (.lst (ns.map V.int))/\0<ns.length/\Q (.int (bestOf lt ns)) H
section
inductive D where
 |WN
 |bl (b:Bool)
 |int (i:Int)
 |str (x:Str)
 |lst (xs:List D)
 |tup (xs:List D)
 |XF (kvs:List (Key×D))
 |dcT (kvs:List (List Key×D))
 |ins (c:Str) (fs:List (Str×D))
 |exc (c:Str) (fs:List (Str×D))
 |ref (k:Nat)
 |frl (xs:List D)
 |fn (x:Str)
 |cls (x:Str)
theorem Zb {a:Bool}(h:(a||b)=true):a=true\/b=true:=by cases a with
 |true=>exact .inl rfl
 |false=>exact .inr h
theorem YM {p:Prop}(h:false=true):p:=nomatch h
theorem X8 {a:Bool}(h:(a&&b)=true):a=true:=by cases a with
 |true=>rfl
 |false=>exact h
theorem XZ {a:Bool}(h:(a&&b)=true):b=true:=by cases a with
 |true=>exact h
 |false=>exact YM h
theorem ZW {a:Bool}(h:a=true)(k:b=true):(a&&b)=true:=by rw[h,k];rfl
theorem ZD {a:Bool}(h:(!a)=true):a=false:=by cases a with
 |true=>exact YM h
 |false=>rfl
mutual
def D.allR (p:Nat->Bool):D->Bool
 |.WN=>true
 |.bl _=>true
 |.int _=>true
 |.str _=>true
 |.lst xs=>Yj p xs
 |.tup xs=>Yj p xs
 |.XF kvs=>Yp p kvs
 |.dcT kvs=>Yo p kvs
 |.ins _ fs=>Yl p fs
 |.exc _ fs=>Yl p fs
 |.ref k=>p k
 |.frl xs=>Yj p xs
 |.fn _=>true
 |.cls _=>true
def Yj (p:Nat->Bool):List D->Bool
 | []=>true
 |d::ds=>d.allR p&&Yj p ds
def Yp (p:Nat->Bool):List (Key×D)->Bool
 | []=>true
 | (_,d)::ds=>d.allR p&&Yp p ds
def Yo (p:Nat->Bool):List (List Key×D)->Bool
 | []=>true
 | (_,d)::ds=>d.allR p&&Yo p ds
def Yl (p:Nat->Bool):List (Str×D)->Bool
 | []=>true
 | (_,d)::ds=>d.allR p&&Yl p ds
end
inductive fZ where
 |lst (xs:List D)
 |XF (kvs:List (Key×D))
 |set (xs:List Str)
 |ins (c:Str) (fs:List (Str×D))
abbrev MS:=List fZ
abbrev cO:=List (Option D)
structure Gx where
 P:aI
 w:aZ
 K:Frag
 cls:Str->Addr
 fn:Str->Addr
 η:List Addr:=[]
abbrev Gx.WU (G:Gx)(ξ:List Addr):Gx:={ G with η:=ξ++G.η }
abbrev Gx.at (G:Gx)(η:List Addr):Gx:={ G with η:=η }
def KL (K:Frag)(a:Addr)(xs:List V):Prop:=∃(o:Obj)(its:Array af)(n:Nat),K.lookup a=some o/\o.cls=.type "list"/\o.dict=none/\o.data=.seq its n/\its.size<=au/\bA xs its.toList
mutual
inductive VR (G:Gx)(ι ξ:List Addr)(H:Hp):V->D->Prop where
 |WN:VR G ι ξ H .WN .WN
 |bl (b:Bool):VR G ι ξ H (.bl b) (.bl b)
 |int (i:Int):VR G ι ξ H (.int i) (.int i)
 |str (x:Str):VR G ι ξ H (.str x) (.str x)
 |lst {a:Addr} {vs:List V} {ds:List D} (e:H a=some (.lst vs)) (n:a∉ξ) (r:VRs G ι ξ H vs ds):VR G ι ξ H (.ref a) (.lst ds)
 |tup {a:Addr} {vs:List V} {ds:List D} (e:H a=some (.tup vs)) (n:a∉ξ) (r:VRs G ι ξ H vs ds):VR G ι ξ H (.ref a) (.tup ds)
 |XF {a:Addr} {kvs:List (Key×V)} {W0:List (Key×D)} (e:H a=some (.dK kvs)) (n:a∉ξ) (r:VRk G ι ξ H kvs W0):VR G ι ξ H (.ref a) (.XF W0)
 |dcT {a:Addr} {kvs:List (List Key×V)} {W0:List (List Key×D)} (e:H a=some (.dT kvs)) (n:a∉ξ) (r:VRt G ι ξ H kvs W0):VR G ι ξ H (.ref a) (.dcT W0)
 |ins {a dx:Addr} {c:Str} {vs:List (Str×V)} {fs:List (Str×D)} (e:H a=some (.ins (G.cls c) dx vs)) (n:a∉ξ) (r:VRf G ι ξ H vs fs):VR G ι ξ H (.ref a) (.ins c fs)
 |az7 {a:Addr} {c:Str} (e:H a=some (fL false (G.cls c) a none)) (n:a∉ξ):VR G ι ξ H (.ref a) (.exc c [])
 |az8 {a dx:Addr} {c:Str} {vs:List (Str×V)} {fs:List (Str×D)} (e:H a=some (fL false (G.cls c) a (some dx))) (n:a∉ξ) (e2:H dx=some (ir dx vs)) (n2:dx∉ξ) (r:VRf G ι ξ H vs fs):VR G ι ξ H (.ref a) (.exc c fs)
 |ref {a:Addr} {k:Nat} (e:ι[k]?=some a):VR G ι ξ H (.ref a) (.ref k)
 |frl {a:Addr} {o:Obj} {vs:List V} {ds:List D} (e:H a=some (.frz o (.lst vs))) (n:a∉ξ) (r:VRs G ι ξ H vs ds):VR G ι ξ H (.ref a) (.frl ds)
 |frk {a:Addr} {vs:List V} {ds:List D} (e:KL G.K a vs) (r:VRs G ι ξ H vs ds):VR G ι ξ H (.ref a) (.frl ds)
 |fn (x:Str):VR G ι ξ H (.ref (G.fn x)) (.fn x)
 |cls (x:Str):VR G ι ξ H (.ref (G.cls x)) (.cls x)
inductive VRs (G:Gx)(ι ξ:List Addr)(H:Hp):List V->List D->Prop where
 |nil:VRs G ι ξ H [] []
 |cons {v:V} {d:D} {vs:List V} {ds:List D} (a:VR G ι ξ H v d) (r:VRs G ι ξ H vs ds):VRs G ι ξ H (v::vs) (d::ds)
inductive VRk (G:Gx)(ι ξ:List Addr)(H:Hp):List (Key×V)->List (Key×D)->Prop where
 |nil:VRk G ι ξ H [] []
 |cons {k:Key} {v:V} {d:D} {vs:List (Key×V)} {ds:List (Key×D)} (a:VR G ι ξ H v d) (r:VRk G ι ξ H vs ds):VRk G ι ξ H ((k,v)::vs) ((k,d)::ds)
inductive VRf (G:Gx)(ι ξ:List Addr)(H:Hp):List (Str×V)->List (Str×D)->Prop where
 |nil:VRf G ι ξ H [] []
 |cons {k:Str} {v:V} {d:D} {vs:List (Str×V)} {ds:List (Str×D)} (a:VR G ι ξ H v d) (r:VRf G ι ξ H vs ds):VRf G ι ξ H ((k,v)::vs) ((k,d)::ds)
inductive VRt (G:Gx)(ι ξ:List Addr)(H:Hp):List (List Key×V)->List (List Key×D)->Prop where
 |nil:VRt G ι ξ H [] []
 |cons {k:List Key} {v:V} {d:D} {vs:List (List Key×V)} {ds:List (List Key×D)} (a:VR G ι ξ H v d) (r:VRt G ι ξ H vs ds):VRt G ι ξ H ((k,v)::vs) ((k,d)::ds)
end
section
variable {G:Gx}{ι ξ:List Addr}{H:Hp}
@[elab_as_elim]theorem VRs.ind {P:List V->List D->Prop}{v:List V}{d:List D}(h:VRs G ι ξ H v d)(n:P [] [])(c:∀{v d vs ds},VR G ι ξ H v d->VRs G ι ξ H vs ds->P vs ds->P (v::vs) (d::ds)):P v d:=by
 refine @VRs.rec G ι ξ H (λ_ _ _=>True) (λv d _=>P v d) (λ_ _ _=>True) (λ_ _ _=>True) (λ_ _ _=>True) ?_ ?_ ?_ ?_ ?_ ?_ ?_ ?_ ?_ ?_ ?_ ?_ ?_ ?_ ?_ ?_ ?_ ?_ ?_ ?_ ?_ ?_ ?_ ?_ v d h<;>intros<;>first |trivial |exact n |exact c ‹_› ‹_› ‹_›
@[elab_as_elim]theorem VRk.ind {P:List (Key×V)->List (Key×D)->Prop}{v:List (Key×V)}{d:List (Key×D)}(h:VRk G ι ξ H v d)(n:P [] [])(c:∀{k v d vs ds},VR G ι ξ H v d->VRk G ι ξ H vs ds->P vs ds->P ((k,v)::vs) ((k,d)::ds)):P v d:=by
 refine @VRk.rec G ι ξ H (λ_ _ _=>True) (λ_ _ _=>True) (λv d _=>P v d) (λ_ _ _=>True) (λ_ _ _=>True) ?_ ?_ ?_ ?_ ?_ ?_ ?_ ?_ ?_ ?_ ?_ ?_ ?_ ?_ ?_ ?_ ?_ ?_ ?_ ?_ ?_ ?_ ?_ ?_ v d h<;>intros<;>first |trivial |exact n |exact c ‹_› ‹_› ‹_›
@[elab_as_elim]theorem VRf.ind {P:List (Str×V)->List (Str×D)->Prop}{v:List (Str×V)}{d:List (Str×D)}(h:VRf G ι ξ H v d)(n:P [] [])(c:∀{k v d vs ds},VR G ι ξ H v d->VRf G ι ξ H vs ds->P vs ds->P ((k,v)::vs) ((k,d)::ds)):P v d:=by
 refine @VRf.rec G ι ξ H (λ_ _ _=>True) (λ_ _ _=>True) (λ_ _ _=>True) (λv d _=>P v d) (λ_ _ _=>True) ?_ ?_ ?_ ?_ ?_ ?_ ?_ ?_ ?_ ?_ ?_ ?_ ?_ ?_ ?_ ?_ ?_ ?_ ?_ ?_ ?_ ?_ ?_ ?_ v d h<;>intros<;>first |trivial |exact n |exact c ‹_› ‹_› ‹_›
@[elab_as_elim]theorem VRt.ind {P:List (List Key×V)->List (List Key×D)->Prop}{v:List (List Key×V)}{d:List (List Key×D)}(h:VRt G ι ξ H v d)(n:P [] [])(c:∀{k v d vs ds},VR G ι ξ H v d->VRt G ι ξ H vs ds->P vs ds->P ((k,v)::vs) ((k,d)::ds)):P v d:=by
 refine @VRt.rec G ι ξ H (λ_ _ _=>True) (λ_ _ _=>True) (λ_ _ _=>True) (λ_ _ _=>True) (λv d _=>P v d) ?_ ?_ ?_ ?_ ?_ ?_ ?_ ?_ ?_ ?_ ?_ ?_ ?_ ?_ ?_ ?_ ?_ ?_ ?_ ?_ ?_ ?_ ?_ ?_ v d h<;>intros<;>first |trivial |exact n |exact c ‹_› ‹_› ‹_›
end
structure Mv (ι ξ:List Addr)(H:Hp)(ι' ξ':List Addr)(H':Hp):Prop where
 pre:∀(k:Nat)(a:Addr),ι[k]?=some a->ι'[k]?=some a
 keep:∀a o,H a=some o->a∉ξ->H' a=some o/\a∉ξ'
section
variable {G G':Gx}{ι ξ ι' ξ':List Addr}{H H':Hp}
section
variable {p:Nat->Bool}(η:List Addr)(pre:∀(k:Nat)(a:Addr),p k=true->ι[k]?=some a->ι'[k]?=some a)(keep:∀a o,H a=some o->a∉ξ->H' a=some o/\a∉ξ')
include pre keep
theorem VR.mapA {d:D}(h:VR G ι ξ H v d):d.allR p->VR (G.at η) ι' ξ' H' v d:=by
 refine @VR.rec G ι ξ H (λv d _=>d.allR p->VR (G.at η) ι' ξ' H' v d) (λv d _=>Yj p d->VRs (G.at η) ι' ξ' H' v d) (λv d _=>Yp p d->VRk (G.at η) ι' ξ' H' v d) (λv d _=>Yl p d->VRf (G.at η) ι' ξ' H' v d) (λv d _=>Yo p d->VRt (G.at η) ι' ξ' H' v d) ?_ ?_ ?_ ?_ ?_ ?_ ?_ ?_ ?_ ?_ ?_ ?_ ?_ ?_ ?_ ?_ ?_ ?_ ?_ ?_ ?_ ?_ ?_ ?_ v d h
 ·exact λ_=>.WN
 ·exact λb _=>.bl b
 ·exact λi _=>.int i
 ·exact λx _=>.str x
 ·exact λz n _ i h=>.lst (keep _ _ z n).1 (keep _ _ z n).2 (i h)
 ·exact λz n _ i h=>.tup (keep _ _ z n).1 (keep _ _ z n).2 (i h)
 ·exact λz n _ i h=>.XF (keep _ _ z n).1 (keep _ _ z n).2 (i h)
 ·exact λz n _ i h=>.dcT (keep _ _ z n).1 (keep _ _ z n).2 (i h)
 ·exact λz n _ i h=>.ins (keep _ _ z n).1 (keep _ _ z n).2 (i h)
 ·exact λz n _=>.az7 (keep _ _ z n).1 (keep _ _ z n).2
 ·exact λz n z2 n2 _ i h=>.az8 (keep _ _ z n).1 (keep _ _ z n).2 (keep _ _ z2 n2).1 (keep _ _ z2 n2).2 (i h)
 ·exact λz h=>.ref (pre _ _ h z)
 ·exact λz n _ i h=>.frl (keep _ _ z n).1 (keep _ _ z n).2 (i h)
 ·exact λz _ i h=>.frk z (i h)
 ·exact λx _=>.fn (G:=G.at η) x
 ·exact λx _=>.cls (G:=G.at η) x
 ·exact λ_=>.nil
 ·exact λ_ _ i j h=>.cons (i (X8 h)) (j (XZ h))
 ·exact λ_=>.nil
 ·exact λ_ _ i j h=>.cons (i (X8 h)) (j (XZ h))
 ·exact λ_=>.nil
 ·exact λ_ _ i j h=>.cons (i (X8 h)) (j (XZ h))
 ·exact λ_=>.nil
 ·exact λ_ _ i j h=>.cons (i (X8 h)) (j (XZ h))
theorem VRs.mapA {v:List V}{d:List D}(h:VRs G ι ξ H v d):Yj p d->VRs (G.at η) ι' ξ' H' v d:=VRs.ind h (λ_=>.nil) λa _ i q=>.cons (a.mapA η pre keep (X8 q)) (i (XZ q))
theorem VRk.mapA {v:List (Key×V)}{d:List (Key×D)}(h:VRk G ι ξ H v d):Yp p d->VRk (G.at η) ι' ξ' H' v d:=VRk.ind h (λ_=>.nil) λa _ i q=>.cons (a.mapA η pre keep (X8 q)) (i (XZ q))
theorem VRf.mapA {v:List (Str×V)}{d:List (Str×D)}(h:VRf G ι ξ H v d):Yl p d->VRf (G.at η) ι' ξ' H' v d:=VRf.ind h (λ_=>.nil) λa _ i q=>.cons (a.mapA η pre keep (X8 q)) (i (XZ q))
theorem VRt.mapA {v:List (List Key×V)}{d:List (List Key×D)}(h:VRt G ι ξ H v d):Yo p d->VRt (G.at η) ι' ξ' H' v d:=VRt.ind h (λ_=>.nil) λa _ i q=>.cons (a.mapA η pre keep (X8 q)) (i (XZ q))
end
def Yb (ι:List Addr)(k:Nat):Bool:=decide (k<ι.length)
theorem VR.YI {d:D}(h:VR G ι ξ H v d):d.allR (Yb ι):=by
 refine @VR.rec G ι ξ H (λ_ d _=>d.allR (Yb ι)) (λ_ d _=>Yj (Yb ι) d) (λ_ d _=>Yp (Yb ι) d) (λ_ d _=>Yl (Yb ι) d) (λ_ d _=>Yo (Yb ι) d) ?_ ?_ ?_ ?_ ?_ ?_ ?_ ?_ ?_ ?_ ?_ ?_ ?_ ?_ ?_ ?_ ?_ ?_ ?_ ?_ ?_ ?_ ?_ ?_ v d h
 ·rfl
 ·exact λ_=>rfl
 ·exact λ_=>rfl
 ·exact λ_=>rfl
 ·exact λ_ _ _ i=>i
 ·exact λ_ _ _ i=>i
 ·exact λ_ _ _ i=>i
 ·exact λ_ _ _ i=>i
 ·exact λ_ _ _ i=>i
 ·exact λ_ _=>rfl
 ·exact λ_ _ _ _ _ i=>i
 ·exact λz=>decide_eq_true (List.getElem?_eq_some_iff.mp z).1
 ·exact λ_ _ _ i=>i
 ·exact λ_ _ i=>i
 ·exact λ_=>rfl
 ·exact λ_=>rfl
 ·rfl
 ·exact λ_ _ i j=>ZW i j
 ·rfl
 ·exact λ_ _ i j=>ZW i j
 ·rfl
 ·exact λ_ _ i j=>ZW i j
 ·rfl
 ·exact λ_ _ i j=>ZW i j
theorem VRs.YI {v:List V}{d:List D}(h:VRs G ι ξ H v d):Yj (Yb ι) d:=VRs.ind h rfl λa _ i=>ZW a.YI i
theorem VRk.YI {v:List (Key×V)}{d:List (Key×D)}(h:VRk G ι ξ H v d):Yp (Yb ι) d:=VRk.ind h rfl λa _ i=>ZW a.YI i
theorem VRf.YI {v:List (Str×V)}{d:List (Str×D)}(h:VRf G ι ξ H v d):Yl (Yb ι) d:=VRf.ind h rfl λa _ i=>ZW a.YI i
theorem VRt.YI {v:List (List Key×V)}{d:List (List Key×D)}(h:VRt G ι ξ H v d):Yo (Yb ι) d:=VRt.ind h rfl λa _ i=>ZW a.YI i
theorem VR.mv (e:Mv ι ξ H ι' ξ' H'){d:D}(h:VR G ι ξ H v d):VR G ι' ξ' H' v d:=h.mapA G.η (λk a _=>e.pre k a) e.keep h.YI
theorem VRs.mv (e:Mv ι ξ H ι' ξ' H'){v:List V}{d:List D}(h:VRs G ι ξ H v d):VRs G ι' ξ' H' v d:=h.mapA G.η (λk a _=>e.pre k a) e.keep h.YI
theorem VRk.mv (e:Mv ι ξ H ι' ξ' H'){v:List (Key×V)}{d:List (Key×D)}(h:VRk G ι ξ H v d):VRk G ι' ξ' H' v d:=h.mapA G.η (λk a _=>e.pre k a) e.keep h.YI
theorem VRf.mv (e:Mv ι ξ H ι' ξ' H'){v:List (Str×V)}{d:List (Str×D)}(h:VRf G ι ξ H v d):VRf G ι' ξ' H' v d:=h.mapA G.η (λk a _=>e.pre k a) e.keep h.YI
theorem VRt.mv (e:Mv ι ξ H ι' ξ' H'){v:List (List Key×V)}{d:List (List Key×D)}(h:VRt G ι ξ H v d):VRt G ι' ξ' H' v d:=h.mapA G.η (λk a _=>e.pre k a) e.keep h.YI
theorem VR.at (η:List Addr){d:D}(h:VR G ι ξ H v d):VR (G.at η) ι ξ H v d:=h.mapA η (λ_ _ _ z=>z) (λ_ _ z n=>⟨z,n⟩) h.YI
theorem VRs.at (η:List Addr){v:List V}{d:List D}(h:VRs G ι ξ H v d):VRs (G.at η) ι ξ H v d:=h.mapA η (λ_ _ _ z=>z) (λ_ _ z n=>⟨z,n⟩) h.YI
theorem VRk.at (η:List Addr){v:List (Key×V)}{d:List (Key×D)}(h:VRk G ι ξ H v d):VRk (G.at η) ι ξ H v d:=h.mapA η (λ_ _ _ z=>z) (λ_ _ z n=>⟨z,n⟩) h.YI
theorem VRf.at (η:List Addr){v:List (Str×V)}{d:List (Str×D)}(h:VRf G ι ξ H v d):VRf (G.at η) ι ξ H v d:=h.mapA η (λ_ _ _ z=>z) (λ_ _ z n=>⟨z,n⟩) h.YI
theorem VRt.at (η:List Addr){v:List (List Key×V)}{d:List (List Key×D)}(h:VRt G ι ξ H v d):VRt (G.at η) ι ξ H v d:=h.mapA η (λ_ _ _ z=>z) (λ_ _ z n=>⟨z,n⟩) h.YI
theorem VRs.length {ds:List D}(h:VRs G ι ξ H vs ds):vs.length=ds.length:=VRs.ind h rfl λ_ _ i=>congrArg (·+1) i
theorem VRk.length {vs:List (Key×V)}{ds:List (Key×D)}(h:VRk G ι ξ H vs ds):vs.length=ds.length:=VRk.ind h rfl λ_ _ i=>congrArg (·+1) i
theorem VRt.length {vs:List (List Key×V)}{ds:List (List Key×D)}(h:VRt G ι ξ H vs ds):vs.length=ds.length:=VRt.ind h rfl λ_ _ i=>congrArg (·+1) i
theorem VRf.length {vs:List (Str×V)}{ds:List (Str×D)}(h:VRf G ι ξ H vs ds):vs.length=ds.length:=VRf.ind h rfl λ_ _ i=>congrArg (·+1) i
theorem VRs.append {ws:List V}{ds es:List D}(h:VRs G ι ξ H vs ds)(q:VRs G ι ξ H ws es):VRs G ι ξ H (vs++ws) (ds++es):=VRs.ind h q λa _ i=>.cons a i
theorem VRs.get {ds:List D}{d:D}(h:VRs G ι ξ H vs ds):ds[i]?=some d->∃v,vs[i]?=some v/\VR G ι ξ H v d:=VRs.ind (P:=λvs ds=>∀i,ds[i]?=some d->∃v,vs[i]?=some v/\VR G ι ξ H v d) h (λi e=>by cases i<;>cases e) (λa _ ih i e=>by
 cases i with
 |zero=>exact⟨_,rfl,by cases e;exact a⟩
 |succ i=>exact ih i e) i
theorem VRs.set {v:V}{d:D}(h:VR G ι ξ H v d){vs:List V}{ds:List D}(i:Nat)(r:VRs G ι ξ H vs ds):VRs G ι ξ H (vs.set i v) (ds.set i d):=VRs.ind (P:=λvs ds=>∀i,VRs G ι ξ H (vs.set i v) (ds.set i d)) r (λ_=>.nil) (λa r ih i=>by
 cases i with
 |zero=>exact .cons h r
 |succ i=>exact .cons a (ih i)) i
theorem VRs.take {vs:List V}{ds:List D}(n:Nat)(r:VRs G ι ξ H vs ds):VRs G ι ξ H (vs.take n) (ds.take n):=VRs.ind (P:=λvs ds=>∀n,VRs G ι ξ H (vs.take n) (ds.take n)) r (λn=>by cases n<;>exact .nil) (λa _ ih n=>by
 cases n with
 |zero=>exact .nil
 |succ n=>exact .cons a (ih n)) n
theorem VRs.drop {vs:List V}{ds:List D}(n:Nat)(r:VRs G ι ξ H vs ds):VRs G ι ξ H (vs.drop n) (ds.drop n):=VRs.ind (P:=λvs ds=>∀n,VRs G ι ξ H (vs.drop n) (ds.drop n)) r (λn=>by cases n<;>exact .nil) (λa r ih n=>by
 cases n with
 |zero=>exact .cons a r
 |succ n=>exact ih n) n
theorem VRs.isEmpty {ds:List D}(r:VRs G ι ξ H vs ds):vs.isEmpty=ds.isEmpty:=by cases r<;>rfl
theorem VRk.isEmpty {vs:List (Key×V)}{ds:List (Key×D)}(r:VRk G ι ξ H vs ds):vs.isEmpty=ds.isEmpty:=by cases r<;>rfl
theorem VRf.lookup {f:Str}:∀{vs:List (Str×V)}{fs:List (Str×D)},VRf G ι ξ H vs fs->(∃v d,vs.lookup f=some v/\fs.lookup f=some d/\VR G ι ξ H v d)\/(vs.lookup f=none/\fs.lookup f=none)
 |_,_,.nil=>.inr ⟨rfl,rfl⟩
 |_,_,.cons (k:=n) a r=>by
  rw[cP,cP];cases hb:f==n with
  |true=>exact .inl ⟨_,_,rfl,rfl,a⟩
  |false=>exact VRf.lookup r
theorem VRf.mem {f:Str}{vs:List (Str×V)}{fs:List (Str×D)}{d:D}(r:VRf G ι ξ H vs fs)(e:fs.lookup f=some d):∃v,vs.lookup f=some v/\VR G ι ξ H v d:=by
 rcases r.lookup (f:=f) with ⟨v,d',h1,h2,h3⟩|⟨_,h2⟩
 ·rw[h2]at e;cases e;exact⟨v,h1,h3⟩
 ·rw[h2]at e;cases e
end
structure Ext (ι:List Addr)(H:Hp)(ι':List Addr)(H':Hp):Prop where
 pre:ι <+:ι'
 keep:∀a o,H a=some o->a∉ι->H' a=some o
 new:∀a,a∈ι'->a∉ι->H a=none
theorem Ext.refl :Ext ι H ι H:=⟨ni,λ_ _ e _=>e,λ_ h n=>absurd h n⟩
theorem Ext.out (e:Ext ι H η H')(h:H a=some o)(n:a∉ι):a∉η:=λz=>by
 rw[e.new a z n]at h;cases h
theorem Ext.trans {ι ι1 ι2:List Addr}{H H1 H2:Hp}(e:Ext ι H ι1 H1)(f:Ext ι1 H1 ι2 H2):Ext ι H ι2 H2 where
 pre:=e.pre.trans f.pre
 keep:=λa o h n=>f.keep a o (e.keep a o h n) (e.out h n)
 new:=λa h n=>by
  by_cases h1:a∈ι1
  ·exact e.new a h1 n
  ·cases q:H a with
   |none=>rfl
   |some o=>exact absurd (e.keep a o q n) (by rw[f.new a h h1];exact λz=>nomatch z)
theorem Ext.same (s:fD H H'):Ext ι H ι H':=⟨ni,λa o h _=>s a o h,λ_ h n=>absurd h n⟩
theorem nK (e:ι <+:η){k:Nat}(h:ι[k]?=some a):η[k]?=some a:=by
 obtain⟨t,rfl⟩:=e;rw[ba (List.getElem?_eq_some_iff.mp h).1];exact h
theorem Ext.kQ {ι':List Addr}(e:Ext ι H ι' H')(h:H a=some o)(n:a∉η++ι):H' a=some o/\a∉η++ι':=by
 have n1:a∉η:=λz=>n (cm _ z);have n2:a∉ι:=λz=>n (aD _ z);exact⟨e.keep _ _ h n2,λz=>(List.mem_append.mp z).elim n1 (e.out h n2)⟩
theorem Ext.mv {ι':List Addr}(e:Ext ι H ι' H'):Mv ι (η++ι) H ι' (η++ι') H':=⟨λ_ _ h=>nK e.pre h,λ_ _ h n=>e.kQ h n⟩
theorem Ext.tF {x:Addr}(e:Ext ι H η H')(hx:H x=none):Ext ι H η (upd H' x o):=⟨e.pre,λa u h n=>by rw[aQ (bh h hx)];exact e.keep a u h n,e.new⟩
abbrev RV (G:Gx)(ι:List Addr)(H:Hp)(v:V)(d:D):Prop:=VR G ι (G.η++ι) H v d
abbrev XG (G:Gx)(ι:List Addr)(H:Hp)(vs:List V)(ds:List D):Prop:=VRs G ι (G.η++ι) H vs ds
abbrev RVk (G:Gx)(ι:List Addr)(H:Hp)(vs:List (Key×V))(ds:List (Key×D)):Prop:=VRk G ι (G.η++ι) H vs ds
abbrev RVt (G:Gx)(ι:List Addr)(H:Hp)(vs:List (List Key×V))(ds:List (List Key×D)):Prop:=VRt G ι (G.η++ι) H vs ds
abbrev RVf (G:Gx)(ι:List Addr)(H:Hp)(vs:List (Str×V))(ds:List (Str×D)):Prop:=VRf G ι (G.η++ι) H vs ds
def OR (G:Gx)(ι:List Addr)(H:Hp)(a:Addr):fZ->Prop
 |.lst ds=>∃vs,H a=some (.lst vs)/\XG G ι H vs ds
 |.XF W0=>∃kvs,H a=some (.dK kvs)/\RVk G ι H kvs W0
 |.set xs=>H a=some (SSet G.P G.w a (λk=>xs.contains k) xs.length)
 |.ins c fs=>∃dx vs,H a=some (.ins (G.cls c) dx vs)/\RVf G ι H vs fs
structure Rel (G:Gx)(ι:List Addr)(M:MS)(H:Hp):Prop where
 len:ι.length=M.length
 nd:ι.Nodup
 at':∀(k:Nat)(a:Addr)(m:fZ),ι[k]?=some a->M[k]?=some m->OR G ι H a m
 WU:∀a∈G.η,∃o,H a=some o
def ER (G:Gx)(ι:List Addr)(H:Hp)(σ:St)(δ:cO):Prop:=σ.length=δ.length/\∀(i:Nat)(d:D),δ[i]?=some (some d)->∃v,σ[i]?=some (some v)/\RV G ι H v d
section
variable {G:Gx}{ι ι':List Addr}{H H':Hp}
theorem VR.ext (e:Ext ι H ι' H'){d:D}(h:RV G ι H v d):RV G ι' H' v d:=h.mv e.mv
theorem VRs.ext (e:Ext ι H ι' H'){ds:List D}(h:XG G ι H vs ds):XG G ι' H' vs ds:=h.mv e.mv
theorem VRk.ext (e:Ext ι H ι' H'){vs:List (Key×V)}{ds:List (Key×D)}(h:RVk G ι H vs ds):RVk G ι' H' vs ds:=h.mv e.mv
theorem VRt.ext (e:Ext ι H ι' H'){vs:List (List Key×V)}{ds:List (List Key×D)}(h:RVt G ι H vs ds):RVt G ι' H' vs ds:=h.mv e.mv
theorem VRf.ext (e:Ext ι H ι' H'){vs:List (Str×V)}{ds:List (Str×D)}(h:RVf G ι H vs ds):RVf G ι' H' vs ds:=h.mv e.mv
theorem ER.ext (e:Ext ι H ι' H'){σ:St}{δ:cO}(h:ER G ι H σ δ):ER G ι' H' σ δ:=⟨h.1,λi d q=>let ⟨v,a,b⟩:=h.2 i d q;⟨v,a,b.ext e⟩⟩
theorem ER.set {δ:cO}(h:ER G ι H σ δ){d:D}(r:RV G ι H v d)(i:Nat):ER G ι H (σ.set i (some v)) (δ.set i (some d)):=by
 refine⟨by rw[gM,gM];exact h.1,λj e q=>?_⟩;rw[fU]at q;rw[fU]
 by_cases hj:i=j
 ·subst hj;rw[if_pos rfl]at q;rw[if_pos rfl]
  by_cases hl:i<δ.length
  ·rw[if_pos hl]at q;cases q;rw[if_pos (by rw[h.1];exact hl)];exact⟨v,rfl,r⟩
  ·rw[if_neg hl]at q;cases q
 ·rw[if_neg hj]at q;rw[if_neg hj];exact h.2 j e q
theorem ER.unset {δ:cO}(h:ER G ι H σ δ)(i:Nat):ER G ι H (σ.set i none) (δ.set i none):=by
 refine⟨by rw[gM,gM];exact h.1,λj e q=>?_⟩;rw[fU]at q;rw[fU]
 by_cases hj:i=j
 ·subst hj;rw[if_pos rfl]at q;split at q<;>cases q
 ·rw[if_neg hj]at q;rw[if_neg hj];exact h.2 j e q
theorem OR.some {m:fZ}(h:OR G ι H a m):∃o,H a=some o:=by
 cases m with
 |lst ds=>obtain⟨vs,h,_⟩:=h;exact⟨_,h⟩
 |XF ds=>obtain⟨vs,h,_⟩:=h;exact⟨_,h⟩
 |set xs=>exact⟨_,h⟩
 |ins c fs=>obtain⟨_,_,h,_⟩:=h;exact⟨_,h⟩
theorem OR.mv {G':Gx}{m:fZ}(hc:G'.cls=G.cls)(hP:G'.P=G.P)(hw:G'.w=G.w)(h:OR G ι H a m)(k:H' a=H a)(es:∀{vs ds},XG G ι H vs ds->XG G' ι' H' vs ds)(ek:∀{vs ds},RVk G ι H vs ds->RVk G' ι' H' vs ds)(ef:∀{vs ds},RVf G ι H vs ds->RVf G' ι' H' vs ds):OR G' ι' H' a m:=by
 cases m with
 |lst ds=>obtain⟨vs,h,r⟩:=h;exact⟨vs,k.trans h,es r⟩
 |XF ds=>obtain⟨vs,h,r⟩:=h;exact⟨vs,k.trans h,ek r⟩
 |set xs=>show H' a=_;rw[hP,hw];exact k.trans h
 |ins c fs=>obtain⟨dx,vs,h,r⟩:=h;exact⟨dx,vs,by rw[hc];exact k.trans h,ef r⟩
theorem OR.ext {a:Addr}{m:fZ}(e:Ext ι H ι' H')(h:OR G ι H a m)(k:H' a=H a):OR G ι' H' a m:=h.mv rfl rfl rfl k (λr=>r.ext e) (λr=>r.ext e) (λr=>r.ext e)
theorem Rel.mem {M:MS}(R:Rel G ι M H)(h:a∈ι):∃o,H a=some o:=by
 obtain⟨k,hk⟩:=pS h;have hl:=(List.getElem?_eq_some_iff.mp hk).1;rw[R.len]at hl;exact(R.at' k a M[k] hk (bB hl)).some
theorem Rel.out {M:MS}(R:Rel G ι M H)(h:H a=none):a∉ι:=λz=>by
 obtain⟨o,q⟩:=R.mem z;rw[h]at q;cases q
theorem Rel.rN {M:MS}(R:Rel G ι M H)(h:H a=none):a∉G.η++ι:=λz=>by
 rcases List.mem_append.mp z with z |z
 ·obtain⟨o,q⟩:=R.WU a z;rw[h]at q;cases q
 ·exact R.out h z
theorem Rel.same {M:MS}(R:Rel G ι M H)(s:fD H H'):Rel G ι M H':=⟨R.len,R.nd,λk a m h1 h2=>by
 have q:=R.at' k a m h1 h2;obtain⟨o,z⟩:=q.some;exact q.ext (Ext.same s) (by rw[s _ _ z,z]),λa h=>let ⟨o,q⟩:=R.WU a h;⟨o,s _ _ q⟩⟩
theorem Ext.write (h:a∈ι):Ext ι H ι (upd H a o):=⟨ni,λb u e n=>by rw[aQ (λz=>n (by rw[z];exact h))];exact e,λ_ h n=>absurd h n⟩
theorem Rel.write {M:MS}(R:Rel G ι M H){k:Nat}{a:Addr}{m:fZ}{o:HO}(hk:ι[k]?=some a)(h:OR G ι (upd H a o) a m):Rel G ι (M.set k m) (upd H a o):=by
 refine⟨by rw[gM];exact R.len,R.nd,λj b m' h1 h2=>?_,λb hb=>?_⟩
 rotate_left
 ·by_cases z:b=a
  ·exact⟨o,by rw[z,bu]⟩
  ·rw[aQ z];exact R.WU b hb
 have hm:a∈ι:=bH hk;rw[fU]at h2
 by_cases hj:k=j
 ·subst hj;rw[hk]at h1;cases h1;rw[if_pos rfl]at h2;have hl:=(List.getElem?_eq_some_iff.mp hk).1;rw[R.len]at hl;rw[if_pos hl]at h2;cases h2;exact h
 ·rw[if_neg hj]at h2;have ne:b≠a:=λz=>hj (by
   subst z;have l1:=(List.getElem?_eq_some_iff.mp hk).1;exact(List.getElem?_inj l1 R.nd).mp (hk.trans h1.symm))
  exact(R.at' j b m' h1 h2).ext (Ext.write hm) (aQ ne)
theorem Ext.cell {p:Addr}(s:fD H H')(hp:H p=none):Ext ι H (ι++[p]) H':=⟨gX _ _,λa o h _=>s a o h,λa h n=>by
 rcases List.mem_append.mp h with z |z
 ·exact absurd z n
 ·simp at z;rw[z];exact hp⟩
theorem Rel.cell {M:MS}(R:Rel G ι M H){p:Addr}{m:fZ}(s:fD H H')(hp:H p=none)(h:OR G (ι++[p]) H' p m):Rel G (ι++[p]) (M++[m]) H':=by
 refine⟨by simp[R.len],?_,λk a m' h1 h2=>?_,λa h=>let ⟨o,q⟩:=R.WU a h;⟨o,s _ _ q⟩⟩
 ·refine List.nodup_append.mpr ⟨R.nd,by simp,λa ha b hb z=>?_⟩;simp at hb;subst z;subst hb;exact R.out hp ha
 ·by_cases hk:k<ι.length
  ·rw[ba hk]at h1;rw[ba (by rw[←R.len];exact hk)]at h2;have q:=R.at' k a m' h1 h2;obtain⟨o,z⟩:=q.some;exact q.ext (Ext.cell s hp) (by rw[s _ _ z,z])
  ·have e1:k=ι.length:=by
    have:=(List.getElem?_eq_some_iff.mp h1).1;simp at this
    lia
   subst e1;simp at h1;subst h1;rw[R.len]at h2;simp at h2;subst h2;exact h
theorem qH {ζ:List Addr}(f:∀a∈ζ,H a=none):Mv ι (G.η++ι) H ι ((G.WU ζ).η++ι) H:=⟨λ_ _ h=>h,λa o h n=>⟨h,λz=>by
 rcases List.mem_append.mp z with z |z
 ·rcases List.mem_append.mp z with z |z
  ·rw[f a z]at h;cases h
  ·exact n (cm _ z)
 ·exact n (aD _ z)⟩⟩
theorem VR.hide (f:∀a∈η,H a=none){d:D}(h:RV G ι H v d):RV (G.WU η) ι H v d:=(h.mv (qH f)).at _
theorem VRs.hide (f:∀a∈η,H a=none){v:List V}{d:List D}(h:XG G ι H v d):XG (G.WU η) ι H v d:=(h.mv (qH f)).at _
theorem ER.hide {ζ:List Addr}(f:∀a∈ζ,H a=none){σ:St}{δ:cO}(h:ER G ι H σ δ):ER (G.WU ζ) ι H σ δ:=⟨h.1,λi d q=>let ⟨v,a,b⟩:=h.2 i d q;⟨v,a,b.hide f⟩⟩
theorem nF {ζ:List Addr}:Mv ι ((G.WU ζ).η++ι) H ι (G.η++ι) H:=⟨λ_ _ h=>h,λa o h n=>⟨h,λz=>n ((List.mem_append.mp z).elim (λz=>cm _ (aD _ z)) (aD _))⟩⟩
theorem VRs.fA {ζ:List Addr}{v:List V}{d:List D}(h:XG (G.WU ζ) ι H v d):XG G ι H v d:=(h.mv (G:=G.WU ζ) (nF (G:=G))).at G.η
theorem VRk.fA {ζ:List Addr}{v:List (Key×V)}{d:List (Key×D)}(h:RVk (G.WU ζ) ι H v d):RVk G ι H v d:=(h.mv (G:=G.WU ζ) (nF (G:=G))).at G.η
theorem VRt.fA {ζ:List Addr}{v:List (List Key×V)}{d:List (List Key×D)}(h:RVt (G.WU ζ) ι H v d):RVt G ι H v d:=(h.mv (G:=G.WU ζ) (nF (G:=G))).at G.η
theorem VRf.fA {ζ:List Addr}{v:List (Str×V)}{d:List (Str×D)}(h:RVf (G.WU ζ) ι H v d):RVf G ι H v d:=(h.mv (G:=G.WU ζ) (nF (G:=G))).at G.η
theorem Rel.fA {ζ:List Addr}{M:MS}(R:Rel (G.WU ζ) ι M H):Rel G ι M H:=⟨R.len,R.nd,λk a m h1 h2=>OR.mv (G:=G.WU ζ) (G':=G) rfl rfl rfl (R.at' k a m h1 h2) rfl (λr=>r.fA) (λr=>r.fA) (λr=>r.fA),
 λa h=>R.WU a (aD _ h)⟩
theorem gy {x:Addr}(hx:x∈G.η):Mv ι (G.η++ι) H ι (G.η++ι) (upd H x o):=⟨λ_ _ h=>h,λa u h n=>⟨by rw[aQ (λz=>n (cm _ (by rw[z];exact hx)))];exact h,n⟩⟩
theorem VR.hidden {x:Addr}(hx:x∈G.η){d:D}(h:RV G ι H v d):RV G ι (upd H x o) v d:=h.mv (gy hx)
theorem ER.hidden {x:Addr}{o:HO}(hx:x∈G.η){σ:St}{δ:cO}(h:ER G ι H σ δ):ER G ι (upd H x o) σ δ:=⟨h.1,λi d q=>let ⟨v,a,b⟩:=h.2 i d q;⟨v,a,b.hidden hx⟩⟩
theorem Rel.hidden {x:Addr}{M:MS}(R:Rel G ι M H)(hx:x∈G.η)(hn:x∉ι):Rel G ι M (upd H x o):=⟨R.len,R.nd,λk a m h1 h2=>by
 have ne:a≠x:=λz=>hn (by rw[←z];exact bH h1);exact(R.at' k a m h1 h2).mv rfl rfl rfl (aQ ne) (λr=>r.mv (gy hx)) (λr=>r.mv (gy hx)) (λr=>r.mv (gy hx)),
 λa h=>by
  by_cases z:a=x
  ·exact⟨o,by rw[z,bu]⟩
  ·rw[aQ z];exact R.WU a h⟩
theorem Rel.hide {x:Addr}{M:MS}(R:Rel G ι M H)(hx:H x=none):Rel (G.WU [x]) ι M (upd H x o):=by
 have f:∀a∈[x],H a=none:=λa z=>by simp at z;rw[z];exact hx
 have st:Mv ι (G.η++ι) H ι ((G.WU [x]).η++ι) (upd H x o):=⟨λ_ _ h=>h,λa u h n=>⟨by rw[aQ (bh h hx)];exact h,((qH (G:=G) f).keep a u h n).2⟩⟩;refine⟨R.len,R.nd,λk a m h1 h2=>?_,λa h=>?_⟩
 ·have ne:a≠x:=λz=>R.out hx (by rw[←z];exact bH h1);exact OR.mv (G:=G) (G':=G.WU [x]) rfl rfl rfl (R.at' k a m h1 h2) (aQ ne) (λr=>(r.mv st).at _) (λr=>(r.mv st).at _) (λr=>(r.mv st).at _)
 ·by_cases z:a=x
  ·exact⟨o,by rw[z,bu]⟩
  ·rw[aQ z];rcases List.mem_append.mp h with h |h
   ·simp at h;exact absurd h z
   ·exact R.WU a h
end
end
section
noncomputable section
inductive Rs (α:Type) where
 |ok (a:α) (M:MS)
 |ex (c:Str) (fs:List (Str×D)) (M:MS)
def rb {α β:Type}(r:Option (Rs α))(k:α->MS->Option (Rs β)):Option (Rs β):=
 match r with
 |none=>none
 |some (.ok a M)=>k a M
 |some (.ex c fs M)=>some (.ex c fs M)
@[simp]theorem LB {α β:Type}{a:α}{M:MS}{k:α->MS->Option (Rs β)}:rb (some (.ok a M)) k=k a M:=rfl
@[simp]theorem V3 {α β:Type}{c:Str}{fs:List (Str×D)}{M:MS}{k:α->MS->Option (Rs β)}:rb (some (.ex c fs M)) k=some (.ex c fs M):=rfl
@[simp]theorem S8 {α β:Type}{k:α->MS->Option (Rs β)}:rb none k=none:=rfl
abbrev FE:=cO->MS->Option (Rs D)
abbrev FT:=cO->MS->Option (Rs Bool)
abbrev FA:=cO->MS->Option (Rs (List D))
abbrev XW:=Addr->St->Hp->Prop
abbrev XR (G:Gx)(ι:List Addr)(H:Hp)(x:Addr)(c:Str)(fs:List (Str×D)):Prop:=RV G ι H (.ref x) (.exc c fs)
def GR {α β:Type}(G:Gx)(vr:List Addr->Hp->β->α->Prop)(W:XW)(ι:List Addr)(H:Hp)(σ:St)(Q:β->Hp->Prop):Option (Rs α)->Prop
 |none=>False
 |some (.ok a M)=>∀v H' ι',Ext ι H ι' H'->Rel G ι' M H'->vr ι' H' v a->Q v H'
 |some (.ex c fs M)=>∀x H' ι',Ext ι H ι' H'->Rel G ι' M H'->XR G ι' H' x c fs->W x σ H'
def BR:List Addr->Hp->Bool->Bool->Prop:=λ_ _ b c=>b=c
def bP (G:Gx)(W:XW)(t:TE)(f:FE):Prop:=∀(σ:St)(δ:cO)(ι:List Addr)(M:MS)(H:Hp)(Q:VK),Rel G ι M H->ER G ι H σ δ->GR G (RV G) W ι H σ Q (f δ M)->t σ H Q
def gF (G:Gx)(W:XW)(t:TT)(f:FT):Prop:=∀(σ:St)(δ:cO)(ι:List Addr)(M:MS)(H:Hp)(Q:Bool->Hp->Prop),Rel G ι M H->ER G ι H σ δ->GR G BR W ι H σ Q (f δ M)->t σ H Q
def iE (G:Gx)(W:XW)(t:TA)(f:FA):Prop:=∀(σ:St)(δ:cO)(ι:List Addr)(M:MS)(H:Hp)(Q:List V->Hp->Prop),Rel G ι M H->ER G ι H σ δ->GR G (XG G) W ι H σ Q (f δ M)->t σ H Q
section
variable {α β γ ε:Type}{G:Gx}{vr:List Addr->Hp->β->α->Prop}{vr2:List Addr->Hp->ε->γ->Prop}{W:XW}{ι ι1:List Addr}{H H1:Hp}{σ:St}
theorem GR.ext {Q:β->Hp->Prop}{r:Option (Rs α)}(e:Ext ι H ι1 H1)(h:GR G vr W ι H σ Q r):GR G vr W ι1 H1 σ Q r:=by
 cases r with
 |none=>exact h
 |some r=>cases r with
  |ok a M=>exact λv H' ι' e' R q=>h v H' ι' (e.trans e') R q
  |ex c fs M=>exact λx H' ι' e' R q=>h x H' ι' (e.trans e') R q
theorem GR.bind {Q:ε->Hp->Prop}{Q':β->Hp->Prop}{r:Option (Rs α)}{k:α->MS->Option (Rs γ)}(h:GR G vr2 W ι H σ Q (rb r k))
  (m:∀v H1 ι1 M1 d,Ext ι H ι1 H1->Rel G ι1 M1 H1->vr ι1 H1 v d->GR G vr2 W ι1 H1 σ Q (k d M1)->Q' v H1):GR G vr W ι H σ Q' r:=by
 cases r with
 |none=>exact h
 |some r=>cases r with
  |ok a M=>exact λv H' ι' e' R q=>m v H' ι' M a e' R q (GR.ext e' h)
  |ex c fs M=>exact h
end
section
variable {G:Gx}{W:XW}
def mV (i:Nat):FE:=λδ M=>match δ[i]? with
 |some (some d)=>some (.ok d M)
 |_=>none
theorem Jc (i:Nat):bP G W (I9 i) (mV i):=λσ δ ι M H Q R E h=>by
 unfold mV at h;cases e:δ[i]? with
 |none=>rw[e]at h;exact h.elim
 |some o=>cases o with
  |none=>rw[e]at h;exact h.elim
  |some d=>
   rw[e]at h;obtain⟨v,hv,r⟩:=E.2 i d e;exact⟨v,hv,h v H ι Ext.refl R r⟩
def mC (d:D):FE:=λ_ M=>some (.ok d M)
theorem xK {d:D}(r:∀ι H,RV G ι H v d):bP G W (tC v) (mC d):=λσ δ ι M H Q R E h=>h v H ι Ext.refl R (r ι H)
def sg:FA:=λ_ M=>some (.ok [] M)
def si (f:FE)(g:FA):FA:=λδ M=>rb (f δ M) λx M1=>rb (g δ M1) λxs M2=>some (.ok (x::xs) M2)
theorem nB:iE G W iw sg:=λσ δ ι M H Q R E h=>h [] H ι Ext.refl R .nil
theorem Fs {t:TE}{f:FE}{u:TA}{g:FA}(a:bP G W t f)(b:iE G W u g):iE G W (fu t u) (si f g):=λσ δ ι M H Q R E h=>
 a σ δ ι M H _ R E (GR.bind h λv H1 ι1 M1 d e1 R1 r1 h1=>b σ δ ι1 M1 H1 _ R1 (E.ext e1) (GR.bind h1 λvs H2 ι2 M2 ds e2 R2 r2 h2=>
  h2 (v::vs) H2 ι2 Ext.refl R2 (.cons (r1.ext e2) r2)))
abbrev F2:=D->D->MS->Option (Rs D)
def lJ (G:Gx)(r:R2)(g:F2):Prop:=∀(W:XW)(σ:St)(ι:List Addr)(M:MS)(H:Hp)(x y:V)(dx dy:D)(Q:VK),Rel G ι M H->RV G ι H x dx->RV G ι H y dy->GR G (RV G) W ι H σ Q (g dx dy M)->r x y H Q
def mOp (g:F2)(fa fb:FE):FE:=λδ M=>rb (fa δ M) λx M1=>rb (fb δ M1) λy M2=>g x y M2
theorem vJ {r:R2}{g:F2}{fa fb:FE}(o:lJ G r g)(a:bP G W te fa)(b:bP G W to fb):bP G W (tOp r te to) (mOp g fa fb):=λσ δ ι M H Q R E h=>
 a σ δ ι M H _ R E (GR.bind h λv H1 ι1 M1 d e1 R1 r1 h1=>b σ δ ι1 M1 H1 _ R1 (E.ext e1) (GR.bind h1 λu H2 ι2 M2 d2 e2 R2 r2 h2=>
  o W σ ι2 M2 H2 v u d d2 Q R2 (r1.ext e2) r2 h2))
abbrev F1:=D->MS->Option (Rs D)
def mUn (g:F1)(fa:FE):FE:=λδ M=>rb (fa δ M) λx M1=>g x M1
abbrev FN:=List D->MS->Option (Rs D)
def sZ (G:Gx)(r:List V->Hp->VK->Prop)(g:FN):Prop:=∀(W:XW)(σ:St)(ι:List Addr)(M:MS)(H:Hp)(vs:List V)(ds:List D)(Q:VK),Rel G ι M H->XG G ι H vs ds->GR G (RV G) W ι H σ Q (g ds M)->r vs H Q
def mB (g:FN)(fa:FA):FE:=λδ M=>rb (fa δ M) λxs M1=>g xs M1
theorem nC {r:List V->Hp->VK->Prop}{g:FN}{fa:FA}(o:sZ G r g)(a:iE G W ta fa):bP G W (tCB r ta) (mB g fa):=λσ δ ι M H Q R E h=>
 a σ δ ι M H _ R E (GR.bind h λv H1 ι1 M1 d e1 R1 r1 h1=>o W σ ι1 M1 H1 v d Q R1 r1 h1)
def tru (f:FE):FT:=λδ M=>rb (f δ M) λd M1=>match d with
 |.bl b=>some (.ok b M1)
 |_=>none
theorem jj (h:RV G ι H v (.bl b)):v=.bl b:=by cases h;rfl
theorem dS {b:Int}(h:RV G ι H v (.int b)):v=.int b:=by cases h;rfl
theorem iu {b:Str}(h:RV G ι H v (.str b)):v=.str b:=by cases h;rfl
theorem lM (h:RV G ι H v (.WN)):v=.WN:=by cases h;rfl
theorem qA {t:TE}{f:FE}(a:bP G W t f):gF G W (tB t) (tru f):=λσ δ ι M H Q R E h=>
 a σ δ ι M H _ R E (GR.bind h λv H1 ι1 M1 d e1 R1 r1 h1=>by
  cases d with
  |bl b=>exact⟨b,jj r1,h1 b H1 ι1 Ext.refl R1 rfl⟩
  |_=>exact h1.elim)
theorem xF {t:TE}{f:FE}(a:bP G W t f):gF G W (Et t) (tru f):=qA a
def Rv (f g:FT):FT:=λδ M=>rb (f δ M) λb M1=>if b=true then g δ M1 else some (.ok false M1)
def mOr (f g:FT):FT:=λδ M=>rb (f δ M) λb M1=>if b=true then some (.ok true M1) else g δ M1
def Ae (f:FT):FT:=λδ M=>rb (f δ M) λb M1=>some (.ok (!b) M1)
theorem Jw {t u:TT}{f g:FT}(a:gF G W t f)(b:gF G W u g):gF G W (MV t u) (Rv f g):=λσ δ ι M H Q R E h=>
 a σ δ ι M H _ R E (GR.bind h λv H1 ι1 M1 d e1 R1 r1 h1=>by
  obtain rfl:v=d:=r1;cases v with
  |true=>exact b σ δ ι1 M1 H1 Q R1 (E.ext e1) h1
  |false=>exact h1 false H1 ι1 Ext.refl R1 rfl)
theorem Nc {t u:TT}{f g:FT}(a:gF G W t f)(b:gF G W u g):gF G W (tOr t u) (mOr f g):=λσ δ ι M H Q R E h=>
 a σ δ ι M H _ R E (GR.bind h λv H1 ι1 M1 d e1 R1 r1 h1=>by
  obtain rfl:v=d:=r1;cases v with
  |true=>exact h1 true H1 ι1 Ext.refl R1 rfl
  |false=>exact b σ δ ι1 M1 H1 Q R1 (E.ext e1) h1)
theorem Jk {t:TT}{f:FT}(a:gF G W t f):gF G W (Qd t) (Ae f):=λσ δ ι M H Q R E h=>
 a σ δ ι M H _ R E (GR.bind h λv H1 ι1 M1 d e1 R1 r1 h1=>by
  obtain rfl:v=d:=r1;exact h1 (!v) H1 ι1 Ext.refl R1 rfl)
def mIf (c:FT)(f g:FE):FE:=λδ M=>rb (c δ M) λb M1=>if b=true then f δ M1 else g δ M1
theorem Nj {t:TT}{c:FT}{f g:FE}(a:gF G W t c)(x:bP G W te f)(y:bP G W to g):bP G W (tIf t te to) (mIf c f g):=λσ δ ι M H Q R E h=>
 a σ δ ι M H _ R E (GR.bind h λv H1 ι1 M1 d e1 R1 r1 h1=>by
  obtain rfl:v=d:=r1;cases v with
  |true=>exact x σ δ ι1 M1 H1 Q R1 (E.ext e1) h1
  |false=>exact y σ δ ι1 M1 H1 Q R1 (E.ext e1) h1)
def sj (f g:FE):FE:=λδ M=>rb (tru f δ M) λb M1=>if b=true then g δ M1 else some (.ok (.bl false) M1)
def Rr (f g:FE):FE:=λδ M=>rb (tru f δ M) λb M1=>if b=true then some (.ok (.bl true) M1) else g δ M1
def yq (f:FE):FE:=λδ M=>rb (tru f δ M) λb M1=>some (.ok (.bl (!b)) M1)
theorem Ft {f g:FE}(a:bP G W te f)(b:bP G W to g):bP G W (E3 te to) (sj f g):=λσ δ ι M H Q R E h=>
 qA a σ δ ι M H (λc H1=>if c=true then to σ H1 Q else Q (.bl false) H1) R E (GR.bind h λv H1 ι1 M1 d e1 R1 r1 h1=>by
  obtain rfl:v=d:=r1;cases v with
  |true=>exact b σ δ ι1 M1 H1 Q R1 (E.ext e1) h1
  |false=>exact h1 _ H1 ι1 Ext.refl R1 (.bl _))
theorem Jh {f g:FE}(a:bP G W te f)(b:bP G W to g):bP G W (MF te to) (Rr f g):=λσ δ ι M H Q R E h=>
 qA a σ δ ι M H (λc H1=>if c=true then Q (.bl true) H1 else to σ H1 Q) R E (GR.bind h λv H1 ι1 M1 d e1 R1 r1 h1=>by
  obtain rfl:v=d:=r1;cases v with
  |true=>exact h1 _ H1 ι1 Ext.refl R1 (.bl _)
  |false=>exact b σ δ ι1 M1 H1 Q R1 (E.ext e1) h1)
theorem E9 {f:FE}(a:bP G W te f):bP G W (Lm te) (yq f):=λσ δ ι M H Q R E h=>
 qA a σ δ ι M H (λc H1=>Q (.bl (!c)) H1) R E (GR.bind h λv H1 ι1 M1 d e1 R1 r1 h1=>by
  obtain rfl:v=d:=r1;exact h1 _ H1 ι1 Ext.refl R1 (.bl _))
def Aj (g g':F2)(fa fb fc:FE):FE:=λδ M=>rb (fa δ M) λx M1=>rb (fb δ M1) λy M2=>rb (g x y M2) λz M3=>match z with
 |.bl b=>if b=true then rb (fc δ M3) λu M4=>g' y u M4 else some (.ok (.bl false) M3)
 |_=>none
end
end
end
variable {fa:FA}{f fe:FE}{ft:FT}{G:Gx}{W0:List (Key×D)}{ps:List D}{M:MS}{W':XW}
section
noncomputable section
mutual
def D.py:D->Option PyData
 |.WN=>some .none
 |.bl b=>some (.bool b)
 |.int i=>some (.int i)
 |.str x=>some (.str x)
 |.lst xs=>match mD xs with
  |some ps=>some (.list ps)
  |none=>none
 |.tup xs=>match mD xs with
  |some ps=>some (.tuple ps)
  |none=>none
 |.frl _=>none
 |.XF _=>none
 |.dcT _=>none
 |.ins _ _=>none
 |.exc _ _=>none
 |.ref _=>none
 |.fn _=>none
 |.cls _=>none
def mD:List D->Option (List PyData)
 | []=>some []
 |d::ds=>match d.py with
  |some p=>match mD ds with
   |some ps=>some (p::ps)
   |none=>none
  |none=>none
end
theorem ZF {xs:List D}{p:PyData}(e:(D.lst xs).py=some p):∃ps,mD xs=some ps/\p=.list ps:=by
 rw[D.py]at e;split at e
 ·rename_i h;cases e;exact⟨_,h,rfl⟩
 ·cases e
theorem ZE {xs:List D}{p:PyData}(e:(D.tup xs).py=some p):∃ps,mD xs=some ps/\p=.tuple ps:=by
 rw[D.py]at e;split at e
 ·rename_i h;cases e;exact⟨_,h,rfl⟩
 ·cases e
theorem Zv {d:D}{ds:List D}{ps:List PyData}(e:mD (d::ds)=some ps):∃p qs,d.py=some p/\mD ds=some qs/\ps=p::qs:=by
 rw[mD]at e;split at e
 ·rename_i p h1;split at e
  ·rename_i ps h2;cases e;exact⟨p,ps,h1,h2,rfl⟩
  ·cases e
 ·cases e
section
variable {X:Cx}{pins:List (Addr×Obj)}{σ:St}{H:Hp}{s:ah}{G:Gx}{ι ξ:List Addr}
theorem YU (I:Inv X pins σ H s):(∀v d,VR G ι ξ H v d->∀p u,d.py=some p->RelV v u->∃as,Reads s.heap u p as)/\(∀v d,VRs G ι ξ H v d->∀p u,mD d=some p->bA v u->∃as,ReadsAll s.heap u p as):=by
 refine⟨@VR.rec G ι ξ H (λv d _=>∀p u,d.py=some p->RelV v u->∃as,Reads s.heap u p as) (λv d _=>∀p u,mD d=some p->bA v u->∃as,ReadsAll s.heap u p as) (λ_ _ _=>True) (λ_ _ _=>True) (λ_ _ _=>True) ?q1 ?q2 ?q3 ?q4 ?q5 ?q6 ?q7 ?q8 ?q9 ?q10 ?q11 ?q12 ?q13 ?q14 ?q15 ?q16 ?q17 ?q18 ?q19 ?q20 ?q21 ?q22 ?q23 ?q24,@VRs.rec G ι ξ H (λv d _=>∀p u,d.py=some p->RelV v u->∃as,Reads s.heap u p as) (λv d _=>∀p u,mD d=some p->bA v u->∃as,ReadsAll s.heap u p as) (λ_ _ _=>True) (λ_ _ _=>True) (λ_ _ _=>True) ?q1 ?q2 ?q3 ?q4 ?q5 ?q6 ?q7 ?q8 ?q9 ?q10 ?q11 ?q12 ?q13 ?q14 ?q15 ?q16 ?q17 ?q18 ?q19 ?q20 ?q21 ?q22 ?q23 ?q24⟩
 ·exact λp u e r=>by cases e;cases (show u=Value.none from r);exact⟨_,.none⟩
 ·exact λb p u e r=>by cases e;cases (show u=Value.bool b from r);exact⟨_,.bool b⟩
 ·exact λi p u e r=>by cases e;obtain⟨t,rfl⟩:=(show ∃t,u=Value.int i t from r);exact⟨_,.int i t⟩
 ·exact λx p u e r=>by cases e;obtain⟨t,rfl⟩:=(show ∃t,u=Value.str x t from r);exact⟨_,.str x t⟩
 ·intro a vs ds z n _ ih p u e r;cases (show u=Value.ref a from r);obtain⟨ps,h,rfl⟩:=ZF e;obtain⟨_,its,n,rv,h1⟩:=(show bJ X.prog X.w H s.heap a (.lst vs) from I.WJ a _ z);obtain⟨as,h2⟩:=ih _ _ h rv;exact⟨_,.list h1 rfl rfl (by simpa using h2)⟩
 ·intro a vs ds z n _ ih p u e r;cases (show u=Value.ref a from r);obtain⟨ps,h,rfl⟩:=ZE e;obtain⟨_,its,rv,o,h1,h2,n,h3⟩:=(show bJ X.prog X.w H s.heap a (.tup vs) from I.WJ a _ z);obtain⟨as,h4⟩:=ih _ _ h rv;exact⟨_,.tuple h1 h2 h3 (by simpa using h4)⟩
 ·exact λ_ _ _ _ _ _ e=>nomatch e
 ·exact λ_ _ _ _ _ _ e=>nomatch e
 ·exact λ_ _ _ _ _ _ e=>nomatch e
 ·exact λ_ _ _ _ e=>nomatch e
 ·exact λ_ _ _ _ _ _ _ _ e=>nomatch e
 ·exact λ_ _ _ e=>nomatch e
 ·exact λ_ _ _ _ _ _ e=>nomatch e
 ·exact λ_ _ _ _ _ e=>nomatch e
 ·exact λ_ _ _ e=>nomatch e
 ·exact λ_ _ _ e=>nomatch e
 ·exact λp u e r=>by cases e;cases r;exact⟨_,.nil⟩
 ·intro v d vs ds _ _ iv is p u e r;obtain⟨p,ps,h1,h2,rfl⟩:=Zv e;cases r with
  |cons x y=>
   obtain⟨as,q1⟩:=iv _ _ h1 x;obtain⟨bs,q2⟩:=is _ _ h2 y;exact⟨_,.cons q1 q2⟩
 ·trivial
 ·exact λ_ _ _ _=>trivial
 ·trivial
 ·exact λ_ _ _ _=>trivial
 ·trivial
 ·exact λ_ _ _ _=>trivial
theorem xp (I:Inv X pins σ H s){d:D}{p:PyData}(h:VR G ι ξ H v d):d.py=some p->RelV v u->∃as,Reads s.heap u p as:=(YU I).1 _ _ h p u
end
def Rp (G:Gx)(H:Hp)(v:V)(p:PyData):Prop:=∃ι ξ d,VR G ι ξ H v d/\d.py=some p
theorem Rp.reads {p:PyData}(I:Inv X pins σ H s)(h:Rp G H v p)(r:RelV v u):∃as,Reads s.heap u p as:=
 let ⟨_,_,_,h1,h2⟩:=h;xp I h1 h2 r
def F4 (G:Gx)(g:Bool->Bool):R2:=λx y H Q=>∃d e,Rp G H x d/\Rp G H y e/\shaped d=true/\shaped e=true/\Q (.bl (g (d.eqv e))) H
def JF (G:Gx)(g:Bool->Bool):R2:=λx y H Q=>∃d es,Rp G H x d/\(Rp G H y (.list es)\/Rp G H y (.tuple es))/\shaped d=true/\shaped (.list es)=true/\shaped (.tuple es)=true/\(∀z∈es,noMix z d=true)/\Q (.bl (g (decide (countIn d es≠0)))) H
section
variable {X:Cx}{G:Gx}
theorem Ob (hu:X.A.units+64<cLine):WV X (bc .Eq) (F4 G id):=by
 intro pins s σ H x y v u Q I rx ry h;obtain⟨d,e,hd,he,s1,s2,q⟩:=h;obtain⟨as,r1⟩:=hd.reads I rx;obtain⟨bs,r2⟩:=he.reads I ry;exact compareEq_shaped r1 r2 s1 s2 hu ⟨.bl (d.eqv e),H,I,rfl,q⟩
theorem N4 (hu:X.A.units+64<cLine):WV X (bc .NotEq) (F4 G not):=by
 intro pins s σ H x y v u Q I rx ry h;obtain⟨d,e,hd,he,s1,s2,q⟩:=h;obtain⟨as,r1⟩:=hd.reads I rx;obtain⟨bs,r2⟩:=he.reads I ry;exact compareNe_shaped r1 r2 s1 s2 hu ⟨.bl (!d.eqv e),H,I,rfl,q⟩
theorem N8 (hu:X.A.units+65<cLine):WV X (bc .In) (JF G id):=by
 intro pins s σ H x y v u Q I rx ry h;obtain⟨d,es,hd,he,s1,s2,s3,nm,q⟩:=h;obtain⟨as,r1⟩:=hd.reads I rx;rcases he with he |he
 ·obtain⟨bs,r2⟩:=he.reads I ry;exact in_list_dataH r2 r1 s2 s1 hu nm ⟨.bl (decide (countIn d es≠0)),H,I,rfl,q⟩
 ·obtain⟨bs,r2⟩:=he.reads I ry;exact in_tuple_dataH r2 r1 s3 s1 hu nm ⟨.bl (decide (countIn d es≠0)),H,I,rfl,q⟩
theorem C9 (hu:X.A.units+65<cLine):WV X (bc .NotIn) (JF G not):=by
 intro pins s σ H x y v u Q I rx ry h;obtain⟨d,es,hd,he,s1,s2,s3,nm,q⟩:=h;obtain⟨as,r1⟩:=hd.reads I rx;rcases he with he |he
 ·obtain⟨bs,r2⟩:=he.reads I ry;exact notIn_list_dataH r2 r1 s2 s1 hu nm ⟨.bl (!decide (countIn d es≠0)),H,I,rfl,q⟩
 ·obtain⟨bs,r2⟩:=he.reads I ry;exact notIn_tuple_dataH r2 r1 s3 s1 hu nm ⟨.bl (!decide (countIn d es≠0)),H,I,rfl,q⟩
def LK (K:Frag):R2:=λx y H Q=>∃a b xs ys,x=.ref a/\y=.ref b/\Xd K H a xs/\Xd K H b ys/\xs.length+ys.length<=au/\
 (xs=[]->Q (.ref b) H)/\(xs≠[]->ys=[]->Q (.ref a) H)/\(xs≠[]->ys≠[]->jh H (.tup (xs++ys)) Q)
theorem Km:WV X (binaryOp .Add) (LK X.K):=by
 intro pins s σ H x y v u Q I rx ry h;obtain⟨a,b,xs,ys,rfl,rfl,ha,hb,hz,q0,q1,q2⟩:=h
 by_cases hx:xs=[]
 ·cases rx;cases ry;obtain⟨its,r1,p1,_⟩:=I.tuple ha;obtain⟨Xx,r2,p2,_⟩:=I.tuple hb;obtain⟨⟨cls,dd,data,sl⟩,ho,hc,n,hd⟩:=id p1;obtain⟨⟨cls2,dd2,data2,sl2⟩,ho2,hc2,n2,hd2⟩:=id p2;simp only at hc hd hc2 hd2;subst hc hd hc2 hd2;exact concat_meets ⟨_,ho,rfl⟩ ⟨_,ho2,rfl⟩ xh D2 PySem.F.slot_tuple_add PySem.F.entry_tuple_add (PySem.F.args_tuple_add_2 _ _)
   (tuple_addW0 a b its.toArray Xx.toArray n n2 dd dd2 sl sl2 (by simp[r1.qD.mpr hx])) ⟨ho,ho2,⟨.ref b,H,I,rfl,q0 hx⟩⟩
 ·exact Kk pins s σ H _ _ v u Q I rx ry ⟨a,b,xs,ys,rfl,rfl,ha,hb,hx,hz,q1 hx,λhy=>(q2 hx hy).upd⟩
theorem N9 (hu:X.A.units+1<cLine):WV X (bc .In) (λy x H Q=>∃a o,x=.ref a/\i8 H a y o/\Q (.bl o.isSome) H):=by
 intro pins s σ H y x iv u Q I ry rx h;obtain⟨a,ov,rfl,g,q⟩:=h;obtain rfl:u=Value.ref a:=rx;exact Sn hu I g ry λs3 I3=>⟨.bl ov.isSome,H,I3,rfl,q⟩
theorem Dc (hu:X.A.units+1<cLine):WV X (bc .NotIn) (λy x H Q=>∃a o,x=.ref a/\i8 H a y o/\Q (.bl (!o.isSome)) H):=by
 intro pins s σ H y x iv u Q I ry rx h;obtain⟨a,ov,rfl,g,q⟩:=h;obtain rfl:u=Value.ref a:=rx;exact Cf hu I g ry λs3 I3=>⟨.bl (!ov.isSome),H,I3,rfl,q⟩
theorem KJ (hu:X.A.units+1<cLine):IxR X (λx y H Q=>∃a v,x=.ref a/\i8 H a y (some v)/\Q v H):=by
 intro value slice pins s σ H x y v u Q I rx ry h hs;obtain⟨a,w',rfl,g,q⟩:=h;obtain rfl:v=Value.ref a:=rx;exact Bb (qg I g) PySem.F.slot_dict_getitem.lookup (pG hu I g ry λz s3 I3 rz=>⟨w',H,I3,rz,q⟩) hs
end
mutual
def pyM (M:MS):D->Option PyData
 |.WN=>some .none
 |.bl b=>some (.bool b)
 |.int i=>some (.int i)
 |.str x=>some (.str x)
 |.lst xs=>match oU M xs with
  |some ps=>some (.list ps)
  |none=>none
 |.tup xs=>match oU M xs with
  |some ps=>some (.tuple ps)
  |none=>none
 |.ref k=>match M[k]? with
  |some (.lst xs)=>match mD xs with
   |some ps=>some (.list ps)
   |none=>none
  |_=>none
 |.frl _=>none
 |.XF _=>none
 |.dcT _=>none
 |.ins _ _=>none
 |.exc _ _=>none
 |.fn _=>none
 |.cls _=>none
def oU (M:MS):List D->Option (List PyData)
 | []=>some []
 |d::ds=>match pyM M d with
  |some p=>match oU M ds with
   |some ps=>some (p::ps)
   |none=>none
  |none=>none
end
def toPy (M:MS):D->Option PyData
 |.ref k=>match M[k]? with
  |some (.lst xs)=>match oU M xs with
   |some ps=>some (.list ps)
   |none=>none
  |_=>none
 |d=>pyM M d
def gJ (M:MS):D->Option (List D)
 |.lst xs=>some xs
 |.frl xs=>some xs
 |.ref k=>match M[k]? with
  |some (.lst xs)=>some xs
  |_=>none
 |_=>none
def jL (M:MS):D->Option (List D)
 |.frl _=>none
 |d=>gJ M d
def vc (M:MS):D->Option (List (Key×D))
 |.XF kvs=>some kvs
 |.ref k=>match M[k]? with
  |some (.XF kvs)=>some kvs
  |_=>none
 |_=>none
section
variable {G:Gx}{W:XW}{ι ξ:List Addr}{M:MS}{H:Hp}{v:V}
theorem Lb:Mv ι ξ H ι [] H:=⟨λ_ _ h=>h,λ_ _ h _=>⟨h,aE⟩⟩
theorem dR {k:Nat}(R:Rel G ι M H)(h:RV G ι H v (.ref k)){m:fZ}(e:M[k]?=some m):∃a,v=.ref a/\ι[k]?=some a/\OR G ι H a m:=by
 cases h with
 |ref h=>exact⟨_,rfl,h,R.at' k _ m h e⟩
theorem Za (R:Rel G ι M H):(∀v d,VR G ι η H v d->∀p,pyM M d=some p->∃d',VR G ι [] H v d'/\d'.py=some p)/\(∀v d,VRs G ι η H v d->∀p,oU M d=some p->∃d',VRs G ι [] H v d'/\mD d'=some p):=by
 refine⟨@VR.rec G ι η H (λv d _=>∀p,pyM M d=some p->∃d',VR G ι [] H v d'/\d'.py=some p) (λv d _=>∀p,oU M d=some p->∃d',VRs G ι [] H v d'/\mD d'=some p) (λ_ _ _=>True) (λ_ _ _=>True) (λ_ _ _=>True) ?q1 ?q2 ?q3 ?q4 ?q5 ?q6 ?q7 ?q8 ?q9 ?q10 ?q11 ?q12 ?q13 ?q14 ?q15 ?q16 ?q17 ?q18 ?q19 ?q20 ?q21 ?q22 ?q23 ?q24,@VRs.rec G ι η H (λv d _=>∀p,pyM M d=some p->∃d',VR G ι [] H v d'/\d'.py=some p) (λv d _=>∀p,oU M d=some p->∃d',VRs G ι [] H v d'/\mD d'=some p) (λ_ _ _=>True) (λ_ _ _=>True) (λ_ _ _=>True) ?q1 ?q2 ?q3 ?q4 ?q5 ?q6 ?q7 ?q8 ?q9 ?q10 ?q11 ?q12 ?q13 ?q14 ?q15 ?q16 ?q17 ?q18 ?q19 ?q20 ?q21 ?q22 ?q23 ?q24⟩
 ·exact λ_ e=>⟨_,.WN,e⟩
 ·exact λb _ e=>⟨_,.bl b,e⟩
 ·exact λi _ e=>⟨_,.int i,e⟩
 ·exact λx _ e=>⟨_,.str x,e⟩
 ·intro a vs ds z n _ ih p e;rw[pyM]at e;split at e
  ·rename_i ps h;cases e;obtain⟨XA,r,hp⟩:=ih _ h;exact⟨.lst XA,.lst z aE r,by rw[D.py,hp]⟩
  ·cases e
 ·intro a vs ds z n _ ih p e;rw[pyM]at e;split at e
  ·rename_i ps h;cases e;obtain⟨XA,r,hp⟩:=ih _ h;exact⟨.tup XA,.tup z aE r,by rw[D.py,hp]⟩
  ·cases e
 ·exact λ_ _ _ _ _ e=>nomatch e
 ·exact λ_ _ _ _ _ e=>nomatch e
 ·exact λ_ _ _ _ _ e=>nomatch e
 ·exact λ_ _ _ e=>nomatch e
 ·exact λ_ _ _ _ _ _ _ e=>nomatch e
 ·intro a k hk p e;rw[pyM]at e;split at e
  ·rename_i xs q;split at e
   ·rename_i ps hp;cases e;obtain⟨vs,hv,r⟩:=R.at' _ _ _ hk q;exact⟨.lst xs,.lst hv aE (r.mv Lb),by rw[D.py,hp]⟩
   ·cases e
  ·cases e
 ·exact λ_ _ _ _ _ e=>nomatch e
 ·exact λ_ _ _ _ e=>nomatch e
 ·exact λ_ _ e=>nomatch e
 ·exact λ_ _ e=>nomatch e
 ·exact λ_ e=>by cases e;exact⟨[],.nil,rfl⟩
 ·intro v d vs ds _ _ iv is p e;rw[oU]at e;split at e
  ·rename_i p h1;split at e
   ·rename_i ps h2;cases e;obtain⟨d',x,y⟩:=iv _ h1;obtain⟨XA,x2,y2⟩:=is _ h2;exact⟨d'::XA,.cons x x2,by rw[mD,y,y2]⟩
   ·cases e
  ·cases e
 ·trivial
 ·exact λ_ _ _ _=>trivial
 ·trivial
 ·exact λ_ _ _ _=>trivial
 ·trivial
 ·exact λ_ _ _ _=>trivial
theorem Bo (R:Rel G ι M H){d:D}{p:PyData}(h:RV G ι H v d):pyM M d=some p->∃d',VR G ι [] H v d'/\d'.py=some p:=(Za R).1 _ _ h p
theorem nk (R:Rel G ι M H){ds:List D}{ps:List PyData}(h:XG G ι H vs ds):oU M ds=some ps->∃XA,VRs G ι [] H vs XA/\mD XA=some ps:=(Za R).2 _ _ h ps
theorem uo (R:Rel G ι M H){d:D}{p:PyData}(h:RV G ι H v d)(e:toPy M d=some p):Rp G H v p:=by
 have go:∀{d:D},RV G ι H v d->pyM M d=some p->Rp G H v p:=λh e=>let ⟨d',x,y⟩:=Bo R h e;⟨ι,[],d',x,y⟩;cases d with
 |ref k=>
  rw[toPy]at e;split at e
  ·rename_i xs q;split at e
   ·rename_i ps hp;cases e;obtain⟨a,rfl,ha,vs,hv,r⟩:=dR R h q;obtain⟨XA,x,y⟩:=nk R r hp;exact⟨ι,[],.lst XA,.lst hv aE x,by rw[D.py,y]⟩
   ·cases e
  ·cases e
 |_=>exact go h e
theorem oH (R:Rel G ι M H){d:D}(h:RV G ι H v d)(e:gJ M d=some ps):∃a vs,v=.ref a/\Xc G.K H a vs/\XG G ι H vs ps:=by
 cases d with
 |lst xs=>cases e;cases h with |lst z n r=>exact⟨_,_,rfl,Xc.of z,r⟩
 |frl xs=>
  cases e;cases h with
  |frl z n r=>exact⟨_,_,rfl,.inl (.inr ⟨_,z⟩),r⟩
  |frk z r=>exact⟨_,_,rfl,.inr z,r⟩
 |ref k=>
  rw[gJ]at e;split at e
  ·rename_i xs q;cases e;obtain⟨a,rfl,ha,vs,hv,r⟩:=dR R h q;exact⟨a,vs,rfl,Xc.of hv,r⟩
  ·cases e
 |_=>cases e
theorem jV (R:Rel G ι M H){d:D}(h:RV G ι H v d)(e:jL M d=some ps):∃a vs,v=.ref a/\H a=some (.lst vs)/\XG G ι H vs ps:=by
 cases d with
 |lst xs=>cases e;cases h with |lst z n r=>exact⟨_,_,rfl,z,r⟩
 |ref k=>
  rw[jL,gJ]at e;split at e
  ·rename_i xs q;cases e;obtain⟨a,rfl,ha,vs,hv,r⟩:=dR R h q;exact⟨a,vs,rfl,hv,r⟩
  ·cases e
  ·exact λ_ z=>nomatch z
 |_=>cases e
theorem ju {ds:List D}(h:VR G ι ξ H v (.tup ds)):∃a vs,v=.ref a/\H a=some (.tup vs)/\a∉ξ/\VRs G ι ξ H vs ds:=by
 cases h with |tup z n r=>exact⟨_,_,rfl,z,n,r⟩
theorem vE (R:Rel G ι M H){d:D}(h:RV G ι H v d)(e:vc M d=some W0):∃a kvs,v=.ref a/\H a=some (.dK kvs)/\RVk G ι H kvs W0:=by
 cases d with
 |XF xs=>cases e;cases h with |XF z n r=>exact⟨_,_,rfl,z,r⟩
 |ref k=>
  rw[vc]at e;split at e
  ·rename_i xs q;cases e;obtain⟨a,rfl,ha,vs,hv,r⟩:=dR R h q;exact⟨a,vs,rfl,hv,r⟩
  ·cases e
 |_=>cases e
theorem vZ {Q:VK}(R:Rel G ι M H)(r:XG G ι H vs ps)(h:GR G (RV G) W ι H σ Q (some (.ok (.lst ps) M))):jh H (.lst vs) Q:=λp H' hp h' s=>
 h (.ref p) H' ι (Ext.same s) (R.same s) (.lst h' (R.rN hp) (r.ext (Ext.same s)))
theorem qE {Q:VK}(R:Rel G ι M H)(r:XG G ι H vs ps)(h:GR G (RV G) W ι H σ Q (some (.ok (.tup ps) M))):jh H (.tup vs) Q:=λp H' hp h' s=>
 h (.ref p) H' ι (Ext.same s) (R.same s) (.tup h' (R.rN hp) (r.ext (Ext.same s)))
theorem GK {Q:VK}(R:Rel G ι M H)(r:XG G ι H vs ps)(h:GR G (RV G) W ι H σ Q (some (.ok (.ref M.length) (M++[.lst ps])))):jh H (.lst vs) Q:=λp H' hp h' s=>
 h (.ref p) H' (ι++[p]) (Ext.cell s hp) (R.cell s hp ⟨vs,h',r.ext (Ext.cell s hp)⟩) (.ref (by rw[←R.len];simp))
def mS (r:Bool)(ps:List D)(M:MS):Option (Rs D):=if r=true then some (.ok (.ref M.length) (M++[.lst ps])) else some (.ok (.lst ps) M)
theorem uN {Q:VK}(R:Rel G ι M H)(r:XG G ι H vs ps)(h:GR G (RV G) W ι H σ Q (mS b ps M)):jh H (.lst vs) Q:=by
 cases b with
 |true=>exact GK R r h
 |false=>exact vZ R r h
def n5:FN:=λds M=>if ds.length<=au then some (.ok (.tup ds) M) else none
def qe (b:Bool):FN:=λds M=>if ds.length<=au then mS b ds M else none
theorem xE (a:iE G W ta fa):bP G W (Bs ta) (mB n5 fa):=λσ δ ι M H Q R E h=>
 a σ δ ι M H _ R E (GR.bind h λv H1 ι1 M1 d e1 R1 r1 h1=>by
  unfold n5 at h1;split at h1
  ·rename_i hl;exact⟨by rw[r1.length];exact hl,qE R1 r1 h1⟩
  ·exact h1.elim)
theorem xI (a:iE G W ta fa):bP G W (Lo ta) (mB (qe b) fa):=λσ δ ι M H Q R E h=>
 a σ δ ι M H _ R E (GR.bind h λv H1 ι1 M1 d e1 R1 r1 h1=>by
  unfold qe at h1;split at h1
  ·rename_i hl;exact⟨by rw[r1.length];exact hl,uN R1 r1 h1⟩
  ·exact h1.elim)
def gI0 (f:Int->Int->D):F2:=λx y M=>match x,y with
 |.int i,.int j=>some (.ok (f i j) M)
 |_,_=>none
theorem oO {g:Int->Int->V}{f:Int->Int->D}(r:∀i j G ι ξ H,VR G ι ξ H (g i j) (f i j)):lJ G (rI0 g) (gI0 f):=λW σ ι M H x y dx dy Q R rx ry h=>by
 unfold gI0 at h;split at h
 ·exact⟨_,_,dS rx,dS ry,h _ H ι Ext.refl R (r _ _ _ _ _ _)⟩
 ·exact h.elim
def gI (C:Int->Int->Bool)(f:Int->Int->D):F2:=λx y M=>match x,y with
 |.int i,.int j=>if C i j=true then some (.ok (f i j) M) else none
 |_,_=>none
theorem rA {C:Int->Int->Prop}{g:Int->Int->V}{f:Int->Int->D}(hB:∀i j,B i j=true->C i j)(r:∀i j G ι ξ H,VR G ι ξ H (g i j) (f i j)):lJ G (rI C g) (gI B f):=λW σ ι M H x y dx dy Q R rx ry h=>by
 unfold gI at h;split at h
 ·split at h
  ·rename_i hc;exact⟨_,_,dS rx,dS ry,hB _ _ hc,h _ H ι Ext.refl R (r _ _ _ _ _ _)⟩
  ·exact h.elim
 ·exact h.elim
def gEq (g:Bool->Bool):F2:=λx y M=>match toPy M x,toPy M y with
 |some p,some q=>if (shaped p&&shaped q)=true then some (.ok (.bl (g (p.eqv q))) M) else none
 |_,_=>none
theorem Fp {g:Bool->Bool}:lJ G (F4 G g) (gEq g):=λW σ ι M H x y dx dy Q R rx ry h=>by
 unfold gEq at h;split at h
 ·rename_i p q e1 e2;split at h
  ·rename_i hs;rw[ag]at hs;exact⟨p,q,uo R rx e1,uo R ry e2,hs.1,hs.2,h _ H ι Ext.refl R (.bl _)⟩
  ·exact h.elim
 ·exact h.elim
def Lx (M:MS)(d:D):Option (List PyData):=match toPy M d with
 |some (.list ps)=>some ps
 |some (.tuple ps)=>some ps
 |_=>none
def isIn (x:PyData)(es:List PyData):Bool:=es.any λz=>PySem.Spec.same z x
theorem Ar (x:PyData)(es:List PyData):decide (countIn x es≠0)=isIn x es:=by
 have nn:∀l:List PyData,0<=countIn x l:=λl=>by
  induction l with
  |nil=>simp[PySem.Spec.countIn]
  |cons a l ih=>rw[PySem.Spec.countIn];split<;>lia
 induction es with
 |nil=>simp[PySem.Spec.countIn,isIn]
 |cons a l ih=>
  have:=nn l;rw[PySem.Spec.countIn];unfold isIn at ih ⊢;rw[cX,←ih];cases PySem.Spec.same a x with
  |true=>simp;lia
  |false=>simp
def OM (g:Bool->Bool):F2:=λx y M=>match toPy M x,Lx M y with
 |some p,some es=>if (shaped p&&shaped (.list es)&&shaped (.tuple es)&&es.all λz=>noMix z p)=true then some (.ok (.bl (g (isIn p es))) M) else none
 |_,_=>none
theorem Jq {g:Bool->Bool}:lJ G (JF G g) (OM g):=λW σ ι M H x y dx dy Q R rx ry h=>by
 unfold OM at h;split at h
 ·rename_i p es e1 e2;split at h
  ·rename_i hs;simp only[ag,xi]at hs;refine⟨p,es,uo R rx e1,?_,hs.1.1.1,hs.1.1.2,hs.1.2,hs.2,?_⟩
   ·unfold Lx at e2;split at e2
    ·rename_i q;cases e2;exact .inl (uo R ry q)
    ·rename_i q;cases e2;exact .inr (uo R ry q)
    ·cases e2
   ·rw[Ar];exact h _ H ι Ext.refl R (.bl _)
  ·exact h.elim
 ·exact h.elim
end
def keyOf:D->Option Key
 |.int i=>some (.inl i)
 |.str x=>some (.inr x)
 |_=>none
def pE:List (Key×D)->Key->Option D
 | [],_=>none
 | (j,d)::r,k=>if j=k then some d else pE r k
section
variable {G:Gx}{W:XW}{ι ξ:List Addr}{M:MS}{H:Hp}{v:V}
theorem mN {d:D}{k:Key}(h:VR G ι ξ H v d)(e:keyOf d=some k):v=kV k:=by
 cases h with
 |int i=>cases e;rfl
 |str x=>cases e;rfl
 |_=>cases e
theorem nq {k:Key}(r:VRk G ι ξ H kvs W0):(∃v p,eL kvs k=some v/\pE W0 k=some p/\VR G ι ξ H v p)\/(eL kvs k=none/\pE W0 k=none):=by
 refine VRk.ind r (.inr ⟨rfl,rfl⟩) λ{j v d _ _} a _ ih=>?_
 by_cases e:j=k
 ·exact .inl ⟨v,d,eN e,by rw[pE,if_pos e],a⟩
 ·rw[dU e,pE,if_neg e];exact ih
theorem Bl {i:Int}{p:D}(r:VRs G ι ξ H vs ps)(e:atI ps i=some p):∃v,atI vs i=some v/\VR G ι ξ H v p:=by
 unfold atI at e ⊢;rw[r.length];cases q:ixN ps.length i with
 |none=>rw[q]at e;cases e
 |some j=>
  rw[q]at e;obtain⟨v,h1,h2⟩:=r.get (i:=j) e;exact⟨v,h1,h2⟩
def DB:F2:=λx y M=>match x,y with
 |.int i,.int j=>some (.ok (.int (i+j)) M)
 |.str a,.str b=>if a.length+b.length<=au then some (.ok (.str (a++b)) M) else none
 |.tup a,.tup b=>if a.length+b.length<=au then some (.ok (.tup (a++b)) M) else none
 |x,y=>match jL M x,jL M y with
  |some a,some b=>if a.length+b.length<=au then some (.ok (.lst (a++b)) M) else none
  |_,_=>none
def LM (K:Frag):R2:=λx y H Q=>rI0 (λi j=>.int (i+j)) x y H Q\/(LJ x y H Q\/(LK K x y H Q\/(∃i j,x=.str i/\y=.str j/\i.length+j.length<=au/\Q (.str (i++j)) H)))
theorem Kn {K:Frag}(hK:X.K=K):WV X (binaryOp .Add) (LM K):=hK ▸ Oe.or (Kl.or (Km.or zV))
theorem Jx:lJ G (LM G.K) DB:=λW σ ι M H x y dx dy Q R rx ry h=>by
 unfold DB at h;split at h
 ·exact .inl ⟨_,_,dS rx,dS ry,h _ H ι Ext.refl R (.int _)⟩
 ·split at h
  ·rename_i hl;exact .inr (.inr (.inr ⟨_,_,iu rx,iu ry,hl,h _ H ι Ext.refl R (.str _)⟩))
  ·exact h.elim
 ·split at h
  ·rename_i hl;obtain⟨a,vs,rfl,ha,na,ra⟩:=ju rx;obtain⟨b,us,rfl,hb,nb,rb⟩:=ju ry;refine .inr (.inr (.inl ⟨a,b,vs,us,rfl,rfl,Xd.of ha,Xd.of hb,by rw[ra.length,rb.length];exact hl,λz=>?_,λ_ z=>?_,λ_ _=>qE R (ra.append rb) h⟩))
   ·subst z;cases ra;exact h _ H ι Ext.refl R ry
   ·subst z;cases rb;rw[bN]at h;exact h _ H ι Ext.refl R rx
  ·exact h.elim
 ·split at h
  ·rename_i e1 e2;split at h
   ·rename_i hl;obtain⟨a,vs,rfl,ha,ra⟩:=jV R rx e1;obtain⟨b,us,rfl,hb,rb⟩:=jV R ry e2;exact .inr (.inl ⟨a,b,vs,us,rfl,rfl,ha,hb,by rw[ra.length,rb.length];exact hl,vZ R (ra.append rb) h⟩)
   ·exact h.elim
  ·exact h.elim
def RL:F2:=λx y M=>match jL M x,y with
 |some xs,.int k=>if (decide (-(2 ^ 63)<=k)&&decide (k<2 ^ 63)&&decide (xs.length*k.toNat<=au))=true then some (.ok (.lst (bg k.toNat xs).flatten) M) else none
 |_,_=>none
theorem Bj {vs:List V}{ds:List D}(r:VRs G ι ξ H vs ds):∀k:Nat,VRs G ι ξ H (bg k vs).flatten (bg k ds).flatten
 | 0=>.nil
 |k+1=>by
  rw[d6,d6,fV,fV];exact r.append (Bj r k)
theorem SX:lJ G LF RL:=λW σ ι M H x y dx dy Q R rx ry h=>by
 unfold RL at h;split at h
 ·rename_i xs k e1;split at h
  ·rename_i hl;simp only[ag,decide_eq_true_eq]at hl;obtain⟨a,vs,rfl,ha,ra⟩:=jV R rx e1;exact⟨a,k,vs,rfl,dS ry,ha,hl.1.1,hl.1.2,by rw[ra.length];exact hl.2,vZ R (Bj ra _) h⟩
  ·exact h.elim
 ·exact h.elim
def gIx:F2:=λx y M=>match x with
 |.tup ps=>match y with
  |.int i=>match atI ps i with
   |some p=>some (.ok p M)
   |none=>none
  |_=>none
 |.str z=>match y with
  |.int i=>match atI z.cps.toList i with
   |some c=>if z.length<=au then some (.ok (.str ⟨#[c]⟩) M) else none
   |none=>none
  |_=>none
 |x=>match gJ M x with
  |some ps=>match y with
   |.int i=>match atI ps i with
    |some p=>some (.ok p M)
    |none=>none
   |_=>none
  |none=>match vc M x with
   |some W0=>match keyOf y with
    |some k=>match pE W0 k with
     |some p=>some (.ok p M)
     |none=>none
    |none=>none
   |none=>none
def QD (K:Frag):R2:=λx y H Q=>rIx K x y H Q\/∃a v,x=.ref a/\i8 H a y (some v)/\Q v H
theorem Vv {K:Frag}(hK:X.K=K)(hu:X.A.units+1<cLine):IxR X (QD K):=hK ▸ OD.or (KJ hu)
theorem Ni:lJ G (QD G.K) gIx:=λW σ ι M H x y dx dy Q R rx ry h=>by
 unfold gIx at h;split at h
 ·split at h
  ·split at h
   ·rename_i e;obtain⟨a,vs,rfl,ha,na,ra⟩:=ju rx;obtain⟨u,h1,h2⟩:=Bl ra e;exact .inl (.inr (.inl ⟨a,vs,_,u,rfl,dS ry,Xd.of ha,h1,h _ H ι Ext.refl R h2⟩))
   ·exact h.elim
  ·exact h.elim
 ·split at h
  ·split at h
   ·rename_i e;split at h
    ·rename_i hl;exact .inl (.inr (.inr ⟨_,_,_,iu rx,dS ry,hl,e,h _ H ι Ext.refl R (.str _)⟩))
    ·exact h.elim
   ·exact h.elim
  ·exact h.elim
 ·split at h
  ·rename_i q;split at h
   ·split at h
    ·rename_i e;obtain⟨a,vs,rfl,ha,ra⟩:=oH R rx q;obtain⟨u,h1,h2⟩:=Bl ra e;exact .inl (.inl ⟨a,vs,_,u,rfl,dS ry,ha,h1,h _ H ι Ext.refl R h2⟩)
    ·exact h.elim
   ·exact h.elim
  ·split at h
   ·rename_i q;split at h
    ·rename_i e1;split at h
     ·rename_i p e2;obtain⟨a,kvs,rfl,ha,ra⟩:=vE R rx q;rcases nq ra with ⟨u,p',q1,q2,q3⟩|⟨_,q2⟩
      ·rw[q2]at e2;cases e2;exact .inr ⟨a,u,rfl,.inl ⟨kvs,_,Rd.of ha,mN ry e1,q1.symm⟩,h _ H ι Ext.refl R q3⟩
      ·rw[q2]at e2;cases e2
     ·exact h.elim
    ·exact h.elim
   ·exact h.elim
def BS:List D->Option (List Key)
 | []=>some []
 |d::ds=>match keyOf d with
  |some k=>match BS ds with
   |some ks=>some (k::ks)
   |none=>none
  |none=>none
def keysOf:D->Option (List Key)
 |.tup ds=>BS ds
 |_=>none
def qf:List (List Key×D)->List Key->Option D
 | [],_=>none
 | (j,d)::r,k=>if j=k then some d else qf r k
theorem xq {ds:List D}(r:VRs G ι ξ H vs ds):BS ds=some ks->vs=ks.map kV:=VRs.ind (P:=λvs ds=>∀ks,BS ds=some ks->vs=ks.map kV) r (λks e=>by cases e;rfl) (λa _ ih ks e=>by
 rw[BS]at e;split at e
 ·rename_i k hk;split at e
  ·rename_i ks hks;cases e;rw[mN a hk,ih _ hks];rfl
  ·cases e
 ·cases e) ks
theorem Bq {d:D}(h:VR G ι ξ H v d)(e:keysOf d=some ks):∃b,v=.ref b/\H b=some (.tup (ks.map kV)):=by
 cases h with
 |tup z n r=>exact⟨_,rfl,by rw[←xq r e];exact z⟩
 |_=>cases e
theorem Bi {k:List Key}{kvs:List (List Key×V)}{W0:List (List Key×D)}(r:VRt G ι ξ H kvs W0):(∃v p,eL kvs k=some v/\qf W0 k=some p/\VR G ι ξ H v p)\/(eL kvs k=none/\qf W0 k=none):=by
 refine VRt.ind r (.inr ⟨rfl,rfl⟩) λ{j v d _ _} a _ ih=>?_
 by_cases e:j=k
 ·exact .inl ⟨v,d,eN e,by rw[qf,if_pos e],a⟩
 ·rw[show eL ((j,v)::_) k=_ from dU e,qf,if_neg e];exact ih
def setOf (M:MS):D->Option (List Str)
 |.ref k=>match M[k]? with
  |some (.set xs)=>some xs
  |_=>none
 |_=>none
def gIn (g:Bool->Bool):F2:=λx y M=>match y with
 |.str z=>match x with
  |.str y=>some (.ok (.bl (g (!(Builtin.Str.occurrences z y 0 z.length 1).isEmpty))) M)
  |_=>none
 |.dcT W0=>match keysOf x with
  |some k=>some (.ok (.bl (g (qf W0 k).isSome)) M)
  |none=>none
 |y=>match vc M y with
  |some W0=>match keyOf x with
   |some k=>some (.ok (.bl (g (pE W0 k).isSome)) M)
   |none=>none
  |none=>match setOf M y with
   |some xs=>match x with
    |.str y=>some (.ok (.bl (g (xs.contains y))) M)
    |_=>none
   |none=>OM g x y M
def zN (G:Gx)(g:Bool->Bool):R2:=λx y H Q=>JF G g x y H Q\/((∃a o,y=.ref a/\i8 H a x o/\Q (.bl (g o.isSome)) H)\/(F3 G.P G.w g x y H Q\/∃i j,x=.str i/\y=.str j/\Q (.bl (g (!(Builtin.Str.occurrences j i 0 j.length 1).isEmpty))) H))
theorem Oa (hP:X.prog=G.P)(hw:X.w=G.w)(hu:X.A.units+65<cLine):WV X (bc .In) (zN G id):=by
 unfold zN;rw[←hP,←hw];exact(N8 hu).or ((N9 (by lia)).or (GE.or De))
theorem Dd (hP:X.prog=G.P)(hw:X.w=G.w)(hu:X.A.units+65<cLine):WV X (bc .NotIn) (zN G not):=by
 unfold zN;rw[←hP,←hw];exact(C9 hu).or ((Dc (by lia)).or (uM.or vW))
theorem Fi {g:Bool->Bool}:lJ G (zN G g) (gIn g):=λW σ ι M H x y dx dy Q R rx ry h=>by
 unfold gIn at h;split at h
 ·split at h
  ·exact .inr (.inr (.inr ⟨_,_,iu rx,iu ry,h _ H ι Ext.refl R (.bl _)⟩))
  ·exact h.elim
 ·split at h
  ·rename_i e1;cases ry with
   |dcT z n r=>
    obtain⟨b,rfl,hb⟩:=Bq rx e1;refine .inr (.inl ⟨_,_,rfl,.inr ⟨_,_,b,Rd.of z,rfl,hb,rfl⟩,?_⟩);have e:∀k,(eL _ k).isSome=(qf _ k).isSome:=λk=>by
     rcases Bi (k:=k) r with ⟨u,p',q1,q2,q3⟩|⟨q1,q2⟩<;>rw[q1,q2]<;>rfl
    rw[e];exact h _ H ι Ext.refl R (.bl _)
  ·exact h.elim
 ·split at h
  ·rename_i q;split at h
   ·rename_i e1;obtain⟨a,kvs,rfl,ha,ra⟩:=vE R ry q;refine .inr (.inl ⟨a,_,rfl,.inl ⟨kvs,_,Rd.of ha,mN rx e1,rfl⟩,?_⟩);have e:∀k,(eL kvs k).isSome=(pE _ k).isSome:=λk=>by
     rcases nq (k:=k) ra with ⟨u,p',q1,q2,q3⟩|⟨q1,q2⟩<;>rw[q1,q2]<;>rfl
    rw[e];exact h _ H ι Ext.refl R (.bl _)
   ·exact h.elim
  ·split at h
   ·rename_i q;unfold setOf at q;split at q
    ·rename_i k;split at q
     ·rename_i e1;cases q;split at h
      ·obtain⟨a,rfl,ha,hs⟩:=dR R ry e1;exact .inr (.inr (.inl ⟨_,a,_,_,iu rx,rfl,hs,h _ H ι Ext.refl R (.bl _)⟩))
      ·exact h.elim
     ·cases q
    ·cases q
   ·exact .inl (Jq W σ ι M H x y dx dy Q R rx ry h)
end
end
end
section
noncomputable section
section
variable {G:Gx}{W:XW}{ι ξ:List Addr}{M:MS}{H:Hp}{v:V}
theorem oG {d:D}(h:VRs G ι ξ H vs [d]):∃v,vs=[v]/\VR G ι ξ H v d:=by
 cases h with
 |cons a r=>cases r;exact⟨_,rfl,a⟩
theorem P3 {d e:D}(h:VRs G ι ξ H vs [d,e]):∃v u,vs=[v,u]/\VR G ι ξ H v d/\VR G ι ξ H u e:=by
 cases h with
 |cons a r=>cases r with
  |cons b r=>cases r;exact⟨_,_,rfl,a,b⟩
def KP:FN:=λds M=>match ds with
 | [.str z]=>if z.length<=au then some (.ok (.int z.length) M) else none
 | [.tup ps]=>some (.ok (.int ps.length) M)
 | [d]=>match gJ M d with
  |some ps=>some (.ok (.int ps.length) M)
  |none=>match vc M d with
   |some W0=>some (.ok (.int W0.length) M)
   |none=>none
 |_=>none
def LH (K:Frag):List V->Hp->VK->Prop:=λxs H Q=>(∃x n,xs=[x]/\SJ K x H n/\Q (.int n) H)\/∃a kvs,xs=[V.ref a]/\H a=some (.dK kvs)/\Q (.int kvs.length) H
theorem DT {K:Frag}(hK:X.K=K):cu X (.builtin "len") (LH K):=hK ▸ Iu.or DU
theorem Jl:sZ G (LH G.K) KP:=λW σ ι M H vs ds Q R r h=>by
 unfold KP at h;split at h
 ·obtain⟨v,rfl,a⟩:=oG r;split at h
  ·rename_i hl;obtain rfl:=iu a;exact .inl ⟨_,_,rfl,⟨hl,rfl⟩,h _ H ι Ext.refl R (.int _)⟩
  ·exact h.elim
 ·obtain⟨v,rfl,a⟩:=oG r;obtain⟨p,vs,rfl,hp,_,rp⟩:=ju a;exact .inl ⟨_,_,rfl,.inr ⟨vs,Xd.of hp,rfl⟩,by rw[rp.length];exact h _ H ι Ext.refl R (.int _)⟩
 ·obtain⟨v,rfl,a⟩:=oG r;split at h
  ·rename_i e;obtain⟨p,vs,rfl,hp,rp⟩:=oH R a e;exact .inl ⟨_,_,rfl,.inl ⟨vs,hp,rfl⟩,by rw[rp.length];exact h _ H ι Ext.refl R (.int _)⟩
  ·split at h
   ·rename_i e;obtain⟨p,kvs,rfl,hp,rp⟩:=vE R a e;exact .inr ⟨_,kvs,rfl,hp,by rw[rp.length];exact h _ H ι Ext.refl R (.int _)⟩
   ·exact h.elim
 ·exact h.elim
abbrev FO:=cO->MS->Option (Rs (Option Int))
def IR:List Addr->Hp->Option Int->Option Int->Prop:=λ_ _ a b=>a=b
def D0 (G:Gx)(W:XW)(t:TO)(f:FO):Prop:=∀(σ:St)(δ:cO)(ι:List Addr)(M:MS)(H:Hp)(Q:Option Int->Hp->Prop),Rel G ι M H->ER G ι H σ δ->GR G IR W ι H σ Q (f δ M)->t σ H Q
def oN:FO:=λ_ M=>some (.ok none M)
def oS (f:FE):FO:=λδ M=>rb (f δ M) λd M1=>match d with
 |.int i=>some (.ok (some i) M1)
 |_=>none
theorem Nf:D0 G W Bt oN:=λσ δ ι M H Q R E h=>h none H ι Ext.refl R rfl
theorem Nd {t:TE}(a:bP G W t f):D0 G W (Ll t) (oS f):=λσ δ ι M H Q R E h=>
 a σ δ ι M H _ R E (GR.bind h λv H1 ι1 M1 d e1 R1 r1 h1=>by
  split at h1
  ·exact⟨_,dS r1,h1 _ H1 ι1 Ext.refl R1 rfl⟩
  ·exact h1.elim)
def tY {α:Type}(xs:List α)(lo hi:Option Int):List α:=(xs.drop (HT.W8 xs.length 0 lo)).take (HT.W8 xs.length xs.length hi - HT.W8 xs.length 0 lo)
theorem Bk (r:VRs G ι ξ H vs ps)(lo hi:Option Int):VRs G ι ξ H (tX vs lo hi) (tY ps lo hi):=by
 unfold tX tY;rw[r.length];exact(r.drop _).take _
def gSl (b:Bool):D->Option Int->Option Int->MS->Option (Rs D):=λd lo hi M=>match d with
 |.tup ps=>if HT.W8 ps.length 0 lo=0/\HT.W8 ps.length ps.length hi=ps.length then none else some (.ok (.tup (tY ps lo hi)) M)
 |d=>match gJ M d with
  |some ps=>mS b (tY ps lo hi) M
  |none=>none
def QB (K:Frag):V->Option Int->Option Int->Hp->VK->Prop:=λx lo hi H Q=>Ny K x lo hi H Q\/FZ K x lo hi H Q
theorem Uu {K:Frag}(hK:X.K=K):SlR X (QB K):=by
 subst hK;intro pins s σ H x v vl vu lo hi sl Q I rx hs pl pu h;rcases h with h |h
 ·exact xD pins s σ H x v vl vu lo hi sl Q I rx hs pl pu h
 ·exact BC pins s σ H x v vl vu lo hi sl Q I rx hs pl pu h
def mSl (b:Bool)(fe:FE)(fl fh:FO):FE:=λδ M=>rb (fe δ M) λd M1=>rb (fl δ M1) λlo M2=>rb (fh δ M2) λhi M3=>gSl b d lo hi M3
theorem Nb {tl th:TO}{fl fh:FO}(a:bP G W te fe)(b':D0 G W tl fl)(c:D0 G W th fh):bP G W (tSl (QB G.K) te tl th) (mSl b fe fl fh):=λσ δ ι M H Q R E h=>
 a σ δ ι M H _ R E (GR.bind h λv H1 ι1 M1 d e1 R1 r1 h1=>b' σ δ ι1 M1 H1 _ R1 (E.ext e1) (GR.bind h1 λlo' H2 ι2 M2 lo e2 R2 r2 h2=>c σ δ ι2 M2 H2 _ R2 ((E.ext e1).ext e2) (GR.bind h2 λhi' H3 ι3 M3 hi e3 R3 r3 h3=>by
  obtain rfl:lo'=lo:=r2;obtain rfl:hi'=hi:=r3;have r1:=r1.ext (e2.trans e3);unfold gSl at h3;split at h3
  ·split at h3
   ·exact h3.elim
   ·rename_i hn;obtain⟨p,vs,rfl,hp,_,rp⟩:=ju r1;exact .inr ⟨p,vs,rfl,Xd.of hp,by rw[rp.length];exact hn,qE R3 (Bk rp lo' hi') h3⟩
  ·split at h3
   ·rename_i e;obtain⟨p,vs,rfl,hp,rp⟩:=oH R3 r1 e;exact .inl ⟨p,vs,rfl,hp,uN R3 (Bk rp lo' hi') h3⟩
   ·exact h3.elim)))
def Cz (M:MS):D->Option Bool
 |.WN=>some false
 |.bl b=>some b
 |.int i=>some (i != 0)
 |.str z=>if z.length<=au then some ((z.length:Int) != 0) else none
 |.tup ps=>some (!ps.isEmpty)
 |d=>match gJ M d with
  |some ps=>some (!ps.isEmpty)
  |none=>match vc M d with
   |some W0=>some (!W0.isEmpty)
   |none=>none
def Aa (f:FE):FT:=λδ M=>rb (f δ M) λd M1=>match Cz M1 d with
 |some b=>some (.ok b M1)
 |none=>none
theorem Mt (R:Rel G ι M H){d:D}(h:RV G ι H v d)(e:Cz M d=some b):IQ G.K v H b:=by
 unfold Cz at e;split at e
 ·cases e;rw[lM h];rfl
 ·cases e;rw[jj h];rfl
 ·cases e;rw[dS h];rfl
 ·split at e
  ·rename_i hl;cases e;rw[iu h];exact⟨hl,rfl⟩
  ·cases e
 ·cases e;obtain⟨p,vs,rfl,hp,_,rp⟩:=ju h;exact .inr (.inl ⟨vs,Xd.of hp,by rw[rp.isEmpty]⟩)
 ·split at e
  ·rename_i q;cases e;obtain⟨p,vs,rfl,hp,rp⟩:=oH R h q;exact .inl ⟨vs,hp,by rw[rp.isEmpty]⟩
  ·split at e
   ·rename_i q;cases e;obtain⟨p,kvs,rfl,hp,rp⟩:=vE R h q;exact .inr (.inr ⟨kvs,hp,by rw[rp.isEmpty]⟩)
   ·cases e
theorem CN {t:TE}(a:bP G W t f):gF G W (λσ H Q=>t σ H λx H'=>∃k,IQ G.K x H' k/\Q k H') (Aa f):=λσ δ ι M H Q R E h=>
 a σ δ ι M H _ R E (GR.bind h λv H1 ι1 M1 d e1 R1 r1 h1=>by
  split at h1
  ·rename_i e;exact⟨_,Mt R1 r1 e,h1 _ H1 ι1 Ext.refl R1 rfl⟩
  ·exact h1.elim)
def tyD (M:MS):D->Option String
 |.WN=>some "NoneType"
 |.bl _=>some "bool"
 |.int _=>some "int"
 |.str _=>some "str"
 |.lst _=>some "list"
 |.tup _=>some "tuple"
 |.XF _=>some "dict"
 |.dcT _=>some "dict"
 |.ref k=>match M[k]? with
  |some (.lst _)=>some "list"
  |some (.XF _)=>some "dict"
  |_=>none
 |_=>none
theorem Bp (R:Rel G ι M H){d:D}{t:String}(h:RV G ι H v d)(e:tyD M d=some t):kg G.K H v (.type t):=by
 cases d with
 |WN=>cases e;cases h;exact .WN
 |bl b=>cases e;cases h;exact .bl b
 |int i=>cases e;cases h;exact .int i
 |str x=>cases e;cases h;exact .str x
 |lst xs=>cases e;cases h with |lst z n r=>exact .lst z
 |tup xs=>cases e;cases h with |tup z n r=>exact .tup z
 |XF xs=>cases e;cases h with |XF z n r=>exact .dK z
 |dcT xs=>cases e;cases h with |dcT z n r=>exact .dT z
 |ref k=>
  rw[tyD]at e;split at e
  ·rename_i q;cases e;obtain⟨a,rfl,ha,vs,hv,r⟩:=dR R h q;exact .lst hv
  ·rename_i q;cases e;obtain⟨a,rfl,ha,vs,hv,r⟩:=dR R h q;exact .dK hv
  ·cases e
 |_=>cases e
def yB (T t:String):Bool:=t==T||(T=="int"&&t=="bool")
def tys:List String:=["NoneType","bool","int","str","list","tuple","dict"]
def mO:List String:=["bool","int","str","list","tuple","dict"]
theorem Ap {K:Frag}{T t:String}(hT:T∈mO)(ht:t∈tys):kitOne K (.type t) (.type T)=some (yB T t):=by
 simp only[tys,mO,aV,aE,or_false]at hT ht;rcases hT with rfl|rfl|rfl|rfl|rfl|rfl<;>rcases ht with rfl|rfl|rfl|rfl|rfl|rfl|rfl<;>rfl
theorem qy {d:D}{t:String}(e:tyD M d=some t):t∈tys:=by
 cases d with
 |ref k=>
  rw[tyD]at e;split at e
  ·cases e;decide
  ·cases e;decide
  ·cases e
 |ins _ _=>cases e
 |exc _ _=>cases e
 |fn _=>cases e
 |cls _=>cases e
 |frl _=>cases e
 |_=>cases e;decide
def KQ (T:String):F1:=λd M=>match tyD M d with
 |some t=>some (.ok (.bl (yB T t)) M)
 |none=>none
def JE (K:Frag):List V->Hp->VK->Prop:=λvs H Q=>∃x c cv t b,vs=[x,c]/\(∀u,RelV c u->u=cv)/\kg K H x t/\kitOne K t cv=some b/\Q (.bl b) H
theorem vi {K:Frag}(hK:X.K=K):cu X (.builtin "isinstance") (JE K):=hK ▸ sU
theorem Jn {T:String}(hT:T∈mO){t:TE}(a:bP G W t f):bP G W (tCB (JE G.K) (fu t (fu (tC (.ty T)) iw))) (mUn (KQ T) f):=λσ δ ι M H Q R E h=>
 a σ δ ι M H _ R E (GR.bind h λv H1 ι1 M1 d e1 R1 r1 h1=>by
  unfold KQ at h1;split at h1
  ·rename_i e;exact⟨v,.ty T,.type T,_,_,rfl,λ_ h=>h,Bp R1 r1 e,Ap hT (qy e),h1 _ H1 ι1 Ext.refl R1 (.bl _)⟩
  ·exact h1.elim)
def B8 (T T':String):F1:=λd M=>match tyD M d with
 |some t=>some (.ok (.bl (yB T t||yB T' t)) M)
 |none=>none
def LI (K:Frag):List V->Hp->VK->Prop:=λvs H Q=>∃x a c d cv dv t b,vs=[x,.ref a]/\H a=some (.tup [c,d])/\(∀u,RelV c u->u=cv)/\(∀u,RelV d u->u=dv)/\kg K H x t/\kitAny K t [cv,dv]=some b/\Q (.bl b) H
theorem AN {K:Frag}(hK:X.K=K):cu X (.builtin "isinstance") (LI K):=hK ▸ vj
theorem KG {K:Frag}{T t:String}(hT:T∈mO)(hT':T'∈mO)(ht:t∈tys):kitAny K (.type t) [.type T,.type T']=some (yB T t||yB T' t):=by
 unfold kitAny;rw[Ap hT ht];cases yB T t with
 |true=>rfl
 |false=>
  simp only;unfold kitAny;rw[Ap hT' ht];cases yB T' t<;>rfl
theorem Fh {T:String}(hT:T∈mO)(hT':T'∈mO){t:TE}(a:bP G W t f):
  bP G W (tCB (LI G.K) (fu t (fu (Bs (fu (tC (.ty T)) (fu (tC (.ty T')) iw))) iw))) (mUn (B8 T T') f):=λσ δ ι M H Q R E h=>
 a σ δ ι M H _ R E (GR.bind h λv H1 ι1 M1 d e1 R1 r1 h1=>by
  unfold B8 at h1;split at h1
  ·rename_i e;refine⟨by show 2<=au;decide,λp H' hp h' s=>?_⟩;exact⟨v,p,.ty T,.ty T',.type T,.type T',_,_,rfl,h',λ_ h=>h,λ_ h=>h,Bp (R1.same s) (r1.ext (Ext.same s)) e,KG hT hT' (qy e),h1 _ H' ι1 (Ext.same s) (R1.same s) (.bl _)⟩
  ·exact h1.elim)
structure Pd (K:Frag)(C:Addr):Prop where
 cl:Cls K C
 ha:findIn K (.ref C) "__class__"=some (some (.builtin "object.__class__"))
 hn:specialIn K (.builtin "object.__class__") "__get__"=some (some (.builtin "getset_descriptor.__get__"))
 htk:takesIn K (.builtin "object.__class__")=some true
 hm:mroIn K C (.type "object")=some true
 no:∀t∈tys,kitOne K (.type t) (.ref C)=some false
def Hl (M:MS):D->Option Str
 |.ins c _=>some c
 |.ref k=>match M[k]? with
  |some (.ins c _)=>some c
  |_=>none
 |_=>none
def KR (c:Str):F1:=λd M=>match Hl M d with
 |some c'=>if c'=c then some (.ok (.bl true) M) else none
 |none=>match tyD M d with
  |some _=>some (.ok (.bl false) M)
  |none=>none
theorem Mw (R:Rel G ι M H){d:D}(h:RV G ι H v d)(e:Hl M d=some c):∃a dx vs,v=.ref a/\H a=some (.ins (G.cls c) dx vs):=by
 cases d with
 |ins c' fs=>cases e;cases h with |ins z n r=>exact⟨_,_,_,rfl,z⟩
 |ref k=>
  rw[Hl]at e;split at e
  ·rename_i q;cases e;obtain⟨a,rfl,ha,dx,vs,hv,r⟩:=dR R h q;exact⟨a,dx,vs,rfl,hv⟩
  ·cases e
 |_=>cases e
theorem Jo (hc:Pd G.K (G.cls c)){t:TE}(a:bP G W t f):bP G W (tCB (JE G.K) (fu t (fu (tC (.ref (G.cls c))) iw))) (mUn (KR c) f):=λσ δ ι M H Q R E h=>
 a σ δ ι M H _ R E (GR.bind h λv H1 ι1 M1 d e1 R1 r1 h1=>by
  unfold KR at h1;split at h1
  ·rename_i e;split at h1
   ·rename_i hcc;subst hcc;obtain⟨p,dx,vs,rfl,hv⟩:=Mw R1 r1 e;exact⟨_,.ref (G.cls _),.ref (G.cls _),_,true,rfl,λ_ h=>h,.ins hv hc.cl hc.ha hc.hn hc.htk hc.hm,by unfold kitOne;rw[if_pos (by simp)],h1 _ H1 ι1 Ext.refl R1 (.bl _)⟩
   ·exact h1.elim
  ·split at h1
   ·rename_i e;exact⟨v,.ref (G.cls c),.ref (G.cls c),_,_,rfl,λ_ h=>h,Bp R1 r1 e,hc.no _ (qy e),h1 _ H1 ι1 Ext.refl R1 (.bl _)⟩
   ·exact h1.elim)
def Cb (M:MS)(c:Str):D->Option (List (Str×D))
 |.ins c' fs=>if c'=c then some fs else none
 |.ref k=>match M[k]? with
  |some (.ins c' fs)=>if c'=c then some fs else none
  |_=>none
 |_=>none
def ON (c f:Str):F1:=λd M=>match Cb M c d with
 |some fs=>match fs.lookup f with
  |some p=>some (.ok p M)
  |none=>none
 |none=>none
theorem Mx (R:Rel G ι M H){d:D}{fs:List (Str×D)}(h:RV G ι H v d)(e:Cb M c d=some fs):∃a dx vs,v=.ref a/\H a=some (.ins (G.cls c) dx vs)/\RVf G ι H vs fs:=by
 cases d with
 |ins c' fs=>
  rw[Cb]at e;split at e
  ·rename_i hc;subst hc;cases e;cases h with |ins z n r=>exact⟨_,_,_,rfl,z,r⟩
  ·cases e
 |ref k=>
  rw[Cb]at e;split at e
  ·rename_i q;split at e
   ·rename_i hc;subst hc;cases e;obtain⟨a,rfl,ha,dx,vs,hv,r⟩:=dR R h q;exact⟨a,dx,vs,rfl,hv,r⟩
   ·cases e
  ·cases e
 |_=>cases e
theorem Ju {f:Str}(hc:Cls G.K (G.cls c))(hn:dW G.K (G.cls c) f){t:TE}{g:FE}(a:bP G W t g):bP G W (MH G.K t f) (mUn (ON c f) g):=λσ δ ι M H Q R E h=>
 a σ δ ι M H _ R E (GR.bind h λv H1 ι1 M1 d e1 R1 r1 h1=>by
  unfold ON at h1;split at h1
  ·rename_i e;split at h1
   ·rename_i e2;obtain⟨p,dx,vs,rfl,hv,rf⟩:=Mx R1 r1 e;obtain⟨u,q1,q2⟩:=rf.mem e2;exact⟨p,_,dx,vs,u,rfl,hv,hc,hn,q1,h1 _ H1 ι1 Ext.refl R1 q2⟩
   ·exact h1.elim
  ·exact h1.elim)
def Hs (c f:Str):F1:=λd M=>match d with
 |.exc c' fs=>if c'=c then match fs.lookup f with
  |some p=>some (.ok p M)
  |none=>none
  else none
 |_=>none
theorem vD {fs:List (Str×D)}(h:VR G ι ξ H v (.exc c fs)):∃a vs,v=.ref a/\IsX false H a (G.cls c) vs/\VRf G ι ξ H vs fs:=by
 cases h with
 |az7 e n=>exact⟨_,[],rfl,.inl ⟨rfl,e⟩,.nil⟩
 |az8 e n e2 n2 r=>exact⟨_,_,rfl,.inr ⟨_,e,e2⟩,r⟩
def bools:List D->Option (List Bool)
 | []=>some []
 |.bl b::ps=>match bools ps with
  |some bs=>some (b::bs)
  |none=>none
 |_::_=>none
theorem um {bs:List Bool}(r:VRs G ι ξ H vs ps):bools ps=some bs->vs=bs.map V.bl:=VRs.ind (P:=λvs ps=>∀bs,bools ps=some bs->vs=bs.map V.bl) r (λbs e=>by cases e;rfl) (λ{_ d _ _} a _ ih bs e=>by
 cases d with
 |bl b=>
  rw[bools]at e;split at e
  ·rename_i q;cases e;rw[ih _ q];cases a;rfl
  ·cases e
 |_=>cases e) bs
def Ax (f:List Bool->Bool):FN:=λds M=>match ds with
 | [d]=>match jL M d with
  |some ps=>match bools ps with
   |some bs=>some (.ok (.bl (f bs)) M)
   |none=>none
  |none=>none
 |_=>none
def zO (f:List Bool->Bool):List V->Hp->VK->Prop:=λvs H Q=>∃(a:Addr)(bs:List Bool),vs=[.ref a]/\H a=some (.lst (bs.map V.bl))/\Q (.bl (f bs)) H
theorem DX (hc:X.calm=true):cu X (.builtin "all") (zO λbs=>bs.all id):=DY hc
theorem CV {f:List Bool->Bool}:sZ G (zO f) (Ax f):=λW σ ι M H vs ds Q R r h=>by
 unfold Ax at h;split at h
 ·rename_i d;obtain⟨v,rfl,a⟩:=oG r;split at h
  ·rename_i q;split at h
   ·rename_i bs e;obtain⟨p,us,rfl,hp,rp⟩:=jV R a q;exact⟨p,bs,rfl,by rw[hp,um rp e],h _ H ι Ext.refl R (.bl _)⟩
   ·exact h.elim
  ·exact h.elim
 ·exact h.elim
def Hx:FN:=λds M=>match ds with
 | [.int i]=>some (.ok (.int i) M)
 | [.bl b]=>some (.ok (.int (if b then 1 else 0)) M)
 |_=>none
def QF:List V->Hp->VK->Prop:=λxs H Q=>(∃i,xs=[.int i]/\Q (.int i) H)\/∃k,xs=[.bl k]/\Q (.int (if k then 1 else 0)) H
theorem Jp:sZ G QF Hx:=λW σ ι M H vs ds Q R r h=>by
 unfold Hx at h;split at h
 ·obtain⟨v,rfl,a⟩:=oG r;exact .inl ⟨_,by rw[dS a],h _ H ι Ext.refl R (.int _)⟩
 ·obtain⟨v,rfl,a⟩:=oG r;exact .inr ⟨_,by rw[jj a],h _ H ι Ext.refl R (.int _)⟩
 ·exact h.elim
def gI2 (f:Int->Int->Int):FN:=λds M=>match ds with
 | [.int i,.int j]=>some (.ok (.int (f i j)) M)
 |_=>none
def rI2 (f:Int->Int->Int):List V->Hp->VK->Prop:=λxs H Q=>∃i j,xs=[.int i,.int j]/\Q (.int (f i j)) H
theorem DR (hc:X.calm=true):cu X (.builtin "max") (rI2 λi j=>if j>i then j else i):=DS hc
theorem DP (hc:X.calm=true):cu X (.builtin "min") (rI2 λi j=>if j<i then j else i):=DQ hc
theorem Fj {f:Int->Int->Int}:sZ G (rI2 f) (gI2 f):=λW σ ι M H vs ds Q R r h=>by
 unfold gI2 at h;split at h
 ·obtain⟨v,u,rfl,a,b⟩:=P3 r;exact⟨_,_,by rw[dS a,dS b],h _ H ι Ext.refl R (.int _)⟩
 ·exact h.elim
def Fz (M:MS):D->Option (List D)
 |.tup ps=>some ps
 |d=>gJ M d
theorem Mu (R:Rel G ι M H){d:D}(h:RV G ι H v d)(e:Fz M d=some ps):∃a vs,v=.ref a/\(Xc G.K H a vs\/Xd G.K H a vs)/\XG G ι H vs ps:=by
 unfold Fz at e;split at e
 ·cases e;obtain⟨p,us,rfl,hp,_,rp⟩:=ju h;exact⟨p,us,rfl,.inr (Xd.of hp),rp⟩
 ·obtain⟨p,us,rfl,hp,rp⟩:=oH R h e;exact⟨p,us,rfl,.inl hp,rp⟩
def Av:FN:=λds M=>match ds with
 | [.tup ps]=>some (.ok (.tup ps) M)
 | [d]=>match gJ M d with
  |some ps=>some (.ok (.tup ps) M)
  |none=>none
 |_=>none
def FY (K:Frag):List V->Hp->VK->Prop:=λxs H Q=>∃p ys,xs=[.ref p]/\((Xc K H p ys/\jh H (.tup ys) Q)\/(Xd K H p ys/\Q (.ref p) H))
theorem yS {K:Frag}(hK:X.K=K):cu X (.type "tuple") (FY K):=hK ▸ lH
theorem CL:sZ G (FY G.K) Av:=λW σ ι M H vs ds Q R r h=>by
 unfold Av at h;split at h
 ·obtain⟨v,rfl,a⟩:=oG r;obtain⟨p,us,rfl,hp,_,rp⟩:=ju a;exact⟨p,us,rfl,.inr ⟨Xd.of hp,h _ H ι Ext.refl R a⟩⟩
 ·obtain⟨v,rfl,a⟩:=oG r;split at h
  ·rename_i e;obtain⟨p,us,rfl,hp,rp⟩:=oH R a e;exact⟨p,us,rfl,.inl ⟨hp,qE R rp h⟩⟩
  ·exact h.elim
 ·exact h.elim
def Hu (b:Bool):FN:=λds M=>match ds with
 | [d]=>match Fz M d with
  |some ps=>mS b ps M
  |none=>none
 |_=>none
def LG (K:Frag):List V->Hp->VK->Prop:=λxs H Q=>∃p ys,xs=[.ref p]/\(Xc K H p ys\/Xd K H p ys)/\jh H (.lst ys) Q
theorem AM {K:Frag}(hK:X.K=K):cu X (.type "list") (LG K):=hK ▸ mM
theorem Fe :sZ G (LG G.K) (Hu b):=λW σ ι M H vs ds Q R r h=>by
 unfold Hu at h;split at h
 ·obtain⟨v,rfl,a⟩:=oG r;split at h
  ·rename_i e;obtain⟨p,us,rfl,hp,rp⟩:=Mu R a e;exact⟨p,us,rfl,hp,uN R rp h⟩
  ·exact h.elim
 ·exact h.elim
def L8:FE:=λ_ M=>some (.ok (.ref M.length) (M++[.set []]))
def LX (fo:FE)(fe:FE):FE:=λδ M=>rb (fo δ M) λd M1=>match d with
 |.ref k=>match M1[k]? with
  |some (.set _)=>rb (fe δ M1) λe M2=>match e with
   |.str y=>match M2[k]? with
    |some (.set xs)=>if xs.length+1<4096 then some (.ok .WN (M2.set k (.set (if xs.contains y then xs else xs++[y])))) else none
    |_=>none
   |_=>none
  |_=>none
 |_=>none
theorem vH {P:aI}{S T:Str->Bool}{m:Nat}(h:∀k,S k=T k)(e:n=m):SSet P w a S n=SSet P w a T m:=by
 rw[funext h,e]
theorem E7:bP G W (tCB (λvs H Q=>vs=[]/\∀(a:Addr)(H':Hp),H a=none->H' a=some (SSet G.P G.w a (λ_=>false) 0)->fD H H'->Q (.ref a) H') iw) L8:=λσ δ ι M H Q R E h=>
 ⟨rfl,λa H' ha h' s=>h (.ref a) H' (ι++[a]) (Ext.cell s ha) (R.cell s ha (show H' a=_ from h'.trans (congrArg some (vH (λk=>by simp) rfl)))) (.ref (by rw[←R.len];simp))⟩
theorem E8 (a:bP G W to f)(b:bP G W te fe):bP G W (Ew G.P G.w to (fu te iw)) (LX f fe):=λσ δ ι M H Q R E h=>
 a σ δ ι M H _ R E (GR.bind h λv H1 ι1 M1 d e1 R1 r1 h1=>by
  cases d with
  |ref k=>
   simp only at h1;cases q:M1[k]? with
   |none=>rw[q]at h1;exact h1.elim
   |some m=>cases m with
    |set xs0=>
     rw[q]at h1;obtain⟨p,rfl,hp,hv0⟩:=dR R1 r1 q;refine⟨p,_,_,rfl,hv0,b σ δ ι1 M1 H1 _ R1 (E.ext e1) (GR.bind h1 λu H2 ι2 M2 d2 e2 R2 r2 h2=>?_)⟩;split at h2
     ·rename_i y;split at h2
      ·rename_i xs q2;split at h2
       ·rename_i hl;obtain⟨p',ep,hp2,hv⟩:=dR R2 (r1.ext e2) q2;cases ep;refine⟨y,_,_,by rw[iu r2],hv,hl,?_⟩;have eq:SSet G.P G.w p (λk'=>xs.contains k'||decide (k'=y)) (if xs.contains y then xs.length else xs.length+1)=SSet G.P G.w p (λk'=>(if xs.contains y then xs else xs++[y]).contains k') (if xs.contains y then xs else xs++[y]).length:=by
         cases hc:xs.contains y with
         |true=>
          refine vH (λk'=>?_) (by simp);simp only[if_true]
          by_cases e:k'=y
          ·subst e;rw[hc];rfl
          ·simp[e]
         |false=>exact vH (λk'=>by simp[List.contains_eq_any_beq,Bool.or_comm,BEq.comm]) (by simp)
        rw[eq];exact h2 _ _ ι2 (Ext.write (bH hp2)) (R2.write hp2 bu) .WN
       ·exact h2.elim
      ·exact h2.elim
     ·exact h2.elim
    |_=>rw[q]at h1;exact h1.elim
  |_=>exact h1.elim)
def Ru (fo:FE)(fe:FE):FE:=λδ M=>rb (fo δ M) λd M1=>match d with
 |.ref k=>match M1[k]? with
  |some (.lst _)=>rb (fe δ M1) λe M2=>match M2[k]? with
   |some (.lst xs)=>if xs.length<au then some (.ok .WN (M2.set k (.lst (xs++[e])))) else none
   |_=>none
  |_=>none
 |_=>none
theorem Jv (a:bP G W to f)(b:bP G W te fe):bP G W (tBM G.K "list" vQ to (fu te iw)) (Ru f fe):=λσ δ ι M H Q R E h=>
 a σ δ ι M H _ R E (GR.bind h λv H1 ι1 M1 d e1 R1 r1 h1=>by
  cases d with
  |ref k=>
   simp only at h1;cases q:M1[k]? with
   |none=>rw[q]at h1;exact h1.elim
   |some m=>cases m with
    |lst xs0=>
     rw[q]at h1;obtain⟨p,rfl,hp,vs0,hv0,_⟩:=dR R1 r1 q;refine⟨.inl ⟨rfl,vs0,Xc.of hv0⟩,b σ δ ι1 M1 H1 _ R1 (E.ext e1) (GR.bind h1 λu H2 ι2 M2 d2 e2 R2 r2 h2=>?_)⟩;split at h2
     ·rename_i xs q2;split at h2
      ·rename_i hl;obtain⟨p',ep,hp2,vs,hv,rv⟩:=dR R2 (r1.ext e2) q2;cases ep;have ex:Ext ι2 H2 ι2 (upd H2 p (.lst (vs++[u]))):=Ext.write (bH hp2);refine⟨p,vs,u,rfl,rfl,hv,by rw[rv.length];exact hl,h2 _ _ ι2 ex (R2.write hp2 ⟨_,bu,(rv.append (.cons r2 .nil)).ext ex⟩) .WN⟩
      ·exact h2.elim
     ·exact h2.elim
    |_=>rw[q]at h1;exact h1.elim
  |_=>exact h1.elim)
end
end
end
section
noncomputable section
inductive Out where
 |nx (δ:cO) (M:MS)
 |rt (d:D) (M:MS)
 |bk (δ:cO) (M:MS)
 |ct (δ:cO) (M:MS)
 |ex (c:Str) (fs:List (Str×D)) (δ:cO) (M:MS)
abbrev FS:=cO->MS->Option Out
def GS (G:Gx)(W:XW)(ι:List Addr)(H:Hp)(E:Ends):Option Out->Prop
 |none=>False
 |some (.nx δ M)=>∀σ' H' ι',Ext ι H ι' H'->Rel G ι' M H'->ER G ι' H' σ' δ->E.nx σ' H'
 |some (.rt d M)=>∀v H' ι',Ext ι H ι' H'->Rel G ι' M H'->RV G ι' H' v d->E.rt v H'
 |some (.bk δ M)=>∀σ' H' ι',Ext ι H ι' H'->Rel G ι' M H'->ER G ι' H' σ' δ->E.bk σ' H'
 |some (.ct δ M)=>∀σ' H' ι',Ext ι H ι' H'->Rel G ι' M H'->ER G ι' H' σ' δ->E.ct σ' H'
 |some (.ex c fs δ M)=>∀x σ' H' ι',Ext ι H ι' H'->Rel G ι' M H'->ER G ι' H' σ' δ->XR G ι' H' x c fs->W x σ' H'
def fY (G:Gx)(W:XW)(t:TS)(f:FS):Prop:=∀(E:Ends)(σ:St)(δ:cO)(ι:List Addr)(M:MS)(H:Hp),Rel G ι M H->ER G ι H σ δ->GS G W ι H E (f δ M)->t E σ H
def sb {α:Type}(δ:cO)(r:Option (Rs α))(k:α->MS->Option Out):Option Out:=
 match r with
 |none=>none
 |some (.ok a M)=>k a M
 |some (.ex c fs M)=>some (.ex c fs δ M)
@[simp]theorem Qu {α:Type}{δ:cO}{a:α}{M:MS}{k:α->MS->Option Out}:sb δ (some (.ok a M)) k=k a M:=rfl
@[simp]theorem V1 {α:Type}{δ:cO}{c:Str}{fs:List (Str×D)}{M:MS}{k:α->MS->Option Out}:sb δ (some (.ex c fs M)) k=some (.ex c fs δ M):=rfl
@[simp]theorem S4 {α:Type}{δ:cO}{k:α->MS->Option Out}:sb δ none k=none:=rfl
section
variable {α β:Type}{G:Gx}{vr:List Addr->Hp->β->α->Prop}{W:XW}{ι ι1:List Addr}{H H1:Hp}{σ:St}{δ:cO}
theorem GS.ext {r:Option Out}(e:Ext ι H ι1 H1)(h:GS G W ι H E r):GS G W ι1 H1 E r:=by
 cases r with
 |none=>exact h
 |some r=>cases r with
  |nx δ M=>exact λa H' ι' e' R q=>h a H' ι' (e.trans e') R q
  |rt δ M=>exact λa H' ι' e' R q=>h a H' ι' (e.trans e') R q
  |bk δ M=>exact λa H' ι' e' R q=>h a H' ι' (e.trans e') R q
  |ct δ M=>exact λa H' ι' e' R q=>h a H' ι' (e.trans e') R q
  |ex c fs δ M=>exact λx a H' ι' e' R q z=>h x a H' ι' (e.trans e') R q z
theorem GS.bind {Q':β->Hp->Prop}{r:Option (Rs α)}{k:α->MS->Option Out}(er:ER G ι H σ δ)(h:GS G W ι H E (sb δ r k))
  (m:∀v H1 ι1 M1 d,Ext ι H ι1 H1->Rel G ι1 M1 H1->vr ι1 H1 v d->GS G W ι1 H1 E (k d M1)->Q' v H1):GR G vr W ι H σ Q' r:=by
 cases r with
 |none=>exact h
 |some r=>cases r with
  |ok a M=>exact λv H' ι' e' R q=>m v H' ι' M a e' R q (GS.ext e' h)
  |ex c fs M=>exact λx H' ι' e' R q=>h x σ H' ι' e' R (er.ext e') q
end
section
variable {G:Gx}{W:XW}
def uT:FS:=λδ M=>some (.nx δ M)
theorem Fa:fY G W Bu uT:=λE σ δ ι M H R er h=>h σ H ι Ext.refl R er
def k9 (f g:FS):FS:=λδ M=>match f δ M with
 |some (.nx δ' M')=>g δ' M'
 |o=>o
theorem Je {t u:TS}{f g:FS}(a:fY G W t f)(b:fY G W u g):fY G W (P9 t u) (k9 f g):=λE σ δ ι M H R er h=>by
 refine a { E with nx:=u E } σ δ ι M H R er ?_;unfold k9 at h;cases e:f δ M with
 |none=>rw[e]at h;exact h
 |some o=>
  rw[e]at h;cases o with
  |nx δ' M'=>exact λσ' H' ι' e' R' er'=>b E σ' δ' ι' M' H' R' er' (GS.ext e' h)
  |rt d M'=>exact h
  |bk δ' M'=>exact h
  |ct δ' M'=>exact h
  |ex c fs δ' M'=>exact h
def nV (f:FE):FS:=λδ M=>sb δ (f δ M) λ_ M1=>some (.nx δ M1)
theorem Fq {t:TE}(a:bP G W t f):fY G W (Ls t) (nV f):=λE σ δ ι M H R er h=>
 a σ δ ι M H _ R er (GS.bind er h λv H1 ι1 M1 d e1 R1 r1 h1=>h1 σ H1 ι1 Ext.refl R1 (er.ext e1))
def sf (f:FE):FS:=λδ M=>sb δ (f δ M) λd M1=>some (.rt d M1)
theorem Jf {t:TE}(a:bP G W t f):fY G W (Qa t) (sf f):=λE σ δ ι M H R er h=>
 a σ δ ι M H _ R er (GS.bind er h λv H1 ι1 M1 d e1 R1 r1 h1=>h1 v H1 ι1 Ext.refl R1 r1)
def pe (c:FT)(f g:FS):FS:=λδ M=>sb δ (c δ M) λb M1=>if b=true then f δ M1 else g δ M1
theorem Jr {c:TT}{t u:TS}{f g:FS}(a:gF G W c ft)(x:fY G W t f)(y:fY G W u g):fY G W (Qe c t u) (pe ft f g):=λE σ δ ι M H R er h=>
 a σ δ ι M H _ R er (GS.bind er h λv H1 ι1 M1 d e1 R1 r1 h1=>by
  obtain rfl:v=d:=r1;cases v with
  |true=>exact x E σ δ ι1 M1 H1 R1 (er.ext e1) h1
  |false=>exact y E σ δ ι1 M1 H1 R1 (er.ext e1) h1)
def j5:FS:=λ_ _=>none
theorem oM:fY G W zq j5:=λE σ δ ι M H R er h=>h
def eNo:FE:=λ_ _=>none
theorem jx:bP G W wL eNo:=λσ δ ι M H Q R er h=>h
abbrev FG:=D->cO->MS->Option (cO×MS)
abbrev FGs:=List D->cO->MS->Option (cO×MS)
def GG (G:Gx)(ι:List Addr)(H:Hp)(Q:St->Hp->Prop):Option (cO×MS)->Prop
 |none=>False
 |some (δ,M)=>∀σ' H' ι',Ext ι H ι' H'->Rel G ι' M H'->ER G ι' H' σ' δ->Q σ' H'
def oA (G:Gx)(t:TG)(g:FG):Prop:=∀(v:V)(d:D)(σ:St)(δ:cO)(ι:List Addr)(M:MS)(H:Hp)(Q:St->Hp->Prop),Rel G ι M H->ER G ι H σ δ->RV G ι H v d->GG G ι H Q (g d δ M)->t v σ H Q
def vy (G:Gx)(t:WZ)(g:FGs):Prop:=∀(vs:List V)(ds:List D)(σ:St)(δ:cO)(ι:List Addr)(M:MS)(H:Hp)(Q:St->Hp->Prop),Rel G ι M H->ER G ι H σ δ->XG G ι H vs ds->GG G ι H Q (g ds δ M)->t vs σ H Q
theorem GG.ext {H1:Hp}{Q:St->Hp->Prop}{r:Option (cO×MS)}(e:Ext ι H η H1)(h:GG G ι H Q r):GG G η H1 Q r:=by
 cases r with
 |none=>exact h
 |some r=>exact λa H' ι' e' R q=>h a H' ι' (e.trans e') R q
def nG (i:Nat):FG:=λd δ M=>some (δ.set i (some d),M)
theorem jH (i:Nat):oA G (qd i) (nG i):=λv d σ δ ι M H Q R er r h=>h _ H ι Ext.refl R (er.set r i)
def uP:FGs:=λds δ M=>match ds with
 | []=>some (δ,M)
 |_=>none
def oY (g:FG)(gs:FGs):FGs:=λds δ M=>match ds with
 |d::ds=>match g d δ M with
  |some (δ',M')=>gs ds δ' M'
  |none=>none
 | []=>none
theorem Fm:vy G RM uP:=λvs ds σ δ ι M H Q R er r h=>by
 unfold uP at h;split at h
 ·cases r;exact⟨rfl,h σ H ι Ext.refl R er⟩
 ·exact h.elim
theorem CS {t:TG}{g:FG}{gs:FGs}(a:oA G t g)(b:vy G ts gs):vy G (Ma t ts) (oY g gs):=λvs ds σ δ ι M H Q R er r h=>by
 unfold oY at h;split at h
 ·cases r with
  |cons r1 r2=>
   refine⟨_,_,rfl,a _ _ σ δ ι M H _ R er r1 ?_⟩;split at h
   ·rename_i e;rw[e];exact λσ' H' ι' e' R' er'=>b _ _ σ' _ ι' _ H' Q R' er' (r2.ext e') (GG.ext e' h)
   ·exact h.elim
 ·exact h.elim
def uO (n:Nat)(gs:FGs):FG:=λd δ M=>match d with
 |.tup ps=>if ps.length=n then gs ps δ M else none
 |.lst ps=>if ps.length=n then gs ps δ M else none
 |_=>none
theorem Fk {gs:FGs}(b:vy G ts gs):oA G (Ht G.K n ts) (uO n gs):=λv d σ δ ι M H Q R er r h=>by
 unfold uO at h;split at h
 ·split at h
  ·rename_i hl;obtain⟨p,vs,rfl,hp,_,rp⟩:=ju r;exact .inl ⟨p,vs,rfl,Xd.of hp,by rw[rp.length];exact hl,b _ _ σ δ ι M H Q R er rp h⟩
  ·exact h.elim
 ·split at h
  ·rename_i hl;cases r with
   |lst hp _ rp=>exact .inr ⟨_,_,rfl,Xc.of hp,by rw[rp.length];exact hl,b _ _ σ δ ι M H Q R er rp h⟩
  ·exact h.elim
 ·exact h.elim
def re {α:Type}(r:Option (Rs α))(k:α->MS->Option (cO×MS)):Option (cO×MS):=match r with
 |some (.ok a M)=>k a M
 |_=>none
@[simp]theorem V2 {α:Type}{a:α}{M:MS}{k:α->MS->Option (cO×MS)}:re (some (.ok a M)) k=k a M:=rfl
theorem GG.bind {α β:Type}{vr:List Addr->Hp->β->α->Prop}{Q:St->Hp->Prop}{Q':β->Hp->Prop}{r:Option (Rs α)}{k:α->MS->Option (cO×MS)}(h:GG G ι H Q (re r k))
  (m:∀v H1 ι1 M1 d,Ext ι H ι1 H1->Rel G ι1 M1 H1->vr ι1 H1 v d->GG G ι1 H1 Q (k d M1)->Q' v H1):GR G vr W ι H σ Q' r:=by
 cases r with
 |none=>exact h
 |some r=>cases r with
  |ok a M=>exact λv H' ι' e' R q=>m v H' ι' M a e' R q (GG.ext e' h)
  |ex c fs M=>exact h.elim
def BO (fo fi:FE):FG:=λd δ M=>re (fo δ M) λo M1=>re (fi δ M1) λj M2=>match o,j with
 |.ref k,.int i=>match M2[k]? with
  |some (.lst xs)=>match ixN xs.length i with
   |some j=>some (δ,M2.set k (.lst (xs.set j d)))
   |none=>none
  |_=>none
 |_,_=>none
theorem Fl (a:bP G W to f)(b:bP G W te fe):oA G (RK to te LC) (BO f fe):=λv d σ δ ι M H Q R er r h=>
 a σ δ ι M H _ R er (GG.bind h λo H1 ι1 M1 od e1 R1 r1 h1=>b σ δ ι1 M1 H1 _ R1 (er.ext e1) (GG.bind h1 λj H2 ι2 M2 jd e2 R2 r2 h2=>by
  split at h2
  ·rename_i k i;split at h2
   ·rename_i xs q;split at h2
    ·rename_i j' ej;obtain⟨a',rfl,ha,vs,hv,rv⟩:=dR R2 (r1.ext e2) q;have ex:Ext ι2 H2 ι2 (upd H2 a' (.lst (vs.set j' v))):=Ext.write (bH ha);have pv:=r.ext (e1.trans e2);exact⟨a',vs,i,j',rfl,dS r2,hv,by rw[rv.length];exact ej,h2 σ _ ι2 ex (R2.write ha ⟨_,bu,(rv.set pv j').ext ex⟩) (((er.ext e1).ext e2).ext ex)⟩
    ·exact h2.elim
   ·exact h2.elim
  ·exact h2.elim))
def kC (f:FE)(g:FG):FS:=λδ M=>sb δ (f δ M) λd M1=>match g d δ M1 with
 |some (δ',M')=>some (.nx δ' M')
 |none=>none
theorem nE {t:TG}{g:FG}(a:bP G W te f)(b:oA G t g):fY G W (CA te t) (kC f g):=λE σ δ ι M H R er h=>
 a σ δ ι M H _ R er (GS.bind er h λv H1 ι1 M1 d e1 R1 r1 h1=>b v d σ δ ι1 M1 H1 E.nx R1 (er.ext e1) r1 (by
  split at h1
  ·rename_i e;rw[e];exact h1
  ·exact h1.elim))
def Kz (i:Nat)(f:FE)(g:F2):FS:=λδ M=>match δ[i]? with
 |some (some x)=>sb δ (f δ M) λy M1=>sb δ (g x y M1) λz M2=>some (.nx (δ.set i (some z)) M2)
 |_=>none
theorem qB {r:TIp}{g:F2}(a:bP G W te f)(o:lJ G r g):fY G W (MU i te r) (Kz i f g):=λE σ δ ι M H R er h=>by
 unfold Kz at h;split at h
 ·rename_i x e;obtain⟨vx,hx,rx⟩:=er.2 i x e;refine⟨vx,hx,a σ δ ι M H _ R er (GS.bind er h λv H1 ι1 M1 d e1 R1 r1 h1=>?_)⟩;refine o W σ ι1 M1 H1 vx v x d _ R1 (rx.ext e1) r1 (GS.bind (er.ext e1) h1 λz H2 ι2 M2 dz e2 R2 r2 h2=>?_);exact h2 _ H2 ι2 Ext.refl R2 (((er.ext e1).ext e2).set r2 i)
 ·exact h.elim
structure XI where
 xs:List D
 src:Option (Nat×List D)
abbrev FI:=cO->MS->Option (Rs XI)
def Src (it:XI)(M:MS):Prop:=∀k ps,it.src=some (k,ps)->M[k]?=some (.lst ps)
noncomputable def jw (it:XI)(M:MS):Bool:=match it.src with
 |none=>true
 |some (k,ps)=>@decide (M[k]?=some (.lst ps)) (Classical.propDecidable _)
theorem g7 {it:XI}(h:jw it M=true):Src it M:=λk ps e=>by
 unfold jw at h;rw[e]at h;exact @of_decide_eq_true _ (Classical.propDecidable _) h
theorem et {it:XI}(h:it.src=none):jw it M=true:=by unfold jw;rw[h]
theorem hZ {xs:List D}:Src ⟨xs,none⟩ M:=λ_ _ z=>nomatch z
def JR (G:Gx)(ι0:List Addr)(H0:Hp)(J:It)(it:XI):Prop:=∀(ζ:List Addr),(∀a∈ζ,H0 a=none)->∀(i:Nat)(ι:List Addr)(M:MS)(H:Hp),Ext ι0 H0 ι H->Rel (G.WU ζ) ι M H->Src it M->
 (∀d,it.xs[i]?=some d->J.go i H/\∀v H',J.yld i H v H'->Ext ι H ι H'/\Rel (G.WU ζ) ι M H'/\RV (G.WU ζ) ι H' v d)/\(it.xs.length=i->J.stop i H)
def GI (G:Gx)(W:XW)(ι:List Addr)(H:Hp)(σ:St)(Q:It->Hp->Prop):Option (Rs XI)->Prop
 |none=>False
 |some (.ok it M)=>∀J H' ι',Ext ι H ι' H'->Rel G ι' M H'->Src it M->JR G ι' H' J it->Q J H'
 |some (.ex c fs M)=>∀x H' ι',Ext ι H ι' H'->Rel G ι' M H'->XR G ι' H' x c fs->W x σ H'
def me (G:Gx)(W:XW)(t:TI)(f:FI):Prop:=∀(σ:St)(δ:cO)(ι:List Addr)(M:MS)(H:Hp)(Q:It->Hp->Prop),Rel G ι M H->ER G ι H σ δ->GI G W ι H σ Q (f δ M)->t σ H Q
theorem GI.ext {H1:Hp}{Q:It->Hp->Prop}{r:Option (Rs XI)}(e:Ext ι H η H1)(h:GI G W ι H σ Q r):GI G W η H1 σ Q r:=by
 cases r with
 |none=>exact h
 |some r=>cases r with
  |ok a M=>exact λJ H' ι' e' R q=>h J H' ι' (e.trans e') R q
  |ex c fs M=>exact λx H' ι' e' R q=>h x H' ι' (e.trans e') R q
theorem GI.bind {α β:Type}{vr:List Addr->Hp->β->α->Prop}{Q:It->Hp->Prop}{Q':β->Hp->Prop}{r:Option (Rs α)}{k:α->MS->Option (Rs XI)}(h:GI G W ι H σ Q (rb r k))
  (m:∀v H1 ι1 M1 d,Ext ι H ι1 H1->Rel G ι1 M1 H1->vr ι1 H1 v d->GI G W ι1 H1 σ Q (k d M1)->Q' v H1):GR G vr W ι H σ Q' r:=by
 cases r with
 |none=>exact h
 |some r=>cases r with
  |ok a M=>exact λv H' ι' e' R q=>m v H' ι' M a e' R q (GI.ext e' h)
  |ex c fs M=>exact h
def CH (M:MS):D->Option (List D×Option (Nat×List D))
 |.lst ps=>some (ps,none)
 |.ref k=>match M[k]? with
  |some (.lst ps)=>some (ps,some (k,ps))
  |_=>none
 |_=>none
theorem ny {d:D}{so:Option (Nat×List D)}(R:Rel G ι M H)(r:RV G ι H v d)(e:CH M d=some (ps,so)):∃a,v=.ref a/\(∃vs,H a=some (.lst vs))/\(∀xs,Src ⟨xs,so⟩ M)/\
  ∀(xs:List D)(ζ:List Addr),(∀b∈ζ,H b=none)->∀(ι':List Addr)(M':MS)(H':Hp),Ext ι H ι' H'->Rel (G.WU ζ) ι' M' H'->Src ⟨xs,so⟩ M'->∃vs,H' a=some (.lst vs)/\XG (G.WU ζ) ι' H' vs ps:=by
 unfold CH at e;split at e
 ·cases e;cases r with
  |lst z n rv=>exact⟨_,rfl,⟨_,z⟩,λ_=>hZ,λxs ζ f ι' M' H' ex R' _=>⟨_,(ex.kQ z n).1,(rv.hide f).ext ex⟩⟩
 ·rename_i k;split at e
  ·rename_i ps q;cases e;obtain⟨a,rfl,ha,vs,hv,rv⟩:=dR R r q;refine⟨a,rfl,⟨vs,hv⟩,λxs k' p' z=>by cases z;exact q,λxs ζ f ι' M' H' ex R' sr=>?_⟩;obtain⟨b,hb,hbk,vs',hv',rv'⟩:=dR (v:=.ref a) R' (VR.ref (nK ex.pre ha)) (sr k _ rfl);cases hb;exact⟨vs',hv',rv'⟩
  ·cases e
 ·cases e
def fiL (f:FE):FI:=λδ M=>rb (f δ M) λd M1=>match CH M1 d with
 |some (ps,so)=>some (.ok ⟨ps,so⟩ M1)
 |none=>none
theorem Nn {t:TE}(a:bP G W t f):me G W (B5 G.K t) (fiL f):=λσ δ ι M H Q R er h=>
 a σ δ ι M H _ R er (GI.bind h λv H1 ι1 M1 d e1 R1 r1 h1=>by
  split at h1
  ·rename_i ps so e;obtain⟨a,rfl,⟨vs0,hv0⟩,sr,jr⟩:=ny R1 r1 e;refine⟨a,rfl,⟨vs0,Xc.of hv0⟩,h1 _ H1 ι1 Ext.refl R1 (sr _) λζ fz i ι' M' H' ex R' sr'=>?_⟩;obtain⟨vs,hv,rv⟩:=jr _ ζ fz ι' M' H' ex R' sr';refine⟨λd ed=>?_,λhl=>⟨vs,Xc.of hv,by rw[rv.length];simp at hl;lia⟩⟩;obtain⟨u,hu,ru⟩:=rv.get ed;refine⟨⟨vs,u,Xc.of hv,hu⟩,λv2 H2 y=>?_⟩;obtain⟨rfl,y⟩:=y;have:=y vs (Xc.of hv);rw[hu]at this;cases this;exact⟨Ext.refl,R',ru⟩
  ·exact h1.elim)
def fiT (f:FE):FI:=λδ M=>rb (f δ M) λd M1=>match d with
 |.tup ps=>some (.ok ⟨ps,none⟩ M1)
 |_=>none
theorem Nk {t:TE}(a:bP G W t f):me G W (OG G.K t) (fiT f):=λσ δ ι M H Q R er h=>
 a σ δ ι M H _ R er (GI.bind h λv H1 ι1 M1 d e1 R1 r1 h1=>by
  split at h1
  ·rename_i ps;obtain⟨a,vs,rfl,hv,na,rv⟩:=ju r1;refine⟨a,rfl,⟨vs,Xd.of hv⟩,h1 _ H1 ι1 Ext.refl R1 hZ λζ fz i ι' M' H' ex R' _=>?_⟩;have hv':=(ex.kQ hv na).1;have rv':=(rv.hide fz).ext ex;refine⟨λd ed=>?_,λhl=>⟨vs,Xd.of hv',by rw[rv.length];simp at hl;lia⟩⟩;obtain⟨u,hu,ru⟩:=rv'.get ed;refine⟨⟨vs,u,Xd.of hv',hu⟩,λv2 H2 y=>?_⟩;obtain⟨rfl,y⟩:=y;have:=y vs (Xd.of hv');rw[hu]at this;cases this;exact⟨Ext.refl,R',ru⟩
  ·exact h1.elim)
def tL (lo:Int)(n:Nat):List D:=(di n).map λi=>D.int (lo+(i:Nat))
def iW (j:Int):Bool:=decide (-(2 ^ 62)<=j)&&decide (j<2 ^ 62)
theorem iW.iff (h:iW j=true):-(2 ^ 62)<=j/\j<2 ^ 62:=by
 unfold iW at h;rw[ag,decide_eq_true_eq,decide_eq_true_eq]at h;exact h
def fiR (fa:FA):FI:=λδ M=>rb (fa δ M) λds M1=>match ds with
 | [.int j]=>if iW j=true then some (.ok ⟨tL 0 j.toNat,none⟩ M1) else none
 |_=>none
theorem Hi (lo:Int)(n:Nat):JR G ι H (Itr lo n) ⟨tL lo n,none⟩:=λζ fz i ι' M' H' ex R' _=>by
 refine⟨λd ed=>?_,λhl=>by simp[tL]at hl;show n<=i;lia⟩;simp only[tL,bS]at ed;cases q:(di n)[i]? with
 |none=>rw[q]at ed;cases ed
 |some p=>
  rw[q]at ed;cases ed;obtain⟨hp,hq⟩:=List.getElem?_eq_some_iff.mp q;simp at hp hq;subst hq;refine⟨hp,λv2 H2 y=>?_⟩;obtain⟨rfl,rfl⟩:=y;exact⟨Ext.refl,R',.int _⟩
theorem Nm {t:TA}{f:FA}(a:iE G W t f):me G W (L6 t) (fiR f):=λσ δ ι M H Q R er h=>
 a σ δ ι M H _ R er (GI.bind h λv H1 ι1 M1 d e1 R1 r1 h1=>by
  split at h1
  ·split at h1
   ·rename_i hj;obtain⟨u,rfl,r⟩:=oG r1;exact⟨_,by rw[dS r],(iW.iff hj).1,(iW.iff hj).2,h1 _ H1 ι1 Ext.refl R1 hZ (Hi 0 _)⟩
   ·exact h1.elim
  ·exact h1.elim)
def u6 (ps:List D):List D:=ps.zipIdx.map λp=>D.tup [.int (p.2:Nat),p.1]
def fiE (fa:FA):FI:=λδ M=>rb (fa δ M) λds M1=>match ds with
 | [d]=>match CH M1 d with
  |some (ps,so)=>some (.ok ⟨u6 ps,so⟩ M1)
  |none=>none
 |_=>none
theorem Np {t:TA}{f:FA}(a:iE G W t f):me G W (L7 t) (fiE f):=λσ δ ι M H Q R er h=>
 a σ δ ι M H _ R er (GI.bind h λv H1 ι1 M1 d e1 R1 r1 h1=>by
  split at h1
  ·obtain⟨u,rfl,r⟩:=oG r1;split at h1
   ·rename_i ps so e;obtain⟨a,rfl,⟨vs0,hv0⟩,sr,jr⟩:=ny R1 r e;refine⟨a,rfl,⟨vs0,hv0⟩,h1 _ H1 ι1 Ext.refl R1 (sr _) λζ fz i ι' M' H' ex R' sr'=>?_⟩;obtain⟨vs,hv',rv'⟩:=jr _ ζ fz ι' M' H' ex R' sr';refine⟨λd ed=>?_,λhl=>⟨vs,hv',by rw[rv'.length];simp[u6]at hl;lia⟩⟩;simp only[u6,bS,List.getElem?_zipIdx]at ed;cases q:ps[i]? with
    |none=>rw[q]at ed;cases ed
    |some p=>
     rw[q]at ed;cases ed;obtain⟨u,hu,ru⟩:=rv'.get q;refine⟨⟨vs,u,hv',hu⟩,λv2 H2 y=>?_⟩;obtain⟨b,xs,x,hb,rfl,hx,hxi,rfl⟩:=y;rw[hv']at hx;cases hx;rw[hu]at hxi;cases hxi;have s:=ig (o:=.tup [.int i,u]) hb;refine⟨Ext.same s,R'.same s,.tup bu (R'.rN hb) (.cons ?_ (.cons (ru.ext (Ext.same s)) .nil))⟩;simp only[Nat.zero_add];exact .int _
   ·exact h1.elim
  ·exact h1.elim)
def RU (fa:FA):FI:=λδ M=>rb (fa δ M) λds M1=>match ds with
 | [.tup ps]=>some (.ok ⟨u6 ps,none⟩ M1)
 |_=>none
theorem Js {t:TA}{f:FA}(a:iE G W t f):me G W (Hm t) (RU f):=λσ δ ι M H Q R er h=>
 a σ δ ι M H _ R er (GI.bind h λv H1 ι1 M1 d e1 R1 r1 h1=>by
  split at h1
  ·rename_i ps;obtain⟨u,rfl,r⟩:=oG r1;cases r with
   | @tup p us _ zp np rp=>
    refine⟨p,rfl,⟨us,zp⟩,h1 _ H1 ι1 Ext.refl R1 hZ λζ fz i ι' M' H' ex R' sr'=>?_⟩;have r0:RV (G.WU ζ) ι' H' (.ref p) (.tup ps):=((VR.tup zp np rp).hide fz).ext ex;cases r0 with
    | @tup _ vs _ hv' nv' rv'=>
     refine⟨λd ed=>?_,λhl=>⟨vs,hv',by rw[rv'.length];simpa [u6] using hl⟩⟩;simp only[u6,bS,List.getElem?_zipIdx]at ed;cases q:ps[i]? with
     |none=>rw[q]at ed;cases ed
     |some p0=>
      rw[q]at ed;cases ed;obtain⟨u,hu,ru⟩:=rv'.get q;refine⟨⟨vs,u,hv',hu⟩,λv2 H2 y=>?_⟩;obtain⟨b,xs,x,hb,rfl,hx,hxi,rfl⟩:=y;rw[hv']at hx;cases hx;rw[hu]at hxi;cases hxi;have s:=ig (o:=.tup [.int i,u]) hb;refine⟨Ext.same s,R'.same s,.tup bu (R'.rN hb) (.cons ?_ (.cons (ru.ext (Ext.same s)) .nil))⟩;simp only[Nat.zero_add];exact .int _
  ·exact h1.elim)
def qS (ps qs:List D):List D:=(ps.zip qs).map λp=>.tup [p.1,p.2]
def fiZ (fa:FA):FI:=λδ M=>rb (fa δ M) λds M1=>match ds with
 | [d,d']=>match CH M1 d with
  |some (ps,so)=>match CH M1 d' with
   |some (qs,none)=>some (.ok ⟨qS ps qs,so⟩ M1)
   |some (qs,some so')=>match so with
    |none=>some (.ok ⟨qS ps qs,some so'⟩ M1)
    |some _=>none
   |none=>none
  |none=>none
 |_=>none
def Nt (M:MS):D->Option (List D)
 |.lst ps=>some ps
 |.tup ps=>some ps
 |.ref k=>match M[k]? with
  |some (.lst ps)=>some ps
  |_=>none
 |_=>none
def GQ (f:FE)(g:FA):FA:=λδ M=>rb (f δ M) λd M1=>match Nt M1 d with
 |some ps=>rb (g δ M1) λqs M2=>some (.ok (ps++qs) M2)
 |none=>none
theorem JA {d:D}(R:Rel G ι M H)(r:RV G ι H v d)(e:Nt M d=some ps):∃a vs,v=.ref a/\(H a=some (.lst vs)\/H a=some (.tup vs))/\XG G ι H vs ps:=by
 unfold Nt at e;split at e
 ·cases e;cases r with
  |lst z n rv=>exact⟨_,_,rfl,.inl z,rv⟩
 ·cases e;cases r with
  |tup z n rv=>exact⟨_,_,rfl,.inr z,rv⟩
 ·rename_i k;split at e
  ·rename_i ps q;cases e;obtain⟨a,rfl,ha,vs,hv,rv⟩:=dR R r q;exact⟨a,vs,rfl,.inl hv,rv⟩
  ·cases e
 ·cases e
theorem xG {t:TE}{u:TA}{g:FA}(a:bP G W t f)(b:iE G W u g):iE G W (Lj t u) (GQ f g):=λσ δ ι M H Q R E h=>
 a σ δ ι M H _ R E (GR.bind h λv H1 ι1 M1 d e1 R1 r1 h1=>by
  split at h1
  ·rename_i ps e;obtain⟨a,vs,rfl,ho,rv⟩:=JA R1 r1 e;exact⟨a,vs,rfl,ho,b σ δ ι1 M1 H1 _ R1 (E.ext e1) (GR.bind h1 λws H2 ι2 M2 ds e2 R2 r2 h2=>h2 (vs++ws) H2 ι2 Ext.refl R2 ((rv.ext e2).append r2))⟩
  ·exact h1.elim)
def strsOf:List D->Option (List Str)
 | []=>some []
 |d::r=>match d with
  |.str x=>(strsOf r).map (x::·)
  |_=>none
def Ot (j:Int):List D:=(di j.toNat).map λ(i:Nat)=>D.int (i:Int)
theorem Nw (j:Int):VRs G ι η H (zL j) (Ot j):=by
 unfold zL Ot
 induction di j.toNat with
 |nil=>exact .nil
 |cons x l ih=>exact .cons (.int _) ih
def Hw (b:Bool):FN:=λds M=>match ds with
 | [.int j]=>if -(2 ^ 62)<=j/\j<=2 ^ 24 then mS b (Ot j) M else none
 |_=>none
theorem Fd (a:iE G W ta fa):bP G W (Lr ta) (mB (Hw b) fa):=λσ δ ι M H Q R E h=>
 a σ δ ι M H _ R E (GR.bind h λv H1 ι1 M1 d e1 R1 r1 h1=>by
  unfold Hw at h1;split at h1
  ·rename_i j;split at h1
   ·rename_i hz;cases r1 with
    |cons r rr=>
     cases rr;cases r;exact⟨j,rfl,hz.1,hz.2,uN R1 (Nw j) h1⟩
   ·exact h1.elim
  ·exact h1.elim)
def intsOf:List D->Option (List Int)
 | []=>some []
 |d::r=>match d with
  |.int x=>(intsOf r).map (x::·)
  |_=>none
theorem nX {ks:List Int}(r:VRs G ι η H vs ps):intsOf ps=some ks->vs=ks.map V.int:=VRs.ind (P:=λvs ps=>∀ks,intsOf ps=some ks->vs=ks.map V.int) r (λks e=>by cases e;rfl) (λa _ ih ks h=>by
 unfold intsOf at h;split at h
 ·rename_i x;obtain⟨ks',e,rfl⟩:=Option.map_eq_some_iff.mp h;cases a;rw[ih _ e];rfl
 ·cases h) ks
def gLt:F2:=λx y M=>match x,y with
 |.int i,.int j=>some (.ok (.bl (decide (i<j))) M)
 |.tup ps,.tup qs=>match intsOf ps with
  |some ns=>match intsOf qs with
   |some ms=>some (.ok (.bl (HT.lexLt ns ms)) M)
   |none=>none
  |none=>none
 |_,_=>none
theorem Ng:lJ G (λx y H Q=>rI0 (λi j=>.bl (decide (i<j))) x y H Q\/NB G.K x y H Q) gLt:=λW σ ι M H x y dx dy Q R rx ry h=>by
 unfold gLt at h;split at h
 ·exact .inl ⟨_,_,dS rx,dS ry,h _ H ι Ext.refl R (.bl _)⟩
 ·rename_i ps qs;split at h
  ·rename_i ns hn;split at h
   ·rename_i ms hm;cases rx with
    |tup z n rv=>cases ry with
     |tup z' n' rv'=>
      rw[nX rv hn]at z;rw[nX rv' hm]at z';exact .inr ⟨_,_,ns,ms,rfl,rfl,Xd.of z,Xd.of z',h _ H ι Ext.refl R (.bl _)⟩
   ·exact h.elim
  ·exact h.elim
 ·exact h.elim
def OK:FN:=λds M=>match ds with
 | [d]=>match jL M d with
  |some ps=>match intsOf ps with
   |some ns=>some (.ok (.int ns.sum) M)
   |none=>none
  |none=>none
 |_=>none
theorem Jd:sZ G QA OK:=λW σ ι M H vs ds Q R r h=>by
 unfold OK at h;split at h
 ·rename_i d;split at h
  ·rename_i ps e;split at h
   ·rename_i ns en;cases r with
    |cons r0 r=>
     cases r;obtain⟨a,us,rfl,hv,rv⟩:=jV R r0 e;rw[nX rv en]at hv;exact⟨a,ns,rfl,hv,h _ H ι Ext.refl R (.int _)⟩
   ·exact h.elim
  ·exact h.elim
 ·exact h.elim
theorem G6 {ι:List Addr}{M:MS}:∀{ts:List Addr}{vs us:List V}{ps qs:List D}{H:Hp},ts.length=min vs.length us.length->ts.Nodup->(∀b∈ts,H b=none)->Rel G ι M H->XG G ι H vs ps->XG G ι H us qs->
  Ext ι H ι (pk ts (vs.zip us) H)/\Rel G ι M (pk ts (vs.zip us) H)/\XG G ι (pk ts (vs.zip us) H) (ts.map V.ref) (qS ps qs)
 | [],vs,us,ps,qs,H,l,nd,fr,R,rv,ru=>by
  have hz:qS ps qs=[]:=by
   have l1:=rv.length;have l2:=ru.length;simp only[cY]at l;rcases Nat.le_total vs.length us.length with q |q
   ·have:ps=[]:=List.length_eq_zero_iff.mp (by lia);subst this;rfl
   ·have:qs=[]:=List.length_eq_zero_iff.mp (by lia);subst this;unfold qS;simp
  rw[hz];exact⟨Ext.refl,R,.nil⟩
 |t::ts,[],us,ps,qs,H,l,nd,fr,R,rv,ru=>by simp at l
 |t::ts,v::vs,[],ps,qs,H,l,nd,fr,R,rv,ru=>by simp at l
 |t::ts,v::vs,u::us,_,_,H,l,nd,fr,R,.cons a rv,.cons b ru=>by
  obtain⟨e,R',rz⟩:=G6 (ts:=ts) (by simp at l;lia) (List.nodup_cons.mp nd).2 (λb hb=>fr b (aJ _ hb)) R rv ru;have ht:pk ts (vs.zip us) H t=none:=by rw[jM (List.nodup_cons.mp nd).1];exact fr t aR
  have s:=ig (o:=.tup [v,u]) ht;exact⟨e.trans (Ext.same s),R'.same s,.cons (.tup bu (R'.rN ht) (.cons ((a.ext e).ext (Ext.same s)) (.cons ((b.ext e).ext (Ext.same s)) .nil))) (rz.ext (Ext.same s))⟩
def Hv (r:Bool):FN:=λds M=>match ds with
 | [d,d']=>match jL M d with
  |some ps=>match jL M d' with
   |some qs=>mS r (qS ps qs) M
   |none=>none
  |none=>none
 |_=>none
theorem Fc (a:iE G W ta fa):bP G W (Lq ta) (mB (Hv b) fa):=λσ δ ι M H Q R E h=>
 a σ δ ι M H _ R E (GR.bind h λv H1 ι1 M1 d e1 R1 r1 h1=>by
  unfold Hv at h1;split at h1
  ·rename_i d d';split at h1
   ·rename_i ps e;split at h1
    ·rename_i qs e';cases r1 with
     |cons r r1=>cases r1 with
      |cons r' r1=>
       cases r1;obtain⟨a,us,rfl,hv,rv⟩:=jV R1 r e;obtain⟨b,ws,rfl,hw,XD⟩:=jV R1 r' e';refine⟨a,b,us,ws,rfl,hv,hw,λA ts l nd nA fr=>?_⟩;obtain⟨ex,R2,rz⟩:=G6 l nd (λb hb=>fr b (aJ _ hb)) R1 rv XD;exact(uN R2 rz (GR.ext ex h1)).upd A (by rw[jM nA];exact fr A aR)
    ·exact h1.elim
   ·exact h1.elim
  ·exact h1.elim)
def Ad (i j:Nat)(fa:FA):FS:=λδ M=>sb δ (fa δ M) λds M1=>match ds with
 | [d,e]=>some (.nx ((δ.set i (some d)).set j (some e)) M1)
 |_=>none
theorem Jg {j:Nat}{t:TA}{f:FA}(a:iE G W t f):fY G W (Qb i j t) (Ad i j f):=λE σ δ ι M H R er h=>
 a σ δ ι M H _ R er (GS.bind er h λv H1 ι1 M1 d e1 R1 r1 h1=>by
  split at h1
  ·cases r1 with
   |cons r r1=>cases r1 with
    |cons r' r1=>
     cases r1;exact⟨_,_,rfl,h1 _ H1 ι1 Ext.refl R1 (((er.ext e1).set r i).set r' j)⟩
  ·exact h1.elim)
def fiS (f:FE):FI:=λδ M=>rb (f δ M) λd M1=>match d with
 |.str x=>some (.ok ⟨x.cps.toList.map λc=>D.str ⟨#[c]⟩,none⟩ M1)
 |_=>none
theorem Nl {t:TE}(a:bP G W t f):me G W (RI t) (fiS f):=λσ δ ι M H Q R er h=>
 a σ δ ι M H _ R er (GI.bind h λv H1 ι1 M1 d e1 R1 r1 h1=>by
  split at h1
  ·rename_i x;refine⟨x,iu r1,h1 _ H1 ι1 Ext.refl R1 hZ λζ fz i ι' M' H' ex R' _=>?_⟩;refine⟨λd ed=>?_,λhl=>by simp at hl;exact hl.symm⟩;simp only[bS]at ed;cases q:x.cps.toList[i]? with
   |none=>rw[q]at ed;cases ed
   |some c=>
    rw[q]at ed;cases ed;have hq:x.cps[i]?=some c:=by simpa using q
    refine⟨(Array.getElem?_eq_some_iff.mp hq).1,λv2 H2 y=>?_⟩;obtain⟨rfl,c',hc,rfl⟩:=y;rw[hq]at hc;cases hc;exact⟨Ext.refl,R',.str _⟩
  ·exact h1.elim)
end
end
end
section
noncomputable section
def jo (it:XI)(g:FG)(body:FS):List D->FS
 | [],δ,M=>some (.nx δ M)
 |x::xs,δ,M=>match g x δ M with
  |none=>none
  |some (δ1,M1)=>match body δ1 M1 with
   |some (.nx δ2 M2)=>if jw it M2=true then jo it g body xs δ2 M2 else none
   |some (.ct δ2 M2)=>if jw it M2=true then jo it g body xs δ2 M2 else none
   |some (.bk δ2 M2)=>some (.nx δ2 M2)
   |o=>o
def Kx (fi:FI)(g:FG)(body:FS):FS:=λδ M=>sb δ (fi δ M) λit M1=>jo it g body it.xs δ M1
section
variable {G:Gx}{W:XW}
theorem GI.SE {δ:cO}{Q:It->Hp->Prop}{r:Option (Rs XI)}{k:XI->MS->Option Out}(er:ER G ι H σ δ)(h:GS G W ι H E (sb δ r k))
  (m:∀J H1 ι1 M1 it,Ext ι H ι1 H1->Rel G ι1 M1 H1->Src it M1->JR G ι1 H1 J it->GS G W ι1 H1 E (k it M1)->Q J H1):GI G W ι H σ Q r:=by
 cases r with
 |none=>exact h
 |some r=>cases r with
  |ok a M=>exact λv H' ι' e' R sr q=>m v H' ι' M a e' R sr q (GS.ext e' h)
  |ex c fs M=>exact λx H' ι' e' R q=>h x σ H' ι' e' R (er.ext e') q
theorem Jt {fi:FI}{t:TG}{g:FG}{f:FS}(a:me G W wi fi)(b:oA G t g)(c:fY G W tb f):fY G W (Qf wi t tb) (Kx fi g f):=λE σ δ ι M H R er h=>
 a σ δ ι M H _ R er (GI.SE er h λJ H1 ι1 M1 it e1 R1 sr jr h1=>by
  refine⟨λi m σ' H'=>m=it.xs.length - i/\i<=it.xs.length/\∃ι' δ' M',Ext ι1 H1 ι' H'/\Rel G ι' M' H'/\ER G ι' H' σ' δ'/\Src it M'/\GS G W ι' H' E (jo it g f (it.xs.drop i) δ' M'),
   ⟨_,rfl,bG _,ι1,δ,M1,Ext.refl,R1,er.ext e1,sr,h1⟩,?_⟩
  rintro i m σ' H' ⟨rfl,hi,ι',δ',M',ex,R',er',sr',hg⟩;obtain⟨j1,j2⟩:=jr [] (λ_ z=>absurd z aE) i ι' M' H' ex R' sr'
  by_cases hn:i=it.xs.length
  ·refine .inl ⟨j2 hn.symm,?_⟩;rw[hn,fq]at hg;exact hg σ' H' ι' Ext.refl R' er'
  ·have hl:i<it.xs.length:=by lia
   rw[bU hl]at hg;obtain⟨go,yl⟩:=j1 _ (bB hl);refine .inr ⟨go,λσ2 H2=>∃ι2 δ2 M2,Ext ι1 H1 ι2 H2/\Rel G ι2 M2 H2/\ER G ι2 H2 σ2 δ2/\Src it M2/\GS G W ι2 H2 E (jo it g f (it.xs.drop (i+1)) δ2 M2),?_,?_⟩
   ·rintro σ2 H2 q;exact⟨it.xs.length - (i+1),by lia,rfl,hl,q⟩
   ·intro x H2 y;obtain⟨ey,Ry,ry⟩:=yl x H2 y;refine b x _ σ' δ' ι' M' H2 _ Ry (er'.ext ey) ry ?_;unfold jo at hg;cases eg:g it.xs[i] δ' M' with
    |none=>rw[eg]at hg;exact hg.elim
    |some p=>
     obtain⟨δ1,M1'⟩:=p;rw[eg]at hg;simp only at hg;intro σ3 H3 ι3 e3 R3 er3;refine c _ σ3 δ1 ι3 M1' H3 R3 er3 ?_;have e03:=(ex.trans ey).trans e3;have hg:=GS.ext (ey.trans e3) hg;cases ef:f δ1 M1' with
     |none=>rw[ef]at hg;exact hg.elim
     |some o=>
      rw[ef]at hg;cases o with
      |nx δ2 M2=>
       simp only at hg;split at hg
       ·rename_i sr2;have sr2:=g7 sr2;exact λσ4 H4 ι4 e4 R4 er4=>⟨ι4,δ2,M2,e03.trans e4,R4,er4,sr2,GS.ext e4 hg⟩
       ·exact hg.elim
      |ct δ2 M2=>
       simp only at hg;split at hg
       ·rename_i sr2;have sr2:=g7 sr2;exact λσ4 H4 ι4 e4 R4 er4=>⟨ι4,δ2,M2,e03.trans e4,R4,er4,sr2,GS.ext e4 hg⟩
       ·exact hg.elim
      |bk δ2 M2=>exact hg
      |rt d M2=>exact hg
      |ex c fs δ2 M2=>exact hg)
def jU (c:FT)(body:FS):Nat->FS
 | 0,_,_=>none
 |n+1,δ,M=>sb δ (c δ M) λb M1=>if b=true then (match body δ M1 with
  |some (.nx δ2 M2)=>jU c body n δ2 M2
  |some (.ct δ2 M2)=>jU c body n δ2 M2
  |some (.bk δ2 M2)=>some (.nx δ2 M2)
  |o=>o) else some (.nx δ M1)
theorem CK {c:TT}{f:FS}(k:Nat)(a:gF G W c ft)(b:fY G W tb f):fY G W (zi c tb) (jU ft f k):=λE σ δ ι M H R er h=>by
 refine⟨λm σ' H'=>∃ι' δ' M',Ext ι H ι' H'/\Rel G ι' M' H'/\ER G ι' H' σ' δ'/\GS G W ι' H' E (jU ft f m δ' M'),⟨k,ι,δ,M,Ext.refl,R,er,h⟩,?_⟩;rintro m σ' H' ⟨ι',δ',M',ex,R',er',hg⟩;cases m with
 |zero=>exact hg.elim
 |succ m=>
  refine a σ' δ' ι' M' H' _ R' er' (GS.bind er' hg λv H1 ι1 M1 d e1 R1 r1 h1=>?_);obtain rfl:v=d:=r1;cases v with
  |false=>exact h1 σ' H1 ι1 Ext.refl R1 (er'.ext e1)
  |true=>
   rw[if_pos rfl]at h1;rw[if_pos rfl];refine⟨λσ2 H2=>∃ι2 δ2 M2,Ext ι H ι2 H2/\Rel G ι2 M2 H2/\ER G ι2 H2 σ2 δ2/\GS G W ι2 H2 E (jU ft f m δ2 M2),λσ2 H2 q=>⟨m,cF m,q⟩,?_⟩;refine b _ σ' δ' ι1 M1 H1 R1 (er'.ext e1) ?_;have e01:=ex.trans e1;cases ef:f δ' M1 with
   |none=>rw[ef]at h1;exact h1.elim
   |some o=>
    rw[ef]at h1;cases o with
    |nx δ2 M2=>exact λσ4 H4 ι4 e4 R4 er4=>⟨ι4,δ2,M2,e01.trans e4,R4,er4,GS.ext e4 h1⟩
    |ct δ2 M2=>exact λσ4 H4 ι4 e4 R4 er4=>⟨ι4,δ2,M2,e01.trans e4,R4,er4,GS.ext e4 h1⟩
    |bk δ2 M2=>exact h1
    |rt d M2=>exact h1
    |ex c fs δ2 M2=>exact h1
end
def WF:XW:=λ_ _ _=>False
def dH (nv:Nat)(ix:List Nat)(δ:cO):cO:=bg nv none++ix.map λi=>δ.getD i none
def de (it:XI)(g:FG)(c:FT)(e:FE):List D->cO->MS->Option (List D×MS)
 | [],_,M=>some ([],M)
 |x::xs,δ,M=>match g x δ M with
  |none=>none
  |some (δ1,M1)=>match c δ1 M1 with
   |some (.ok false M2)=>if jw it M2=true then de it g c e xs δ1 M2 else none
   |some (.ok true M2)=>match e δ1 M2 with
    |some (.ok p M3)=>if jw it M3=true then match de it g c e xs δ1 M3 with
      |some (ps,M4)=>some (p::ps,M4)
      |none=>none
     else none
    |_=>none
   |_=>none
def uV (own:Bool)(fi:FI)(g:FG)(c:FT)(e:FE)(nv:Nat)(ix:List Nat):FE:=λδ M=>rb (fi δ M) λit M1=>
 match de it g c e it.xs (dH nv ix δ) M1 with
 |some (ps,M2)=>if ps.length<=au then mS own ps M2 else none
 |none=>none
def Dx (g:FG)(e:FE):List D->cO->MS->Option (List D×cO×MS)
 | [],δ,M=>some ([],δ,M)
 |x::xs,δ,M=>match g x δ M with
  |none=>none
  |some (δ1,M1)=>match e δ1 M1 with
   |some (.ok p M2)=>match Dx g e xs δ1 M2 with
    |some (ps,δ',M')=>some (p::ps,δ',M')
    |none=>none
   |_=>none
def outF (it:XI)(g:FG)(f2:FE)(g2:FG)(e:FE):List D->cO->MS->Option (List D×MS)
 | [],_,M=>some ([],M)
 |x::xs,δ,M=>match g x δ M with
  |none=>none
  |some (δ1,M1)=>match f2 δ1 M1 with
   |some (.ok (.lst us) M2)=>match Dx g2 e us δ1 M2 with
    |some (ps,δ3,M3)=>if jw it M3=true then (match outF it g f2 g2 e xs δ3 M3 with
     |some (qs,M4)=>some (ps++qs,M4)
     |none=>none) else none
    |none=>none
   |_=>none
def wm (own:Bool)(fi:FI)(g:FG)(f2:FE)(g2:FG)(e:FE)(nv:Nat)(ix:List Nat):FE:=λδ M=>rb (fi δ M) λit M1=>
 match outF it g f2 g2 e it.xs (dH nv ix δ) M1 with
 |some (ps,M2)=>if ps.length<=au then mS own ps M2 else none
 |none=>none
def Es:FT:=λ_ M=>some (.ok true M)
section
variable {G:Gx}{W:XW}
theorem E6:gF G W xB Es:=λσ δ ι M H Q R er h=>h true H ι Ext.refl R rfl
theorem lE {δ:cO}(er:ER G ι H σ δ)(nv:Nat)(ix:List Nat):ER G ι H (eE nv ix σ) (dH nv ix δ):=by
 refine⟨by simp[eE,dH],λi d e=>?_⟩;unfold dH at e;unfold eE
 by_cases hi:i<nv
 ·rw[ba (by simpa using hi)]at e;rw[hU,if_pos hi]at e;cases e
 ·rw[dm (by simp;lia)]at e ⊢;simp only[oB,bS]at e ⊢;cases q:ix[i - nv]? with
  |none=>rw[q]at e;cases e
  |some j=>
   rw[q]at e;simp only[cy,Option.some.injEq]at e ⊢;have ej:δ[j]?=some (some d):=by
    rw[dr]at e;cases q2:δ[j]? with
    |none=>rw[q2]at e;cases e
    |some o=>rw[q2]at e;simp at e;rw[e]
   obtain⟨v,hv,r⟩:=er.2 j d ej;exact⟨v,by rw[dr,hv];rfl,r⟩
theorem GI.bindR {Q:It->Hp->Prop}{r:Option (Rs XI)}{k:XI->MS->Option (Rs D)}(h:GR G (RV G) W ι H σ Qr (rb r k))
  (m:∀J H1 ι1 M1 it,Ext ι H ι1 H1->Rel G ι1 M1 H1->Src it M1->JR G ι1 H1 J it->GR G (RV G) W ι1 H1 σ Qr (k it M1)->Q J H1):GI G W ι H σ Q r:=by
 cases r with
 |none=>exact h
 |some r=>cases r with
  |ok a M=>exact λv H' ι' e' R sr q=>m v H' ι' M a e' R sr q (GR.ext e' h)
  |ex c fs M=>exact h
theorem ie {x:Addr}:Mv ι ((G.WU [x]).η++ι) H (ι++[x]) (G.η++(ι++[x])) H:=⟨λk a h=>by rw[ba (List.getElem?_eq_some_iff.mp h).1];exact h,λa o h n=>⟨h,λz=>n (by
  simp only[List.mem_append,aV,aE,or_false]at z ⊢;rcases z with z |z |z
  ·exact .inl (.inr z)
  ·exact .inr z
  ·exact .inl (.inl z))⟩⟩
theorem Rel.shown {x:Addr}(R:Rel (G.WU [x]) ι M H)(hn:x∉ι)(hv:H x=some (.lst vs))(r:XG (G.WU [x]) ι H vs ps):Rel G (ι++[x]) (M++[.lst ps]) H:=by
 refine⟨by simp[R.len],List.nodup_append.mpr ⟨R.nd,by simp,λa ha b hb z=>by simp at hb;subst z;subst hb;exact hn ha⟩,λk a m h1 h2=>?_,λa h=>R.WU a (aD _ h)⟩
 by_cases hk:k<ι.length
 ·rw[ba hk]at h1;rw[ba (by rw[←R.len];exact hk)]at h2;exact OR.mv (G:=G.WU [x]) (G':=G) rfl rfl rfl (R.at' k a m h1 h2) rfl (λr=>(r.mv (G:=G.WU [x]) ie).at G.η) (λr=>(r.mv (G:=G.WU [x]) ie).at G.η) (λr=>(r.mv (G:=G.WU [x]) ie).at G.η)
 ·have e1:k=ι.length:=by
   have:=(List.getElem?_eq_some_iff.mp h1).1;simp at this
   lia
  subst e1;simp at h1;subst h1;rw[R.len]at h2;simp at h2;subst h2;exact⟨vs,hv,(r.mv (G:=G.WU [x]) ie).at G.η⟩
inductive LIv (G:Gx)(A:Addr)(ι1:List Addr)(H1:Hp)(it:XI)(o:HO)(P:List Addr->cO->MS->Hp->Prop)(i m:Nat)(σ:St)(H:Hp):Prop
 |mk (ι:List Addr) (δ:cO) (M:MS):m=it.xs.length - i->i<=it.xs.length->H A=some o->Ext ι1 H1 ι H->A∉ι->Rel (G.WU [A]) ι M H->ER (G.WU [A]) ι H σ δ->Src it M->P ι δ M H->LIv G A ι1 H1 it o P i m σ H
theorem xJ {fi:FI}{t:TG}{g:FG}{c:FT}{e:FE}(a:me G W wi fi)(hg:∀ζ,oA (G.WU ζ) t g)(hc:∀ζ,gF (G.WU ζ) WF tc c)(he:∀ζ,bP (G.WU ζ) WF te e):
  bP G W (xC wi t tc te ep ix) (uV r fi g c e ep ix):=λσ δ ι M H Q R er h=>
 a σ δ ι M H _ R er (GI.bindR h λJ H1 ι1 M1 it e1 R1 sr jr h1=>by
  intro A hD;cases ec:de it g c e it.xs (dH ep ix δ) M1 with
  |none=>rw[ec]at h1;exact h1.elim
  |some pr=>
   obtain⟨tot,ME⟩:=pr;rw[ec]at h1;simp only at h1;split at h1
   ·rename_i hz;have fz:∀a∈[A],H1 a=none:=λa z=>by simp at z;rw[z];exact hD
    have hη:A∈(G.WU [A]).η:=by simp
    have R0:Rel (G.WU [A]) ι1 M1 (upd H1 A (.lst [])):=R1.hide hD;have er0:ER (G.WU [A]) ι1 (upd H1 A (.lst [])) (eE ep ix σ) (dH ep ix δ):=((lE (er.ext e1) ep ix).hide fz).hidden hη;refine⟨λi m ys=>LIv G A ι1 H1 it (.lst ys) (λι δ M H=>∃acc rest,XG (G.WU [A]) ι H ys acc/\de it g c e (it.xs.drop i) δ M=some (rest,ME)/\acc++rest=tot) i m,
     ⟨_,.mk ι1 (dH ep ix δ) M1 rfl (bG _) bu (Ext.refl.tF hD) (R1.out hD) R0 er0 sr ⟨[],tot,.nil,ec,rfl⟩⟩,?_⟩
    rintro i m ys σ' H' ⟨ι',δ',M',rfl,hi,hDy,ex,nD,R',er',sr',acc,rest,rys,WQ,ae8⟩;obtain⟨j1,j2⟩:=jr [A] fz i ι' M' H' ex R' sr';have hlen:ys.length+rest.length<=au:=by rw[rys.length,←bE,ae8];exact hz
    by_cases hn:i=it.xs.length
    ·refine .inl ⟨j2 hn.symm,?_⟩;rw[hn,fq]at WQ;unfold de at WQ;cases WQ;rw[bN]at ae8;subst ae8;unfold mS at h1;split at h1
     ·refine h1 _ H' (ι'++[A]) ⟨ex.pre.trans (gX _ _),ex.keep,λb z n=>?_⟩ (R'.shown nD hDy rys) (.ref (by rw[←R'.len];simp));rcases List.mem_append.mp z with z |z
      ·exact ex.new b z n
      ·simp at z;rw[z];exact hD
     ·refine h1 _ H' ι' ex R'.fA (.lst hDy (λz=>?_) rys.fA);rcases List.mem_append.mp z with z |z
      ·obtain⟨o,q⟩:=R1.WU A z;rw[hD]at q;cases q
      ·exact nD z
    ·have hl:i<it.xs.length:=by lia
     rw[bU hl]at WQ;obtain⟨go,yl⟩:=j1 _ (bB hl);refine .inr ⟨go,λx H2 y=>?_⟩;obtain⟨ey,Ry,ry⟩:=yl x H2 y;have dk:∀{ι2 H2},Ext ι' H' ι2 H2->H2 A=some (.lst ys)/\A∉ι2:=λe2=>⟨e2.keep _ _ hDy nD,e2.out hDy nD⟩;refine hg [A] x _ σ' δ' ι' M' H2 _ Ry (er'.ext ey) ry ?_;unfold de at WQ;cases eg:g it.xs[i] δ' M' with
     |none=>rw[eg]at WQ;cases WQ
     |some p=>
      obtain⟨δ1,M2⟩:=p;rw[eg]at WQ;simp only at WQ;intro σ3 H3 ι3 e3 R3 er3;refine hc [A] σ3 δ1 ι3 M2 H3 _ R3 er3 ?_;cases ef:c δ1 M2 with
      |none=>rw[ef]at WQ;cases WQ
      |some o=>cases o with
       |ex cc fs M3=>rw[ef]at WQ;cases WQ
       |ok bb M3=>
        rw[ef]at WQ;intro b H4 ι4 e4 R4 rb4;obtain rfl:b=bb:=rb4;have e04:=(ey.trans e3).trans e4;cases b with
        |false=>
         simp only at WQ;rw[if_neg (by decide)];split at WQ
         ·rename_i sr4;have sr4:=g7 sr4;exact⟨it.xs.length - (i+1),by lia,.mk ι4 δ1 M3 rfl hl (dk e04).1 (ex.trans e04) (dk e04).2 R4 (er3.ext e4) sr4 ⟨acc,rest,rys.ext e04,WQ,ae8⟩⟩
         ·cases WQ
        |true=>
         simp only at WQ;rw[if_pos rfl];refine he [A] σ3 δ1 ι4 M3 H4 _ R4 (er3.ext e4) ?_;cases ee:e δ1 M3 with
         |none=>rw[ee]at WQ;cases WQ
         |some o=>cases o with
          |ex cc fs M4=>rw[ee]at WQ;cases WQ
          |ok p M4=>
            rw[ee]at WQ;simp only at WQ;intro u H5 ι5 e5 R5 r5;have e05:=e04.trans e5;split at WQ
            ·rename_i sr5;have sr5:=g7 sr5;split at WQ
             ·rename_i ps M6 er6;cases WQ;have hyl:ys.length<au:=by simp at hlen;lia
              refine⟨(dk e05).1,hyl,it.xs.length - (i+1),by lia,.mk ι5 δ1 M4 rfl hl bu ((ex.trans e05).tF hD) (dk e05).2 (R5.hidden hη (dk e05).2) (((er3.ext e4).ext e5).hidden hη) sr5 ⟨acc++[p],ps,?_,er6,by rw[←ae8];simp⟩⟩;exact((rys.ext e05).append (.cons r5 .nil)).mv (gy hη)
             ·cases WQ
            ·cases WQ
   ·exact h1.elim)
theorem uB {fi:FI}{t t2:TG}{g g2:FG}{e:FE}(a:me G W wi fi)(hg:∀ζ,oA (G.WU ζ) t g)(hi2:∀ζ,bP (G.WU ζ) WF to f)(hg2:∀ζ,oA (G.WU ζ) t2 g2)(he:∀ζ,bP (G.WU ζ) WF te e):
  bP G W (zy wi t (B5 G.K to) t2 te ep ix) (wm r fi g f g2 e ep ix):=λσ δ ι M H Q R er h=>
 a σ δ ι M H _ R er (GI.bindR h λJ H1 ι1 M1 it e1 R1 sr jr h1=>by
  intro A hD;cases ec:outF it g f g2 e it.xs (dH ep ix δ) M1 with
  |none=>rw[ec]at h1;exact h1.elim
  |some pr=>
   obtain⟨tot,ME⟩:=pr;rw[ec]at h1;simp only at h1;split at h1
   ·rename_i hz;have fz:∀a∈[A],H1 a=none:=λa z=>by simp at z;rw[z];exact hD
    have hη:A∈(G.WU [A]).η:=by simp
    have R0:Rel (G.WU [A]) ι1 M1 (upd H1 A (.lst [])):=R1.hide hD;have er0:ER (G.WU [A]) ι1 (upd H1 A (.lst [])) (eE ep ix σ) (dH ep ix δ):=((lE (er.ext e1) ep ix).hide fz).hidden hη;refine⟨λi m ys=>LIv G A ι1 H1 it (.lst ys) (λι δ M H=>∃acc rest,XG (G.WU [A]) ι H ys acc/\outF it g f g2 e (it.xs.drop i) δ M=some (rest,ME)/\acc++rest=tot) i m,
     ⟨_,.mk ι1 (dH ep ix δ) M1 rfl (bG _) bu (Ext.refl.tF hD) (R1.out hD) R0 er0 sr ⟨[],tot,.nil,ec,rfl⟩⟩,?_⟩
    rintro i m ys σ' H' ⟨ι',δ',M',rfl,hi,hDy,ex,nD,R',er',sr',acc,rest,rys,WQ,ae8⟩;obtain⟨j1,j2⟩:=jr [A] fz i ι' M' H' ex R' sr'
    by_cases hn:i=it.xs.length
    ·refine .inl ⟨j2 hn.symm,?_⟩;rw[hn,fq]at WQ;unfold outF at WQ;cases WQ;rw[bN]at ae8;subst ae8;unfold mS at h1;split at h1
     ·refine h1 _ H' (ι'++[A]) ⟨ex.pre.trans (gX _ _),ex.keep,λb z n=>?_⟩ (R'.shown nD hDy rys) (.ref (by rw[←R'.len];simp));rcases List.mem_append.mp z with z |z
      ·exact ex.new b z n
      ·simp at z;rw[z];exact hD
     ·refine h1 _ H' ι' ex R'.fA (.lst hDy (λz=>?_) rys.fA);rcases List.mem_append.mp z with z |z
      ·obtain⟨o,q⟩:=R1.WU A z;rw[hD]at q;cases q
      ·exact nD z
    ·have hl:i<it.xs.length:=by lia
     rw[bU hl]at WQ;obtain⟨go,yl⟩:=j1 _ (bB hl);refine .inr ⟨go,λx H2 y=>?_⟩;obtain⟨ey,Ry,ry⟩:=yl x H2 y;refine hg [A] x _ σ' δ' ι' M' H2 _ Ry (er'.ext ey) ry ?_;unfold outF at WQ;cases eg:g it.xs[i] δ' M' with
     |none=>rw[eg]at WQ;cases WQ
     |some p=>
      obtain⟨δ1,M2⟩:=p;rw[eg]at WQ;simp only at WQ;intro σ3 H3 ι3 e3 R3 er3;refine hi2 [A] σ3 δ1 ι3 M2 H3 _ R3 er3 ?_;cases ef:f δ1 M2 with
      |none=>rw[ef]at WQ;cases WQ
      |some o=>cases o with
       |ex cc fs M3=>rw[ef]at WQ;cases WQ
       |ok dl M3=>
        rw[ef]at WQ;cases dl with
        |lst us=>
         simp only at WQ;cases ei:Dx g2 e us δ1 M3 with
         |none=>rw[ei]at WQ;cases WQ
         |some pr2=>
          obtain⟨qs,δE,M4⟩:=pr2;rw[ei]at WQ;simp only at WQ;split at WQ
          ·rename_i srE;have srE:=g7 srE;split at WQ
           ·rename_i qs' M5 eo;cases WQ;intro v4 H4 ι4 e4 R4 r4;have e04:=(ey.trans e3).trans e4;have hDy4:H4 A=some (.lst ys):=e04.keep _ _ hDy nD;have nD4:A∉ι4:=e04.out hDy nD;have hlen:ys.length+(qs.length+qs'.length)<=au:=by rw[rys.length,←bE,←bE,ae8];exact hz
            cases r4 with
            | @lst al vl _ zl nl rl=>
            refine⟨al,rfl,⟨vl,Xc.of zl⟩,λj n zs=>LIv G A ι1 H1 ⟨us,none⟩ (.lst zs) (λι δ M H=>∃au5 ap2,RV (G.WU [A]) ι H (.ref al) (.lst us)/\XG (G.WU [A]) ι H zs au5/\Dx g2 e (us.drop j) δ M=some (ap2,δE,M4)/\au5++ap2=acc++qs) j n,
             ⟨_,.mk ι4 δ1 M3 rfl (bG _) hDy4 (ex.trans e04) nD4 R4 (er3.ext e4) hZ ⟨acc,qs,.lst zl nl rl,rys.ext e04,ei,rfl⟩⟩,?_⟩
            rintro j n zs σ5 H5 ⟨ι5,δ5,N,rfl,hj,hz5,ex5,nD5,R5,er5,_,au5,ap2,rl5,rz5,XN,hac⟩;simp only at hj;cases rl5 with
            | @lst _ vl5 _ zl5 nl5 rl5=>
            by_cases hjn:j=us.length
            ·refine .inl ⟨⟨vl5,Xc.of zl5,by rw[rl5.length];lia⟩,it.xs.length - (i+1),by lia,?_⟩;rw[hjn,fq]at XN;unfold Dx at XN;cases XN;rw[bN]at hac;subst hac;exact .mk ι5 _ _ rfl hl hz5 ex5 nD5 R5 er5 srE ⟨acc++qs,qs',rz5,eo,by rw[ug];exact ae8⟩
            ·have hjl:j<us.length:=by lia
             rw[bU hjl]at XN;obtain⟨u5,hu5,ru5⟩:=rl5.get (bB hjl);refine .inr ⟨⟨vl5,u5,Xc.of zl5,hu5⟩,λx2 H6 yy=>?_⟩;obtain⟨rfl,yy⟩:=yy;have:=yy vl5 (Xc.of zl5);rw[hu5]at this;cases this;refine hg2 [A] u5 _ σ5 δ5 ι5 N H6 _ R5 er5 ru5 ?_;unfold Dx at XN;cases eg2:g2 us[j] δ5 N with
             |none=>rw[eg2]at XN;cases XN
             |some p2=>
              obtain⟨δ7,N7⟩:=p2;rw[eg2]at XN;simp only at XN;intro σ7 H7 ι7 e7 R7 er7;refine he [A] σ7 δ7 ι7 N7 H7 _ R7 er7 ?_;cases ee:e δ7 N7 with
              |none=>rw[ee]at XN;cases XN
              |some o=>cases o with
               |ex cc fs M8=>rw[ee]at XN;cases XN
               |ok p8 M8=>
                rw[ee]at XN;simp only at XN;intro u8 H8 ι8 e8 R8 r8;have e58:=e7.trans e8;have hz8:H8 A=some (.lst zs):=e58.keep _ _ hz5 nD5;have nD8:A∉ι8:=e58.out hz5 nD5;split at XN
                ·rename_i ps8 δ8 M9 er8;cases XN;have hzl:zs.length<au:=by
                  have q1:=congrArg List.length hac;simp only[bE,aN]at q1;rw[rz5.length];rw[rys.length]at hlen
                  lia
                 refine⟨hz8,hzl,us.length - (j+1),by simp only;lia,.mk ι8 δ7 M8 rfl hjl bu ((ex5.trans e58).tF hD) nD8 (R8.hidden hη nD8) ((er7.ext e8).hidden hη) hZ ⟨au5++[p8],ps8,?_,?_,er8,by rw[←hac];simp⟩⟩
                 ·exact((VR.lst zl5 nl5 rl5).ext e58).mv (gy hη)
                 ·exact((rz5.ext e58).append (.cons r8 .nil)).mv (gy hη)
                ·cases XN
           ·cases WQ
          ·cases WQ
        |_=>cases WQ
   ·exact h1.elim)
end
end
end
section
noncomputable section
def D.pure (d:D):Bool:=d.allR λ_=>false
def fw (ds:List D):Bool:=Yj (λ_=>false) ds
def xS (ds:List (Key×D)):Bool:=Yp (λ_=>false) ds
def nJ (ds:List (Str×D)):Bool:=Yl (λ_=>false) ds
section
variable {G:Gx}{ι ι' ξ ξ':List Addr}{H H':Hp}
theorem VR.cR (hs:∀a,a∈ξ'->a∈ξ){d:D}(h:VR G ι ξ H v d)(p:d.pure=true):VR G ι' ξ' H v d:=h.mapA G.η (λ_ _ z=>YM z) (λa o z n=>⟨z,λm=>n (hs a m)⟩) p
theorem VRs.cR (hs:∀a,a∈ξ'->a∈ξ){v:List V}{d:List D}(h:VRs G ι ξ H v d)(p:fw d=true):VRs G ι' ξ' H v d:=h.mapA G.η (λ_ _ z=>YM z) (λa o z n=>⟨z,λm=>n (hs a m)⟩) p
theorem VRk.cR (hs:∀a,a∈ξ'->a∈ξ){v:List (Key×V)}{d:List (Key×D)}(h:VRk G ι ξ H v d)(p:xS d=true):VRk G ι' ξ' H v d:=h.mapA G.η (λ_ _ z=>YM z) (λa o z n=>⟨z,λm=>n (hs a m)⟩) p
theorem VRf.cR (hs:∀a,a∈ξ'->a∈ξ){v:List (Str×V)}{d:List (Str×D)}(h:VRf G ι ξ H v d)(p:nJ d=true):VRf G ι' ξ' H v d:=h.mapA G.η (λ_ _ z=>YM z) (λa o z n=>⟨z,λm=>n (hs a m)⟩) p
section
variable {ι0 ξ0:List Addr}{H0:Hp}(hp:∀(k:Nat)(a:Addr),k<ι0.length->ι[k]?=some a->ι'[k]?=some a)(hs:∀a,a∈ξ'->a∈ξ)
include hp hs
theorem VRs.cut {v:List V}{d:List D}(h:VRs G ι ξ H v d)(h0:VRs G ι0 ξ0 H0 vs d):VRs G ι' ξ' H v d:=h.mapA G.η (λk a q=>hp k a (of_decide_eq_true q)) (λa o z n=>⟨z,λm=>n (hs a m)⟩) h0.YI
theorem VRk.cut {v:List (Key×V)}{d:List (Key×D)}(h:VRk G ι ξ H v d)(h0:VRk G ι0 ξ0 H0 kvs d):VRk G ι' ξ' H v d:=h.mapA G.η (λk a q=>hp k a (of_decide_eq_true q)) (λa o z n=>⟨z,λm=>n (hs a m)⟩) h0.YI
theorem VRf.cut {v:List (Str×V)}{d:List (Str×D)}(h:VRf G ι ξ H v d)(h0:VRf G ι0 ξ0 H0 v0 d):VRf G ι' ξ' H v d:=h.mapA G.η (λk a q=>hp k a (of_decide_eq_true q)) (λa o z n=>⟨z,λm=>n (hs a m)⟩) h0.YI
end
end
def fZ.flat:fZ->Bool
 |.lst xs=>fw xs
 |.XF kvs=>xS kvs
 |.set _=>true
 |.ins _ fs=>nJ fs
def pN (M M':MS):Prop:=∀(k:Nat)(m:fZ),k<M.length->M'[k]?=some m->M[k]?=some m\/m.flat=true
def Dl {α β:Type}(f:α->Option β):List α->Option (List β)
 | []=>some []
 |x::xs=>match f x with
  |some y=>match Dl f xs with
   |some ys=>some (y::ys)
   |none=>none
  |none=>none
def zY {κ:Type}(f:D->Option D):List (κ×D)->Option (List (κ×D))
 | []=>some []
 | (k,x)::xs=>match f x with
  |some y=>match zY f xs with
   |some ys=>some ((k,y)::ys)
   |none=>none
  |none=>none
def fz:Nat->Nat->MS->D->Option D
 | 0,_,_,_=>none
 |f+1,n,M,d=>if d.pure=true then some d else match d with
  |.ref k=>if k<n then some (.ref k) else match M[k]? with
   |some (.lst xs)=>match Dl (fz f n M) xs with
    |some ys=>some (.lst ys)
    |none=>none
   |some (.XF kvs)=>match zY (fz f n M) kvs with
    |some ys=>some (.XF ys)
    |none=>none
   |some (.ins c fs)=>match zY (fz f n M) fs with
    |some ys=>some (.ins c ys)
    |none=>none
   |_=>none
  |.lst xs=>match Dl (fz f n M) xs with
   |some ys=>some (.lst ys)
   |none=>none
  |.tup xs=>match Dl (fz f n M) xs with
   |some ys=>some (.tup ys)
   |none=>none
  |_=>none
section
variable {G:Gx}{ι ι':List Addr}{M M':MS}{H H':Hp}
theorem GL {k:Nat}(nd:ι'.Nodup)(h:ι'[k]?=some a)(hn:n<=k):a∉ι'.take n:=λz=>by
 obtain⟨j,hj⟩:=pS z;rw[kl]at hj;split at hj
 ·rename_i hjl;have l1:=(List.getElem?_eq_some_iff.mp hj).1;have:=(List.getElem?_inj l1 nd).mp (hj.trans h.symm)
  lia
 ·cases hj
theorem rJ (e:ι <+:ι'):ι'.take ι.length=ι:=by
 obtain⟨t,rfl⟩:=e;simp
theorem Ext.xX (R0:Rel G ι M H)(e:Ext ι H ι' H')(h:a∈ι')(n:a∉ι):a∉G.η++ι:=λz=>by
 rcases List.mem_append.mp z with z |z
 ·obtain⟨o,q⟩:=R0.WU a z;rw[e.new a h n]at q;cases q
 ·exact n z
theorem g6 (e:ι <+:ι'):∀a,a∈G.η++ι->a∈G.η++ι':=λa z=>(List.mem_append.mp z).elim (cm _) λz=>aD _ (e.subset z)
section
variable {g:D->Option D}(hf:∀(d:D)(v:V)(d':D),g d=some d'->RV G ι' H' v d->RV G ι H' v d')
include hf
theorem wI (ds:List D)(vs:List V)(XA:List D)(h:Dl g ds=some XA)(r:VRs G ι' (G.η++ι') H' vs ds):VRs G ι (G.η++ι) H' vs XA:=VRs.ind (P:=λvs ds=>∀XA,Dl g ds=some XA->VRs G ι (G.η++ι) H' vs XA) r (λ_ h=>by cases h;exact .nil) (λa _ ih XA h=>by
 rw[Dl]at h;split at h
 ·rename_i y e1;split at h
  ·rename_i ys e2;cases h;exact .cons (hf _ _ _ e1 a) (ih _ e2)
  ·cases h
 ·cases h) XA h
theorem Hz (ds:List (Key×D))(vs:List (Key×V))(XA:List (Key×D))(h:zY g ds=some XA)(r:VRk G ι' (G.η++ι') H' vs ds):VRk G ι (G.η++ι) H' vs XA:=VRk.ind (P:=λvs ds=>∀XA,zY g ds=some XA->VRk G ι (G.η++ι) H' vs XA) r (λ_ h=>by cases h;exact .nil) (λa _ ih XA h=>by
 rw[zY]at h;split at h
 ·rename_i y e1;split at h
  ·rename_i ys e2;cases h;exact .cons (hf _ _ _ e1 a) (ih _ e2)
  ·cases h
 ·cases h) XA h
theorem HA (ds:List (Str×D))(vs:List (Str×V))(XA:List (Str×D))(h:zY g ds=some XA)(r:VRf G ι' (G.η++ι') H' vs ds):VRf G ι (G.η++ι) H' vs XA:=VRf.ind (P:=λvs ds=>∀XA,zY g ds=some XA->VRf G ι (G.η++ι) H' vs XA) r (λ_ h=>by cases h;exact .nil) (λa _ ih XA h=>by
 rw[zY]at h;split at h
 ·rename_i y e1;split at h
  ·rename_i ys e2;cases h;exact .cons (hf _ _ _ e1 a) (ih _ e2)
  ·cases h
 ·cases h) XA h
end
theorem Mc (R0:Rel G ι M H)(e:Ext ι H ι' H')(R:Rel G ι' M' H'):∀(f:Nat)(d:D)(v:V)(d':D),fz f ι.length M' d=some d'->RV G ι' H' v d->RV G ι H' v d'
 | 0,_,_,_,h,_=>by cases h
 |f+1,d,v,d',h,r=>by
  unfold fz at h;split at h
  ·rename_i hp;cases h;exact r.cR (g6 e.pre) hp
  ·have ih:=Mc R0 e R f;split at h
   ·rename_i k _;split at h
    ·rename_i hk;cases h;cases r with
     |ref z=>
      refine .ref ?_;rw[←rJ e.pre,kl,if_pos hk];exact z
    ·rename_i hk;have nin:∀{a:Addr},ι'[k]?=some a->a∉G.η++ι:=λz=>Ext.xX R0 e (bH z) (by rw[←rJ e.pre];exact GL R.nd z (by lia));split at h
     ·rename_i q;obtain⟨a,rfl,ha,vs,hv,rv⟩:=dR R r q;split at h
      ·rename_i e2;cases h;exact .lst hv (nin ha) (wI ih _ _ _ e2 rv)
      ·cases h
     ·rename_i q;obtain⟨a,rfl,ha,vs,hv,rv⟩:=dR R r q;split at h
      ·rename_i e2;cases h;exact .XF hv (nin ha) (Hz ih _ _ _ e2 rv)
      ·cases h
     ·rename_i q;obtain⟨a,rfl,ha,dx,vs,hv,rv⟩:=dR R r q;split at h
      ·rename_i e2;cases h;exact .ins hv (nin ha) (HA ih _ _ _ e2 rv)
      ·cases h
     ·cases h
   ·split at h
    ·rename_i e2;cases h;cases r with
     |lst z n rv=>exact .lst z (λm=>n (g6 e.pre _ m)) (wI ih _ _ _ e2 rv)
    ·cases h
   ·split at h
    ·rename_i e2;cases h;cases r with
     |tup z n rv=>exact .tup z (λm=>n (g6 e.pre _ m)) (wI ih _ _ _ e2 rv)
    ·cases h
   ·cases h
theorem Rel.back (R0:Rel G ι M H)(e:Ext ι H ι' H')(R:Rel G ι' M' H')(st:pN M M'):Rel G ι (M'.take ι.length) H':=by
 have hl:ι.length<=M'.length:=by rw[←R.len];exact e.pre.length_le
 refine⟨by simp[Nat.min_eq_left hl],R0.nd,λk a m h1 h2=>?_,R.WU⟩;have hk:=(List.getElem?_eq_some_iff.mp h1).1;rw[kl,if_pos hk]at h2;have q:=R.at' k a m (nK e.pre h1) h2;have hp:∀(k:Nat)(a:Addr),k<ι.length->ι'[k]?=some a->ι[k]?=some a:=λk a hk z=>by
  rw[←rJ e.pre,kl,if_pos hk];exact z
 rcases st k m (by rw[←R0.len];exact hk) h2 with z |z
 ·have q0:=R0.at' k a m h1 z;cases m with
  |lst ds=>obtain⟨vs,h,r⟩:=q;obtain⟨vs0,h0,r0⟩:=q0;exact⟨vs,h,r.cut hp (g6 e.pre) r0⟩
  |XF ds=>obtain⟨vs,h,r⟩:=q;obtain⟨vs0,h0,r0⟩:=q0;exact⟨vs,h,r.cut hp (g6 e.pre) r0⟩
  |set xs=>exact q
  |ins c fs=>obtain⟨dx,vs,h,r⟩:=q;obtain⟨dx0,vs0,h0,r0⟩:=q0;exact⟨dx,vs,h,r.cut hp (g6 e.pre) r0⟩
 ·cases m with
  |lst ds=>obtain⟨vs,h,r⟩:=q;exact⟨vs,h,r.cR (g6 e.pre) z⟩
  |XF ds=>obtain⟨vs,h,r⟩:=q;exact⟨vs,h,r.cR (g6 e.pre) z⟩
  |set xs=>exact q
  |ins c fs=>obtain⟨dx,vs,h,r⟩:=q;exact⟨dx,vs,h,r.cR (g6 e.pre) z⟩
theorem Ext.back (e:Ext ι H ι' H'):Ext ι H ι H':=⟨ni,e.keep,λa h n=>absurd h n⟩
end
noncomputable def fZ.same (a b:fZ):Bool:=@decide (a=b) (Classical.propDecidable _)
theorem fZ.lQ {a b:fZ}(h:a.same b=true):a=b:=@of_decide_eq_true _ (Classical.propDecidable _) h
def jX:MS->MS->Bool
 |m::M,m'::M'=>(m'.flat||m'.same m)&&jX M M'
 |_,_=>true
theorem mP:∀{M M':MS},jX M M'=true->pN M M'
 | [],M',_=>λk m hk _=>absurd hk (jC _)
 |_::_,[],_=>λk m _ h=>by simp at h
 |m::M,m'::M',h=>λk o hk ho=>by
  rw[jX,ag,cz]at h;cases k with
  |zero=>
   simp only[List.getElem?_cons_zero,Option.some.injEq]at ho ⊢;subst ho;rcases h.1 with q |q
   ·exact .inr q
   ·exact .inl (fZ.lQ q).symm
  |succ k=>
   simp only[List.getElem?_cons_succ]at ho ⊢;exact mP h.2 k o (by simpa using hk) ho
inductive Cl where
 |keep |data
def jP (m:Cl)(M:MS)(d:D)(M':MS):Option (Rs D):=match m with
 |.keep=>some (.ok d M')
 |.data=>if jX M M'=true then match fz 40 M.length M' d with
  |some d'=>some (.ok d' (M'.take M.length))
  |none=>none
  else none
def sN (m:Cl)(M:MS)(c:Str)(fs:List (Str×D))(M':MS):Option (Rs D):=match m with
 |.keep=>some (.ex c fs M')
 |.data=>if jX M M'=true/\nJ fs=true then some (.ex c fs (M'.take M.length)) else none
def mFn (np N:Nat)(m:Cl)(body:FS):FN:=λds M=>if ds.length=np then match body (ds.map some++bg (N - np) none) M with
 |some (.nx _ M')=>jP m M .WN M'
 |some (.rt d M')=>jP m M d M'
 |some (.ex c fs _ M')=>sN m M c fs M'
 |_=>none
 else none
def WE (E:XK):XW:=λx _ H'=>E (.ref x) none H'
def spM (G:Gx)(f:FN):Sp:=λvs H Q E=>∃η ι M ds,Rel (G.at η) ι M H/\XG (G.at η) ι H vs ds/\GR (G.at η) (RV (G.at η)) (WE E) ι H [] Q (f ds M)
section
variable {G:Gx}{W:XW}{ι ι':List Addr}{M:MS}{H H':Hp}{σ:St}{Q:VK}
theorem oj {m:Cl}{d:D}{M':MS}(R0:Rel G ι M H)(h:GR G (RV G) W ι H σ Q (jP m M d M'))(e:Ext ι H ι' H')(R:Rel G ι' M' H')(r:RV G ι' H' v d):Q v H':=by
 cases m with
 |keep=>exact h v H' ι' e R r
 |data=>
  unfold jP at h;simp only at h;split at h
  ·rename_i st;have st:=mP st;split at h
   ·rename_i d' hd;rw[←R0.len]at h hd;exact h v H' ι e.back (R0.back e R st) (Mc R0 e R _ _ _ _ hd r)
   ·exact h.elim
  ·exact h.elim
theorem yQ {m:Cl}{fs:List (Str×D)}{x:Addr}{M':MS}(R0:Rel G ι M H)(h:GR G (RV G) W ι H σ Q (sN m M c fs M'))(e:Ext ι H ι' H')(R:Rel G ι' M' H')(r:XR G ι' H' x c fs):W x σ H':=by
 cases m with
 |keep=>exact h x H' ι' e R r
 |data=>
  unfold sN at h;simp only at h;split at h
  ·rename_i st;rw[←R0.len]at h;exact h x H' ι e.back (R0.back e R (mP st.1)) (r.cR (g6 e.pre) st.2)
  ·exact h.elim
theorem GR.sig {α β:Type}{vr:List Addr->Hp->β->α->Prop}{E:XK}{σ':St}{Q:β->Hp->Prop}{r:Option (Rs α)}(h:GR G vr (WE E) ι H σ Q r):GR G vr (WE E) ι H σ' Q r:=by
 cases r with
 |none=>exact h
 |some r=>cases r with
  |ok a M=>exact h
  |ex c fs M=>exact h
theorem RW {ds:List D}(r:XG G ι H vs ds)(N:List Str):ER G ι H (start N vs) (ds.map some++bg (N.length - ds.length) none):=by
 refine⟨by simp[start,r.length],λi d e=>?_⟩;unfold start;have hl:=r.length
 by_cases hi:i<ds.length
 ·rw[ba (by simpa using hi)]at e;rw[ba (by simp;lia)];rw[bS]at e ⊢;cases q:ds[i]? with
  |none=>rw[q]at e;cases e
  |some d'=>
   rw[q]at e;cases e;obtain⟨v,hv,rv⟩:=r.get q;exact⟨v,by rw[hv];rfl,rv⟩
 ·rw[dm (by simp;lia)]at e;rw[hU]at e;split at e<;>cases e
theorem HE {N:Nat}{m:Cl}{body:FS}{ds:List D}{E:XK}(R:Rel G ι M H)(h:GR G (RV G) (WE E) ι H σ Q (mFn i N m body ds M)):
  ds.length=i/\GS G (WE E) ι H { nx:=λ_ H'=>Q .WN H',rt:=Q } (body (ds.map some++bg (N - i) none) M):=by
 unfold mFn at h;split at h
 ·rename_i hl;refine⟨hl,?_⟩;cases e:body (ds.map some++bg (N - i) none) M with
  |none=>rw[e]at h;exact h.elim
  |some o=>
   rw[e]at h;cases o with
   |nx δ' M'=>exact λσ' H' ι' e' R' er'=>oj R h e' R' .WN
   |rt d M'=>exact λv H' ι' e' R' r'=>oj R h e' R' r'
   |bk δ' M'=>exact h.elim
   |ct δ' M'=>exact h.elim
   |ex c fs δ' M'=>exact λx σ' H' ι' e' R' er' xr=>yQ (σ:=σ') (Q:=Q) R (GR.sig h) e' R' xr
 ·exact h.elim
def mFz (f:FE):FE:=λδ M=>match f δ M with
 |some (.ok d M')=>jP .data M d M'
 |some (.ex c fs M')=>sN .data M c fs M'
 |none=>none
def gP (g:FN):FN:=λds M=>if fw ds=true then (match g ds [] with
 |some (.ok d _)=>if d.pure=true then some (.ok d M) else none
 |some (.ex c fs _)=>if nJ fs=true then some (.ex c fs M) else none
 |none=>none) else none
end
end
end
section
noncomputable section
def zu (C:Addr)(sp:Sp)(dvs:List V)(W:XW)(t:TA):TE:=λσ H Q=>t σ H λvs H1=>∀x dx,H1 x=none->H1 dx=none->dx≠x->
 sp (.ref x::(vs++dvs)) (upd (upd H1 dx (.own x)) x (.ins C dx [])) (λv H2=>v=.WN/\Q (.ref x) H2) (wX W σ)
section
variable {X:Cx}{k:Nat}{f C:Addr}{fd:aK}{ps:List Str}{sp:Sp}{dvs:List V}{ds:List af}{W:XW}{x:Str}{p pos:Pos}{e:Expr}{es:List Expr}{t:TA}
theorem CZ {Q:VK}(M:Mk X.K C f)(F:d8 X.prog X.w X.K X.mg X.base (CX1 X.prog X.w) k f fd ps sp)(hr:c8 (k+1) X.A)(hb:Binds X.K fd ps ds)(hd:bA dvs ds)
  (hw:Xw X W) (I:Inv X pins σ H s) (r:bA vs us)
  (h:∀x dx,H x=none->H dx=none->dx≠x->sp (.ref x::(vs++dvs)) (upd (upd H dx (.own x)) x (.ins C dx [])) (λv H2=>v=.WN/\Q (.ref x) H2) (wX W σ)):
  aq (model X.prog X.w) X.A (call (.ref C) us) (EP X pins σ Q) X.xe s:=by
 have hq:=h (s.heap.objs.size+1) s.heap.objs.size (I.WJ.fresh (cT _)) (I.WJ.fresh (aw _)) (aT (cF _));have I2:=Inv.made (C:=C) I;have r2:bA (V.ref (s.heap.objs.size+1)::(vs++dvs)) (Value.ref (s.heap.objs.size+1)::(us++ds)):=.cons rfl (r.append hd);have hl:(Value.ref (s.heap.objs.size+1)::us++ds).length=ps.length:=by
  have e:=r2.length;rw[F.len _ _ _ _ hq]at e;exact e.symm
 refine dX (yi (f:=f) I.W5 M.makes M.init (beq_iff_eq.mp M.fn) (dJ (F.run _ X.stack _ _ ⟨Value.ref (s.heap.objs.size+1)::us,[]⟩ (Value.ref (s.heap.objs.size+1)::(us++ds)) _ _ _ (hr.make C us [])
  (I2.AD.make C us []) (hb _ (Value.ref (s.heap.objs.size+1)::us) I2.W5 hl) r2 hq) λr s' hq'=>?_))
 cases r with
 |error e=>exact Az hw I2 hq'
 |ok fl=>
  cases fl with
  |ret u=>
   obtain⟨v,H',I3,rv,ev,q3⟩:=I2.after hq';subst ev;exact⟨rv,⟨V.ref (s.heap.objs.size+1),H',I3,rfl,q3⟩⟩
  |next=>exact False.elim hq'
  |brk=>exact False.elim hq'
  |cont=>exact False.elim hq'
theorem xU (M:Mk X.K C f)(F:d8 X.prog X.w X.K X.mg X.base (CX1 X.prog X.w) k f fd ps sp)(hr:c8 (k+1) X.A)(hg:Gl X x)(hm:X.mg x=some (.ref C))(hb:Binds X.K fd ps ds)(hd:bA dvs ds)(hw:Xw X W)
  (ha:PA X (e::es) t) (XC:(x==("__debug__":Str))=false) (he:ay (e::es) X.env=(false,eval e X.env)::ay es X.env) (Xh:(backTo pos (ay es X.env)).any (·.1)=false):
  PE X (.Call (.Name x p) (e::es) [] pos) (zu C sp dvs W t):=by
 intro pins s σ H Q I h;refine bM (fK I hg hm ?_ XC);refine PySem.W.callWith_K (h₀:=X.base) I.ok.mod.kin M.kp (WL (ha pos pins s σ H _ I h) λus s1 zp0=>?_) he Xh;obtain⟨vs,H1,I1,r,q⟩:=zp0;refine⟨I1.W5,?_⟩;exact CZ M F hr hb hd hw I1 r q
end
def GV (c:Str)(f:FN)(fa:FA):FE:=λδ M=>rb (fa δ M) λds M1=>match f (.ref M1.length::ds) (M1++[.ins c []]) with
 |some (.ok .WN M2)=>some (.ok (.ref M1.length) M2)
 |some (.ex c' fs M2)=>some (.ex c' fs M2)
 |_=>none
def putD (f:Str)(d:D):List (Str×D)->List (Str×D)
 | []=>[(f,d)]
 | (g,x)::r=>if g=f then (g,d)::r else (g,x)::putD f d r
theorem VRf.put {f:Str}{d:D}(h:VR G ι η H v d){vs:List (Str×V)}{fs:List (Str×D)}(r:VRf G ι η H vs fs):VRf G ι η H (ik f v vs) (putD f d fs):=VRf.ind r (.cons h .nil) λa r ih=>by
 unfold ik putD;split
 ·exact .cons h r
 ·exact .cons a ih
def LY (c f:Str)(fo fv:FE):FS:=λδ M=>sb δ (fv δ M) λy M1=>sb δ (fo δ M1) λx M2=>match x with
 |.ref k=>match M2[k]? with
  |some (.ins c' fs)=>if c'=c/\fs.length<1000 then some (.nx δ (M2.set k (.ins c' (putD f y fs)))) else none
  |_=>none
 |_=>none
section
variable {G:Gx}{W:XW}
theorem Fo {tv:TE}{fv:FE}{f:Str}(cl:Cls G.K (G.cls c))(na:dW G.K (G.cls c) f)(ao:bP G W te fe)(av:bP G W tv fv):fY G W (Qw G.K te tv f) (LY c f fe fv):=λE σ δ ι M H R er h=>
 av σ δ ι M H _ R er (GS.bind er h λy H1 ι1 M1 d e1 R1 r1 h1=>ao σ δ ι1 M1 H1 _ R1 (er.ext e1) (GS.bind (er.ext e1) h1 λx H2 ι2 M2 dx e2 R2 r2 h2=>by
  split at h2
  ·rename_i k;split at h2
   ·rename_i c' fs hM;obtain⟨a,rfl,hk,_⟩:=dR R2 r2 hM;split at h2
    ·rename_i hc;obtain⟨rfl,hl⟩:=hc;obtain⟨dx,vs,ha,rf⟩:=R2.at' k a _ hk hM;have hm:a∈ι2:=bH hk;refine⟨a,G.cls c',dx,vs,rfl,ha,cl,na,by rw[rf.length];exact hl,?_⟩;have ew:Ext ι2 H2 ι2 (upd H2 a (.ins (G.cls c') dx (ik f y vs))):=Ext.write hm;exact h2 σ _ ι2 ew (R2.write hk ⟨dx,_,bu,VRf.put ((r1.ext e2).ext ew) (rf.ext ew)⟩) (((er.ext e1).ext e2).ext ew)
    ·exact h2.elim
   ·exact h2.elim
  ·exact h2.elim))
end
def zt (C:Addr)(m:Str)(sp:Sp)(dvs:List V)(W:XW)(ta:TE)(t:TA):TE:=λσ H Q=>ta σ H λx H1=>∃a dx fs,x=.ref a/\H1 a=some (.ins C dx fs)/\fs.lookup m=none/\
 t σ H1 λvs H2=>sp (x::(vs++dvs)) H2 Q (wX W σ)
section
variable {X:Cx}{k:Nat}{f C:Addr}{fd:aK}{ps:List Str}{sp:Sp}{dvs:List V}{ds:List af}{W:XW}{x m:Str}{p pos apos:Pos}{e o:Expr}{es:List Expr}{t:TA}{ta:TE}
theorem Gs {pl:Sem Bool}(he:PE X o ta)(c:Cls X.K C)(hm:w6 X.K C m f)(F:d8 X.prog X.w X.K X.mg X.base (CX1 X.prog X.w) k f fd ps sp)(hr:c8 k X.A)(hb:Binds X.K fd ps ds)(hd:bA dvs ds)(hw:Xw X W)(ha:PA X (e::es) t)
  (hst:ay (e::es) X.env=(false,eval e X.env)::ay es X.env) (Xh:(backTo pos (ay es X.env)).any (·.1)=false)
  (ht:eval (.Call (.Attribute o m apos) (e::es) [] pos) X.env=(do
   let ov ←eval o X.env
   standAt apos.atName
   let (f,first) ←holding [ov] (getMethod ov m pl)
   callWith pos f first (backTo pos (ay (e::es) X.env)) (backToKw pos (keywordEach [] X.env)))):
  PE X (.Call (.Attribute o m apos) (e::es) [] pos) (zt C m sp dvs W ta t):=by
 intro pins s σ H Q I h;refine PySem.W.methodCall_KW (pl:=pl) (WL (he pins s σ H _ I h) λu s1 zq=>?_) ht;obtain⟨x,H1,I1,rx,a,dx,fs,ex,ea,l,q⟩:=zq;subst ex;obtain rfl:u=Value.ref a:=rx;refine i4 I1 ea c hm l ?_;refine PySem.W.callWith_K (first:=[.ref a]) (h₀:=X.base) I.ok.mod.kin hm.kp (WL (ha pos pins s1 σ H1 _ I1 q) λus s2 zp1=>?_) hst Xh;obtain⟨vs,H2,I2,r,q2⟩:=zp1;refine⟨I2.W5,?_⟩;exact nI (us:=.ref a::us) (vs:=.ref a::vs) F hr hb hd hw I2 (.cons rfl r) q2
theorem C6 {pl:Sem Bool}(he:PE X o ta)(c:Cls X.K C)(hm:w6 X.K C m f)(F:d8 X.prog X.w X.K X.mg X.base (CX1 X.prog X.w) k f fd ps sp)(hr:c8 k X.A)(hb:Binds X.K fd ps ds)(hd:bA dvs ds)(hw:Xw X W)
  (ht:eval (.Call (.Attribute o m apos) [] [] pos) X.env=(do
   let ov ←eval o X.env
   standAt apos.atName
   let (f,first) ←holding [ov] (getMethod ov m pl)
   callWith pos f first (backTo pos (ay [] X.env)) (backToKw pos (keywordEach [] X.env)))):
  PE X (.Call (.Attribute o m apos) [] [] pos) (zt C m sp dvs W ta iw):=by
 intro pins s σ H Q I h;refine PySem.W.methodCall_KW (pl:=pl) (WL (he pins s σ H _ I h) λu s1 zq=>?_) ht;obtain⟨x,H1,I1,rx,a,dx,fs,ex,ea,l,q⟩:=zq;subst ex;obtain rfl:u=Value.ref a:=rx;refine i4 I1 ea c hm l ?_;exact PySem.W.callWith_K0 (first:=[.ref a]) I1.W5 hm.kp (nI (us:=[.ref a]) (vs:=[.ref a]) F hr hb hd hw I1 (.cons rfl .nil) q)
theorem uK (F:d8 X.prog X.w X.K X.mg X.base (CX1 X.prog X.w) k f fd ps sp)(hr:c8 k X.A)(hg:Gl X x)(hm:X.mg x=some (.ref f))(hk:keepIn X.K (.ref f)=true)(hb:Binds X.K fd ps ds)(hd:bA dvs ds)(hw:Xw X W)
  (XC:(x==("__debug__":Str))=false):PE X (.Call (.Name x p) [] [] pos) (qZ sp dvs W iw):=by
 intro pins s σ H Q I h;refine bM (fK I hg hm ?_ XC);exact PySem.W.callWith_K0 I.W5 hk (nI (us:=[]) F hr hb hd hw I .nil h)
end
def yD (M:MS):D->Option (Str×List (Str×D))
 |.ins c fs=>some (c,fs)
 |.ref k=>match M[k]? with
  |some (.ins c fs)=>some (c,fs)
  |_=>none
 |_=>none
theorem xt {d:D}{fs:List (Str×D)}(R:Rel G ι M H)(r:RV G ι H v d)(h:yD M d=some (c,fs)):∃a dx vs,v=.ref a/\H a=some (.ins (G.cls c) dx vs)/\RVf G ι H vs fs:=by
 cases d with
 |ins c' fs'=>
  cases h;cases r with
  |ins e n r=>exact⟨_,_,_,rfl,e,r⟩
 |ref k=>
  unfold yD at h;simp only at h;split at h
  ·rename_i c' fs' hM;cases h;obtain⟨a,rfl,hk,dx,vs,h1,h2⟩:=dR R r hM;exact⟨a,dx,vs,rfl,h1,h2⟩
  ·cases h
 |_=>simp[yD]at h
def GT (c m:Str)(f:FN)(fo:FE)(fa:FA):FE:=λδ M=>rb (fo δ M) λd M1=>match yD M1 d with
 |some (c',fs)=>if c'=c/\fs.lookup m=none then rb (fa δ M1) λds M2=>f (d::ds) M2 else none
 |none=>none
section
variable {G:Gx}{W:XW}
theorem xH {m:Str}{f:FN}{t:TA}{dvs:List V}(hd:∀ι ξ H,VRs G ι ξ H dvs ps)(ao:bP (G.at η) W te fe)(a:iE (G.at η) W t fa):
  bP (G.at η) W (zt (G.cls c) m (spM G f) dvs W te t) (GT c m (λds M=>f (ds++ps) M) fe fa):=λσ δ ι M H Q R er h=>
 ao σ δ ι M H _ R er (GR.bind h λx H1 ι1 M1 d e1 R1 r1 h1=>by
  split at h1
  ·rename_i c' fs hi;split at h1
   ·rename_i hc;obtain⟨rfl,hl⟩:=hc;obtain⟨p,dx,vs,rfl,hp,rf⟩:=xt R1 r1 hi;refine⟨p,dx,vs,rfl,hp,?_,a σ δ ι1 M1 H1 _ R1 (er.ext e1) (GR.bind h1 λws H2 ι2 M2 ds e2 R2 r2 h2=>?_)⟩
    ·rcases rf.lookup (f:=m) with ⟨v,d',z1,z2,_⟩|⟨z1,_⟩
     ·rw[z2]at hl;cases hl
     ·exact z1
    ·refine⟨η,ι2,M2,d::(ds++ps),R2,.cons (r1.ext e2) (r2.append ((hd _ _ _).at η)),?_⟩;simp only[mw]at h2;cases e:f (d::(ds++ps)) M2 with
     |none=>rw[e]at h2;exact h2
     |some o=>
      rw[e]at h2;cases o with
      |ok d M2=>exact h2
      |ex c fs M2=>exact λx H' ι' e' R' xr y hy=>by cases hy;exact h2 x H' ι' e' R' xr
   ·exact h1.elim
  ·exact h1.elim)
end
theorem Dk {o:Expr}{m:Str}{args:List Expr}{env:Env}
  (ab3:attributeBase o m env (eval o env)=eval o env)
  (ai8:((backTo pos (ay args env)).all (λx=>!x.1)&&(backToKw pos (keywordEach [] env)).all (λx=>x.1.isSome)
   &&decide (args.length+([]:List Keyword).length+(if ([]:List Keyword).isEmpty then 0 else 1)<30))=true)
  (ab4:(apos.endLine==pos.line)=true):
  eval (.Call (.Attribute o m apos) args [] pos) env=(do
   let ov ←eval o env
   standAt apos.atName
   let (f,first) ←holding [ov] (getMethod ov m (do return (←importBound o env).getD true))
   callWith pos f first (backTo pos (ay args env)) (backToKw pos (keywordEach [] env))):=by
 have hform:methodCallForm (args.length+([]:List Keyword).length) (backTo pos (ay args env)) (backToKw pos (keywordEach [] env))=true:=ai8;have ae7:methodCallPos true o env apos pos=pure pos:=by unfold methodCallPos;simp[ab4]
 rw[arm_eval_Call,ab3];unfold methodCall calleeOf;rw[hform,ae7];rfl
end
end
section
noncomputable section
def rF (kvs:List (Key×D))(k:Key)(v:D):List (Key×D):=
 if (kvs.any λkv=>decide (kv.1=k))=true then kvs.map (λkv=>if kv.1=k then (kv.1,v) else kv) else kvs++[(k,v)]
section
variable {G:Gx}{ι ξ:List Addr}{H:Hp}
theorem VRk.any {k:Key}{vs:List (Key×V)}{ds:List (Key×D)}(h:VRk G ι ξ H vs ds):(vs.any λkv=>decide (kv.1=k))=ds.any λkv=>decide (kv.1=k):=VRk.ind h rfl λ_ _ i=>by rw[cX,cX,i]
theorem VRk.z6 {k:Key}{d:D}(h:VR G ι ξ H v d){vs:List (Key×V)}{ds:List (Key×D)}(r:VRk G ι ξ H vs ds):VRk G ι ξ H (vs.map λkv=>if kv.1=k then (kv.1,v) else kv) (ds.map λkv=>if kv.1=k then (kv.1,d) else kv):=VRk.ind r .nil λa _ i=>by
 simp only[aM];split
 ·exact .cons h i
 ·exact .cons a i
theorem VRk.app {vs:List (Key×V)}{ds es:List (Key×D)}(h:VRk G ι ξ H vs ds)(q:VRk G ι ξ H kvs es):VRk G ι ξ H (vs++kvs) (ds++es):=VRk.ind h q λa _ i=>.cons a i
theorem VRk.put {k:Key}{d:D}(h:VR G ι ξ H v d){vs:List (Key×V)}{ds:List (Key×D)}(r:VRk G ι ξ H vs ds):VRk G ι ξ H (putK vs k v) (rF ds k d):=by
 unfold putK rF;rw[r.any];split
 ·exact r.z6 h
 ·exact r.app (.cons h .nil)
end
def vU:List D->Option (List (Key×D))
 | []=>some []
 |d::r=>match d with
  |.tup [k,v]=>match keyOf k with
   |some k=>(vU r).map ((k,v)::·)
   |none=>none
  |_=>none
def Oj (kvs:List (Key×D)):List (Key×D):=kvs.foldl (λacc p=>rF acc p.1 p.2) []
theorem uL (r:VRs G ι η H vs ps):vU ps=some W0->∃kvs,vz H vs kvs/\VRk G ι η H kvs W0:=VRs.ind (P:=λvs ps=>∀W0,vU ps=some W0->∃kvs,vz H vs kvs/\VRk G ι η H kvs W0) r (λ_ h=>by cases h;exact⟨[],.nil,.nil⟩) (λa _ ih W0 h=>by
 unfold vU at h;split at h
 ·split at h
  ·rename_i k v' k' hk;obtain⟨kds',e,rfl⟩:=Option.map_eq_some_iff.mp h;obtain⟨kvs,p1,p2⟩:=ih _ e;obtain⟨c,us,rfl,z,n,rv⟩:=ju a;cases rv with
   |cons rk rv=>cases rv with
    |cons rv' rv=>
     cases rv;rw[mN rk hk]at z;exact⟨_,.cons z p1,.cons rv' p2⟩
  ·cases h
 ·cases h) W0
theorem uQ {a:List (Key×V)}{b:List (Key×D)}(r:VRk G ι η H kvs W0):VRk G ι η H a b->VRk G ι η H (kX a kvs) (W0.foldl (λacc p=>rF acc p.1 p.2) b):=by
 have q:∀(a:List (Key×V))(b:List (Key×D)),VRk G ι η H a b->VRk G ι η H (kX a kvs) (W0.foldl (λacc p=>rF acc p.1 p.2) b):=VRk.ind r (λ_ _ h=>h) λx _ ih _ _ h=>ih _ _ (VRk.put x h);exact q a b
def Aw:FN:=λds M=>match ds with
 | [d]=>match jL M d with
  |some ps=>match vU ps with
   |some W0=>some (.ok (.XF (Oj W0)) M)
   |none=>none
  |none=>none
 |_=>none
theorem CT:sZ G F5 Aw:=λW σ ι M H vs ds Q R r h=>by
 unfold Aw at h;split at h
 ·rename_i d;split at h
  ·rename_i ps e;split at h
   ·rename_i W0 en;cases r with
    |cons r0 r=>
     cases r;obtain⟨a,us,rfl,hv,rv⟩:=jV R r0 e;obtain⟨kvs,pv,rk⟩:=uL rv en;refine⟨a,us,kvs,rfl,hv,pv,λp H' hp h' s=>?_⟩;exact h (.ref p) H' ι (Ext.same s) (R.same s) (.XF h' (R.rN hp) ((uQ rk .nil).ext (Ext.same s)))
   ·exact h.elim
  ·exact h.elim
 ·exact h.elim
def m4 (it:XI)(g:FG)(c:FT)(ek ev:FE):List D->List (Key×D)->cO->MS->Option (List (Key×D)×MS)
 | [],acc,_,M=>some (acc,M)
 |x::xs,acc,δ,M=>match g x δ M with
  |none=>none
  |some (δ1,M1)=>match c δ1 M1 with
   |some (.ok false M2)=>if jw it M2=true then m4 it g c ek ev xs acc δ1 M2 else none
   |some (.ok true M2)=>match ek δ1 M2 with
    |some (.ok p M3)=>match keyOf p with
     |some k=>match ev δ1 M3 with
      |some (.ok q M4)=>if jw it M4=true/\acc.length<au then m4 it g c ek ev xs (rF acc k q) δ1 M4 else none
      |_=>none
     |none=>none
    |_=>none
   |_=>none
def newD (own:Bool)(kvs:List (Key×D))(M:MS):Option (Rs D):=if own=true then some (.ok (.ref M.length) (M++[.XF kvs])) else some (.ok (.XF kvs) M)
def Ai (own:Bool)(fi:FI)(g:FG)(c:FT)(ek ev:FE)(nv:Nat)(ix:List Nat):FE:=λδ M=>rb (fi δ M) λit M1=>
 match m4 it g c ek ev it.xs [] (dH nv ix δ) M1 with
 |some (ps,M2)=>newD own ps M2
 |none=>none
section
variable {G:Gx}{W:XW}
theorem Rel.Nr {x:Addr}{vs:List (Key×V)}(R:Rel (G.WU [x]) ι M H)(hn:x∉ι)(hv:H x=some (.dK vs))(r:RVk (G.WU [x]) ι H vs W0):Rel G (ι++[x]) (M++[.XF W0]) H:=by
 refine⟨by simp[R.len],List.nodup_append.mpr ⟨R.nd,by simp,λa ha b hb z=>by simp at hb;subst z;subst hb;exact hn ha⟩,λk a m h1 h2=>?_,λa h=>R.WU a (aD _ h)⟩
 by_cases hk:k<ι.length
 ·rw[ba hk]at h1;rw[ba (by rw[←R.len];exact hk)]at h2;exact OR.mv (G:=G.WU [x]) (G':=G) rfl rfl rfl (R.at' k a m h1 h2) rfl (λr=>(r.mv (G:=G.WU [x]) ie).at G.η) (λr=>(r.mv (G:=G.WU [x]) ie).at G.η) (λr=>(r.mv (G:=G.WU [x]) ie).at G.η)
 ·have e1:k=ι.length:=by
   have:=(List.getElem?_eq_some_iff.mp h1).1;simp at this
   lia
  subst e1;simp at h1;subst h1;rw[R.len]at h2;simp at h2;subst h2;exact⟨vs,hv,(r.mv (G:=G.WU [x]) ie).at G.η⟩
theorem CU {fi:FI}{t:TG}{g:FG}{c:FT}{tk tv:TE}(a:me G W wi fi)(hg:∀ζ,oA (G.WU ζ) t g)(hc:∀ζ,gF (G.WU ζ) WF tc c)(hk:∀ζ,bP (G.WU ζ) WF tk f)(hv:∀ζ,bP (G.WU ζ) WF tv fe):
  bP G W (zw wi t tc tk tv ep ix) (Ai r fi g c f fe ep ix):=λσ δ ι M H Q R er h=>
 a σ δ ι M H _ R er (GI.bindR h λJ H1 ι1 M1 it e1 R1 sr jr h1=>by
  intro A hD;cases ec:m4 it g c f fe it.xs [] (dH ep ix δ) M1 with
  |none=>rw[ec]at h1;exact h1.elim
  |some pr=>
   obtain⟨tot,ME⟩:=pr;rw[ec]at h1;simp only at h1;have fz:∀a∈[A],H1 a=none:=λa z=>by simp at z;rw[z];exact hD
   have hη:A∈(G.WU [A]).η:=by simp
   have R0:Rel (G.WU [A]) ι1 M1 (upd H1 A (.dK [])):=R1.hide hD;have er0:ER (G.WU [A]) ι1 (upd H1 A (.dK [])) (eE ep ix σ) (dH ep ix δ):=((lE (er.ext e1) ep ix).hide fz).hidden hη;refine⟨λi m ys=>LIv G A ι1 H1 it (.dK ys) (λι δ M H=>∃acc,RVk (G.WU [A]) ι H ys acc/\m4 it g c f fe (it.xs.drop i) acc δ M=some (tot,ME)) i m,
    ⟨_,.mk ι1 (dH ep ix δ) M1 rfl (bG _) bu (Ext.refl.tF hD) (R1.out hD) R0 er0 sr ⟨[],.nil,ec⟩⟩,?_⟩
   rintro i m ys σ' H' ⟨ι',δ',M',rfl,hi,hDy,ex,nD,R',er',sr',acc,rys,WQ⟩;obtain⟨j1,j2⟩:=jr [A] fz i ι' M' H' ex R' sr'
   by_cases hn:i=it.xs.length
   ·refine .inl ⟨j2 hn.symm,?_⟩;rw[hn,fq]at WQ;unfold m4 at WQ;cases WQ;unfold newD at h1;split at h1
    ·refine h1 _ H' (ι'++[A]) ⟨ex.pre.trans (gX _ _),ex.keep,λb z n=>?_⟩ (R'.Nr nD hDy rys) (.ref (by rw[←R'.len];simp));rcases List.mem_append.mp z with z |z
     ·exact ex.new b z n
     ·simp at z;rw[z];exact hD
    ·refine h1 _ H' ι' ex R'.fA (.XF hDy (λz=>?_) rys.fA);rcases List.mem_append.mp z with z |z
     ·obtain⟨o,q⟩:=R1.WU A z;rw[hD]at q;cases q
     ·exact nD z
   ·have hl:i<it.xs.length:=by lia
    rw[bU hl]at WQ;obtain⟨go,yl⟩:=j1 _ (bB hl);refine .inr ⟨go,λx H2 y=>?_⟩;obtain⟨ey,Ry,ry⟩:=yl x H2 y;have dk:∀{ι2 H2},Ext ι' H' ι2 H2->H2 A=some (.dK ys)/\A∉ι2:=λe2=>⟨e2.keep _ _ hDy nD,e2.out hDy nD⟩;refine hg [A] x _ σ' δ' ι' M' H2 _ Ry (er'.ext ey) ry ?_;unfold m4 at WQ;cases eg:g it.xs[i] δ' M' with
    |none=>rw[eg]at WQ;cases WQ
    |some p=>
     obtain⟨δ1,M2⟩:=p;rw[eg]at WQ;simp only at WQ;intro σ3 H3 ι3 e3 R3 er3;refine hc [A] σ3 δ1 ι3 M2 H3 _ R3 er3 ?_;cases ef:c δ1 M2 with
     |none=>rw[ef]at WQ;cases WQ
     |some o=>cases o with
      |ex cc fs M3=>rw[ef]at WQ;cases WQ
      |ok bb M3=>
       rw[ef]at WQ;intro b H4 ι4 e4 R4 rb4;obtain rfl:b=bb:=rb4;have e04:=(ey.trans e3).trans e4;cases b with
       |false=>
        simp only at WQ;rw[if_neg (by decide)];split at WQ
        ·rename_i sr4;have sr4:=g7 sr4;exact⟨it.xs.length - (i+1),by lia,.mk ι4 δ1 M3 rfl hl (dk e04).1 (ex.trans e04) (dk e04).2 R4 (er3.ext e4) sr4 ⟨acc,rys.ext e04,WQ⟩⟩
        ·cases WQ
       |true=>
        simp only at WQ;rw[if_pos rfl];refine hk [A] σ3 δ1 ι4 M3 H4 _ R4 (er3.ext e4) ?_;cases ee:f δ1 M3 with
        |none=>rw[ee]at WQ;cases WQ
        |some o=>cases o with
         |ex cc fs M4=>rw[ee]at WQ;cases WQ
         |ok p M4=>
          rw[ee]at WQ;simp only at WQ;intro u H5 ι5 e5 R5 r5;split at WQ
          ·rename_i k an1;refine hv [A] σ3 δ1 ι5 M4 H5 _ R5 ((er3.ext e4).ext e5) ?_;cases e2:fe δ1 M4 with
           |none=>rw[e2]at WQ;cases WQ
           |some o=>cases o with
            |ex cc fs M5=>rw[e2]at WQ;cases WQ
            |ok q M5=>
             rw[e2]at WQ;simp only at WQ;intro z H6 ι6 e6 R6 r6;have e06:=(e04.trans e5).trans e6;split at WQ
             ·rename_i sr5;have sr5:=And.intro (g7 sr5.1) sr5.2;refine⟨k,mN r5 an1,(dk e06).1,by rw[rys.length];exact sr5.2,it.xs.length - (i+1),by lia,.mk ι6 δ1 M5 rfl hl bu ((ex.trans e06).tF hD) (dk e06).2 (R6.hidden hη (dk e06).2) ((((er3.ext e4).ext e5).ext e6).hidden hη) sr5.1 ⟨rF acc k q,?_,WQ⟩⟩;exact((rys.ext e06).put r6).mv (gy hη)
             ·cases WQ
          ·cases WQ)
end
def BG (kvs:List (List Key×D))(k:List Key)(v:D):List (List Key×D):=
 if (kvs.any λkv=>decide (kv.1=k))=true then kvs.map (λkv=>if kv.1=k then (kv.1,v) else kv) else kvs++[(k,v)]
section
variable {G:Gx}{ι ξ:List Addr}{H:Hp}
theorem VRt.any {k:List Key}{vs:List (List Key×V)}{ds:List (List Key×D)}(h:VRt G ι ξ H vs ds):(vs.any λkv=>decide (kv.1=k))=ds.any λkv=>decide (kv.1=k):=VRt.ind h rfl λ_ _ i=>by rw[cX,cX,i]
theorem VRt.z6 {k:List Key}{d:D}(h:VR G ι ξ H v d){vs:List (List Key×V)}{ds:List (List Key×D)}(r:VRt G ι ξ H vs ds):VRt G ι ξ H (vs.map λkv=>if kv.1=k then (kv.1,v) else kv) (ds.map λkv=>if kv.1=k then (kv.1,d) else kv):=VRt.ind r .nil λa _ i=>by
 simp only[aM];split
 ·exact .cons h i
 ·exact .cons a i
theorem VRt.app {vs:List (List Key×V)}{ds es:List (List Key×D)}(h:VRt G ι ξ H vs ds)(q:VRt G ι ξ H ws es):VRt G ι ξ H (vs++ws) (ds++es):=VRt.ind h q λa _ i=>.cons a i
theorem VRt.put {k:List Key}{d:D}(h:VR G ι ξ H v d){vs:List (List Key×V)}{ds:List (List Key×D)}(r:VRt G ι ξ H vs ds):VRt G ι ξ H (putK vs k v) (BG ds k d):=by
 unfold putK BG;rw[r.any];split
 ·exact r.z6 h
 ·exact r.app (.cons h .nil)
end
def ke (it:XI)(g:FG)(c:FT)(ek ev:FE):List D->List (List Key×D)->cO->MS->Option (List (List Key×D)×MS)
 | [],acc,_,M=>some (acc,M)
 |x::xs,acc,δ,M=>match g x δ M with
  |none=>none
  |some (δ1,M1)=>match c δ1 M1 with
   |some (.ok false M2)=>if jw it M2=true then ke it g c ek ev xs acc δ1 M2 else none
   |some (.ok true M2)=>match ek δ1 M2 with
    |some (.ok p M3)=>match keysOf p with
     |some k=>match ev δ1 M3 with
      |some (.ok q M4)=>if jw it M4=true/\acc.length<au then ke it g c ek ev xs (BG acc k q) δ1 M4 else none
      |_=>none
     |none=>none
    |_=>none
   |_=>none
def wj (fi:FI)(g:FG)(c:FT)(ek ev:FE)(nv:Nat)(ix:List Nat):FE:=λδ M=>rb (fi δ M) λit M1=>
 match ke it g c ek ev it.xs [] (dH nv ix δ) M1 with
 |some (ps,M2)=>some (.ok (.dcT ps) M2)
 |none=>none
section
variable {G:Gx}{W:XW}
theorem zI {fi:FI}{t:TG}{g:FG}{c:FT}{tk tv:TE}(a:me G W wi fi)(hg:∀ζ,oA (G.WU ζ) t g)(hc:∀ζ,gF (G.WU ζ) WF tc c)(hk:∀ζ,bP (G.WU ζ) WF tk f)(hv:∀ζ,bP (G.WU ζ) WF tv fe):
  bP G W (Bw wi t tc tk tv n ix) (wj fi g c f fe n ix):=λσ δ ι M H Q R er h=>
 a σ δ ι M H _ R er (GI.bindR h λJ H1 ι1 M1 it e1 R1 sr jr h1=>by
  intro A hD;cases ec:ke it g c f fe it.xs [] (dH n ix δ) M1 with
  |none=>rw[ec]at h1;exact h1.elim
  |some pr=>
   obtain⟨tot,ME⟩:=pr;rw[ec]at h1;simp only at h1;have fz:∀a∈[A],H1 a=none:=λa z=>by simp at z;rw[z];exact hD
   have hη:A∈(G.WU [A]).η:=by simp
   have R0:Rel (G.WU [A]) ι1 M1 (upd H1 A (.dT [])):=R1.hide hD;have er0:ER (G.WU [A]) ι1 (upd H1 A (.dT [])) (eE n ix σ) (dH n ix δ):=((lE (er.ext e1) n ix).hide fz).hidden hη;refine⟨λi m ys=>LIv G A ι1 H1 it (.dT ys) (λι δ M H=>∃acc,RVt (G.WU [A]) ι H ys acc/\ke it g c f fe (it.xs.drop i) acc δ M=some (tot,ME)) i m,
    ⟨_,.mk ι1 (dH n ix δ) M1 rfl (bG _) bu (Ext.refl.tF hD) (R1.out hD) R0 er0 sr ⟨[],.nil,ec⟩⟩,?_⟩
   rintro i m ys σ' H' ⟨ι',δ',M',rfl,hi,hDy,ex,nD,R',er',sr',acc,rys,WQ⟩;obtain⟨j1,j2⟩:=jr [A] fz i ι' M' H' ex R' sr'
   by_cases hn:i=it.xs.length
   ·refine .inl ⟨j2 hn.symm,?_⟩;rw[hn,fq]at WQ;unfold ke at WQ;cases WQ;refine h1 _ H' ι' ex R'.fA (.dcT hDy (λz=>?_) rys.fA);rcases List.mem_append.mp z with z |z
    ·obtain⟨o,q⟩:=R1.WU A z;rw[hD]at q;cases q
    ·exact nD z
   ·have hl:i<it.xs.length:=by lia
    rw[bU hl]at WQ;obtain⟨go,yl⟩:=j1 _ (bB hl);refine .inr ⟨go,λx H2 y=>?_⟩;obtain⟨ey,Ry,ry⟩:=yl x H2 y;have dk:∀{ι2 H2},Ext ι' H' ι2 H2->H2 A=some (.dT ys)/\A∉ι2:=λe2=>⟨e2.keep _ _ hDy nD,e2.out hDy nD⟩;refine hg [A] x _ σ' δ' ι' M' H2 _ Ry (er'.ext ey) ry ?_;unfold ke at WQ;cases eg:g it.xs[i] δ' M' with
    |none=>rw[eg]at WQ;cases WQ
    |some p=>
     obtain⟨δ1,M2⟩:=p;rw[eg]at WQ;simp only at WQ;intro σ3 H3 ι3 e3 R3 er3;refine hc [A] σ3 δ1 ι3 M2 H3 _ R3 er3 ?_;cases ef:c δ1 M2 with
     |none=>rw[ef]at WQ;cases WQ
     |some o=>cases o with
      |ex cc fs M3=>rw[ef]at WQ;cases WQ
      |ok bb M3=>
       rw[ef]at WQ;intro b H4 ι4 e4 R4 rb4;obtain rfl:b=bb:=rb4;have e04:=(ey.trans e3).trans e4;cases b with
       |false=>
        simp only at WQ;rw[if_neg (by decide)];split at WQ
        ·rename_i sr4;have sr4:=g7 sr4;exact⟨it.xs.length - (i+1),by lia,.mk ι4 δ1 M3 rfl hl (dk e04).1 (ex.trans e04) (dk e04).2 R4 (er3.ext e4) sr4 ⟨acc,rys.ext e04,WQ⟩⟩
        ·cases WQ
       |true=>
        simp only at WQ;rw[if_pos rfl];refine hk [A] σ3 δ1 ι4 M3 H4 _ R4 (er3.ext e4) ?_;cases ee:f δ1 M3 with
        |none=>rw[ee]at WQ;cases WQ
        |some o=>cases o with
         |ex cc fs M4=>rw[ee]at WQ;cases WQ
         |ok p M4=>
          rw[ee]at WQ;simp only at WQ;intro u H5 ι5 e5 R5 r5;split at WQ
          ·rename_i k an1;refine hv [A] σ3 δ1 ι5 M4 H5 _ R5 ((er3.ext e4).ext e5) ?_;cases e2:fe δ1 M4 with
           |none=>rw[e2]at WQ;cases WQ
           |some o=>cases o with
            |ex cc fs M5=>rw[e2]at WQ;cases WQ
            |ok q M5=>
             rw[e2]at WQ;simp only at WQ;intro z H6 ι6 e6 R6 r6;have e06:=(e04.trans e5).trans e6;split at WQ
             ·rename_i sr5;have sr5:=And.intro (g7 sr5.1) sr5.2;obtain⟨bk,rfl,hbk⟩:=Bq (r5.ext e6) an1;refine⟨k,bk,rfl,hbk,(dk e06).1,by rw[rys.length];exact sr5.2,it.xs.length - (i+1),by lia,.mk ι6 δ1 M5 rfl hl bu ((ex.trans e06).tF hD) (dk e06).2 (R6.hidden hη (dk e06).2) ((((er3.ext e4).ext e5).ext e6).hidden hη) sr5.1 ⟨BG acc k q,?_,WQ⟩⟩;exact((rys.ext e06).put r6).mv (gy hη)
             ·cases WQ
          ·cases WQ)
end
def oQ (it:XI)(g:FG)(e:FE):List D->List Int->cO->MS->Option (List Int×MS)
 | [],acc,_,M=>some (acc,M)
 |x::xs,acc,δ,M=>match g x δ M with
  |none=>none
  |some (δ1,M1)=>match e δ1 M1 with
   |some (.ok (.int k) M2)=>if jw it M2=true/\acc.length<4000 then oQ it g e xs (pM acc k) δ1 M2 else none
   |_=>none
def Ab (own:Bool)(fi:FI)(g:FG)(e:FE)(nv:Nat)(ix:List Nat):FE:=λδ M=>rb (fi δ M) λit M1=>
 match oQ it g e it.xs [] (dH nv ix δ) M1 with
 |some (ys,M2)=>if ys.length<64 then mS own ((qc ys).map D.int) M2 else none
 |none=>none
section
variable {G:Gx}{W:XW}
theorem uk {ι ξ:List Addr}{H:Hp}:∀{ns:List Int},VRs G ι ξ H (ns.map V.int) (ns.map D.int)
 | []=>.nil
 |_::_=>.cons (.int _) uk
theorem CO {fi:FI}{t:TG}{g:FG}{e:FE}(a:me G W wi fi)(hg:∀ζ,oA (G.WU ζ) t g)(he:∀ζ,bP (G.WU ζ) WF te e):
  bP G W (tCB (zM G.P G.w) (fu (Eu G.P G.w wi t te n ix) iw)) (Ab b fi g e n ix):=λσ δ ι M H Q R er h=>
 a σ δ ι M H _ R er (GI.bindR h λJ H1 ι1 M1 it e1 R1 sr jr h1=>by
  intro A hD;cases ec:oQ it g e it.xs [] (dH n ix δ) M1 with
  |none=>rw[ec]at h1;exact h1.elim
  |some pr=>
   obtain⟨tot,ME⟩:=pr;rw[ec]at h1;simp only at h1;split at h1
   ·rename_i hz;have fz:∀a∈[A],H1 a=none:=λa z=>by simp at z;rw[z];exact hD
    have hη:A∈(G.WU [A]).η:=by simp
    have R0:Rel (G.WU [A]) ι1 M1 (upd H1 A (gL G.P G.w A [])):=R1.hide hD;have er0:ER (G.WU [A]) ι1 (upd H1 A (gL G.P G.w A [])) (eE n ix σ) (dH n ix δ):=((lE (er.ext e1) n ix).hide fz).hidden hη;refine⟨λi m ys=>LIv G A ι1 H1 it (gL G.P G.w A ys) (λι δ M H=>oQ it g e (it.xs.drop i) ys δ M=some (tot,ME)) i m,
     ⟨_,.mk ι1 (dH n ix δ) M1 rfl (bG _) bu (Ext.refl.tF hD) (R1.out hD) R0 er0 sr ec⟩,?_⟩
    rintro i m ys σ' H' ⟨ι',δ',M',rfl,hi,hDy,ex,nD,R',er',sr',WQ⟩;obtain⟨j1,j2⟩:=jr [A] fz i ι' M' H' ex R' sr'
    by_cases hn:i=it.xs.length
    ·refine .inl ⟨j2 hn.symm,?_⟩;rw[hn,fq]at WQ;unfold oQ at WQ;cases WQ;exact⟨A,_,rfl,hDy,hz,uN R'.fA uk (GR.ext ex h1)⟩
    ·have hl:i<it.xs.length:=by lia
     rw[bU hl]at WQ;obtain⟨go,yl⟩:=j1 _ (bB hl);refine .inr ⟨go,λx H2 y=>?_⟩;obtain⟨ey,Ry,ry⟩:=yl x H2 y;have dk:∀{ι2 H2},Ext ι' H' ι2 H2->H2 A=some (gL G.P G.w A ys)/\A∉ι2:=λe2=>⟨e2.keep _ _ hDy nD,e2.out hDy nD⟩;refine hg [A] x _ σ' δ' ι' M' H2 _ Ry (er'.ext ey) ry ?_;unfold oQ at WQ;cases eg:g it.xs[i] δ' M' with
     |none=>rw[eg]at WQ;cases WQ
     |some p=>
      obtain⟨δ1,M2⟩:=p;rw[eg]at WQ;simp only at WQ;intro σ3 H3 ι3 e3 R3 er3;refine he [A] σ3 δ1 ι3 M2 H3 _ R3 er3 ?_;cases ee:e δ1 M2 with
      |none=>rw[ee]at WQ;cases WQ
      |some o=>cases o with
       |ex cc fs M4=>rw[ee]at WQ;cases WQ
       |ok p M4=>
        rw[ee]at WQ;cases p with
        |int k=>
         simp only at WQ;intro u H5 ι5 e5 R5 r5;have e05:=(ey.trans e3).trans e5;split at WQ
         ·rename_i sr5;exact⟨k,dS r5,(dk e05).1,sr5.2,it.xs.length - (i+1),by lia,.mk ι5 δ1 M4 rfl hl bu ((ex.trans e05).tF hD) (dk e05).2 (R5.hidden hη (dk e05).2) ((er3.ext e5).hidden hη) (g7 sr5.1) WQ⟩
         ·cases WQ
        |_=>cases WQ
   ·exact h1.elim)
end
end
end
section
noncomputable section
section
variable {X:Cx}{k:Nat}{f C:Addr}{fd:aK}{ps:List Str}{sp:Sp}{dvs:List V}{ds:List af}{W:XW}{x:Str}{p pos:Pos}{e:Expr}{te:TE}
theorem FU {Q:VK}(F:d8 X.prog X.w X.K X.mg X.base (CX1 X.prog X.w) k f fd ps sp)(hr:c8 (k+1) X.A)(hb:Binds X.K fd ps ds)(hd:bA dvs ds)(hw:Xw X W)
  (I:Inv X pins σ H s) (r:bA vs us) (h:sp (vs++dvs) H Q (wX W σ)):aq (model X.prog X.w) X.A.in1 (call (.ref f) us) (EP X pins σ Q) X.xe s:=by
 have r2:bA (vs++dvs) (us++ds):=r.append hd;have hl:(us++ds).length=ps.length:=by rw[←r2.length];exact F.len _ _ _ _ h
 refine dX (dJ (F.run X.A.in1 X.stack s H ⟨us,[]⟩ (us++ds) (vs++dvs) Q _ hr.in1 I.AD.in1 (hb s us I.W5 hl) r2 h) λr s' hq=>?_);cases r with
 |error e=>exact Az hw I hq
 |ok fl=>
  cases fl with
  |ret u=>exact I.after hq
  |next=>exact False.elim hq
  |brk=>exact False.elim hq
  |cont=>exact False.elim hq
def Lp (C:Addr)(sp:Sp)(dvs:List V)(W:XW)(te:TE):TE:=λσ H Q=>te σ H λx H1=>∃a dx fs,x=.ref a/\H1 a=some (.ins C dx fs)/\
 sp (x::dvs) H1 (λv H2=>∃n:Int,v=.int n/\0<=n/\n<2 ^ 63/\Q (.int n) H2) (wX W σ)
set_option maxHeartbeats 2000000 in
theorem Kb (he:PE X e te)(hm:w6 X.K C "__len__" f)(F:d8 X.prog X.w X.K X.mg X.base (CX1 X.prog X.w) k f fd ps sp)(hr:c8 (k+1) X.A)(hb:Binds X.K fd ps ds)(hd:bA dvs ds)(hw:Xw X W)
  (hg:Gl X "len") (hmg:X.mg "len"=none) (hs:ay [e] X.env=(false,eval e X.env)::ay [] X.env):PE X (.Call (.Name "len" p) [e] [] pos) (Lp C sp dvs W te):=by
 intro pins s σ H Q I h;have key:∀(pins:List (Addr×Obj))(s:ah)(σ:St)(H:Hp)(u:af)(x:V)(Q:VK),Inv X pins σ H s->RelV x u->(∃a dx fs,x=.ref a/\H a=some (.ins C dx fs)/\sp (x::dvs) H (λv H2=>∃n:Int,v=.int n/\0<=n/\n<2 ^ 63/\Q (.int n) H2) (wX W σ))->
   aq (model X.prog X.w) X.A (call (.builtin "len") [u]) (EP X pins σ Q) X.xe s:=by
  intro pins s σ H u x Q I rx ⟨a,dx,fs,ex,ea,q⟩;subst ex;obtain rfl:u=Value.ref a:=rx;obtain⟨mA,O,r,_,_,_⟩:=kb I.WJ ea;obtain⟨od,inst,_⟩:=O.look;refine Calls.call_function_entry kind_len plain_len entry_len (args_len1 _) ?_;unfold Builtin.«len»;refine aa (m:=oneArg "len" _) (ak ?_);refine aa (m:=callSpecial? (.ref a) (Str.ofString "__len__")) (special_fn I.W5 inst hm.at_ (beq_iff_eq.mp hm.fn) (aX (FU (us:=[.ref a]) (vs:=[.ref a]) F hr hb hd hw I (.cons rfl .nil) q) (λr s' hr=>?_) λ_ _ y=>y));obtain⟨v,H2,I2,rv,n,ev,h0,h1,hq⟩:=hr;subst ev;obtain⟨t,rfl⟩:∃t,r=Value.int n t:=rv;refine aa (a9 (ak ?_));refine aa (wpAny_letGo ?_);show aq _ _ (if n<0 then _ else _) _ _ _;rw[if_neg (by lia)];show aq _ _ (if n≥2 ^ 63 then _ else _) _ _ _;rw[if_neg (by lia)];exact aa (wpAny_mkInt (ak ⟨_,rfl,⟨V.int n,H2,I2.tok _,⟨_,rfl⟩,hq⟩⟩))
 refine bM (fB I hg hmg (show bootBuiltins "len"=some (.builtin "len") by decide +kernel) ?_ (by decide) (by decide));refine PyProof.Rows.callWith_builtin1 (WL ((eM he iX hs) pos pins s σ H (λvs H1=>match vs with
  | [x]=>∃a dx fs,x=.ref a/\H1 a=some (.ins C dx fs)/\sp (x::dvs) H1 (λv H2=>∃n:Int,v=.int n/\0<=n/\n<2 ^ 63/\Q (.int n) H2) (wX W σ)
  |_=>False) I h) λus s1 zq=>?_) hs rfl
 obtain⟨vs,H1,I1,r1,q1⟩:=zq;cases r1 with
 |nil=>exact q1.elim
 |cons rx rest=>cases rest with
  |nil=>exact key pins s1 σ H1 _ _ Q I1 rx q1
  |cons _ _=>exact q1.elim
end
def GW (c:Str)(f:FN)(fe:FE):FE:=λδ M=>rb (fe δ M) λd M1=>match yD M1 d with
 |some (c',_)=>if c'=c then rb (f [d] M1) λr M2=>match r with
  |.int n=>if 0<=n/\n<2 ^ 63 then some (.ok (.int n) M2) else none
  |_=>none else none
 |none=>none
theorem Ff {W:XW}{f:FN}{dvs:List V}(hd:∀ι ξ H,VRs G ι ξ H dvs ps)(ae:bP (G.at η) W te fe):
  bP (G.at η) W (Lp (G.cls c) (spM G f) dvs W te) (GW c (λds M=>f (ds++ps) M) fe):=λσ δ ι M H Q R er h=>
 ae σ δ ι M H _ R er (GR.bind h λx H1 ι1 M1 d e1 R1 r1 h1=>by
  split at h1
  ·rename_i c' fs hi;split at h1
   ·rename_i hc;subst hc;obtain⟨p,dx,vs,rfl,hp,rf⟩:=xt R1 r1 hi;refine⟨p,dx,vs,rfl,hp,η,ι1,M1,d::ps,R1,.cons r1 ((hd _ _ _).at η),?_⟩;have h1:GR (G.at η) (RV (G.at η)) W ι1 H1 σ Q (rb (f (d::ps) M1) λr M2=>match r with
     |.int n=>if 0<=n/\n<2 ^ 63 then some (.ok (.int n) M2) else none
     |_=>none):=h1
    cases e:f (d::ps) M1 with
    |none=>rw[e]at h1;exact h1
    |some o=>
     rw[e]at h1;cases o with
     |ok d2 M2=>
      simp only[LB]at h1;split at h1
      ·rename_i n;split at h1
       ·rename_i hn;exact λv H' ι' e' R' rv=>⟨n,by cases rv;rfl,hn.1,hn.2,h1 (.int n) H' ι' e' R' (.int n)⟩
       ·exact h1.elim
      ·exact h1.elim
     |ex c fs M2=>exact λx H' ι' e' R' xr y hy=>by cases hy;exact h1 x H' ι' e' R' xr
   ·exact h1.elim
  ·exact h1.elim)
end
end
section
noncomputable section
inductive Op2 where
 |add |sub |mul |mulL |mulR |fdiv |mod |pow
 |lt |le |gt |ge |eq |ne |isin |xX
 deriving DecidableEq
inductive Bif where
 |len |all |int |min |max |sum |dict |list (r:Bool)|tuple
 deriving DecidableEq
mutual
inductive MX where
 |v (i:Nat)
 |WN |bl (b:Bool)|int (i:Int)|str (x:Str)
 |g (x:Str)
 |bin (o:Op2) (a b:MX)
 |cmp (o:Op2) (a b:MX)
 |chain (o o':Op2) (a b c:MX)
 |bool (ah3:Bool) (xs:Xr)
 |not (a:MX)
 |W9 (t:MT) (a b:MX)
 |tup (xs:Xr)
 |lst (r:Bool) (xs:Xr)
 |ak4 (r:Bool) (a:MX) (xs:Xr)|ak5 (a:MX) (xs:Xr)
 |au6 (r:Bool) (a:Xr)
 |au7 (r:Bool) (a:Xr)
 |ix (a b:MX)
 |sl (r:Bool) (a:MX) (lo hi:MO)
 |fld (c f:Str) (a:MX)
 |bif (b:Bif) (xs:Xr)
 |isT (T:String) (a:MX)
 |Du (T T':String) (a:MX)
 |isC (c:Str) (a:MX)
 |isB (T:String) (a:MX)
 |call (f:Str) (xs:Xr)
 |cB (f:Str) (xs:Xr)
 |rS (c f:Str) (xs:Xr)
 |vk (i:Nat) (x:Str) (xs:Xr)
 |tO (c m f:Str) (o:MX) (xs:Xr)
 |yv (c f:Str) (a:MX)
 |Dq (x:Str) (a:MX)|kix (x:Str) (a:MX)
 |ap6 |ap7 (o e:MX)|app (o e:MX)
 |comp (r:Bool) (vars bq:List Str) (ix:List Nat) (it:MI) (tg:MG) (ifs:MTs) (e:MX)
 |vd (r:Bool) (vars bq:List Str) (ix:List Nat) (it:MI) (tg:MG) (ifs:MTs) (k e:MX)
 |n8 (r:Bool) (vars bq:List Str) (ix:List Nat) (it:MI) (tg:MG) (a2:MX) (tg2:MG) (e:MX)
 |lF (vars bq:List Str) (ix:List Nat) (it:MI) (tg:MG) (ifs:MTs) (k e:MX)
 |rj (r:Bool) (vars bq:List Str) (ix:List Nat) (it:MI) (tg:MG) (e:MX)
 |kin (x:Str) (a:MX)
 |never
inductive Xr where
 |nil |cons (a:MX) (r:Xr)
inductive MT where
 |val (a:MX)
 |cmp (o:Op2) (a b:MX)
 |chain (o o':Op2) (a b c:MX)
 |not (t:MT)
 |bool (ah3:Bool) (ts:MTs)
inductive MTs where
 |nil |cons (t:MT) (r:MTs)
inductive MO where
 |none |some (a:MX)
inductive MI where
 |lst (a:MX)|tup (a:MX)|rng (xs:Xr)|enum (xs:Xr)|ak7 (xs:Xr)|str (a:MX)
inductive MG where
 |nm (i:Nat)|tup (gs:MGs)|sub (o i:MX)
inductive MGs where
 |nil |cons (g:MG) (r:MGs)
end
mutual
inductive MSt where
 |expr (a:MX)|ret (a:MX)
 |asg (g:MG) (a:MX)
 |aug (i:Nat) (x:Str) (o:Op2) (a:MX)
 |W9 (t:MT) (a b:MSs)
 |for_ (it:MI) (g:MG) (b:MSs)
 |whl (k:Nat) (t:MT) (b:MSs)
 |par (i:Nat) (x:Str) (j:Nat) (y:Str) (a:Xr)
 |ah4 (c f:Str) (o a:MX)
 |raise (c:Str) (xs:Xr)
 |ah5 (c:Str) (i:Nat) (x:Str) (b h:MSs)
 |never
inductive MSs where
 |nil |cons (s:MSt) (r:MSs)
end
def jg (i j:Int):Bool:=(decide (-(2 ^ 64)<i)&&decide (i<2 ^ 64))||(decide (-(2 ^ 64)<j)&&decide (j<2 ^ 64))
def pL (i:Int):Bool:=decide (-(2 ^ 64)<i)&&decide (i<2 ^ 64)
def ma (_ j:Int):Bool:=decide (0<j)&&decide (j<1073741824)
def IG (i j:Int):Bool:=decide (0<=j)&&decide (j<=1000000)&&decide (i.natAbs<2 ^ 64)
def RO (g:Bool->Bool):F2:=λx y M=>match y with
 |.WN=>match x with
  |.WN=>some (.ok (.bl (g true)) M)
  |_=>some (.ok (.bl (g false)) M)
 |.bl c=>match x with
  |.bl b=>some (.ok (.bl (g (b==c))) M)
  |_=>none
 |_=>none
def jy:Op2->F2
 |.add=>DB
 |.sub=>gI0 λi j=>.int (i - j)
 |.mul=>gI jg λi j=>.int (i*j)
 |.mulL=>gI (λi _=>pL i) λi j=>.int (i*j)
 |.mulR=>gI (λ_ j=>pL j) λi j=>.int (i*j)
 |.fdiv=>gI ma λi j=>.int (i/j)
 |.mod=>gI (λ_ j=>decide (0<j)) λi j=>.int (i % j)
 |.pow=>gI IG λi j=>.int (i ^ j.toNat)
 |.lt=>gI0 λi j=>.bl (decide (i<j))
 |.le=>gI0 λi j=>.bl (decide (i<=j))
 |.gt=>gI0 λi j=>.bl (decide (j<i))
 |.ge=>gI0 λi j=>.bl (decide (j<=i))
 |.eq=>gEq id
 |.ne=>gEq not
 |.isin=>gIn id
 |.xX=>gIn not
def opB:Op2->Option Operator
 |.add=>some .Add
 |.sub=>some .Sub
 |.mul=>some .Mult
 |.mulL=>some .Mult
 |.mulR=>some .Mult
 |.fdiv=>some .FloorDiv
 |.mod=>some .Mod
 |.pow=>some .Pow
 |_=>none
def opC:Op2->Option CmpOp
 |.lt=>some .Lt
 |.le=>some .LtE
 |.gt=>some .Gt
 |.ge=>some .GtE
 |.eq=>some .Eq
 |.ne=>some .NotEq
 |.isin=>some .In
 |.xX=>some .NotIn
 |_=>none
def RN:F1:=λd M=>match d with
 |.int i=>some (.ok (.int (-i)) M)
 |_=>none
def ql:Bif->FN
 |.len=>KP
 |.all=>Ax λbs=>bs.all id
 |.int=>Hx
 |.min=>gI2 λi j=>if j<i then j else i
 |.max=>gI2 λi j=>if j>i then j else i
 |.sum=>OK
 |.dict=>Aw
 |.list r=>Hu r
 |.tuple=>Av
def OL (kn:Str->Bool)(bs:List Str):F1:=λd M=>match d with
 |.exc c _=>if kn c=true then some (.ok (.bl (bs.contains c)) M) else none
 |d=>match tyD M d with
  |some _=>some (.ok (.bl false) M)
  |none=>none
def tNo:FT:=λ_ _=>none
structure mh where
 gl:Str->Option D
 xf:Str->Option (List Str)
 ub:String->Option (List Str)
 ic:Str->Option (List Str)
 mt:Str->Str->Option Str
 kd:Str->Option (List (Key×D))
 kt:Str->Option (List Str)
 known:Str->Bool
 run:Str->FN
def An:MGs->Nat
 |.nil=>0
 |.cons _ r=>An r+1
section
variable (Γ:mh)
def uU (x:Str):FE:=λ_ M=>match Γ.gl x with
 |some d=>some (.ok d M)
 |none=>none
def Ak (f:FE)(fa:FA):FE:=λδ M=>rb (f δ M) λd M1=>match d with
 |.fn x=>if Γ.known x=true then rb (fa δ M1) λds M2=>Γ.run x ds M2 else none
 |_=>none
def lh (x:Str)(fa:FA):FE:=if Γ.known x=true then mB (Γ.run x) fa else eNo
def lg (x:Str)(fa:FA):FE:=if Γ.known x=true then mB (gP (Γ.run x)) fa else eNo
def G0 (c f:Str)(g:FE):FE:=match Γ.ic c with
 |some fs=>if fs.contains f=true then mUn (ON c f) g else eNo
 |none=>eNo
def KO (c:Str)(f:FN):FN:=λds M=>if fw ds=true then (match f (.ref 0::ds) [.ins c []] with
 |some (.ok .WN M2)=>(match jP .data [] (.ref 0) M2 with
  |some (.ok d _)=>if d.pure=true then some (.ok d M) else none
  |_=>none)
 |some (.ex c' fs _)=>if nJ fs=true then some (.ex c' fs M) else none
 |_=>none) else none
def wg (c f:Str)(fa:FA):FE:=if (Γ.mt c "__init__"==some f&&(Γ.ic c).isSome&&Γ.known f)=true then mB (KO c (Γ.run f)) fa else eNo
def Af (c m f:Str)(fo:FE)(fa:FA):FE:=if (Γ.mt c m==some f&&(Γ.ic c).isSome&&Γ.known f&&!(m==("__init__":Str)))=true then GT c m (Γ.run f) fo fa else eNo
def Ag (c f:Str)(fe:FE):FE:=if (Γ.mt c "__len__"==some f&&(Γ.ic c).isSome&&Γ.known f)=true then GW c (Γ.run f) fe else eNo
def GX (x:Str)(fe:FE):FE:=match Γ.kd x with
 |some W0=>λδ M=>rb (fe δ M) λd M1=>match keyOf d with
  |some k=>some (.ok ((pE W0 k).getD .WN) M1)
  |none=>none
 |none=>eNo
def On (x:Str)(fe:FE):FE:=match Γ.kd x with
 |some W0=>λδ M=>rb (fe δ M) λd M1=>match keyOf d with
  |some k=>match pE W0 k with
   |some r=>some (.ok r M1)
   |none=>none
  |none=>none
 |none=>eNo
def Oo (x:Str)(fe:FE):FE:=match Γ.kt x with
 |some ss=>λδ M=>rb (fe δ M) λd M1=>match d with
  |.str y=>some (.ok (.bl (ss.contains y)) M1)
  |_=>none
 |none=>eNo
def Ah (c f:Str)(fo fv:FE):FS:=match Γ.ic c with
 |some fs=>if fs.contains f=true then LY c f fo fv else j5
 |none=>j5
def GY (c:Str)(g:FE):FE:=match Γ.ic c with
 |some _=>mUn (KR c) g
 |none=>eNo
def GZ (T:String)(g:FE):FE:=match Γ.ub T with
 |some bs=>mUn (OL (λc=>(Γ.xf c).isSome) bs) g
 |none=>eNo
def qa (ah3:Bool)(f:FE)(g:FE):FE:=if ah3=true then sj f g else Rr f g
def yr (ah3:Bool)(f:FT)(g:FT):FT:=if ah3=true then Rv f g else mOr f g
mutual
def WM:MX->FE
 |.v i=>mV i
 |.WN=>mC .WN
 |.bl b=>mC (.bl b)
 |.int i=>mC (.int i)
 |.str x=>mC (.str x)
 |.g x=>uU Γ x
 |.bin o a b=>mOp (jy o) (WM a) (WM b)
 |.cmp o a b=>mOp (jy o) (WM a) (WM b)
 |.chain o o' a b c=>Aj (jy o) (jy o') (WM a) (WM b) (WM c)
 |.bool k xs=>evB k xs
 |.not a=>yq (WM a)
 |.W9 t a b=>mIf (evT t) (WM a) (WM b)
 |.tup xs=>mB n5 (Xi xs)
 |.lst r xs=>mB (qe r) (Xi xs)
 |.ak4 r a xs=>mB (qe r) (GQ (WM a) (Xi xs))
 |.ak5 a xs=>mB n5 (GQ (WM a) (Xi xs))
 |.au6 r a=>mB (Hw r) (Xi a)
 |.au7 r a=>mB (Hv r) (Xi a)
 |.ix a b=>mOp gIx (WM a) (WM b)
 |.sl r a lo hi=>mSl r (WM a) (evO lo) (evO hi)
 |.fld c f a=>G0 Γ c f (WM a)
 |.bif b xs=>mB (ql b) (Xi xs)
 |.isT T a=>mUn (KQ T) (WM a)
 |.Du T T' a=>mUn (B8 T T') (WM a)
 |.isC c a=>GY Γ c (WM a)
 |.isB T a=>GZ Γ T (WM a)
 |.call f xs=>lh Γ f (Xi xs)
 |.cB f xs=>lg Γ f (Xi xs)
 |.rS c f xs=>wg Γ c f (Xi xs)
 |.vk i _ xs=>Ak Γ (mV i) (Xi xs)
 |.tO c m f o xs=>Af Γ c m f (WM o) (Xi xs)
 |.yv c f a=>Ag Γ c f (WM a)
 |.Dq x a=>GX Γ x (WM a)
 |.kix x a=>On Γ x (WM a)
 |.ap6=>L8
 |.ap7 o e=>LX (WM o) (WM e)
 |.app o e=>Ru (WM o) (WM e)
 |.comp r vars _ ix it tg ifs e=>uV r (evI it) (XB tg) (iq ifs) (WM e) vars.length ix
 |.vd r vars _ ix it tg ifs k e=>Ai r (evI it) (XB tg) (iq ifs) (WM k) (WM e) vars.length ix
 |.n8 r vars _ ix it tg a2 tg2 e=>wm r (evI it) (XB tg) (WM a2) (XB tg2) (WM e) vars.length ix
 |.lF vars _ ix it tg ifs k e=>wj (evI it) (XB tg) (iq ifs) (WM k) (WM e) vars.length ix
 |.kin x a=>Oo Γ x (WM a)
 |.rj r vars _ ix it tg e=>Ab r (evI it) (XB tg) (WM e) vars.length ix
 |.never=>eNo
def Xi:Xr->FA
 |.nil=>sg
 |.cons a r=>si (WM a) (Xi r)
def evB (k:Bool):Xr->FE
 |.nil=>eNo
 |.cons a r=>match r with
  |.nil=>WM a
  |.cons _ _=>qa k (WM a) (evB k r)
def evT:MT->FT
 |.val a=>Aa (WM a)
 |.cmp o a b=>tru (mOp (jy o) (WM a) (WM b))
 |.chain o o' a b c=>tru (Aj (jy o) (jy o') (WM a) (WM b) (WM c))
 |.not t=>Ae (evT t)
 |.bool k ts=>yG k ts
def yG (k:Bool):MTs->FT
 |.nil=>tNo
 |.cons a r=>match r with
  |.nil=>evT a
  |.cons _ _=>yr k (evT a) (yG k r)
def iq:MTs->FT
 |.nil=>Es
 |.cons a r=>match r with
  |.nil=>evT a
  |.cons _ _=>tNo
def evO:MO->FO
 |.none=>oN
 |.some a=>oS (WM a)
def evI:MI->FI
 |.lst a=>fiL (WM a)
 |.tup a=>fiT (WM a)
 |.rng xs=>fiR (Xi xs)
 |.enum xs=>fiE (Xi xs)
 |.ak7 xs=>RU (Xi xs)
 |.str a=>fiS (WM a)
def XB:MG->FG
 |.nm i=>nG i
 |.tup gs=>uO (An gs) (DC gs)
 |.sub o i=>BO (WM o) (WM i)
def DC:MGs->FGs
 |.nil=>uP
 |.cons g r=>oY (XB g) (DC r)
end
end
end
end
section
noncomputable section
section
variable (Γ:mh)
def G5:Xr->Nat
 |.nil=>0
 |.cons _ r=>G5 r+1
def Ac (c:Str)(k:Nat)(fa:FA):FS:=match Γ.xf c with
 |some ns=>if k=ns.length/\k<=100 then λδ M=>sb δ (fa δ M) λds M1=>if ds.length=ns.length then some (.ex c (ns.zip ds) δ M1) else none else j5
 |none=>j5
def Uy:Op2->F2
 |.add=>gI0 λi j=>.int (i+j)
 |.sub=>gI0 λi j=>.int (i - j)
 |.mul=>gI jg λi j=>.int (i*j)
 |_=>λ_ _ _=>none
def O6 (i:Nat):Option Out->Option Out
 |some (.nx δ M)=>some (.nx (δ.set i none) M)
 |some (.rt d M)=>some (.rt d M)
 |some (.bk δ M)=>some (.bk (δ.set i none) M)
 |some (.ct δ M)=>some (.ct (δ.set i none) M)
 |_=>none
def SG:Option Out->Option Out
 |some (.ex _ _ _ _)=>none
 |o=>o
def se (c:Str)(i:Nat)(b h:FS):FS:=λδ M=>match b δ M with
 |some (.ex c' fs δ' M')=>if c'=c then O6 i (h (δ'.set i (some (.exc c fs))) M') else none
 |o=>o
def Om (c:Str)(b h:FS):FS:=λδ M=>match b δ M with
 |some (.ex c' fs δ' M')=>if c'=c then SG (h δ' M') else none
 |o=>o
def nU (c:Str)(i:Nat)(b h:FS):FS:=match Γ.xf c with
 |some _=>se c i b h
 |none=>j5
mutual
noncomputable def Xj:MSt->FS
 |.expr a=>nV (WM Γ a)
 |.ret a=>sf (WM Γ a)
 |.asg g a=>kC (WM Γ a) (XB Γ g)
 |.aug i _ o a=>Kz i (WM Γ a) (Uy o)
 |.W9 t a b=>pe (evT Γ t) (cN a) (cN b)
 |.for_ it g b=>Kx (evI Γ it) (XB Γ g) (cN b)
 |.whl k t b=>jU (evT Γ t) (cN b) k
 |.par i _ j _ a=>Ad i j (Xi Γ a)
 |.ah4 c f o a=>Ah Γ c f (WM Γ o) (WM Γ a)
 |.raise c xs=>Ac Γ c (G5 xs) (Xi Γ xs)
 |.ah5 c i _ b h=>nU Γ c i (cN b) (cN h)
 |.never=>j5
noncomputable def cN:MSs->FS
 |.nil=>uT
 |.cons s r=>k9 (Xj s) (cN r)
end
end
structure cA where
 ps:List Str
 N:List Str
 mode:Cl
 dv:List D
 body:MSs
structure fE where
 gl:Str->Option D
 xf:Str->Option (List Str)
 ub:String->Option (List Str)
 ic:Str->Option (List Str)
 mt:Str->Str->Option Str
 kd:Str->Option (List (Key×D))
 kt:Str->Option (List Str)
 defs:Str->Option cA
def bY (Pg:fE):Nat->Str->FN
 | 0,_=>λ_ _=>none
 |n+1,x=>match Pg.defs x with
  |none=>λ_ _=>none
  |some md=>λds M=>mFn md.ps.length md.N.length md.mode (cN ⟨Pg.gl,Pg.xf,Pg.ub,Pg.ic,Pg.mt,Pg.kd,Pg.kt,λx=>(Pg.defs x).isSome,bY Pg n⟩ md.body) (ds++md.dv) M
abbrev fE.env (Pg:fE)(n:Nat):mh:=⟨Pg.gl,Pg.xf,Pg.ub,Pg.ic,Pg.mt,Pg.kd,Pg.kt,λx=>(Pg.defs x).isSome,bY Pg n⟩
def iV (Pg:fE)(md:cA):Nat->FN
 | 0=>λ_ _=>none
 |n+1=>mFn md.ps.length md.N.length md.mode (cN (Pg.env n) md.body)
theorem dF {Pg:fE}{md:cA}(h:Pg.defs x=some md):∀(n:Nat)(ds:List D)(M:MS),bY Pg n x ds M=iV Pg md n (ds++md.dv) M
 | 0,_,_=>rfl
 |n+1,_,_=>by rw[bY,h];rfl
structure CC where
 N:List Str
 sc:Scope
 calm:Bool
 def_:Bool
 own:Str->Bool
def vY (x:Str):Bool:=!(x==("__debug__":Str))&&!(x==("__classdict__":Str))
def ur (sc:Scope)(x:Str):Bool:=match sc.names.lookup x with
 |some .local=>true
 |some .cell=>true
 |some .free=>true
 |_=>false
def uW (cc:CC)(x:Str):Bool:=match cc.sc.names.lookup x with
 |some .local=>true
 |some .cell=>cc.own x
 |_=>false
def mI (cc:CC)(x:Str):Bool:=match cc.sc.names.lookup x with
 |some .local=>true
 |_=>false
def dI (cc:CC)(x:Str):Bool:=(match cc.sc.names.lookup x with
 |some .globalImplicit=>true
 |_=>false)&&!(x==("__debug__":Str))
def gO (cc:CC)(i:Nat)(x:Str):Bool:=match cc.N[i]? with
 |some y=>y==x
 |none=>false
def gp (x:Str):Bool:=x.cps.contains 46
section
variable {a b c d e f g i j k l:Bool}
theorem Yn (h:a&&b&&c):a:=X8 (X8 h)
theorem YB (h:a&&b&&c&&d):a:=Yn (X8 h)
theorem YL (h:a&&b&&c&&d&&e):a:=YB (X8 h)
theorem Zn (h:a&&b&&c&&d&&e&&f):a:=YL (X8 h)
theorem Zm (h:a&&b&&c&&d&&e&&f&&g):a:=Zn (X8 h)
theorem ZV (h:a&&b&&c&&d&&e&&f&&g&&i):a:=Zm (X8 h)
theorem Zl (h:a&&b&&c&&d&&e&&f&&g&&i&&j):a:=ZV (X8 h)
theorem aa9 (h:a&&b&&c&&d&&e&&f&&g&&i&&j&&k):a:=Zl (X8 h)
theorem Z4 (h:a&&!b):b=false:=ZD (XZ h)
theorem YA (h:a&&!b&&c):b=false:=Z4 (X8 h)
theorem Yz (h:a&&!b&&c&&d):b=false:=YA (X8 h)
theorem YK (h:a&&!b&&c&&d&&e):b=false:=Yz (X8 h)
theorem Zk (h:a&&!b&&c&&d&&e&&f):b=false:=YK (X8 h)
theorem YZ (h:a&&!b&&c&&d&&e&&f&&g):b=false:=Zk (X8 h)
theorem ZU (h:a&&!b&&c&&d&&e&&f&&g&&i):b=false:=YZ (X8 h)
theorem ZT (h:!a&&b):a=false:=ZD (X8 h)
theorem YT (h:!a&&b&&c):a=false:=ZT (X8 h)
theorem Z3 (h:!a&&b&&c&&d):a=false:=YT (X8 h)
theorem X7 (h:a&&b&&c):b:=XZ (X8 h)
theorem Yg (h:a&&b&&c&&d):b:=X7 (X8 h)
theorem Yk (h:a&&b&&c&&d&&e):b:=Yg (X8 h)
theorem Yx (h:a&&b&&c&&d&&e&&f):b:=Yk (X8 h)
theorem YJ (h:a&&b&&c&&d&&e&&f&&g):b:=Yx (X8 h)
theorem Zj (h:a&&b&&c&&d&&e&&f&&g&&i):b:=YJ (X8 h)
theorem Zi (h:a&&b&&c&&d&&e&&f&&g&&i&&j):b:=Zj (X8 h)
theorem aa8 (h:a&&b&&c&&d&&e&&f&&g&&i&&j&&k):b:=Zi (X8 h)
end
def XV {α:Type}(_:α):Bool:=false
def XU {α β:Type}(_:α)(_:β):Bool:=false
def vB {α β γ:Type}(_:α)(_:β)(_:γ):Bool:=false
def XY {α β γ δ:Type}(_:α)(_:β)(_:γ)(_:δ):Bool:=false
theorem X5 {α:Type}{P:α->Prop}(a:α)(h:false=true):P a:=YM h
theorem XX {α β:Type}{P:α->β->Prop}(a:α)(b:β)(h:false=true):P a b:=YM h
theorem V0 {α β γ:Type}{P:α->β->γ->Prop}(a:α)(b:β)(c:γ)(h:false=true):P a b c:=YM h
theorem XT {α β γ δ:Type}{P:α->β->γ->δ->Prop}(a:α)(b:β)(c:γ)(d:δ)(h:false=true):P a b c d:=YM h
theorem X2 {α β γ δ ε:Type}{P:α->β->γ->δ->ε->Prop}(a:α)(b:β)(c:γ)(d:δ)(e:ε)(h:false=true):P a b c d e:=YM h
section
variable {e:Expr}{P:Expr->Prop}{α:Type}{l:List α}{Q:List α->Prop}
def Yc (e:Expr)(bo:BoolOp->List Expr->Bool)(bi:Expr->Operator->Expr->Bool)(un:UnaryOp->Expr->Bool)(ie:Expr->Expr->Expr->Bool)(lc:Expr->List Comprehension->Scope->Bool)(st:Expr->List Comprehension->Scope->Bool)(dc:Expr->Expr->List Comprehension->Scope->Bool)(cm:Expr->List CmpOp->List Expr->Bool)(cl:Expr->List Expr->List Keyword->Pos->Bool)(ct:Const->Bool)(at_:Expr->Str->Pos->Bool)(su:Expr->Expr->Bool)(sr:Expr->Bool)(nm:Str->Pos->Bool)(ls:List Expr->Bool)(tu:List Expr->Bool)(sl:Option Expr->Option Expr->Option Expr->Bool)(di:List (Option Expr)->List Expr->Bool)(se:Bool):Bool:=match e with
 |.BoolOp o es _=>bo o es
 |.BinOp l p r _=>bi l p r
 |.UnaryOp o l _=>un o l
 |.IfExp c l r _=>ie c l r
 |.ListComp a gs sc _=>lc a gs sc
 |.SetComp a gs sc _=>st a gs sc
 |.DictComp k a gs sc _=>dc k a gs sc
 |.Compare l ps rs _=>cm l ps rs
 |.Call g es ks q=>cl g es ks q
 |.Constant c _ _=>ct c
 |.Attribute l g p=>at_ l g p
 |.Subscript l r _=>su l r
 |.Starred l _=>sr l
 |.Name y p=>nm y p
 |.List es _=>ls es
 |.Tuple es _ _=>tu es
 |.Slice x y w _=>sl x y w
 |.Dict ks vs _=>di ks vs
 |.Set _ _ _=>se
 |_=>false
@[elab_as_elim]theorem X6 {bo bi un ie lc st dc cm cl ct at_ su sr nm ls tu sl di se}(h:Yc e bo bi un ie lc st dc cm cl ct at_ su sr nm ls tu sl di se)(k0:∀o es u1,bo o es->P (.BoolOp o es u1))(k1:∀l p r u1,bi l p r->P (.BinOp l p r u1))(k2:∀o l u1,un o l->P (.UnaryOp o l u1))(k3:∀c l r u1,ie c l r->P (.IfExp c l r u1))(k4:∀a gs sc u1,lc a gs sc->P (.ListComp a gs sc u1))(k5:∀a gs sc u1,st a gs sc->P (.SetComp a gs sc u1))(k6:∀k a gs sc u1,dc k a gs sc->P (.DictComp k a gs sc u1))(k7:∀l ps rs u1,cm l ps rs->P (.Compare l ps rs u1))(k8:∀g es ks q,cl g es ks q->P (.Call g es ks q))(k9:∀c u1 u2,ct c->P (.Constant c u1 u2))(k10:∀l g p,at_ l g p->P (.Attribute l g p))(k11:∀l r u1,su l r->P (.Subscript l r u1))(k12:∀l u1,sr l->P (.Starred l u1))(k13:∀y p,nm y p->P (.Name y p))(k14:∀es u1,ls es->P (.List es u1))(k15:∀es u1 u2,tu es->P (.Tuple es u1 u2))(k16:∀x y w u1,sl x y w->P (.Slice x y w u1))(k17:∀ks vs u1,di ks vs->P (.Dict ks vs u1))(k18:∀u1 u2 u3,se->P (.Set u1 u2 u3)):P e:=by
 cases e with
 |BoolOp o es u1=>exact k0 _ _ _ h
 |BinOp l p r u1=>exact k1 _ _ _ _ h
 |UnaryOp o l u1=>exact k2 _ _ _ h
 |IfExp c l r u1=>exact k3 _ _ _ _ h
 |ListComp a gs sc u1=>exact k4 _ _ _ _ h
 |SetComp a gs sc u1=>exact k5 _ _ _ _ h
 |DictComp k a gs sc u1=>exact k6 _ _ _ _ _ h
 |Compare l ps rs u1=>exact k7 _ _ _ _ h
 |Call g es ks q=>exact k8 _ _ _ _ h
 |Constant c u1 u2=>exact k9 _ _ _ h
 |Attribute l g p=>exact k10 _ _ _ h
 |Subscript l r u1=>exact k11 _ _ _ h
 |Starred l u1=>exact k12 _ _ h
 |Name y p=>exact k13 _ _ h
 |List es u1=>exact k14 _ _ h
 |Tuple es u1 u2=>exact k15 _ _ _ h
 |Slice x y w u1=>exact k16 _ _ _ _ h
 |Dict ks vs u1=>exact k17 _ _ _ h
 |Set u1 u2 u3=>exact k18 _ _ _ h
 |_=>cases h
def Xl (e:Expr)(f:Expr->Operator->Expr->Bool):Bool:=Yc e XU f XU vB vB vB XY vB XY XV vB XU XV XU XV XV vB XU false
@[elab_as_elim]theorem W2 {f}(h:Xl e f)(k:∀l p r u1,f l p r->P (.BinOp l p r u1)):P e:=X6 h V0 k V0 XT XT XT X2 XT XT V0 V0 V0 XX XX XX V0 XT V0 V0
def YN (e:Expr)(f:UnaryOp->Expr->Bool):Bool:=Yc e XU vB f vB vB vB XY vB XY XV vB XU XV XU XV XV vB XU false
@[elab_as_elim]theorem YO {f}(h:YN e f)(k:∀o l u1,f o l->P (.UnaryOp o l u1)):P e:=X6 h V0 XT k XT XT XT X2 XT XT V0 V0 V0 XX XX XX V0 XT V0 V0
def Z0 (e:Expr)(f:Expr->Expr->Expr->Bool):Bool:=Yc e XU vB XU f vB vB XY vB XY XV vB XU XV XU XV XV vB XU false
@[elab_as_elim]theorem ZM {f}(h:Z0 e f)(k:∀c l r u1,f c l r->P (.IfExp c l r u1)):P e:=X6 h V0 XT V0 k XT XT X2 XT XT V0 V0 V0 XX XX XX V0 XT V0 V0
def Y4 (e:Expr)(f:Expr->List Comprehension->Scope->Bool):Bool:=Yc e XU vB XU vB f vB XY vB XY XV vB XU XV XU XV XV vB XU false
@[elab_as_elim]theorem Yu {f}(h:Y4 e f)(k:∀a gs sc u1,f a gs sc->P (.ListComp a gs sc u1)):P e:=X6 h V0 XT V0 XT k XT X2 XT XT V0 V0 V0 XX XX XX V0 XT V0 V0
def ZI (e:Expr)(f:Expr->List Comprehension->Scope->Bool):Bool:=Yc e XU vB XU vB vB f XY vB XY XV vB XU XV XU XV XV vB XU false
@[elab_as_elim]theorem Zy {f}(h:ZI e f)(k:∀a gs sc u1,f a gs sc->P (.SetComp a gs sc u1)):P e:=X6 h V0 XT V0 XT XT k X2 XT XT V0 V0 V0 XX XX XX V0 XT V0 V0
def Y5 (e:Expr)(f:Expr->Expr->List Comprehension->Scope->Bool):Bool:=Yc e XU vB XU vB vB vB f vB XY XV vB XU XV XU XV XV vB XU false
@[elab_as_elim]theorem YS {f}(h:Y5 e f)(k:∀k a gs sc u1,f k a gs sc->P (.DictComp k a gs sc u1)):P e:=X6 h V0 XT V0 XT XT XT k XT XT V0 V0 V0 XX XX XX V0 XT V0 V0
def Wx (e:Expr)(f:Expr->List CmpOp->List Expr->Bool):Bool:=Yc e XU vB XU vB vB vB XY f XY XV vB XU XV XU XV XV vB XU false
@[elab_as_elim]theorem Q2 {f}(h:Wx e f)(k:∀l ps rs u1,f l ps rs->P (.Compare l ps rs u1)):P e:=X6 h V0 XT V0 XT XT XT X2 k XT V0 V0 V0 XX XX XX V0 XT V0 V0
def Y6 (e:Expr)(f:Expr->List Expr->List Keyword->Pos->Bool):Bool:=Yc e XU vB XU vB vB vB XY vB f XV vB XU XV XU XV XV vB XU false
@[elab_as_elim]theorem YX {f}(h:Y6 e f)(k:∀g es ks q,f g es ks q->P (.Call g es ks q)):P e:=X6 h V0 XT V0 XT XT XT X2 XT k V0 V0 V0 XX XX XX V0 XT V0 V0
def YD (e:Expr)(f:Const->Bool):Bool:=Yc e XU vB XU vB vB vB XY vB XY f vB XU XV XU XV XV vB XU false
@[elab_as_elim]theorem Yv {f}(h:YD e f)(k:∀c u1 u2,f c->P (.Constant c u1 u2)):P e:=X6 h V0 XT V0 XT XT XT X2 XT XT k V0 V0 XX XX XX V0 XT V0 V0
def Zq (e:Expr)(f:Expr->Str->Pos->Bool):Bool:=Yc e XU vB XU vB vB vB XY vB XY XV f XU XV XU XV XV vB XU false
@[elab_as_elim]theorem YY {f}(h:Zq e f)(k:∀l g p,f l g p->P (.Attribute l g p)):P e:=X6 h V0 XT V0 XT XT XT X2 XT XT V0 k V0 XX XX XX V0 XT V0 V0
def WC (e:Expr)(f:Expr->Expr->Bool):Bool:=Yc e XU vB XU vB vB vB XY vB XY XV vB f XV XU XV XV vB XU false
@[elab_as_elim]theorem Wp {f}(h:WC e f)(k:∀l r u1,f l r->P (.Subscript l r u1)):P e:=X6 h V0 XT V0 XT XT XT X2 XT XT V0 V0 k XX XX XX V0 XT V0 V0
def Yt (e:Expr)(f:Str->Pos->Bool):Bool:=Yc e XU vB XU vB vB vB XY vB XY XV vB XU XV f XV XV vB XU false
@[elab_as_elim]theorem Ym {f}(h:Yt e f)(k:∀y p,f y p->P (.Name y p)):P e:=X6 h V0 XT V0 XT XT XT X2 XT XT V0 V0 V0 XX k XX V0 XT V0 V0
def WS (e:Expr)(f:List Expr->Bool):Bool:=Yc e XU vB XU vB vB vB XY vB XY XV vB XU XV XU f XV vB XU false
@[elab_as_elim]theorem WH {f}(h:WS e f)(k:∀es u1,f es->P (.List es u1)):P e:=X6 h V0 XT V0 XT XT XT X2 XT XT V0 V0 V0 XX XX k V0 XT V0 V0
def Wu (e:Expr)(f:List Expr->Bool):Bool:=Yc e XU vB XU vB vB vB XY vB XY XV vB XU XV XU XV f vB XU false
@[elab_as_elim]theorem rD {f}(h:Wu e f)(k:∀es u1 u2,f es->P (.Tuple es u1 u2)):P e:=X6 h V0 XT V0 XT XT XT X2 XT XT V0 V0 V0 XX XX XX k XT V0 V0
def YF (e:Expr)(f:Expr->Bool):Bool:=Yc e XU vB XU vB vB vB XY vB XY XV vB XU f XU XV XV vB XU false
@[elab_as_elim]theorem Y0 {f}(h:YF e f)(k:∀l u1,f l->P (.Starred l u1)):P e:=X6 h V0 XT V0 XT XT XT X2 XT XT V0 V0 V0 k XX XX V0 XT V0 V0
def Y1 (e:Expr)(f:Option Expr->Option Expr->Option Expr->Bool):Bool:=Yc e XU vB XU vB vB vB XY vB XY XV vB XU XV XU XV XV f XU false
@[elab_as_elim]theorem Zp {f}(h:Y1 e f)(k:∀x y w u1,f x y w->P (.Slice x y w u1)):P e:=X6 h V0 XT V0 XT XT XT X2 XT XT V0 V0 V0 XX XX XX V0 k V0 V0
def Zd (e:Expr)(f:BoolOp->List Expr->Bool):Bool:=Yc e f vB XU vB vB vB XY vB XY XV vB XU XV XU XV XV vB XU false
@[elab_as_elim]theorem Zc {f}(h:Zd e f)(k:∀o es u1,f o es->P (.BoolOp o es u1)):P e:=X6 h k XT V0 XT XT XT X2 XT XT V0 V0 V0 XX XX XX V0 XT V0 V0
def Y3 (e:Expr)(f:Str->Bool):Bool:=Yt e λy _=>f y
@[elab_as_elim]theorem YG {f}(h:Y3 e f)(k:∀y p,f y->P (.Name y p)):P e:=Ym h k
def isNamed (x:Str)(e:Expr):Bool:=Yt e λy _=>y==x
@[elab_as_elim]theorem Ya {x:Str}(h:isNamed x e)(k:∀p,P (.Name x p)):P e:=Ym h λy p q=>by rw[eq_of_beq q];exact k p
def Yh {α:Type}(l:List α)(b:Bool):Bool:=match l with
 | []=>b
 |_=>false
@[elab_as_elim]theorem X4 {b}(h:Yh l b)(k:b->Q []):Q l:=by
 cases l with
 |nil=>exact k h
 |cons _ _=>cases h
def mQ {α:Type}(l:List α)(f:α->List α->Bool):Bool:=match l with
 |a::r=>f a r
 |_=>false
@[elab_as_elim]theorem fk {f}(h:mQ l f)(k:∀a r,f a r->Q (a::r)):Q l:=by
 cases l with
 |nil=>cases h
 |cons a r=>exact k a r h
def Yf {α:Type}(l:List α)(f:α->Bool):Bool:=mQ l λa r=>Yh r (f a)
@[elab_as_elim]theorem X3 {f}(h:Yf l f)(k:∀a,f a->Q [a]):Q l:=fk h λa r h=>X4 h (k a)
def Yq {α:Type}(l:List α)(f:α->α->Bool):Bool:=mQ l λa r=>Yf r (f a)
@[elab_as_elim]theorem Ye {f}(h:Yq l f)(k:∀a b,f a b->Q [a,b]):Q l:=fk h λa r h=>X3 h (k a)
def YC {α:Type}(o:Option α)(f:α->Bool):Bool:=match o with
 |some a=>f a
 |none=>false
@[elab_as_elim]theorem Yr {α:Type}{o:Option α}{f}{P:Option α->Prop}(h:YC o f)(k:∀a,f a->P (some a)):P o:=by
 cases o with
 |none=>cases h
 |some a=>exact k a h
@[elab_as_elim]theorem WB {α:Type}{o:Option α}{P:Option α->Prop}(h:o.isNone)(k:P none):P o:=by
 cases o with
 |none=>exact k
 |some a=>cases h
def WY (e:Expr)(f:Expr->Bool):Bool:=YN e λo l=>match o with
 |.Not=>f l
 |_=>false
@[elab_as_elim]theorem WG {f}(h:WY e f)(k:∀l p,f l->P (.UnaryOp .Not l p)):P e:=YO h λo l p h=>by
 cases o with
 |Not=>exact k l p h
 |_=>cases h
def WO (k:Bool)(e:Expr)(f:List Expr->Bool):Bool:=Zd e λo es=>match o with
 |.And=>k&&f es
 |.Or=>!k&&f es
@[elab_as_elim]theorem Wy {k:Bool}{e:Expr}{f}{P:Bool->Expr->Prop}(h:WO k e f)(ka:∀es p,f es->P true (.BoolOp .And es p))(ko:∀es p,f es->P false (.BoolOp .Or es p)):P k e:=Zc h λo es p h=>by
 cases o with
 |And=>rw[X8 h];exact ka es p (XZ h)
 |Or=>rw[ZD (X8 h)];exact ko es p (XZ h)
def Zo (es:List Expr)(f:Expr->List Expr->Bool):Bool:=mQ es λs r=>YF s λl=>f l r
@[elab_as_elim]theorem YV {es:List Expr}{f}{P:List Expr->Prop}(h:Zo es f)(k:∀l p r,f l r->P (.Starred l p::r)):P es:=fk h λs r h=>Y0 h λl p h=>k l p r h
def Xk (e:Expr)(f:Option Expr->Option Expr->Bool):Bool:=Y1 e λx y w=>w.isNone&&f x y
@[elab_as_elim]theorem WX {f}(h:Xk e f)(k:∀x y p,f x y->P (.Slice x y none p)):P e:=Zp h λx y w p h=>WB (X8 h) (k x y p (XZ h))
def W3 (m:Str)(e:Expr)(f:Expr->Bool):Bool:=Zq e λl g _=>g==m&&f l
@[elab_as_elim]theorem WI {m:Str}{f}(h:W3 m e f)(k:∀l p,f l->P (.Attribute l m p)):P e:=YY h λl g p h=>by rw[eq_of_beq (X8 h)];exact k l p (XZ h)
def X9 (x:Str)(e:Expr)(f:List Expr->Bool):Bool:=Y6 e λg es ks _=>isNamed x g&&Yh ks (f es)
@[elab_as_elim]theorem X0 {x:Str}{f}(h:X9 x e f)(k:∀p es q,f es->P (.Call (.Name x p) es [] q)):P e:=YX h λg es ks q h=>Ya (X8 h) λp=>X4 (XZ h) (k p es q)
def YE (m:Str)(e:Expr)(f:Expr->List Expr->Bool):Bool:=Y6 e λg es ks q=>Zq g λl y p=>y==m&&Yh ks ((p.endLine==q.line)&&f l es)
@[elab_as_elim]theorem Yw {m:Str}{f}(h:YE m e f)(k:∀l p es q,(p.endLine==q.line)->f l es->P (.Call (.Attribute l m p) es [] q)):P e:=YX h λg es ks q h=>YY h λl y p h=>by
 rw[eq_of_beq (X8 h)];exact X4 (XZ h) λh=>k l p es q (X8 h) (XZ h)
def YR (gs:List Comprehension)(f:Expr->Expr->List Expr->Bool):Bool:=Yf gs λg=>g.is_async==0&&f g.target g.iter g.ifs
@[elab_as_elim]theorem YQ {g:Comprehension}{P:Comprehension->Prop}(h:(g.is_async==0))(k:P ⟨g.target,g.iter,g.ifs,0⟩):P g:=by
 obtain⟨t,i,fs,n⟩:=g;obtain rfl:n=0:=eq_of_beq h;exact k
@[elab_as_elim]theorem Ys {gs:List Comprehension}{f}{P:List Comprehension->Prop}(h:YR gs f)(k:∀t i fs,f t i fs->P [⟨t,i,fs,0⟩]):P gs:=X3 h λg h=>YQ (X8 h) (k _ _ _ (XZ h))
def ZN (gs:List Comprehension)(f:Expr->Expr->Expr->Expr->Bool):Bool:=Yq gs λg j=>g.is_async==0&&j.is_async==0&&Yh g.ifs (Yh j.ifs (f g.target g.iter j.target j.iter))
@[elab_as_elim]theorem YW {gs:List Comprehension}{f}{P:List Comprehension->Prop}(h:ZN gs f)(k:∀t i t2 i2,f t i t2 i2->P [⟨t,i,[],0⟩,⟨t2,i2,[],0⟩]):P gs:=Ye h λg j h=>YQ (Yn h) (YQ (X7 h) (X4 (XZ h) λh=>X4 h λh=>k _ _ _ _ h))
end
def isStar (e:Expr):Bool:=YF e λ_=>true
def plainT (e:Expr):Bool:=!(YN e λo _=>match o with
 |.Not=>true
 |_=>false)&&!(Yc e (λ_ _=>true) vB XU (λ_ _ _=>true) vB vB XY (λ_ _ _=>true) XY XV vB XU XV XU XV XV vB XU false)
def ka (e:Expr):Bool:=Y1 e λ_ _ _=>true
def wG (e:Expr):Bool:=Yc e XU vB XU vB (λ_ _ _=>true) (λ_ _ _=>true) (λ_ _ _ _=>true) vB XY XV vB XU XV XU XV XV vB XU false
def j9 (e:Expr):Bool:=Wu e λ_=>true
def isName (e:Expr):Bool:=Yt e λ_ _=>true
def eR (e:Expr):Bool:=Yc e XU vB XU vB vB vB XY vB XY XV vB XU XV XU XV XV vB XU true
def f6 (e:Expr):Bool:=Y6 e λg es ks _=>Yt g λ_ _=>Yh es (Yh ks true)
def IJ:Bif->Str
 |.len=>"len"
 |.all=>"all"
 |.int=>"int"
 |.min=>"min"
 |.max=>"max"
 |.sum=>"sum"
 |.dict=>"dict"
 |.list _=>"list"
 |.tuple=>"tuple"
def uF (sc osc:Scope):Scope:={ sc with names:=sc.names.map λ(n,k)=>if (k==.free&&osc.kind==.function&&osc.names.lookup n==some .cell) then (n,.cell) else (n,k) }
def vX:List Str->Bool
 | []=>true
 |x::xs=>!xs.contains x&&vX xs
def i6 (vars bq:List Str)(ix:List Nat)(cc:CC)(sc:Scope):Bool:=
 (ix.map λi=>cc.N.getD i "")==bq&&ix.all (λi=>decide (i<cc.N.length))&&d7 sc cc.sc vars bq&&vX (vars++bq)
abbrev Xs (vars bq:List Str)(sc osc:Scope):CC:=⟨vars++bq,uF sc osc,true,false,λy=>sc.names.lookup y==some .cell⟩
mutual
noncomputable def bQ:MX->CC->Expr->Bool
 |.v i=>λcc e=>Y3 e λy=>gO cc i y&&ur cc.sc y&&vY y
 |.WN=>λ_ e=>YD e λc=>match c with
  |.none=>true
  |_=>false
 |.bl b=>λ_ e=>YD e λc=>match c with
  |.bool d=>d==b
  |_=>false
 |.int i=>λ_ e=>YD e λc=>match c with
  |.int d=>d==i
  |_=>false
 |.str x=>λ_ e=>YD e λc=>match c with
  |.str d=>d==x
  |_=>false
 |.g x=>λcc e=>isNamed x e&&dI cc x
 |.bin o a b=>λcc e=>Xl e λl p r=>opB o==some p&&bQ a cc l&&bQ b cc r
 |.cmp o a b=>λcc e=>Wx e λl ps rs=>Yf ps λp=>Yf rs λr=>opC o==some p&&!behindInMarks p r&&bQ a cc l&&bQ b cc r
 |.chain o o' a b c=>λcc e=>Wx e λl ps rs=>Yq ps λp p'=>Yq rs λm r=>opC o==some p&&opC o'==some p'&&!lastMarks [p,p'] [m,r]&&bQ a cc l&&bQ b cc m&&bQ c cc r
 |.bool k xs=>λcc e=>WO k e λes=>sP xs cc es
 |.not a=>λcc e=>WY e λl=>bQ a cc l
 |.W9 t a b=>λcc e=>Z0 e λc l r=>qr t cc c&&bQ a cc l&&bQ b cc r
 |.tup xs=>λcc e=>Wu e λes=>eT xs cc es
 |.lst _ xs=>λcc e=>WS e λes=>eT xs cc es
 |.ak4 _ a xs=>λcc e=>WS e λes=>Zo es λl r=>bQ a cc l&&eT xs cc r
 |.ak5 a xs=>λcc e=>Wu e λes=>Zo es λl r=>bQ a cc l&&eT xs cc r
 |.au6 _ xs=>λcc e=>X9 ("list":Str) e λes=>Yf es λb=>X9 ("range":Str) b λes=>Yf es λa=>cc.calm&&dI cc ("list":Str)&&dI cc ("range":Str)&&eT xs cc [a]
 |.au7 _ xs=>λcc e=>X9 ("list":Str) e λes=>Yf es λb=>X9 ("zip":Str) b λes=>Yq es λa a'=>cc.calm&&dI cc ("list":Str)&&dI cc ("zip":Str)&&eT xs cc [a,a']
 |.ix a b=>λcc e=>WC e λl r=>!ka r&&bQ a cc l&&bQ b cc r
 |.sl _ a lo hi=>λcc e=>WC e λl r=>Xk r λx y=>bQ a cc l&&Iq lo cc x&&Iq hi cc y
 |.fld _ f a=>λcc e=>W3 f e λl=>!f6 l&&bQ a cc l
 |.bif b xs=>λcc e=>X9 (IJ b) e λes=>mQ es λa r=>cc.calm&&dI cc (IJ b)&&eT xs cc (a::r)
 |.isT T a=>λcc e=>X9 ("isinstance":Str) e λes=>Yq es λl r=>isNamed (Str.ofString T) r&&dI cc ("isinstance":Str)&&dI cc (Str.ofString T)&&mO.contains T&&!isStar l&&bQ a cc l
 |.Du T T' a=>λcc e=>X9 ("isinstance":Str) e λes=>Yq es λl r=>Wu r λts=>Yq ts λt t'=>isNamed (Str.ofString T) t&&isNamed (Str.ofString T') t'&&dI cc ("isinstance":Str)&&dI cc (Str.ofString T)&&mO.contains T&&dI cc (Str.ofString T')&&mO.contains T'&&!isStar l&&bQ a cc l
 |.isC c a=>λcc e=>X9 ("isinstance":Str) e λes=>Yq es λl r=>isNamed c r&&dI cc ("isinstance":Str)&&dI cc c&&!isStar l&&bQ a cc l
 |.isB T a=>λcc e=>X9 ("isinstance":Str) e λes=>Yq es λl r=>isNamed (Str.ofString T) r&&dI cc ("isinstance":Str)&&dI cc (Str.ofString T)&&!isStar l&&bQ a cc l
 |.call f xs=>λcc e=>X9 f e λes=>cc.calm&&!gp f&&dI cc f&&eT xs cc es
 |.cB f xs=>λcc e=>X9 f e λes=>cc.calm&&!gp f&&dI cc f&&eT xs cc es
 |.rS c _ xs=>λcc e=>X9 c e λes=>mQ es λa r=>cc.calm&&dI cc c&&eT xs cc (a::r)
 |.vk i x xs=>λcc e=>X9 x e λes=>mQ es λa r=>cc.calm&&gO cc i x&&ur cc.sc x&&vY x&&eT xs cc (a::r)
 |.tO _ m _ o xs=>λcc e=>YE m e λl es=>cc.calm&&!f6 l&&decide (es.length<29)&&bQ o cc l&&eT xs cc es
 |.yv _ _ a=>λcc e=>X9 ("len":Str) e λes=>Yf es λl=>cc.calm&&dI cc ("len":Str)&&!isStar l&&bQ a cc l
 |.Dq x a=>λcc e=>YE ("get":Str) e λl es=>Yf es λr=>isNamed x l&&dI cc x&&!isStar r&&bQ a cc r
 |.kix x a=>λcc e=>WC e λl r=>isNamed x l&&dI cc x&&!ka r&&bQ a cc r
 |.ap6=>λcc e=>X9 ("set":Str) e λes=>Yh es (dI cc ("set":Str))
 |.ap7 o a=>λcc e=>YE ("add":Str) e λl es=>Yf es λr=>!f6 l&&!isStar r&&bQ o cc l&&bQ a cc r
 |.app o a=>λcc e=>YE ("append":Str) e λl es=>Yf es λr=>!f6 l&&!isStar r&&bQ o cc l&&bQ a cc r
 |.comp _ vars bq ix it tg ifs a=>λcc e=>Y4 e λelt gs sc=>YR gs λt iter fs=>cc.calm&&i6 vars bq ix cc sc&&!eR iter&&pJ it cc t iter&&kf tg (Xs vars bq sc cc.sc) t&&vh ifs (Xs vars bq sc cc.sc) fs&&bQ a (Xs vars bq sc cc.sc) elt
 |.vd _ vars bq ix it tg ifs k a=>λcc e=>Y5 e λkx vx gs sc=>YR gs λt iter fs=>cc.calm&&i6 vars bq ix cc sc&&!eR iter&&pJ it cc t iter&&kf tg (Xs vars bq sc cc.sc) t&&vh ifs (Xs vars bq sc cc.sc) fs&&bQ k (Xs vars bq sc cc.sc) kx&&bQ a (Xs vars bq sc cc.sc) vx
 |.n8 _ vars bq ix it tg a2 tg2 a=>λcc e=>Y4 e λelt gs sc=>ZN gs λt iter t2 ak8=>cc.calm&&i6 vars bq ix cc sc&&!eR iter&&!eR ak8&&pJ it cc t iter&&kf tg (Xs vars bq sc cc.sc) t&&bQ a2 (Xs vars bq sc cc.sc) ak8&&kf tg2 (Xs vars bq sc cc.sc) t2&&bQ a (Xs vars bq sc cc.sc) elt
 |.lF vars bq ix it tg ifs k a=>λcc e=>Y5 e λkx vx gs sc=>YR gs λt iter fs=>cc.calm&&i6 vars bq ix cc sc&&!eR iter&&pJ it cc t iter&&kf tg (Xs vars bq sc cc.sc) t&&vh ifs (Xs vars bq sc cc.sc) fs&&bQ k (Xs vars bq sc cc.sc) kx&&bQ a (Xs vars bq sc cc.sc) vx
 |.rj _ vars bq ix it tg a=>λcc e=>X9 ("sorted":Str) e λes=>Yf es λs=>ZI s λelt gs sc=>YR gs λt iter fs=>Yh fs (cc.calm&&dI cc ("sorted":Str)&&i6 vars bq ix cc sc&&!eR iter&&pJ it cc t iter&&kf tg (Xs vars bq sc cc.sc) t&&bQ a (Xs vars bq sc cc.sc) elt)
 |.kin x a=>λcc e=>Wx e λl ps rs=>Yf ps λp=>Yf rs λr=>p==.In&&dI cc x&&isNamed x r&&!behindInMarks p r&&bQ a cc l
 |.never=>λ_ _=>true
noncomputable def eT:Xr->CC->List Expr->Bool
 |.nil=>λ_ es=>Yh es true
 |.cons a r=>λcc es=>mQ es λe es=>!isStar e&&bQ a cc e&&eT r cc es
noncomputable def sP:Xr->CC->List Expr->Bool
 |.nil=>λ_ _=>false
 |.cons a r=>λcc es=>mQ es λe es=>bQ a cc e&&(match r with
  |.nil=>Yh es true
  |.cons _ _=>sP r cc es)
noncomputable def qr:MT->CC->Expr->Bool
 |.val a=>λcc e=>plainT e&&bQ a cc e
 |.cmp o a b=>λcc e=>Wx e λl ps rs=>Yf ps λp=>Yf rs λr=>opC o==some p&&!behindInMarks p r&&bQ a cc l&&bQ b cc r
 |.chain o o' a b c=>λcc e=>Wx e λl ps rs=>Yq ps λp p'=>Yq rs λm r=>opC o==some p&&opC o'==some p'&&!lastMarks [p,p'] [m,r]&&bQ a cc l&&bQ b cc m&&bQ c cc r
 |.not t=>λcc e=>WY e λl=>qr t cc l
 |.bool k ts=>λcc e=>WO k e λes=>lG ts cc es
noncomputable def lG:MTs->CC->List Expr->Bool
 |.nil=>λ_ _=>false
 |.cons a r=>λcc es=>mQ es λe es=>qr a cc e&&(match r with
  |.nil=>Yh es true
  |.cons _ _=>lG r cc es)
noncomputable def vh:MTs->CC->List Expr->Bool
 |.nil=>λ_ es=>Yh es true
 |.cons a r=>λcc es=>Yf es λe=>(match r with
  |.nil=>true
  |.cons _ _=>false)&&qr a cc e
noncomputable def Iq:MO->CC->Option Expr->Bool
 |.none=>λ_ e=>e.isNone
 |.some a=>λcc e=>YC e λe=>bQ a cc e
noncomputable def pJ:MI->CC->Expr->Expr->Bool
 |.lst a=>λcc _ e=>bQ a cc e
 |.tup a=>λcc _ e=>bQ a cc e
 |.str a=>λcc _ e=>bQ a cc e
 |.rng xs=>λcc _ e=>X9 ("range":Str) e λes=>Yf es λa=>dI cc ("range":Str)&&eT xs cc [a]
 |.enum xs=>λcc t e=>X9 ("enumerate":Str) e λes=>Yf es λa=>j9 t&&dI cc ("enumerate":Str)&&eT xs cc [a]
 |.ak7 xs=>λcc t e=>X9 ("enumerate":Str) e λes=>Yf es λa=>j9 t&&dI cc ("enumerate":Str)&&eT xs cc [a]
noncomputable def kf:MG->CC->Expr->Bool
 |.nm i=>λcc e=>Y3 e λy=>gO cc i y&&uW cc y
 |.tup gs=>λcc e=>Wu e λes=>cc.calm&&om gs cc es
 |.sub o i=>λcc e=>WC e λl r=>!ka r&&bQ o cc l&&bQ i cc r
noncomputable def om:MGs->CC->List Expr->Bool
 |.nil=>λ_ es=>Yh es true
 |.cons g r=>λcc es=>mQ es λe es=>!isStar e&&kf g cc e&&om r cc es
end
def B1:MX->Bool
 |.comp _ _ _ _ _ _ _ _=>true
 |.n8 _ _ _ _ _ _ _ _ _=>true
 |_=>false
def Ci (cc:CC)(e:Expr):Bool:=Y3 e λy=>match cc.sc.names.lookup y with
 |some .cell=>true
 |_=>false
def wD (e:Expr):Bool:=WS e λ_=>true
section
variable {e:Stmt}{P:Stmt->Prop}
def Yi (e:Stmt)(ex:Expr->Bool)(rt:Option Expr->Bool)(as_:List Expr->Expr->Bool)(au:Expr->Operator->Expr->Bool)(fi:Expr->List Stmt->List Stmt->Bool)(fo:Expr->Expr->List Stmt->List Stmt->Bool)(wh:Expr->List Stmt->List Stmt->Bool)(ra:Option Expr->Option Expr->Bool)(tr:List Stmt->List ExceptHandler->List Stmt->List Stmt->Bool)(pa:Bool)(br:Bool)(co:Bool):Bool:=match e with
 |.Expr e _=>ex e
 |.Return o _=>rt o
 |.Assign ts e _=>as_ ts e
 |.AugAssign t p e _=>au t p e
 |.If c a b _=>fi c a b
 |.For t i b l _=>fo t i b l
 |.While c b l _=>wh c b l
 |.Raise a b _=>ra a b
 |.Try b hs l f _=>tr b hs l f
 |.Pass _=>pa
 |.Break _=>br
 |.Continue _=>co
 |_=>false
@[elab_as_elim]theorem Yd {ex rt as_ au fi fo wh ra tr pa br co}(h:Yi e ex rt as_ au fi fo wh ra tr pa br co)(k0:∀e u1,ex e->P (.Expr e u1))(k1:∀o u1,rt o->P (.Return o u1))(k2:∀ts e u1,as_ ts e->P (.Assign ts e u1))(k3:∀t p e u1,au t p e->P (.AugAssign t p e u1))(k4:∀c a b u1,fi c a b->P (.If c a b u1))(k5:∀t i b l u1,fo t i b l->P (.For t i b l u1))(k6:∀c b l u1,wh c b l->P (.While c b l u1))(k7:∀a b u1,ra a b->P (.Raise a b u1))(k8:∀b hs l f u1,tr b hs l f->P (.Try b hs l f u1))(k9:∀u1,pa->P (.Pass u1))(k10:∀u1,br->P (.Break u1))(k11:∀u1,co->P (.Continue u1)):P e:=by
 cases e with
 |Expr e u1=>exact k0 _ _ h
 |Return o u1=>exact k1 _ _ h
 |Assign ts e u1=>exact k2 _ _ _ h
 |AugAssign t p e u1=>exact k3 _ _ _ _ h
 |If c a b u1=>exact k4 _ _ _ _ h
 |For t i b l u1=>exact k5 _ _ _ _ _ h
 |While c b l u1=>exact k6 _ _ _ _ h
 |Raise a b u1=>exact k7 _ _ _ h
 |Try b hs l f u1=>exact k8 _ _ _ _ _ h
 |Pass u1=>exact k9 _ h
 |Break u1=>exact k10 _ h
 |Continue u1=>exact k11 _ h
 |_=>cases h
def Z1 (e:Stmt)(f:Expr->Bool):Bool:=Yi e f XV XU vB vB XY vB XU XY false false false
@[elab_as_elim]theorem ZP {f}(h:Z1 e f)(k:∀e u1,f e->P (.Expr e u1)):P e:=Yd h k XX V0 XT XT X2 XT V0 X2 X5 X5 X5
def ZJ (e:Stmt)(f:Option Expr->Bool):Bool:=Yi e XV f XU vB vB XY vB XU XY false false false
@[elab_as_elim]theorem Zz {f}(h:ZJ e f)(k:∀o u1,f o->P (.Return o u1)):P e:=Yd h XX k V0 XT XT X2 XT V0 X2 X5 X5 X5
def Y7 (e:Stmt)(f:List Expr->Expr->Bool):Bool:=Yi e XV XV f vB vB XY vB XU XY false false false
@[elab_as_elim]theorem YH {f}(h:Y7 e f)(k:∀ts e u1,f ts e->P (.Assign ts e u1)):P e:=Yd h XX XX k XT XT X2 XT V0 X2 X5 X5 X5
def ZQ (e:Stmt)(f:Expr->Operator->Expr->Bool):Bool:=Yi e XV XV XU f vB XY vB XU XY false false false
@[elab_as_elim]theorem ZC {f}(h:ZQ e f)(k:∀t p e u1,f t p e->P (.AugAssign t p e u1)):P e:=Yd h XX XX V0 k XT X2 XT V0 X2 X5 X5 X5
def ZZ (e:Stmt)(f:Expr->List Stmt->List Stmt->Bool):Bool:=Yi e XV XV XU vB f XY vB XU XY false false false
@[elab_as_elim]theorem ZL {f}(h:ZZ e f)(k:∀c a b u1,f c a b->P (.If c a b u1)):P e:=Yd h XX XX V0 XT k X2 XT V0 X2 X5 X5 X5
def ZO (e:Stmt)(f:Expr->Expr->List Stmt->Bool):Bool:=Yi e XV XV XU vB vB (λt i b l=>Yh l (f t i b)) vB XU XY false false false
@[elab_as_elim]theorem ZB {f}(h:ZO e f)(k:∀t i b l u1,Yh l (f t i b)->P (.For t i b l u1)):P e:=Yd h XX XX V0 XT XT k XT V0 X2 X5 X5 X5
def ZG (e:Stmt)(f:Expr->List Stmt->Bool):Bool:=Yi e XV XV XU vB vB XY (λc b l=>Yh l (f c b)) XU XY false false false
@[elab_as_elim]theorem Zw {f}(h:ZG e f)(k:∀c b l u1,Yh l (f c b)->P (.While c b l u1)):P e:=Yd h XX XX V0 XT XT X2 k V0 X2 X5 X5 X5
def ZK (e:Stmt)(f:Option Expr->Option Expr->Bool):Bool:=Yi e XV XV XU vB vB XY vB f XY false false false
@[elab_as_elim]theorem ZA {f}(h:ZK e f)(k:∀a b u1,f a b->P (.Raise a b u1)):P e:=Yd h XX XX V0 XT XT X2 XT k X2 X5 X5 X5
def ZH (e:Stmt)(f:List Stmt->List ExceptHandler->Bool):Bool:=Yi e XV XV XU vB vB XY vB XU (λb hs l g=>Yh l (Yh g (f b hs))) false false false
@[elab_as_elim]theorem Zx {f}(h:ZH e f)(k:∀b hs l g u1,Yh l (Yh g (f b hs))->P (.Try b hs l g u1)):P e:=Yd h XX XX V0 XT XT X2 XT V0 k X5 X5 X5
end
mutual
noncomputable def pI:MSt->CC->Stmt->Bool
 |.expr a=>λcc s=>Z1 s λe=>!wG e&&bQ a cc e
 |.ret a=>λcc s=>ZJ s λo=>YC o λe=>bQ a cc e
 |.asg g a=>λcc s=>Y7 s λts e=>Yf ts λt=>cc.def_&&!isStar t&&!wD t&&!(j9 t&&j9 e)&&(!wG e||!isName t||B1 a||Ci cc t)&&kf g cc t&&bQ a cc e
 |.aug i x o a=>λcc s=>ZQ s λt p e=>isNamed x t&&gO cc i x&&uW cc x&&(opB o==some p)&&(o==.mul||o==.add||o==.sub)&&bQ a cc e
 |.W9 t a b=>λcc s=>ZZ s λc l r=>qr t cc c&&gK a cc l&&gK b cc r
 |.for_ it g b=>λcc s=>ZO s λt iter body=>cc.calm&&!eR iter&&pJ it cc t iter&&kf g cc t&&gK b cc body
 |.whl _ t b=>λcc s=>ZG s λc body=>qr t cc c&&gK b cc body
 |.par i x j y xs=>λcc s=>Y7 s λts e=>Yf ts λt=>Wu t λus=>Yq us λt1 t2=>Wu e λvs=>Yq vs λa b=>Yt t1 λx' px=>Yt t2 λy' py=>cc.def_&&cc.calm&&x'==x&&y'==y&&gO cc i x&&gO cc j y&&!(i==j)&&mI cc x&&mI cc y&&!(x==y)&&(py.line==px.line)&&!isStar a&&!isStar b&&!([a,b].all (foldedForSure 8))&&!([a,b].all (constantsAlone 8))&&eT xs cc [a,b]
 |.ah4 _ f o a=>λcc s=>Y7 s λts e=>Yf ts λt=>W3 f t λl=>bQ o cc l&&bQ a cc e
 |.raise c xs=>λcc s=>ZK s λo o'=>o'.isNone&&YC o λe=>X9 c e λes=>Yh es (cc.calm&&dI cc c&&eT xs cc [])
 |.ah5 c i x b h=>λcc s=>ZH s λbody hs=>Yf hs λeh=>match eh with
  |.ExceptHandler o z dE _=>YC o λe=>YC z λz=>mQ dE λs0 dE=>isNamed c e&&cc.calm&&cc.def_&&dI cc c&&z==x&&gO cc i x&&mI cc x&&gK b cc body&&gK h { cc with calm:=false } (s0::dE)
 |.never=>λ_ _=>true
noncomputable def gK:MSs->CC->List Stmt->Bool
 |.nil=>λ_ ss=>Yh ss true
 |.cons s r=>λcc ss=>mQ ss λs' ss=>pI s cc s'&&gK r cc ss
end
end
end
section
section
variable (G:Gx)(W:XW)
def kE (f:FE):TE:=λσ H Q=>∃η δ ι M,Rel (G.at η) ι M H/\ER (G.at η) ι H σ δ/\GR (G.at η) (RV (G.at η)) W ι H σ Q (f δ M)
def kT (f:FT):TT:=λσ H Q=>∃η δ ι M,Rel (G.at η) ι M H/\ER (G.at η) ι H σ δ/\GR (G.at η) BR W ι H σ Q (f δ M)
def kA (f:FA):TA:=λσ H Q=>∃η δ ι M,Rel (G.at η) ι M H/\ER (G.at η) ι H σ δ/\GR (G.at η) (XG (G.at η)) W ι H σ Q (f δ M)
def kO (f:FO):TO:=λσ H Q=>∃η δ ι M,Rel (G.at η) ι M H/\ER (G.at η) ι H σ δ/\GR (G.at η) IR W ι H σ Q (f δ M)
def kI (f:FI):TI:=λσ H Q=>∃η δ ι M,Rel (G.at η) ι M H/\ER (G.at η) ι H σ δ/\GI (G.at η) W ι H σ Q (f δ M)
def kS (f:FS):TS:=λE σ H=>∃η δ ι M,Rel (G.at η) ι M H/\ER (G.at η) ι H σ δ/\GS (G.at η) W ι H E (f δ M)
end
def kG (G:Gx)(g:FG):TG:=λv σ H Q=>∃η d δ ι M,Rel (G.at η) ι M H/\ER (G.at η) ι H σ δ/\RV (G.at η) ι H v d/\GG (G.at η) ι H Q (g d δ M)
def kGs (G:Gx)(g:FGs):WZ:=λvs σ H Q=>∃η ds δ ι M,Rel (G.at η) ι M H/\ER (G.at η) ι H σ δ/\XG (G.at η) ι H vs ds/\GG (G.at η) ι H Q (g ds δ M)
section
variable {G:Gx}{W:XW}{X:Cx}
theorem bz (η:List Addr):bP (G.at η) W (kE G W f) f:=λσ δ ι M H Q R E h=>⟨η,δ,ι,M,R,E,h⟩
theorem f9 {f:FT}(η:List Addr):gF (G.at η) W (kT G W f) f:=λσ δ ι M H Q R E h=>⟨η,δ,ι,M,R,E,h⟩
theorem dD {f:FA}(η:List Addr):iE (G.at η) W (kA G W f) f:=λσ δ ι M H Q R E h=>⟨η,δ,ι,M,R,E,h⟩
theorem He {f:FO}(η:List Addr):D0 (G.at η) W (kO G W f) f:=λσ δ ι M H Q R E h=>⟨η,δ,ι,M,R,E,h⟩
theorem j8 {f:FI}(η:List Addr):me (G.at η) W (kI G W f) f:=λσ δ ι M H Q R E h=>⟨η,δ,ι,M,R,E,h⟩
theorem lx {f:FS}(η:List Addr):fY (G.at η) W (kS G W f) f:=λE σ δ ι M H R er h=>⟨η,δ,ι,M,R,er,h⟩
theorem iy {g:FG}(η:List Addr):oA (G.at η) (kG G g) g:=λv d σ δ ι M H Q R er r h=>⟨η,d,δ,ι,M,R,er,r,h⟩
theorem BX {g:FGs}(η:List Addr):vy (G.at η) (kGs G g) g:=λv d σ δ ι M H Q R er r h=>⟨η,d,δ,ι,M,R,er,r,h⟩
theorem bR {t:TE}(p:PE X e t)(a:∀η,bP (G.at η) W t f):PE X e (kE G W f):=λpins s σ H Q I zq=>by obtain⟨η,δ,ι,M,R,E,h⟩:=zq;exact p pins s σ H Q I (a η σ δ ι M H Q R E h)
theorem BV {t:TT}{f:FT}(p:PT X e t)(a:∀η,gF (G.at η) W t f):PT X e (kT G W f):=λpins s σ H Q I zq=>by obtain⟨η,δ,ι,M,R,E,h⟩:=zq;exact p pins s σ H Q I (a η σ δ ι M H Q R E h)
theorem BU {t:TT}{f:FT}(p:PW X e t)(a:∀η,gF (G.at η) W t f):PW X e (kT G W f):=λwh pins s σ H Q I zq=>by obtain⟨η,δ,ι,M,R,E,h⟩:=zq;exact p wh pins s σ H Q I (a η σ δ ι M H Q R E h)
theorem Hc {e:List Expr}{t:TT}{f:FT}(p:PTs X e t)(a:∀η,gF (G.at η) W t f):PTs X e (kT G W f):=λpins s σ H Q I zq=>by obtain⟨η,δ,ι,M,R,E,h⟩:=zq;exact p pins s σ H Q I (a η σ δ ι M H Q R E h)
theorem L3 {e:List Expr}{t:TA}{f:FA}(p:PA X e t)(a:∀η,iE (G.at η) W t f):PA X e (kA G W f):=λpos pins s σ H Q I zq=>by obtain⟨η,δ,ι,M,R,E,h⟩:=zq;exact p pos pins s σ H Q I (a η σ δ ι M H Q R E h)
theorem L1 {e:Option Expr}{t:TO}{f:FO}(p:PO X e t)(a:∀η,D0 (G.at η) W t f):PO X e (kO G W f):=λpins s σ H Q I zq=>by obtain⟨η,δ,ι,M,R,E,h⟩:=zq;exact p pins s σ H Q I (a η σ δ ι M H Q R E h)
theorem uX {t:TI}{f:FI}(p:PI X iter e t)(a:∀η,me (G.at η) W t f):PI X iter e (kI G W f):=λpins s σ H Q I zq=>by obtain⟨η,δ,ι,M,R,E,h⟩:=zq;exact p pins s σ H Q I (a η σ δ ι M H Q R E h)
theorem gn {e:Stmt}{t:TS}{f:FS}(p:PS X e t)(a:∀η,fY (G.at η) W t f):PS X e (kS G W f):=λpins s σ H D I zq=>by obtain⟨η,δ,ι,M,R,E,h⟩:=zq;exact p pins s σ H D I (a η D σ δ ι M H R E h)
theorem Hd {e:List Stmt}{t:TS}{f:FS}(p:PSs X e t)(a:∀η,fY (G.at η) W t f):PSs X e (kS G W f):=λpins s σ H D I zq=>by obtain⟨η,δ,ι,M,R,E,h⟩:=zq;exact p pins s σ H D I (a η D σ δ ι M H R E h)
theorem Hg {t:TG}{f:FG}(p:PG X e t)(a:∀η,oA (G.at η) t f):PG X e (kG G f):=λpins s σ H v u Q I r zq=>by obtain⟨η,d,δ,ι,M,R,E,rv,h⟩:=zq;exact p pins s σ H v u Q I r (a η v d σ δ ι M H Q R E rv h)
theorem Hf {e:List Expr}{t:WZ}{f:FGs}(p:PGs X e t)(a:∀η,vy (G.at η) t f):PGs X e (kGs G f):=λpins s σ H v u Q I r zq=>by obtain⟨η,d,δ,ι,M,R,E,rv,h⟩:=zq;exact p pins s σ H v u Q I r (a η v d σ δ ι M H Q R E rv h)
end
def jQ:List Str:=["len","all","any","int","min","max","list","tuple","repr","isinstance","range","enumerate","set","str","bool","dict","ValueError","KeyError","IndexError","RuntimeError","OverflowError","sorted","zip","sum"]
structure Wd where
 G:Gx
 mg:Str->Option af
 base:Heap
 Pg:fE
structure XOk (Z : Wd) (c : Str) (ns : List Str) : Prop where
  ex : ∃ bm Bn nid inN bmN, XMk Z.G.K (Z.G.cls c) bm Bn nid inN bmN /\
    ((ns = [] /\ inN = inN /\ bmN = bm /\ findIn Z.G.K (.ref (Z.G.cls c)) "__init__" = some (some (.builtin inN))) \/
     (ns ≠ [] /\ ∃ f fd ps, findIn Z.G.K (.ref (Z.G.cls c)) "__init__" = some (some (.ref f)) /\ isFn Z.G.K (.ref f) = true /\ d8 Z.G.P Z.G.w Z.G.K Z.mg Z.base CX0 1 f fd ps (CJ (Z.G.cls c) ns) /\ Binds Z.G.K fd ps []))
  mg : Z.mg c = some (.ref (Z.G.cls c))
  na : ∀ f ∈ ns, dW Z.G.K (Z.G.cls c) f
  em : exmOne Z.G.K (.ref (Z.G.cls c)) (.ref (Z.G.cls c)) = some true
structure IOk (Z:Wd)(c:Str)(fs:List Str):Prop where
 cl:Pd Z.G.K (Z.G.cls c)
 mg:Z.mg c=some (.ref (Z.G.cls c))
 na:∀f∈fs,dW Z.G.K (Z.G.cls c) f
structure Wd.Ok (Z:Wd):Prop where
 gl:∀x d,Z.Pg.gl x=some d->∃v u,Z.mg x=some u/\RelV v u/\∀ι ξ H,VR Z.G ι ξ H v d
 bn:∀x∈jQ,Z.mg x=none
 xc:∀c ns,Z.Pg.xf c=some ns->XOk Z c ns
 ic:∀c fs,Z.Pg.ic c=some fs->IOk Z c fs
 ub:∀T bs,Z.Pg.ub T=some bs->T∈["ValueError","KeyError","IndexError","RuntimeError","OverflowError"]/\∀c ns,Z.Pg.xf c=some ns->kitOne Z.G.K (.ref (Z.G.cls c)) (.type T)=some (bs.contains c)
 spn:specialIn Z.G.K (.builtin "object.__class__") "__get__"=some (some (.builtin "getset_descriptor.__get__"))
 tak:takesIn Z.G.K (.builtin "object.__class__")=some true
 kd:∀x W0,Z.Pg.kd x=some W0->∃a kvs,Z.mg x=some (.ref a)/\KD Z.G.P Z.G.w Z.G.K a kvs/\∀ι ξ H,VRk Z.G ι ξ H kvs W0
 kt:∀x ss,Z.Pg.kt x=some ss->∃a,Z.mg x=some (.ref a)/\∃(o:Obj)(its:Array af)(n:Nat),Z.G.K.lookup a=some o/\o.cls=.type "tuple"/\o.data=.seq its n/\its.size<=au/\bA (ss.map V.str) its.toList
 ini:∀c f,Z.Pg.mt c "__init__"=some f->Mk Z.G.K (Z.G.cls c) (Z.G.fn f)
 mt:∀c m f,Z.Pg.mt c m=some f->m≠"__init__"->w6 Z.G.K (Z.G.cls c) m (Z.G.fn f)
def A7 (Z:Wd)(k:Nat)(x:Str)(md:cA)(f:FN):Prop:=∃fd dvs ds,d8 Z.G.P Z.G.w Z.G.K Z.mg Z.base (CX1 Z.G.P Z.G.w) k (Z.G.fn x) fd md.ps (spM Z.G f)/\(gp x=false->Z.mg x=some (.ref (Z.G.fn x)))/\keepIn Z.G.K (.ref (Z.G.fn x))=true/\
 Binds Z.G.K fd md.ps ds/\bA dvs ds/\(∀ι ξ H,VRs Z.G ι ξ H dvs md.dv)/\∃oc od osl,Z.G.K.lookup (Z.G.fn x)=some ⟨oc,od,.func fd,osl⟩
structure Good (Z:Wd)(n:Nat)(cc:CC)(X:Cx):Prop where
 hK:X.K=Z.G.K
 hP:X.prog=Z.G.P
 hw:X.w=Z.G.w
 hm:X.mg=Z.mg
 hb:X.base=Z.base
 hN:X.N=cc.N
 hs:X.env.scope=cc.sc
 nd:cc.N.Nodup
 calm:cc.calm=true->X.calm=true
 room:cc.calm=true->c8 (2*n+5) X.A
 units:X.A.units+100<cLine
 fn:∀x,cc.own x=true->X.fn x=true
 po:PassesOwn (model X.prog X.w) X.A X.env X.xe
 top:cc.def_=true->∃outer L,X.stack=X.env::outer/\X.env.frame=some L
 bk:cc.def_=true->X.env.blockKind=.function
 call:∀x md,Z.Pg.defs x=some md->A7 Z (2*n+4) x md (iV Z.Pg md n)
section
variable {Z:Wd}{n:Nat}{cc:CC}{X:Cx}{W:XW}
theorem Good.slot (g:Good Z n cc X)(h:gO cc i x=true):X.N[i]?=some x:=by
 unfold gO at h;rw[g.hN];split at h
 ·rename_i y e;rw[e,eq_of_beq h]
 ·cases h
theorem Good.vis (g:Good Z n cc X)(h:ur cc.sc x=true):Vis X.env.scope x:=by
 unfold ur at h;unfold Vis;rw[g.hs];split at h
 ·rename_i e;exact .inl e
 ·rename_i e;exact .inr (.inl e)
 ·rename_i e;exact .inr (.inr e)
 ·cases h
theorem vY.d (h:vY x=true):(x==("__debug__":Str))=false/\(x==("__classdict__":Str))=false:=by
 unfold vY at h;rw[ag,aF,aF]at h;exact h
theorem Good.gl (g:Good Z n cc X)(h:dI cc x=true):Gl X x/\(x==("__debug__":Str))=false:=by
 unfold dI at h;rw[ag,aF]at h;refine⟨?_,h.2⟩;have h:=h.1;unfold Gl;show X.env.scope.names.lookup x=_;rw[g.hs];split at h
 ·rename_i e;exact e
 ·cases h
theorem Good.loc (g:Good Z n cc X)(h:uW cc x=true):Loc X.env.scope x/\(X.fn x=true\/X.env.scope.names.lookup x=some .local):=by
 unfold uW at h;unfold Loc;rw[g.hs];split at h
 ·rename_i e;exact⟨.inl e,.inr e⟩
 ·rename_i e;exact⟨.inr e,.inl (g.fn x h)⟩
 ·cases h
theorem Good.mI (g:Good Z n cc X){x:Str}(h:mI cc x=true):X.env.scope.names.lookup x=some .local:=by
 unfold L2.mI at h;rw[g.hs];split at h
 ·rename_i e;exact e
 ·cases h
theorem Good.nd' (g:Good Z n cc X):X.N.Nodup:=by rw[g.hN];exact g.nd
theorem QR (g:Good Z n cc X)(h1:gO cc i x=true)(h2:ur cc.sc x=true)(h3:vY x=true):PE X (.Name x pos) (I9 i):=Gm (g.slot h1) (g.vis h2) (vY.d h3).1 (vY.d h3).2
theorem dN {env:Env}(h:isStar e=false):ay (e::es) env=(false,eval e env)::ay es env:=by
 cases e<;>first |rfl|cases h
theorem m5 {env:Env}{pos:Pos}:∀{xs:Xr}{cc:CC}{es:List Expr},eT xs cc es=true->(backTo pos (ay es env)).any (·.1)=false
 |.nil,_,_,h=>X4 h λ_=>rfl
 |.cons a r,_,_,h=>fk h λe es h=>by
  rw[dN (YT h)];exact m5 (XZ h)
theorem eP {xs:Xr}{cc:CC}{env:Env}(h:eT xs cc (e::es)=true):ay (e::es) env=(false,eval e env)::ay es env/\∀pos,(backTo pos (ay es env)).any (·.1)=false:=by
 cases xs with
 |nil=>cases h
 |cons a r=>exact⟨dN (YT h),λpos=>m5 (XZ h)⟩
theorem Cn {i:Int}(h:jg i j=true):y0 i j:=by
 unfold jg at h;simp only[cz,ag,decide_eq_true_eq]at h;exact h
theorem II {i:Int}(h:pL i=true):y0 i j:=by
 unfold pL at h;simp only[ag,decide_eq_true_eq]at h;exact .inl h
theorem IH {i:Int}(h:pL j=true):y0 i j:=by
 unfold pL at h;simp only[ag,decide_eq_true_eq]at h;exact .inr h
theorem K8 {i:Int}(h:ma i j=true):Li i j:=by
 unfold ma at h;simp only[ag,decide_eq_true_eq]at h;exact h
theorem K7 {i:Int}(h:IG i j=true):Lh i j:=by
 unfold IG at h;simp only[ag,decide_eq_true_eq]at h;exact⟨h.1.1,h.1.2,h.2⟩
theorem ze {d:D}(h:VR G ι η H v d)(n:∀z:d=.WN,False):v≠.WN:=by
 cases h<;>first |exact(n rfl).elim | (intro z;cases z)
def QE (g:Bool->Bool):V->V->Hp->VK->Prop:=λx y H Q=>(y=.WN/\Q (.bl (g (decide (x=.WN)))) H)\/∃b c,x=.bl b/\y=.bl c/\Q (.bl (g (b==c))) H
theorem Vc :WV X (bc .Is) (λx y H Q=>∃b c,x=.bl b/\y=.bl c/\Q (.bl (id (b==c))) H):=by
 intro pins s σ H x y v u Q I rx ry h;obtain⟨b,c,rfl,rfl,q⟩:=h;cases rx;cases ry;exact is_bool (cn I q rfl)
theorem Tu :WV X (bc .IsNot) (λx y H Q=>∃b c,x=.bl b/\y=.bl c/\Q (.bl (!(b==c))) H):=by
 intro pins s σ H x y v u Q I rx ry h;obtain⟨b,c,rfl,rfl,q⟩:=h;cases rx;cases ry;exact isnot_bool (cn I q rfl)
theorem S0 {g:Bool->Bool}:lJ G (QE g) (RO g):=λW σ ι M H x y dx dy Q R rx ry h=>by
 unfold RO at h;split at h
 ·split at h
  ·refine .inl ⟨lM ry,?_⟩;rw[lM rx];exact h _ H ι Ext.refl R (.bl _)
  ·rename_i hn;refine .inl ⟨lM ry,?_⟩;rw[decide_eq_false (ze rx hn)];exact h _ H ι Ext.refl R (.bl _)
 ·split at h
  ·exact .inr ⟨_,_,jj rx,jj ry,h _ H ι Ext.refl R (.bl _)⟩
  ·exact h.elim
 ·exact h.elim
theorem Good.binop (g:Good Z n cc X){o:Op2}{p:Operator}(h:opB o=some p):∃r,WV X (binaryOp p) r/\∀η,lJ (Z.G.at η) r (jy o):=by
 cases o<;>simp[opB]at h<;>subst h
 ·exact⟨_,Kn g.hK,λη=>Jx (G:=Z.G.at η)⟩
 ·exact⟨_,N0,λη=>oO λ_ _ _ _ _ _=>.int _⟩
 ·exact⟨_,zU,λη=>rA (λ_ _=>Cn) λ_ _ _ _ _ _=>.int _⟩
 ·exact⟨_,zU,λη=>rA (λ_ _=>II) λ_ _ _ _ _ _=>.int _⟩
 ·exact⟨_,zU,λη=>rA (λ_ _=>IH) λ_ _ _ _ _ _=>.int _⟩
 ·exact⟨_,Kj,λη=>rA (λ_ _=>K8) λ_ _ _ _ _ _=>.int _⟩
 ·exact⟨_,N5,λη=>rA (λ_ _=>of_decide_eq_true) λ_ _ _ _ _ _=>.int _⟩
 ·exact⟨_,N2,λη=>rA (λ_ _=>K7) λ_ _ _ _ _ _=>.int _⟩
theorem Good.vg (g:Good Z n cc X){o:Op2}{p:CmpOp}(h:opC o=some p):∃r,WV X (bc p) r/\∀η,lJ (Z.G.at η) r (jy o):=by
 have hu:=g.units;cases o<;>simp[opC]at h<;>subst h
 ·exact⟨_,Ra,λη=>oO λ_ _ _ _ _ _=>.bl _⟩
 ·exact⟨_,Rb,λη=>oO λ_ _ _ _ _ _=>.bl _⟩
 ·exact⟨_,Rc,λη=>oO λ_ _ _ _ _ _=>.bl _⟩
 ·exact⟨_,Re,λη=>oO λ_ _ _ _ _ _=>.bl _⟩
 ·exact⟨λx y H Q=>∃η,F4 (Z.G.at η) id x y H Q,λpins s σ H x y v u Q I a b ⟨η,q⟩=>Ob (by lia) pins s σ H x y v u Q I a b q,λη W σ ι M H x y dx dy Q R rx ry h=>⟨η,Fp W σ ι M H x y dx dy Q R rx ry h⟩⟩
 ·exact⟨λx y H Q=>∃η,F4 (Z.G.at η) not x y H Q,λpins s σ H x y v u Q I a b ⟨η,q⟩=>N4 (by lia) pins s σ H x y v u Q I a b q,λη W σ ι M H x y dx dy Q R rx ry h=>⟨η,Fp W σ ι M H x y dx dy Q R rx ry h⟩⟩
 ·exact⟨λx y H Q=>∃η,zN (Z.G.at η) id x y H Q,λpins s σ H x y v u Q I a b ⟨η,q⟩=>Oa (G:=Z.G.at η) g.hP g.hw (by lia) pins s σ H x y v u Q I a b q,λη W σ ι M H x y dx dy Q R rx ry h=>⟨η,Fi W σ ι M H x y dx dy Q R rx ry h⟩⟩
 ·exact⟨λx y H Q=>∃η,zN (Z.G.at η) not x y H Q,λpins s σ H x y v u Q I a b ⟨η,q⟩=>Dd (G:=Z.G.at η) g.hP g.hw (by lia) pins s σ H x y v u Q I a b q,λη W σ ι M H x y dx dy Q R rx ry h=>⟨η,Fi W σ ι M H x y dx dy Q R rx ry h⟩⟩
theorem uC {W:XW}{g h:FE}{r r':R2}{g2 g2':F2}{tc:TE}(o:lJ G r g2)(o':lJ G r' g2')(x:bP G W te f)(y:bP G W to g)(z:bP G W tc h):bP G W (zB r r' te to tc) (Aj g2 g2' f g h):=λσ δ ι M H Q R E hh=>
 x σ δ ι M H _ R E (GR.bind hh λv H1 ι1 M1 d e1 R1 r1 h1=>y σ δ ι1 M1 H1 _ R1 (E.ext e1) (GR.bind h1 λu H2 ι2 M2 d2 e2 R2 r2 h2=>
  o W σ ι2 M2 H2 v u d d2 _ R2 (r1.ext e2) r2 (GR.bind h2 λz' H3 ι3 M3 d3 e3 R3 r3 h3=>by
   split at h3
   ·rename_i bb;refine⟨bb,jj r3,?_⟩;cases bb with
    |true=>exact z σ δ ι3 M3 H3 _ R3 (((E.ext e1).ext e2).ext e3) (GR.bind h3 λw' H4 ι4 M4 d4 e4 R4 r4 h4=>o' W σ ι4 M4 H4 u w' d2 d4 Q R4 (r2.ext (e3.trans e4)) r4 h4)
    |false=>exact h3 _ H3 ι3 Ext.refl R3 (.bl _)
   ·exact h3.elim)))
end
end
variable {cc:CC}{fg:FG}{fi:FI}{md:cA}{tg:MG}
section
section
variable {Z:Wd}{n:Nat}{cc:CC}{X:Cx}{W:XW}
theorem Good.nob (g:Good Z n cc X)(z:Z.Ok)(h:x∈jQ):X.mg x=none:=by rw[g.hm];exact z.bn x h
theorem Good.bif (g:Good Z n cc X)(z:Z.Ok)(hc:cc.calm=true){b:Bif}(hg:dI cc (IJ b)=true)(ha:PA X (e::es) (kA Z.G W fa))
  (he:ay (e::es) X.env=(false,eval e X.env)::ay es X.env) (Xh:(backTo pos (ay es X.env)).any (·.1)=false):PE X (.Call (.Name (IJ b) p) (e::es) [] pos) (kE Z.G W (mB (ql b) fa)):=by
 have gl:=(g.gl hg).1;have hr:=g.room hc;have hcc:=g.calm hc;have hu:=g.units;cases b with
 |len=>exact bR (fW (DT g.hK) gl (g.nob z (by decide)) (by decide +kernel) ha (by decide) (by decide) he Xh) λη=>nC (Jl (G:=Z.G.at η)) (dD η)
 |all=>exact bR (fW (DX hcc) gl (g.nob z (by decide)) (by decide +kernel) ha (by decide) (by decide) he Xh) λη=>nC CV (dD η)
 |int=>exact bR (lR (r:=QF) DV gl (g.nob z (by decide)) (by decide +kernel) ha (by decide) (by decide) he Xh) λη=>nC Jp (dD η)
 |min=>exact bR (fW (DP hcc) gl (g.nob z (by decide)) (by decide +kernel) ha (by decide) (by decide) he Xh) λη=>nC Fj (dD η)
 |max=>exact bR (fW (DR hcc) gl (g.nob z (by decide)) (by decide +kernel) ha (by decide) (by decide) he Xh) λη=>nC Fj (dD η)
 |sum=>exact bR (fW (DM hcc) gl (g.nob z (by decide)) (by decide +kernel) ha (by decide) (by decide) he Xh) λη=>nC Jd (dD η)
 |dict=>exact bR (lR (AQ hcc) gl (g.nob z (by decide)) (by decide +kernel) ha (by decide) (by decide) he Xh) λη=>nC CT (dD η)
 |list r=>cases r<;>exact bR (lR (AM g.hK) gl (g.nob z (by decide)) (by decide +kernel) ha (by decide) (by decide) he Xh) λη=>nC (Fe (G:=Z.G.at η)) (dD η)
 |tuple=>exact bR (lR (yS g.hK) gl (g.nob z (by decide)) (by decide +kernel) ha (by decide) (by decide) he Xh) λη=>nC (CL (G:=Z.G.at η)) (dD η)
theorem wW {T:String}(h:T∈mO):bootBuiltins (Str.ofString T)=some (.type T)/\Str.ofString T∈jQ/\(Str.ofString T≠"__name__")/\((Str.ofString T==("__debug__":Str))=false):=by
 simp only[mO,aV,aE,or_false]at h;rcases h with rfl|rfl|rfl|rfl|rfl|rfl<;>exact⟨by decide +kernel,by decide,by decide,by decide⟩
def KU:List String:=["ValueError","KeyError","IndexError","RuntimeError","OverflowError"]
theorem K9 {T:String}(h:T∈KU):bootBuiltins (Str.ofString T)=some (.type T)/\Str.ofString T∈jQ/\(Str.ofString T≠"__name__")/\((Str.ofString T==("__debug__":Str))=false):=by
 simp only[KU,aV,aE,or_false]at h;rcases h with rfl|rfl|rfl|rfl|rfl<;>exact⟨by decide +kernel,by decide,by decide,by decide⟩
theorem Ov {K:Frag}{T t:String}(hT:T∈KU)(ht:t∈tys):kitOne K (.type t) (.type T)=some false:=by
 simp only[tys,KU,aV,aE,or_false]at hT ht;rcases hT with rfl|rfl|rfl|rfl|rfl<;>rcases ht with rfl|rfl|rfl|rfl|rfl|rfl|rfl<;>rfl
theorem pX {r:Expr}{env:Env}(h:isStar l=false)(h2:isStar r=false):ay [l,r] env=(false,eval l env)::ay [r] env/\∀pos,(backTo pos (ay [r] env)).any (·.1)=false:=
 ⟨dN h,λpos=>by rw[dN h2];rfl⟩
theorem Good.isT (g:Good Z n cc X)(z:Z.Ok){T:String}(hT:T∈mO)(h1:dI cc "isinstance"=true)(h2:dI cc (Str.ofString T)=true)(hs:isStar l=false)(hl:PE X l (kE Z.G W f)):
  PE X (.Call (.Name "isinstance" p) [l,.Name (Str.ofString T) apos] [] pos) (kE Z.G W (mUn (KQ T) f)):=by
 obtain⟨b1,b2,b3,b4⟩:=wW hT;have ha:PA X [l,.Name (Str.ofString T) apos] (fu (kE Z.G W f) (fu (tC (.ty T)) iw)):=eM hl (eM (qC (v:=.ty T) (g.gl h2).1 (g.nob z b2) b1 rfl b3 b4) iX rfl) (dN hs);exact bR (fW (vi g.hK) (g.gl h1).1 (g.nob z (by decide)) (by decide +kernel) ha (by decide) (by decide) (pX hs rfl).1 ((pX hs rfl).2 _)) λη=>Jn (G:=Z.G.at η) hT (bz η)
theorem Good.Du (g:Good Z n cc X)(z:Z.Ok){T:String}{k:Nat}{pt:Pos}(hT:T∈mO)(hT':T'∈mO)(h1:dI cc "isinstance"=true)(h2:dI cc (Str.ofString T)=true)(h3:dI cc (Str.ofString T')=true)(hs:isStar l=false)(hl:PE X l (kE Z.G W f)):
  PE X (.Call (.Name "isinstance" p) [l,.Tuple [.Name (Str.ofString T) apos,.Name (Str.ofString T') bO] k pt] [] pos) (kE Z.G W (mUn (B8 T T') f)):=by
 obtain⟨b1,b2,b3,b4⟩:=wW hT;obtain⟨c1,c2,c3,c4⟩:=wW hT';have ht:PE X (.Tuple [.Name (Str.ofString T) apos,.Name (Str.ofString T') bO] k pt) (Bs (fu (tC (.ty T)) (fu (tC (.ty T')) iw))):=
  vT (eM (qC (v:=.ty T) (g.gl h2).1 (g.nob z b2) b1 rfl b3 b4) (eM (qC (v:=.ty T') (g.gl h3).1 (g.nob z c2) c1 rfl c3 c4) iX rfl) rfl)
 have ha:=eM hl (eM ht iX rfl) (dN hs);exact bR (fW (AN g.hK) (g.gl h1).1 (g.nob z (by decide)) (by decide +kernel) ha (by decide) (by decide) (pX hs rfl).1 ((pX hs rfl).2 _)) λη=>Fh (G:=Z.G.at η) hT hT' (bz η)
theorem Good.isC (g:Good Z n cc X)(z:Z.Ok){fs:List Str}(hc:Z.Pg.ic c=some fs)(h1:dI cc "isinstance"=true)(h2:dI cc c=true)(hs:isStar l=false)(hl:PE X l (kE Z.G W f)):
  PE X (.Call (.Name "isinstance" p) [l,.Name c apos] [] pos) (kE Z.G W (mUn (KR c) f)):=by
 have ok:=z.ic c fs hc;have ha:PA X [l,.Name c apos] (fu (kE Z.G W f) (fu (tC (.ref (Z.G.cls c))) iw)):=eM hl (eM (nL (v:=.ref (Z.G.cls c)) (g.gl h2).1 (by rw[g.hm];exact ok.mg) rfl (g.gl h2).2) iX rfl) (dN hs);exact bR (fW (vi g.hK) (g.gl h1).1 (g.nob z (by decide)) (by decide +kernel) ha (by decide) (by decide) (pX hs rfl).1 ((pX hs rfl).2 _)) λη=>Jo (G:=Z.G.at η) ok.cl (bz η)
def UG (K:Frag):List V->Hp->VK->Prop:=λvs H Q=>JE K vs H Q\/∃r x C bm nid fs c cv b,vs=[.ref x,c]/\RelV c cv/\IsX r H x C fs/\ff K C bm nid/\kitOne K (.ref C) cv=some b/\Q (.bl b) H
theorem Good.isB (g:Good Z n cc X)(z:Z.Ok){T:String}{bs:List Str}(hb:Z.Pg.ub T=some bs)(h1:dI cc "isinstance"=true)(h2:dI cc (Str.ofString T)=true)(hs:isStar l=false)(hl:PE X l (kE Z.G W f)):
  PE X (.Call (.Name "isinstance" p) [l,.Name (Str.ofString T) apos] [] pos) (kE Z.G W (mUn (OL (λc=>(Z.Pg.xf c).isSome) bs) f)):=by
 obtain⟨hT,hub⟩:=z.ub T bs hb;obtain⟨b1,b2,b3,b4⟩:=K9 hT;have ha:PA X [l,.Name (Str.ofString T) apos] (fu (kE Z.G W f) (fu (tC (.ty T)) iw)):=eM hl (eM (qC (v:=.ty T) (g.gl h2).1 (g.nob z b2) b1 rfl b3 b4) iX rfl) (dN hs);have hr:cu X (.builtin "isinstance") (UG Z.G.K):=by
  have hK:=g.hK;have:=(sU (X:=X)).or (Iv (X:=X) (by rw[hK];exact z.spn) (by rw[hK];exact z.tak));rw[hK]at this;exact this
 refine bR (fW hr (g.gl h1).1 (g.nob z (by decide)) (by decide +kernel) ha (by decide) (by decide) (pX hs rfl).1 ((pX hs rfl).2 _)) λη=>?_;intro σ δ ι M H Q R E h;refine bz η σ δ ι M H _ R E (GR.bind h λv H1 ι1 M1 d e1 R1 r1 h1=>?_);unfold OL at h1;split at h1
 ·rename_i c fs;split at h1
  ·rename_i hk;obtain⟨ns,hn⟩:=Option.isSome_iff_exists.mp hk;obtain⟨a,vs,rfl,hx,_⟩:=vD r1;obtain⟨bm,Bn,nid,inN,bmN,mk,_⟩:=(z.xc c ns hn).ex;exact .inr ⟨false,a,_,bm,nid,vs,.ty T,.type T,_,rfl,rfl,hx,mk.c,hub c ns hn,h1 _ H1 ι1 Ext.refl R1 (.bl _)⟩
  ·exact h1.elim
 ·split at h1
  ·rename_i e;exact .inl ⟨v,.ty T,.type T,_,_,rfl,λ_ h=>h,Bp (G:=Z.G.at η) R1 r1 e,Ov hT (qy e),h1 _ H1 ι1 Ext.refl R1 (.bl _)⟩
  ·exact h1.elim
theorem rB {f:FN}{t:TA}{dvs:List V}(hd:∀ι ξ H,VRs G ι ξ H dvs ps)(a:iE (G.at η) W t fa):bP (G.at η) W (qZ (spM G f) dvs W t) (mB (λds M=>f (ds++ps) M) fa):=λσ δ ι M H Q R er h=>
 a σ δ ι M H _ R er (GR.bind h λvs H1 ι1 M1 ds e1 R1 r1 h1=>by
  refine⟨η,ι1,M1,ds++ps,R1,r1.append ((hd _ _ _).at η),?_⟩;simp only at h1;cases e:f (ds++ps) M1 with
  |none=>rw[e]at h1;exact h1
  |some o=>
   rw[e]at h1;cases o with
   |ok d M2=>exact h1
   |ex c fs M2=>exact λx H' ι' e' R' xr y hy=>by cases hy;exact h1 x H' ι' e' R' xr)
theorem uD {f:FN}{t:TA}{dvs:List V}(hd:∀ι ξ H,VRs G ι ξ H dvs ps)(a:iE (G.at η) W t fa):bP (G.at η) W (qZ (spM G f) dvs W t) (mB (gP λds M=>f (ds++ps) M) fa):=λσ δ ι M H Q R er h=>
 a σ δ ι M H _ R er (GR.bind h λvs H1 ι1 M1 ds e1 R1 r1 h1=>by
  unfold gP at h1;simp only at h1;split at h1
  ·rename_i hp;have back:∀(ι':List Addr),∀b,b∈(G.at η).η++ι1->b∈(G.at (η++ι1)).η++ι':=λι' b hb=>cm _ hb;have sub:∀b,b∈(G.at (η++ι1)).η++([]:List Addr)->b∈(G.at η).η++ι1:=λb hb=>by rw[bN]at hb;exact hb
   refine⟨η++ι1,[],[],ds++ps,⟨rfl,eI,λk a m z=>by simp at z,λb hb=>?_⟩,((r1.cR sub hp).at (η++ι1)).append ((hd _ _ _).at (η++ι1)),?_⟩
   ·rcases List.mem_append.mp hb with z |z
    ·exact R1.WU b z
    ·exact R1.mem z
   ·cases e:f (ds++ps) [] with
    |none=>rw[e]at h1;exact h1.elim
    |some o=>
     rw[e]at h1;cases o with
     |ok d M2=>
      simp only at h1;split at h1
      ·rename_i hd';intro v H' ι' e' R' rv;have sm:fD H1 H':=λb o hb=>e'.keep b o hb aE;exact h1 v H' ι1 (Ext.same sm) (R1.same sm) ((rv.cR (back ι') hd').at η)
      ·exact h1.elim
     |ex c fs M2=>
      simp only at h1;split at h1
      ·rename_i hd';intro x H' ι' e' R' xr y hy;cases hy;have sm:fD H1 H':=λb o hb=>e'.keep b o hb aE;exact h1 x H' ι1 (Ext.same sm) (R1.same sm) ((xr.cR (back ι') hd').at η)
      ·exact h1.elim
  ·exact h1.elim)
theorem CQ {f:FN}{t:TA}{dvs:List V}(hd:∀ι ξ H,VRs G ι ξ H dvs ps)(a:iE (G.at η) W t fa):bP (G.at η) W (zu (G.cls c) (spM G f) dvs W t) (mB (KO c (λds M=>f (ds++ps) M)) fa):=λσ δ ι M H Q R er h=>
 a σ δ ι M H _ R er (GR.bind h λvs H1 ι1 M1 ds e1 R1 r1 h1=>λx dx hx hdx hne=>by
  unfold KO at h1;simp only at h1;split at h1
  ·rename_i hp;have back:∀(ι':List Addr),∀b,b∈(G.at η).η++ι1->b∈(G.at (η++ι1)).η++ι':=λι' b hb=>cm _ hb;have sub:∀b,b∈(G.at (η++ι1)).η++([]:List Addr)->b∈(G.at η).η++ι1:=λb hb=>by rw[bN]at hb;exact hb
   have R0:Rel (G.at (η++ι1)) [] [] H1:=⟨rfl,eI,λk a m z=>by simp at z,λb hb=>by
    rcases List.mem_append.mp hb with z |z
    ·exact R1.WU b z
    ·exact R1.mem z⟩
   have r0:XG (G.at (η++ι1)) [] H1 (vs++dvs) (ds++ps):=((r1.cR sub hp).at (η++ι1)).append ((hd _ _ _).at (η++ι1));have sm:fD H1 (upd (upd H1 dx (.own x)) x (.ins (G.cls c) dx [])):=λb o hb=>by
    rw[aQ (bh hb hx),aQ (bh hb hdx)];exact hb
   have e2:Ext [] H1 ([]++[x]) (upd (upd H1 dx (.own x)) x (.ins (G.cls c) dx [])):=Ext.cell sm hx;have R2:Rel (G.at (η++ι1)) ([]++[x]) ([]++[.ins c []]) (upd (upd H1 dx (.own x)) x (.ins (G.cls c) dx [])):=R0.cell sm hx ⟨dx,[],bu,.nil⟩;refine⟨η++ι1,[]++[x],[]++[.ins c []],.ref 0::(ds++ps),R2,.cons (.ref rfl) (r0.ext e2),?_⟩;simp only[List.nil_append,mw]at h1 ⊢;have ak9:∀{ι' H'},Ext [x] (upd (upd H1 dx (.own x)) x (.ins (G.cls c) dx [])) ι' H'->Ext [] H1 ι' H':=λe'=>e2.trans e';cases e:f (.ref 0::(ds++ps)) [.ins c []] with
   |none=>rw[e]at h1;exact h1.elim
   |some o=>
    rw[e]at h1;cases o with
    |ok d M2=>
     cases d with
     |WN=>
      simp only at h1;split at h1
      ·rename_i d' M3 ec;split at h1
       ·rename_i hd';intro v H' ι' e' R' rv;refine⟨lM rv,?_⟩;have ex:=ak9 e';have sm2:fD H1 H':=λb o hb=>ex.keep b o hb aE;have hk:ι'[0]?=some x:=nK e'.pre rfl;refine oj (G:=G.at (η++ι1)) (W:=WF) (σ:=[]) (Q:=λv H'=>v=.ref x->fD H1 H'->Q v H') (m:=.data) R0 ?_ ex R' (.ref hk) rfl sm2;rw[ec];intro v2 H2 ι2 ex2 R2' rv2 ev sm3;subst ev;exact h1 _ H2 ι1 (Ext.same sm3) (R1.same sm3) ((rv2.cR (back ι2) hd').at η)
       ·exact h1.elim
      ·exact h1.elim
     |_=>exact h1.elim
    |ex c' fs M2=>
     simp only at h1;split at h1
     ·rename_i hd';intro y H' ι' e' R' xr z hz;cases hz;have ex:=ak9 e';have sm2:fD H1 H':=λb o hb=>ex.keep b o hb aE;exact h1 y H' ι1 (Ext.same sm2) (R1.same sm2) ((xr.cR (back ι') hd').at η)
     ·exact h1.elim
  ·exact h1.elim)
theorem Co {o:Expr}{m:Str}{env:Env}(h:f6 o=false):attributeBase o m env (eval o env)=eval o env:=by
 cases o with
 |Call g es ks q=>cases g with
  |Name y p=>cases es with
   |nil=>cases ks with
    |nil=>cases h
    |cons _ _=>rfl
   |cons _ _=>rfl
  |_=>rfl
 |_=>rfl
theorem Good.rm (g:Good Z n cc X)(hc:cc.calm=true):c8 (2*n+4) X.A:=(g.room hc).mono (cT _)
theorem Good.fnk (g:Good Z n cc X)(F:d8 Z.G.P Z.G.w Z.G.K Z.mg Z.base (CX1 Z.G.P Z.G.w) (2*n+4) (Z.G.fn x) fd md.ps (spM Z.G (iV Z.Pg md n))):d8 X.prog X.w X.K X.mg X.base (CX1 X.prog X.w) (2*n+4) (Z.G.fn x) fd md.ps (spM Z.G (iV Z.Pg md n)):=by
 rw[g.hP,g.hw,g.hK,g.hm,g.hb];exact F
theorem Good.Sy (g:Good Z n cc X)(hc:cc.calm=true)(hw:Xw X W)(ap8:gp x=false)(hg:dI cc x=true)(ha:PA X es (kA Z.G W fa))
  (he:∀e r,es=e::r->ay (e::r) X.env=(false,eval e X.env)::ay r X.env/\(backTo pos (ay r X.env)).any (·.1)=false) (h0:es=[]->fa=sg):PE X (.Call (.Name x p) es [] pos) (kE Z.G W (lh (Z.Pg.env n) x fa)):=by
 cases q:Z.Pg.defs x with
 |none=>
  have:lh (Z.Pg.env n) x fa=eNo:=by unfold lh;rw[if_neg];simp[q]
  rw[this];exact bR eX λη=>jx
 |some md=>
  obtain⟨fd,dvs,ds,F,h2,h3,h4,h5,h6,_⟩:=g.call x md q;have e1:bY Z.Pg n x=λds M=>iV Z.Pg md n (ds++md.dv) M:=by funext ds M;exact dF q n ds M
  have e2:lh (Z.Pg.env n) x fa=mB (bY Z.Pg n x) fa:=by unfold lh;rw[if_pos];simp[q]
  rw[e2,e1];cases es with
  |cons e es=>
   obtain⟨q1,q2⟩:=he e es rfl;refine bR (rM (g.fnk F) (g.rm hc) (g.gl hg).1 (by rw[g.hm];exact h2 ap8) (by rw[g.hK];exact h3) (by rw[g.hK];exact h4) h5 hw ha (g.gl hg).2 q1 q2) λη=>?_;exact rB h6 (dD η)
  |nil=>
   rw[h0 rfl];refine bR (uK (g.fnk F) (g.rm hc) (g.gl hg).1 (by rw[g.hm];exact h2 ap8) (by rw[g.hK];exact h3) (by rw[g.hK];exact h4) h5 hw (g.gl hg).2) λη=>?_;exact rB h6 nB
theorem Good.cB (g:Good Z n cc X)(hc:cc.calm=true)(hw:Xw X W)(ap8:gp x=false)(hg:dI cc x=true)(ha:PA X es (kA Z.G W fa))
  (he:∀e r,es=e::r->ay (e::r) X.env=(false,eval e X.env)::ay r X.env/\(backTo pos (ay r X.env)).any (·.1)=false) (h0:es=[]->fa=sg):PE X (.Call (.Name x p) es [] pos) (kE Z.G W (lg (Z.Pg.env n) x fa)):=by
 cases q:Z.Pg.defs x with
 |none=>
  have:lg (Z.Pg.env n) x fa=eNo:=by unfold lg;rw[if_neg];simp[q]
  rw[this];exact bR eX λη=>jx
 |some md=>
  obtain⟨fd,dvs,ds,F,h2,h3,h4,h5,h6,_⟩:=g.call x md q;have e1:bY Z.Pg n x=λds M=>iV Z.Pg md n (ds++md.dv) M:=by funext ds M;exact dF q n ds M
  have e2:lg (Z.Pg.env n) x fa=mB (gP (bY Z.Pg n x)) fa:=by unfold lg;rw[if_pos];simp[q]
  rw[e2,e1];cases es with
  |cons e es=>
   obtain⟨q1,q2⟩:=he e es rfl;refine bR (rM (g.fnk F) (g.rm hc) (g.gl hg).1 (by rw[g.hm];exact h2 ap8) (by rw[g.hK];exact h3) (by rw[g.hK];exact h4) h5 hw ha (g.gl hg).2 q1 q2) λη=>?_;exact uD h6 (dD η)
  |nil=>
   rw[h0 rfl];refine bR (uK (g.fnk F) (g.rm hc) (g.gl hg).1 (by rw[g.hm];exact h2 ap8) (by rw[g.hK];exact h3) (by rw[g.hK];exact h4) h5 hw (g.gl hg).2) λη=>?_;exact uD h6 nB
theorem Good.rS (g:Good Z n cc X)(z:Z.Ok)(hc:cc.calm=true)(hw:Xw X W){f:Str}(hg:dI cc c=true)(ha:PA X (e::es) (kA Z.G W fa))
  (he:ay (e::es) X.env=(false,eval e X.env)::ay es X.env) (Xh:(backTo pos (ay es X.env)).any (·.1)=false):PE X (.Call (.Name c p) (e::es) [] pos) (kE Z.G W (wg (Z.Pg.env n) c f fa)):=by
 unfold wg;split
 ·rename_i h;simp only[ag]at h;obtain⟨md,q⟩:=Option.isSome_iff_exists.mp h.2;obtain⟨fs,hf⟩:=Option.isSome_iff_exists.mp h.1.2;have hi:=z.ini c f (eq_of_beq h.1.1);have hcl:=z.ic c fs hf;obtain⟨fd,dvs,ds,F,h2,h3,h4,h5,h6,_⟩:=g.call f md q;have e1:bY Z.Pg n f=λds M=>iV Z.Pg md n (ds++md.dv) M:=by funext ds M;exact dF q n ds M
  show PE X _ (kE Z.G W (mB (KO c (bY Z.Pg n f)) fa));rw[e1];refine bR (xU (C:=Z.G.cls c) (by rw[g.hK];exact hi) (g.fnk F) (g.room hc) (g.gl hg).1 (by rw[g.hm];exact hcl.mg) (by rw[g.hK];exact h4) h5 hw ha (g.gl hg).2 he Xh) λη=>?_;exact CQ h6 (dD η)
 ·exact bR eX λη=>jx
theorem Good.tO (g:Good Z n cc X)(z:Z.Ok)(hc:cc.calm=true)(hw:Xw X W){m f:Str}{o:Expr}(ho:PE X o (kE Z.G W fe))(ha:PA X es (kA Z.G W fa))(hb:f6 o=false)(hl:(apos.endLine==pos.line)=true)(hlen:es.length<29)
  (af6:(backTo pos (ay es X.env)).all (λx=>!x.1)=true)
  (he:∀e r,es=e::r->ay (e::r) X.env=(false,eval e X.env)::ay r X.env/\(backTo pos (ay r X.env)).any (·.1)=false) (h0:es=[]->fa=sg):
  PE X (.Call (.Attribute o m apos) es [] pos) (kE Z.G W (Af (Z.Pg.env n) c m f fe fa)):=by
 unfold Af;split
 ·rename_i h;simp only[ag,aF]at h;obtain⟨md,q⟩:=Option.isSome_iff_exists.mp h.1.2;obtain⟨fs,hf⟩:=Option.isSome_iff_exists.mp h.1.1.2;have hm:m≠"__init__":=λe=>by
   have h2:=h.2;rw[e]at h2;simp at h2
  have hi:=z.mt c m f (eq_of_beq h.1.1.1) hm;have hcl:=z.ic c fs hf;obtain⟨fd,dvs,ds,F,h2,h3,h4,h5,h6,_⟩:=g.call f md q;have e1:bY Z.Pg n f=λds M=>iV Z.Pg md n (ds++md.dv) M:=by funext ds M;exact dF q n ds M
  show PE X _ (kE Z.G W (GT c m (bY Z.Pg n f) fe fa));rw[e1];have ev:=Dk (o:=o) (m:=m) (apos:=apos) (pos:=pos) (args:=es) (env:=X.env) (Co hb) (by
   rw[af6];have:decide (es.length+([]:List Keyword).length+(if ([]:List Keyword).isEmpty then 0 else 1)<30)=true:=by simpa using (by lia:es.length<30)
   rw[this];rfl) hl
  cases es with
  |cons e es=>
   obtain⟨q1,q2⟩:=he e es rfl;refine bR (Gs ho (by rw[g.hK];exact hcl.cl.cl) (by rw[g.hK];exact hi) (g.fnk F) (g.rm hc) (by rw[g.hK];exact h4) h5 hw ha q1 q2 ev) λη=>?_;exact xH h6 (bz η) (dD η)
  |nil=>
   rw[h0 rfl];refine bR (C6 ho (by rw[g.hK];exact hcl.cl.cl) (by rw[g.hK];exact hi) (g.fnk F) (g.rm hc) (by rw[g.hK];exact h4) h5 hw ev) λη=>?_;exact xH h6 (bz η) nB
 ·exact bR eX λη=>jx
theorem Good.yv (g:Good Z n cc X)(z:Z.Ok)(hc:cc.calm=true)(hw:Xw X W){f:Str}(hg:dI cc "len"=true)(he:PE X e (kE Z.G W fe))(hs:isStar e=false):
  PE X (.Call (.Name "len" p) [e] [] pos) (kE Z.G W (Ag (Z.Pg.env n) c f fe)):=by
 unfold Ag;split
 ·rename_i h;simp only[ag]at h;obtain⟨md,q⟩:=Option.isSome_iff_exists.mp h.2;have hi:=z.mt c "__len__" f (eq_of_beq h.1.1) (by decide);obtain⟨fd,dvs,ds,F,h2,h3,h4,h5,h6,_⟩:=g.call f md q;have e1:bY Z.Pg n f=λds M=>iV Z.Pg md n (ds++md.dv) M:=by funext ds M;exact dF q n ds M
  show PE X _ (kE Z.G W (GW c (bY Z.Pg n f) fe));rw[e1];refine bR (Kb (C:=Z.G.cls c) he (by rw[g.hK];exact hi) (g.fnk F) (g.room hc) (by rw[g.hK];exact h4) h5 hw (g.gl hg).1 (g.nob z (by decide)) (dN hs)) λη=>?_;exact Ff h6 (bz η)
 ·exact bR eX λη=>jx
theorem Fg (r:∀ι ξ H,VRk G ι ξ H kvs W0)(ae:bP (G.at η) W te fe):bP (G.at η) W (Ez kvs te) (λδ M=>rb (fe δ M) λd M1=>match keyOf d with
  |some k=>some (.ok ((pE W0 k).getD .WN) M1)
  |none=>none):=λσ δ ι M H Q R er h=>
 ae σ δ ι M H _ R er (GR.bind h λv H1 ι1 M1 d e1 R1 r1 h1=>by
  split at h1
  ·rename_i k hk;refine⟨k,mN r1 hk,?_⟩;rcases nq (k:=k) (r ι1 ((G.at η).η++ι1) H1) with ⟨v,p,z1,z2,z3⟩|⟨z1,z2⟩
   ·rw[z2]at h1;rw[z1];exact h1 v H1 ι1 Ext.refl R1 (z3.at η)
   ·rw[z2]at h1;rw[z1];exact h1 .WN H1 ι1 Ext.refl R1 .WN
  ·exact h1.elim)
theorem Jm (r:∀ι ξ H,VRk G ι ξ H kvs W0)(ae:bP (G.at η) W te fe):bP (G.at η) W (Ey kvs te) (λδ M=>rb (fe δ M) λd M1=>match keyOf d with
  |some k=>match pE W0 k with
   |some r=>some (.ok r M1)
   |none=>none
  |none=>none):=λσ δ ι M H Q R er h=>
 ae σ δ ι M H _ R er (GR.bind h λv H1 ι1 M1 d e1 R1 r1 h1=>by
  split at h1
  ·rename_i k hk;split at h1
   ·rename_i p hp;rcases nq (k:=k) (r ι1 ((G.at η).η++ι1) H1) with ⟨v,p,z1,z2,z3⟩|⟨z1,z2⟩
    ·rw[z2]at hp;cases hp;exact⟨k,v,mN r1 hk,z1,h1 v H1 ι1 Ext.refl R1 (z3.at η)⟩
    ·rw[z2]at hp;cases hp
   ·exact h1.elim
  ·exact h1.elim)
theorem Good.Dq (g:Good Z n cc X)(z:Z.Ok)(hg:dI cc x=true)(he:PE X e (kE Z.G W fe))(hs:isStar e=false)(hl:(apos.endLine==bO.line)=true):
  PE X (.Call (.Attribute (.Name x p) "get" apos) [e] [] bO) (kE Z.G W (GX (Z.Pg.env n) x fe)):=by
 unfold GX;split
 ·rename_i W0 q;obtain⟨a,kvs,hm,hk,hr⟩:=z.kd x W0 q;refine bR (Gv (a:=a) (kvs:=kvs) (by rw[g.hP,g.hw,g.hK];exact hk) (nL (g.gl hg).1 (by rw[g.hm];exact hm) rfl (g.gl hg).2) he ⟨Co rfl,?_,hl,?_⟩) λη=>Fg hr (bz η)
  ·rw[dN hs];rfl
  ·rw[dN hs];rfl
 ·exact bR eX λη=>jx
theorem Good.kix (g:Good Z n cc X)(z:Z.Ok)(hg:dI cc x=true)(he:PE X e (kE Z.G W fe))(hs:IU e):
  PE X (.Subscript (.Name x p) e pos) (kE Z.G W (On (Z.Pg.env n) x fe)):=by
 unfold On;split
 ·rename_i W0 q;obtain⟨a,kvs,hm,hk,hr⟩:=z.kd x W0 q;exact bR (Gu (a:=a) (kvs:=kvs) (by rw[g.hP,g.hw,g.hK];exact hk) (nL (g.gl hg).1 (by rw[g.hm];exact hm) rfl (g.gl hg).2) he hs) λη=>Jm hr (bz η)
 ·exact bR eX λη=>jx
theorem B3 {y:Str}:∀ss:List Str,inV (.str y) (ss.map V.str)=ss.contains y
 | []=>rfl
 |s::ss=>by
  have ih:=B3 (y:=y) ss;unfold inV at ih ⊢;rw[aM,cX,ih,cM];have e:eqV (.str s) (.str y)=(y==s):=by
   rw[jD,beq_iff_eq];unfold eqV
   first
    |exact⟨λh=>(of_decide_eq_true h).symm,λh=>decide_eq_true h.symm⟩
    |exact⟨λh=>(eq_of_beq h).symm,λh=>beq_iff_eq.mpr h.symm⟩
  rw[e]
theorem u4:∀ss:List Str,(ss.map V.str).all ly=true
 | []=>rfl
 |s::ss=>by rw[aM,D5,u4 ss];rfl
theorem Good.kin (g:Good Z n cc X)(z:Z.Ok)(hg:dI cc x=true)(he:PE X e (kE Z.G W fe))(hm:behindInMarks .In (.Name x p)=false):
  PE X (.Compare e [.In] [.Name x p] pos) (kE Z.G W (Oo (Z.Pg.env n) x fe)):=by
 unfold Oo;split
 ·rename_i ss q;obtain⟨a,ha,o,its,k,h1,h2,h3,h4,h5⟩:=z.kt x ss q;refine bR (BK Df he (nL (g.gl hg).1 (by rw[g.hm];exact ha) (v:=.ref a) rfl (g.gl hg).2) hm) λη=>?_;intro σ δ ι M H Q R E h;refine bz η σ δ ι M H _ R E (GR.bind h λv H1 ι1 M1 d e1 R1 r1 h1'=>?_);split at h1'
  ·rename_i y;refine⟨a,ss.map V.str,rfl,.inr (.inr ⟨o,its,k,by rw[g.hK];exact h1,h2,h3,h4,h5⟩),?_,u4 ss,?_⟩
   ·rw[iu r1];rfl
   ·rw[iu r1];simp only[aY,if_false];rw[B3];exact h1' _ H1 ι1 Ext.refl R1 (.bl _)
  ·exact h1'.elim
 ·exact bR eX λη=>jx
theorem Good.vk (g:Good Z n cc X)(hc:cc.calm=true)(hw:Xw X W)(h1:gO cc i x=true)(h2:ur cc.sc x=true)(h3:vY x=true)(ha:PA X (e::es) (kA Z.G W fa))
  (he:ay (e::es) X.env=(false,eval e X.env)::ay es X.env) (Xh:(backTo pos (ay es X.env)).any (·.1)=false):PE X (.Call (.Name x p) (e::es) [] pos) (kE Z.G W (Ak (Z.Pg.env n) (mV i) fa)):=by
 intro pins s σ H Q I h;obtain⟨η,δ,ι,M,R,E,h⟩:=h;unfold Ak mV at h;cases e1:δ[i]? with
 |none=>rw[e1]at h;exact h.elim
 |some o=>cases o with
  |none=>rw[e1]at h;exact h.elim
  |some d=>
   rw[e1]at h;simp only[LB]at h;split at h
   ·rename_i y;split at h
    ·rename_i hk;obtain⟨md,q⟩:=Option.isSome_iff_exists.mp hk;obtain⟨v,hv,rv⟩:=E.2 i _ e1;have ev:v=.ref (Z.G.fn y):=by cases rv;rfl
     subst ev;obtain⟨fd,dvs,ds,F,c2,c3,c4,c5,c6,_⟩:=g.call y md q;have F':d8 X.prog X.w X.K X.mg X.base (CX1 X.prog X.w) (2*n+4) (Z.G.fn y) fd md.ps (spM Z.G (iV Z.Pg md n)):=by rw[g.hP,g.hw,g.hK,g.hm,g.hb];exact F
     have hkp:keepIn X.K (.ref (Z.G.fn y))=true:=by rw[g.hK];exact c3
     refine bM (WL (QR (pos:=p) g h1 h2 h3 pins s σ H (λv' H'=>v'=.ref (Z.G.fn y)/\H'=H) I ⟨_,hv,rfl,rfl⟩) λu s1 zq=>?_);obtain⟨v',H',I1,r1,e2,e3⟩:=zq;subst e2;subst e3;obtain rfl:u=Value.ref (Z.G.fn y):=r1;have e4:bY Z.Pg n y=λds M=>iV Z.Pg md n (ds++md.dv) M:=by funext ds M;exact dF q n ds M
     rw[e4]at h;have hq:=rB (f:=iV Z.Pg md n) c6 (dD (G:=Z.G) (W:=W) (f:=fa) η) σ δ ι M H' Q R E h;refine PySem.W.callWith_K (h₀:=X.base) I1.ok.mod.kin hkp (WL (ha pos pins s1 σ H' _ I1 hq) λus s2 zp0=>?_) he Xh;obtain⟨vs,H1,I2,r,q2⟩:=zp0;refine⟨I2.W5,?_⟩;exact nI F' (g.rm hc) (by rw[g.hK];exact c4) c5 hw I2 r q2
    ·exact h.elim
   ·exact h.elim
theorem eY:∀{l:List Str},vX l=true->l.Nodup
 | [],_=>eI
 |x::xs,h=>by
  unfold vX at h;rw[ag,aF]at h;exact List.nodup_cons.mpr ⟨λz=>by simp[z]at h,eY h.2⟩
theorem Good.W4 (g:Good Z n cc X)(hc:cc.calm=true){sc:Scope}(hk:i6 vars bq ix cc sc=true)(cl:List (Str×Addr))(C:Addr)(fp:List Addr)(s:ah)(H:Hp):
  Good Z n (Xs vars bq sc cc.sc) (L2.W4 X sc (vars++bq) cl C fp s H):=by
 unfold i6 at hk;simp only[ag]at hk;refine⟨g.hK,g.hP,g.hw,g.hm,g.hb,rfl,?_,eY hk.2,λ_=>g.calm hc,λ_=>g.room hc,g.units,λx h=>h,PassesOwn.never,λz=>(nomatch z),λz=>(nomatch z),g.call⟩;show relabel sc X.env=uF sc cc.sc;unfold relabel uF;have:∀x,X.env.kindOf x=cc.sc.names.lookup x:=λx=>by show X.env.scope.names.lookup x=_;rw[g.hs]
 simp only[this,g.hs]
theorem c9 :Xw X WF:=λ_ _ _ _ _ _ _ h=>h.elim
theorem iU {env:Env}(h:eR e=false):∀x,foldedSetIterable e env x=pure x:=λx=>by
 cases e<;>first |rfl|cases h
theorem Good.comp (g:Good Z n cc X)(hc:cc.calm=true){t:Expr}(hk:i6 vars bq ix cc scope=true)(Xe:eR iter=false)
  (hi:PI X t iter (kI Z.G W fi)) (hg:∀Y,Good Z n (Xs vars bq scope cc.sc) Y->PG Y t (kG Z.G fg)) (ht:∀Y,Good Z n (Xs vars bq scope cc.sc) Y->PTs Y es (kT Z.G WF ft)) (he:∀Y,Good Z n (Xs vars bq scope cc.sc) Y->PE Y elt (kE Z.G WF fe)):
  PE X (.ListComp elt [⟨t,iter,es,0⟩] scope pos) (kE Z.G W (uV r fi fg ft fe vars.length ix)):=by
 have Xb:=hk;unfold i6 at Xb;simp only[ag]at Xb;refine bR (GA bq (by rw[g.hN];exact eq_of_beq Xb.1.1.1) (by rw[g.hN];exact Xb.1.1.2) (by rw[g.hs];exact Xb.1.2) (eY Xb.2) (g.calm hc) hi (λcl C fp s H=>hg _ (g.W4 hc hk cl C fp s H)) (λcl C fp s H=>ht _ (g.W4 hc hk cl C fp s H)) (λcl C fp s H=>he _ (g.W4 hc hk cl C fp s H)) (iU Xe)) λη=>?_;exact xJ (G:=Z.G.at η) (j8 η) (λζ=>iy (ζ++η)) (λζ=>f9 (ζ++η)) (λζ=>bz (ζ++η))
theorem Good.vd (g:Good Z n cc X)(hc:cc.calm=true){t:Expr}(hk:i6 vars bq ix cc scope=true)(Xe:eR iter=false)
  (hi:PI X t iter (kI Z.G W fi)) (hg:∀Y,Good Z n (Xs vars bq scope cc.sc) Y->PG Y t (kG Z.G fg)) (ht:∀Y,Good Z n (Xs vars bq scope cc.sc) Y->PTs Y es (kT Z.G WF ft)) (hq:∀Y,Good Z n (Xs vars bq scope cc.sc) Y->PE Y e (kE Z.G WF f)) (he:∀Y,Good Z n (Xs vars bq scope cc.sc) Y->PE Y l (kE Z.G WF fe)):
  PE X (.DictComp e l [⟨t,iter,es,0⟩] scope pos) (kE Z.G W (Ai r fi fg ft f fe vars.length ix)):=by
 have Xb:=hk;unfold i6 at Xb;simp only[ag]at Xb;refine bR (uJ bq (by rw[g.hN];exact eq_of_beq Xb.1.1.1) (by rw[g.hN];exact Xb.1.1.2) (by rw[g.hs];exact Xb.1.2) (eY Xb.2) (g.calm hc) hi (λcl C fp s H=>hg _ (g.W4 hc hk cl C fp s H)) (λcl C fp s H=>ht _ (g.W4 hc hk cl C fp s H)) (λcl C fp s H=>hq _ (g.W4 hc hk cl C fp s H)) (λcl C fp s H=>he _ (g.W4 hc hk cl C fp s H)) (iU Xe)) λη=>?_;exact CU (G:=Z.G.at η) (j8 η) (λζ=>iy (ζ++η)) (λζ=>f9 (ζ++η)) (λζ=>bz (ζ++η)) (λζ=>bz (ζ++η))
theorem Good.n8 (g:Good Z n cc X)(hc:cc.calm=true){t:Expr}{fg2:FG}(hk:i6 vars bq ix cc scope=true)(Xe:eR iter=false)(al0:eR l=false)
  (hi:PI X t iter (kI Z.G W fi)) (hg:∀Y,Good Z n (Xs vars bq scope cc.sc) Y->PG Y t (kG Z.G fg)) (h2:∀Y,Good Z n (Xs vars bq scope cc.sc) Y->PE Y l (kE Z.G WF f)) (hg2:∀Y,Good Z n (Xs vars bq scope cc.sc) Y->PG Y e (kG Z.G fg2)) (he:∀Y,Good Z n (Xs vars bq scope cc.sc) Y->PE Y elt (kE Z.G WF fe)):
  PE X (.ListComp elt [⟨t,iter,[],0⟩,⟨e,l,[],0⟩] scope pos) (kE Z.G W (wm r fi fg f fg2 fe vars.length ix)):=by
 have Xb:=hk;unfold i6 at Xb;simp only[ag]at Xb;refine bR (GB (g.calm hc) bq (by rw[g.hN];exact eq_of_beq Xb.1.1.1) (by rw[g.hN];exact Xb.1.1.2) (by rw[g.hs];exact Xb.1.2) (eY Xb.2) hi (λcl C fp s H=>hg _ (g.W4 hc hk cl C fp s H)) (λcl C fp s H=>rL (X:=L2.W4 X scope (vars++bq) cl C fp s H) (K:=Z.G.K) g.hK (h2 _ (g.W4 hc hk cl C fp s H))) (λcl C fp s H=>hg2 _ (g.W4 hc hk cl C fp s H)) (λcl C fp s H=>he _ (g.W4 hc hk cl C fp s H)) (λenv=>iU Xe) (λenv=>iU al0)) λη=>?_;exact uB (G:=Z.G.at η) (j8 η) (λζ=>iy (ζ++η)) (λζ=>bz (ζ++η)) (λζ=>iy (ζ++η)) (λζ=>bz (ζ++η))
theorem Good.lF (g:Good Z n cc X)(hc:cc.calm=true){t:Expr}(hk:i6 vars bq ix cc scope=true)(Xe:eR iter=false)
  (hi:PI X t iter (kI Z.G W fi)) (hg:∀Y,Good Z n (Xs vars bq scope cc.sc) Y->PG Y t (kG Z.G fg)) (ht:∀Y,Good Z n (Xs vars bq scope cc.sc) Y->PTs Y es (kT Z.G WF ft)) (hq:∀Y,Good Z n (Xs vars bq scope cc.sc) Y->PE Y e (kE Z.G WF f)) (he:∀Y,Good Z n (Xs vars bq scope cc.sc) Y->PE Y l (kE Z.G WF fe)):
  PE X (.DictComp e l [⟨t,iter,es,0⟩] scope pos) (kE Z.G W (wj fi fg ft f fe vars.length ix)):=by
 have Xb:=hk;unfold i6 at Xb;simp only[ag]at Xb;refine bR (C7 (g.calm hc) bq (by rw[g.hN];exact eq_of_beq Xb.1.1.1) (λi hi=>by rw[g.hN];exact of_decide_eq_true (List.all_eq_true.mp Xb.1.1.2 i hi)) (by rw[g.hs];exact Xb.1.2) (eY Xb.2) hi (λcl C fp s H=>hg _ (g.W4 hc hk cl C fp s H)) (λcl C fp s H=>ht _ (g.W4 hc hk cl C fp s H)) (λcl C fp s H=>hq _ (g.W4 hc hk cl C fp s H)) (λcl C fp s H=>he _ (g.W4 hc hk cl C fp s H)) (iU Xe) (by have:=g.units;lia)) λη=>?_;exact zI (G:=Z.G.at η) (j8 η) (λζ=>iy (ζ++η)) (λζ=>f9 (ζ++η)) (λζ=>bz (ζ++η)) (λζ=>bz (ζ++η))
theorem Gn {P:aI}{t:TE}(hP:X.prog=P)(hw:X.w=w)(hc:X.calm=true)(hg:Gl X x)(hm:X.mg x=none)(hx:x="sorted")(he:PE X e t)(hs:isStar e=false):PE X (.Call (.Name x p) [e] [] pos) (tCB (zM P w) (fu t iw)):=by
 subst hP hw hx;exact fW (AL hc) hg hm (by decide +kernel) (eM he iX (dN hs)) (by decide) (by decide) (dN hs) rfl
theorem Good.rj (g:Good Z n cc X)(z:Z.Ok)(hc:cc.calm=true){t:Expr}(hx:x="sorted")(hgl:dI cc x=true)(hk:i6 vars bq ix cc scope=true)(Xe:eR iter=false)
  (hi:PI X t iter (kI Z.G W fi)) (hg:∀Y,Good Z n (Xs vars bq scope cc.sc) Y->PG Y t (kG Z.G fg)) (he:∀Y,Good Z n (Xs vars bq scope cc.sc) Y->PE Y elt (kE Z.G WF fe)):
  PE X (.Call (.Name x p) [.SetComp elt [⟨t,iter,[],0⟩] scope apos] [] pos) (kE Z.G W (Ab r fi fg fe vars.length ix)):=by
 have Xb:=hk;unfold i6 at Xb;simp only[ag]at Xb;have p0:=Gp (pos:=apos) (g.calm hc) bq (by rw[g.hN];exact eq_of_beq Xb.1.1.1) (λi hi=>by rw[g.hN];exact of_decide_eq_true (List.all_eq_true.mp Xb.1.1.2 i hi)) (by rw[g.hs];exact Xb.1.2) (eY Xb.2) hi (λcl C fp s H=>hg _ (g.W4 hc hk cl C fp s H)) (λcl C fp s H=>he _ (g.W4 hc hk cl C fp s H)) (iU Xe);rw[g.hP,g.hw]at p0;refine bR (Gn g.hP g.hw (g.calm hc) (g.gl hgl).1 (g.nob z (by rw[hx];decide)) hx p0 rfl) λη=>?_;exact CO (G:=Z.G.at η) (j8 η) (λζ=>iy (ζ++η)) (λζ=>bz (ζ++η))
theorem qN {o:Expr}{m:Str}{env:Env}(h:f6 o=false):attributeBase o m env (eval o env)=eval o env:=Co h
end
end
section
section
variable {Z:Wd}{n:Nat}
theorem Fv {W:XW}{g:FE}(a:bP G W te f)(b:bP G W to g):bP G W (E3 te to) (qa true f g):=by
 unfold qa;rw[if_pos rfl];exact Ft a b
theorem Jj {W:XW}{g:FE}(a:bP G W te f)(b:bP G W to g):bP G W (MF te to) (qa false f g):=by
 unfold qa;rw[if_neg aH];exact Jh a b
theorem Fu {W:XW}{f g:FT}{tb:TT}(a:gF G W tc f)(b:gF G W tb g):gF G W (MV tc tb) (yr true f g):=by
 unfold yr;rw[if_pos rfl];exact Jw a b
theorem Ji {W:XW}{f g:FT}{tb:TT}(a:gF G W tc f)(b:gF G W tb g):gF G W (tOr tc tb) (yr false f g):=by
 unfold yr;rw[if_neg aH];exact Nc a b
theorem plainT_ok {env:Env}(h:plainT e=true):∀whole,isTrue e env whole=(do let v ←whole;standAt e.pos;holding [v] (truthy v)):=λwhole=>by
 cases e with
 |UnaryOp op x p=>cases op<;>first |rfl|cases h
 |_=>first |rfl|cases h
theorem rK {b:Expr}(h:ka b=false):Cr b:=λo i=>by
 cases b<;>first |rfl|cases h
theorem uY {W:XW}:PE X e (kE Z.G W eNo):=bR eX λη=>jx
theorem vw {env:Env}(h:isStar e=false):(assignEach (e::es) env).map (·.2)=assign e env::(assignEach es env).map (·.2):=by
 cases e<;>first |rfl|cases h
theorem Ho {env:Env}:∀{gs:MGs}{cc:CC}{es:List Expr},om gs cc es=true->(assignEach es env).length=An gs/\(assignEach es env).findIdx? (·.1)=none
 |.nil,_,_,h=>X4 h λ_=>⟨rfl,rfl⟩
 |.cons g r,_,_,h=>fk h λe es h=>by
  have i:=Ho (env:=env) (XZ h);have q:=YT h;have e1:assignEach (e::es) env=(false,assign e env)::assignEach es env:=by cases e<;>first |rfl|cases q
  rw[e1];exact⟨congrArg (·+1) i.1,by rw[List.findIdx?_cons,i.2];rfl⟩
theorem Gj {K:Frag}{k:Nat}{t:WZ}(hK:X.K=K)(hc:X.calm=true)(h:PGs X es t)(hn:(assignEach es X.env).length=n)(hst:(assignEach es X.env).findIdx? (·.1)=none):PG X (.Tuple es k pos) (Ht K n t):=hK ▸ JW hc h hn hst
theorem Kc {K:Frag}{f:Str}(hK:X.K=K)(he:PE X e te)(hb:attributeBase e f X.env (eval e X.env)=eval e X.env):PE X (.Attribute e f pos) (MH K te f):=hK ▸ NX he hb
theorem HF {r:Expr}{env:Env}(h:isStar r=false):((backTo pos (ay [r] env)).all (λx=>!x.1)&&(backToKw pos (keywordEach [] env)).all (λx=>x.1.isSome)
   &&decide ([r].length+([]:List Keyword).length+(if ([]:List Keyword).isEmpty then 0 else 1)<30))=true:=by rw[dN h];rfl
theorem Gq {P:aI}{o:Expr}{t:TA}(hP:X.prog=P)(hw:X.w=w)(ho:PE X o to)(ha:PA X [e] t)(h1:f6 o=false)(h2:(apos.endLine==bO.line)=true)(h4:isStar e=false):
  PE X (.Call (.Attribute o "add" apos) [e] [] bO) (Ew P w to t):=hP ▸ hw ▸ JY ho ha (qN h1) (HF h4) h2 (dN h4)
theorem Kf {K:Frag}{o:Expr}{t:TA}(hK:X.K=K)(ho:PE X o to)(ha:PA X [e] t)(h1:f6 o=false)(h2:(apos.endLine==bO.line)=true)(h4:isStar e=false):
  PE X (.Call (.Attribute o "append" apos) [e] [] bO) (tBM K "list" vQ to t):=hK ▸ LR PySem.F.plainAttrs_list PySem.F.slot_list_append PySem.F.type_list_append oZ ho ha (qN h1) (HF h4) h2 (dN h4) rfl
theorem Kr (h:ka e=false):IU e:=λov iv=>rK h ov iv
theorem m6 {xs:Xr}{env:Env}(h:eT xs cc es=true):∀e r,es=e::r->ay (e::r) env=(false,eval e env)::ay r env/\(backTo pos (ay r env)).any (·.1)=false:=λe r q=>by
 subst q;obtain⟨q1,q2⟩:=eP (env:=env) h;exact⟨q1,q2 _⟩
theorem sQ {Γ:mh}{xs:Xr}(h:eT xs cc es=true):es=[]->Xi Γ xs=sg:=λq=>by
 subst q;cases xs with
 |nil=>rfl
 |cons a r=>cases h
theorem A1 {α:Type}{l:List (Bool×α)}(h:l.any (·.1)=false):l.all (λx=>!x.1)=true:=by
 rw[List.any_eq_false]at h;rw[xi];exact λx hx=>by simpa using h x hx
theorem Ir {xs:Xr}{env:Env}(h:eT xs cc es=true):(backTo pos (ay es env)).all (λx=>!x.1)=true:=A1 (m5 h)
mutual
theorem sE (z:Z.Ok):∀(m:MX){cc:CC}{e:Expr}{X:Cx}{W:XW},Good Z n cc X->Xw X W->bQ m cc e=true->PE X e (kE Z.G W (WM (Z.Pg.env n) m))
 |.v i=>λg hw h=>YG h λy p h=>bR (QR g (Yn h) (X7 h) (XZ h)) λη=>Jc i
 |.WN=>λg hw h=>Yv h λc u p h=>by
  cases c with
  |none=>exact bR NW λη=>xK λ_ _=>.WN
  |_=>cases h
 |.bl b=>λg hw h=>Yv h λc u p h=>by
  cases c with
  |bool d=>rw[eq_of_beq (show(d==b)=true from h)];exact bR Q9 λη=>xK λ_ _=>.bl _
  |_=>cases h
 |.int b=>λg hw h=>Yv h λc u p h=>by
  cases c with
  |int d=>rw[eq_of_beq (show(d==b)=true from h)];exact bR Gw λη=>xK λ_ _=>.int _
  |_=>cases h
 |.str b=>λg hw h=>Yv h λc u p h=>by
  cases c with
  |str d=>rw[eq_of_beq (show(d==b)=true from h)];exact bR NU λη=>xK λ_ _=>.str _
  |_=>cases h
 |.g x=>λg hw h=>Ya (X8 h) λp=>by
  show PE _ _ (kE Z.G _ (uU (Z.Pg.env n) x));cases q:Z.Pg.gl x with
  |none=>
   have:uU (Z.Pg.env n) x=eNo:=by funext δ M;unfold uU;simp only[q];rfl
   rw[this];exact uY
  |some d=>
   have:uU (Z.Pg.env n) x=mC d:=by funext δ M;unfold uU;simp only[q];rfl
   rw[this];obtain⟨v,u,h1,h2,h3⟩:=z.gl x d q;exact bR (nL (g.gl (XZ h)).1 (by rw[g.hm];exact h1) h2 (g.gl (XZ h)).2) λη=>xK λι H=>(h3 ι _ H).at η
 |.bin o a b=>λg hw h=>W2 h λl p r q h=>by
  obtain⟨r,h1,h2⟩:=g.binop (eq_of_beq (Yn h));exact bR (QT h1 (sE z a g hw (X7 h)) (sE z b g hw (XZ h))) λη=>vJ (h2 η) (bz η) (bz η)
 |.cmp o a b=>λg hw h=>Q2 h λl ps rs q h=>X3 h λp h=>X3 h λr h=>by
  obtain⟨s,h1,h2⟩:=g.vg (eq_of_beq (YB h));exact bR (BK h1 (sE z a g hw (X7 h)) (sE z b g hw (XZ h)) (Yz h)) λη=>vJ (h2 η) (bz η) (bz η)
 |.chain o o' a b c=>λg hw h=>Q2 h λl ps rs q h=>Ye h λp p' h=>Ye h λm r h=>by
  obtain⟨s,h1,h2⟩:=g.vg (eq_of_beq (Zn h));obtain⟨s',h1',h2'⟩:=g.vg (eq_of_beq (Yx h));exact bR (GC h1 h1' (sE z a g hw (Yg h)) (sE z b g hw (X7 h)) (sE z c g hw (XZ h)) (YK h)) λη=>uC (h2 η) (h2' η) (bz η) (bz η) (bz η)
 |.bool k xs=>λg hw h=>Wy h (λes p h=>sBa z xs g hw h) (λes p h=>sBo z xs g hw h)
 |.not a=>λg hw h=>WG h λl p h=>bR (NV (sE z a g hw h)) λη=>E9 (bz η)
 |.W9 t a b=>λg hw h=>ZM h λc l r p h=>bR (Gy (sT z t g hw (Yn h)) (sE z a g hw (X7 h)) (sE z b g hw (XZ h))) λη=>Nj (f9 η) (bz η) (bz η)
 |.tup xs=>λg hw h=>rD h λes k p h=>bR (vT (sA z xs g hw h)) λη=>xE (dD η)
 |.lst r xs=>λg hw h=>WH h λes p h=>bR (BJ (sA z xs g hw h)) λη=>xI (dD η)
 |.ak4 r a xs=>λg hw h=>WH h λes p h=>YV h λl q r h=>bR (BJ (BL (sE z a g hw (X8 h)) (sA z xs g hw (XZ h)))) λη=>xI (xG (bz η) (dD η))
 |.ak5 a xs=>λg hw h=>rD h λes k p h=>YV h λl q r h=>bR (vT (BL (sE z a g hw (X8 h)) (sA z xs g hw (XZ h)))) λη=>xE (xG (bz η) (dD η))
 |.au6 r xs=>λg hw h=>X0 h λp es q h=>X3 h λb h=>X0 h λp' es q' h=>X3 h λa h=>
  bR (Ka (g.calm (YB h)) (g.gl (Yg h)).1 (g.nob z (by decide)) (g.gl (X7 h)).1 (g.nob z (by decide)) (sA z xs g hw (XZ h)) (eP (XZ h)).1) λη=>Fd (dD η)
 |.au7 r xs=>λg hw h=>X0 h λp es q h=>X3 h λb h=>X0 h λp' es q' h=>Ye h λa a' h=>
  bR (J1 (g.calm (YB h)) (g.gl (Yg h)).1 (g.nob z (by decide)) (g.gl (X7 h)).1 (g.nob z (by decide)) (sA z xs g hw (XZ h)) (eP (XZ h)).1 ((eP (XZ h)).2 _)) λη=>Fc (dD η)
 |.ix a b=>λg hw h=>Wp h λl r p h=>by
  have hu:=g.units;exact bR (QX (Vv g.hK (by lia)) (sE z a g hw (X7 h)) (sE z b g hw (XZ h)) (rK (YT h))) λη=>vJ (Ni (G:=Z.G.at η)) (bz η) (bz η)
 |.sl r a lo hi=>λg hw h=>Wp h λl s p h=>WX h λx y q h=>bR (Go (Uu g.hK) (sE z a g hw (Yn h)) (sO z lo g hw (X7 h)) (sO z hi g hw (XZ h))) λη=>Nb (G:=Z.G.at η) (bz η) (He η) (He η)
 |.fld c f a=>λg hw h=>WI h λl p h=>by
  show PE _ _ (kE Z.G _ (G0 (Z.Pg.env n) c _ _));unfold G0;simp only;split
  ·rename_i fs q;split
   ·rename_i hf;have ok:=z.ic c fs q;exact bR (Kc g.hK (sE z a g hw (XZ h)) (qN (ZT h))) λη=>Ju (G:=Z.G.at η) ok.cl.cl (ok.na _ (by simpa using hf)) (bz η)
   ·exact uY
  ·exact uY
 |.bif b xs=>λg hw h=>X0 h λp es q h=>fk h λa r h=>g.bif z (Yn h) (X7 h) (sA z xs g hw (XZ h)) (eP (XZ h)).1 ((eP (XZ h)).2 _)
 |.isT T a=>λg hw h=>X0 h λp es q h=>Ye h λl r h=>Ya (Zn h) λp'=>g.isT z (by simpa using XZ (Yn h)) (Yx h) (Yk h) (YA h) (sE z a g hw (XZ h))
 |.Du T T' a=>λg hw h=>X0 h λp es q h=>Ye h λl r h=>rD h λts k p' h=>Ye h λt t' h=>Ya (Zl h) λp1=>Ya (Zi h) λp2=>
  g.Du z (by simpa using XZ (YL h)) (by simpa using XZ (Yn h)) (Zj h) (YJ h) (Yk h) (YA h) (sE z a g hw (XZ h))
 |.isC c a=>λg hw h=>X0 h λp es q h=>Ye h λl r h=>Ya (YL h) λp'=>by
  show PE _ _ (kE Z.G _ (GY (Z.Pg.env n) _ _));unfold GY;simp only;split
  ·rename_i fs q;exact g.isC z q (Yk h) (Yg h) (YA h) (sE z a g hw (XZ h))
  ·exact uY
 |.isB T a=>λg hw h=>X0 h λp es q h=>Ye h λl r h=>Ya (YL h) λp'=>by
  show PE _ _ (kE Z.G _ (GZ (Z.Pg.env n) _ _));unfold GZ;simp only;split
  ·rename_i fs q;exact g.isB z q (Yk h) (Yg h) (YA h) (sE z a g hw (XZ h))
  ·exact uY
 |.call f xs=>λg hw h=>X0 h λp es q h=>g.Sy (YB h) hw (Yz h) (X7 h) (sA z xs g hw (XZ h)) (m6 (XZ h)) (sQ (XZ h))
 |.cB f xs=>λg hw h=>X0 h λp es q h=>g.cB (YB h) hw (Yz h) (X7 h) (sA z xs g hw (XZ h)) (m6 (XZ h)) (sQ (XZ h))
 |.rS c f xs=>λg hw h=>X0 h λp es q h=>fk h λa r h=>g.rS z (Yn h) hw (X7 h) (sA z xs g hw (XZ h)) (eP (XZ h)).1 ((eP (XZ h)).2 _)
 |.tO c m f o xs=>λg hw h=>Yw h λl p es q h3 h=>g.tO z (YL h) hw (sE z o g hw (X7 h)) (sA z xs g hw (XZ h)) (YK h) h3 (of_decide_eq_true (Yg h)) (Ir (XZ h)) (m6 (XZ h)) (sQ (XZ h))
 |.yv c f a=>λg hw h=>X0 h λp es q h=>X3 h λl h=>g.yv z (YB h) hw (Yg h) (sE z a g hw (XZ h)) (YA h)
 |.Dq x a=>λg hw h=>Yw h λl p es q h3 h=>X3 h λr h=>Ya (YB h) λp'=>g.Dq z (Yg h) (sE z a g hw (XZ h)) (YA h) h3
 |.kix x a=>λg hw h=>Wp h λl r p h=>Ya (YB h) λp'=>g.kix z (Yg h) (sE z a g hw (XZ h)) (Kr (YA h))
 |.vk i x xs=>λg hw h=>X0 h λp es q h=>fk h λa r h=>g.vk (YL h) hw (Yk h) (Yg h) (X7 h) (sA z xs g hw (XZ h)) (eP (XZ h)).1 ((eP (XZ h)).2 _)
 |.ap6=>λg hw h=>X0 h λp es q h=>X4 h λh=>by
  rename_i cc e X W _ _;have c:=DO (X:=X);rw[g.hP,g.hw]at c;exact bR (zS c (g.gl h).1 (g.nob z (by decide)) (by decide +kernel) (by decide) (by decide)) λη=>E7 (G:=Z.G.at η)
 |.ap7 o a=>λg hw h=>Yw h λl p es q h3 h=>X3 h λr h=>bR (Gq g.hP g.hw (sE z o g hw (X7 h)) (eM (sE z a g hw (XZ h)) iX (dN (Yz h))) (Z3 h) h3 (Yz h)) λη=>E8 (G:=Z.G.at η) (bz η) (bz η)
 |.app o a=>λg hw h=>Yw h λl p es q h3 h=>X3 h λr h=>bR (Kf g.hK (sE z o g hw (X7 h)) (eM (sE z a g hw (XZ h)) iX (dN (Yz h))) (Z3 h) h3 (Yz h)) λη=>Jv (G:=Z.G.at η) (bz η) (bz η)
 |.comp r vars bq ix it tg ifs a=>λg hw h=>Yu h λelt gs sc p h=>Ys h λt iter fs h=>
  g.comp (Zm h) (YJ h) (Zk h) (sI z it g hw (Yk h)) (λY gY=>sG z tg gY (Yg h)) (λY gY=>sTs z ifs gY c9 (X7 h)) (λY gY=>sE z a gY c9 (XZ h))
 |.vd r vars bq ix it tg ifs k a=>λg hw h=>YS h λkx vx gs sc p h=>Ys h λt iter fs h=>
  g.vd (ZV h) (Zj h) (YZ h) (sI z it g hw (Yx h)) (λY gY=>sG z tg gY (Yk h)) (λY gY=>sTs z ifs gY c9 (Yg h)) (λY gY=>sE z k gY c9 (X7 h)) (λY gY=>sE z a gY c9 (XZ h))
 |.n8 r vars bq ix it tg a2 tg2 a=>λg hw h=>Yu h λelt gs sc p h=>YW h λt iter t2 ak8 h=>
  g.n8 (Zl h) (Zi h) (ZU h) (YZ h) (sI z it g hw (Yx h)) (λY gY=>sG z tg gY (Yk h)) (λY gY=>sE z a2 gY c9 (Yg h)) (λY gY=>sG z tg2 gY (X7 h)) (λY gY=>sE z a gY c9 (XZ h))
 |.lF vars bq ix it tg ifs k a=>λg hw h=>YS h λkx vx gs sc p h=>Ys h λt iter fs h=>
  g.lF (ZV h) (Zj h) (YZ h) (sI z it g hw (Yx h)) (λY gY=>sG z tg gY (Yk h)) (λY gY=>sTs z ifs gY c9 (Yg h)) (λY gY=>sE z k gY c9 (X7 h)) (λY gY=>sE z a gY c9 (XZ h))
 |.rj r vars bq ix it tg a=>λg hw h=>X0 h λp es q h=>X3 h λs h=>Zy h λelt gs sc p' h=>Ys h λt iter fs h=>X4 h λh=>
  g.rj z (Zm h) rfl (YJ h) (Yx h) (YK h) (sI z it g hw (Yg h)) (λY gY=>sG z tg gY (X7 h)) (λY gY=>sE z a gY c9 (XZ h))
 |.kin x a=>λg hw h=>Q2 h λl ps rs q h=>X3 h λp h=>X3 h λr h=>by
  have h4:=YA h;have h5:=sE z a g hw (XZ h);have h3:=Yk h;obtain rfl:=eq_of_beq (YL h);have h2:=Yg h;clear h
  revert h4
  exact Ya h2 λp' h4=>g.kin z h3 h5 h4
 |.never=>λg hw h=>uY
theorem sA (z:Z.Ok):∀(m:Xr){cc:CC}{es:List Expr}{X:Cx}{W:XW},Good Z n cc X->Xw X W->eT m cc es=true->PA X es (kA Z.G W (Xi (Z.Pg.env n) m))
 |.nil=>λg hw h=>X4 h λh=>L3 iX λη=>nB
 |.cons a r=>λg hw h=>fk h λe es h=>L3 (eM (sE z a g hw (X7 h)) (sA z r g hw (XZ h)) (dN (YT h))) λη=>Fs (bz η) (dD η)
theorem sBa (z:Z.Ok):∀(m:Xr){cc:CC}{es:List Expr}{pos:Pos}{X:Cx}{W:XW},Good Z n cc X->Xw X W->sP m cc es=true->PE X (.BoolOp .And es pos) (kE Z.G W (evB (Z.Pg.env n) true m))
 |.nil=>λg hw h=>nomatch h
 |.cons a .nil=>λg hw h=>fk h λe es h=>X4 (XZ h) λ_=>bR (Gr (sE z a g hw (X8 h))) λη=>bz η
 |.cons a (.cons b r')=>λg hw h=>fk h λe es h=>by
  cases es with
  |nil=>cases XZ h
  |cons e2 es2=>exact bR (NZ (sE z a g hw (X8 h)) (sBa z (.cons b r') g hw (XZ h))) λη=>Fv (bz η) (bz η)
theorem sBo (z:Z.Ok):∀(m:Xr){cc:CC}{es:List Expr}{pos:Pos}{X:Cx}{W:XW},Good Z n cc X->Xw X W->sP m cc es=true->PE X (.BoolOp .Or es pos) (kE Z.G W (evB (Z.Pg.env n) false m))
 |.nil=>λg hw h=>nomatch h
 |.cons a .nil=>λg hw h=>fk h λe es h=>X4 (XZ h) λ_=>bR (Gr (sE z a g hw (X8 h))) λη=>bz η
 |.cons a (.cons b r')=>λg hw h=>fk h λe es h=>by
  cases es with
  |nil=>cases XZ h
  |cons e2 es2=>exact bR (QS (sE z a g hw (X8 h)) (sBo z (.cons b r') g hw (XZ h))) λη=>Jj (bz η) (bz η)
theorem sT (z:Z.Ok):∀(m:MT){cc:CC}{e:Expr}{X:Cx}{W:XW},Good Z n cc X->Xw X W->qr m cc e=true->PT X e (kT Z.G W (evT (Z.Pg.env n) m))
 |.val a=>λg hw h=>BV (C0 g.hK (sE z a g hw (XZ h)) (plainT_ok (X8 h))) λη=>CN (G:=Z.G.at η) (bz η)
 |.cmp o a b=>λg hw h=>Q2 h λl ps rs q h=>X3 h λp h=>X3 h λr h=>by
  obtain⟨s,h1,h2⟩:=g.vg (eq_of_beq (YB h));exact BV (JK h1 (sE z a g hw (X7 h)) (sE z b g hw (XZ h)) (Yz h)) λη=>xF (vJ (h2 η) (bz η) (bz η))
 |.chain o o' a b c=>λg hw h=>Q2 h λl ps rs q h=>Ye h λp p' h=>Ye h λm r h=>by
  obtain⟨s,h1,h2⟩:=g.vg (eq_of_beq (Zn h));obtain⟨s',h1',h2'⟩:=g.vg (eq_of_beq (Yx h));exact BV (F9 h1 h1' (sE z a g hw (Yg h)) (sE z b g hw (X7 h)) (sE z c g hw (XZ h)) (YK h)) λη=>xF (uC (h2 η) (h2' η) (bz η) (bz η) (bz η))
 |.not t=>λg hw h=>WG h λl p h=>BV (NJ (sT z t g hw h)) λη=>Jk (f9 η)
 |.bool k ts=>λg hw h=>Wy h (λes p h=>(sTa z ts g hw h).pt) (λes p h=>(sTo z ts g hw h).pt)
theorem sTa (z:Z.Ok):∀(m:MTs){cc:CC}{es:List Expr}{pos:Pos}{X:Cx}{W:XW},Good Z n cc X->Xw X W->lG m cc es=true->PW X (.BoolOp .And es pos) (kT Z.G W (yG (Z.Pg.env n) true m))
 |.nil=>λg hw h=>nomatch h
 |.cons a .nil=>λg hw h=>fk h λe es h=>X4 (XZ h) λ_=>BU (JH (sT z a g hw (X8 h))) λη=>f9 η
 |.cons a (.cons b r')=>λg hw h=>fk h λe es h=>by
  cases es with
  |nil=>cases XZ h
  |cons e2 es2=>exact BU (NH (sT z a g hw (X8 h)) (sTa z (.cons b r') g hw (XZ h))) λη=>Fu (f9 η) (f9 η)
theorem sTo (z:Z.Ok):∀(m:MTs){cc:CC}{es:List Expr}{pos:Pos}{X:Cx}{W:XW},Good Z n cc X->Xw X W->lG m cc es=true->PW X (.BoolOp .Or es pos) (kT Z.G W (yG (Z.Pg.env n) false m))
 |.nil=>λg hw h=>nomatch h
 |.cons a .nil=>λg hw h=>fk h λe es h=>X4 (XZ h) λ_=>BU (NG (sT z a g hw (X8 h))) λη=>f9 η
 |.cons a (.cons b r')=>λg hw h=>fk h λe es h=>by
  cases es with
  |nil=>cases XZ h
  |cons e2 es2=>exact BU (QL (sT z a g hw (X8 h)) (sTo z (.cons b r') g hw (XZ h))) λη=>Ji (f9 η) (f9 η)
theorem sTs (z:Z.Ok):∀(m:MTs){cc:CC}{es:List Expr}{X:Cx}{W:XW},Good Z n cc X->Xw X W->vh m cc es=true->PTs X es (kT Z.G W (iq (Z.Pg.env n) m))
 |.nil=>λg hw h=>X4 h λ_=>Hc JJ λη=>E6
 |.cons a .nil=>λg hw h=>X3 h λe h=>Hc (JI (sT z a g hw h)) λη=>f9 η
 |.cons a (.cons b r)=>λg hw h=>X3 h λe h=>YM h
theorem sO (z:Z.Ok):∀(m:MO){cc:CC}{e:Option Expr}{X:Cx}{W:XW},Good Z n cc X->Xw X W->Iq m cc e=true->PO X e (kO Z.G W (evO (Z.Pg.env n) m))
 |.none=>λg hw h=>WB h (L1 JP λη=>Nf)
 |.some a=>λg hw h=>Yr h λe h=>L1 (JO (sE z a g hw h)) λη=>Nd (bz η)
theorem sI (z:Z.Ok):∀(m:MI){cc:CC}{t e:Expr}{X:Cx}{W:XW},Good Z n cc X->Xw X W->pJ m cc t e=true->PI X t e (kI Z.G W (evI (Z.Pg.env n) m))
 |.lst a=>λg hw h=>uX (rL g.hK (sE z a g hw h)) λη=>Nn (G:=Z.G.at η) (bz η)
 |.tup a=>λg hw h=>uX (JS g.hK (sE z a g hw h)) λη=>Nk (G:=Z.G.at η) (bz η)
 |.str a=>λg hw h=>uX (NS (sE z a g hw h)) λη=>Nl (bz η)
 |.rng xs=>λg hw h=>X0 h λp es q h=>X3 h λa h=>uX (C4 (g.gl (X8 h)).1 (g.nob z (by decide)) (sA z xs g hw (XZ h)) (eP (XZ h)).1) λη=>Nm (dD η)
 |.enum xs=>λg hw h=>X0 h λp es q h=>X3 h λa h=>rD (Yn h) λts k p' _=>uX (JU (g.gl (X7 h)).1 (g.nob z (by decide)) (sA z xs g hw (XZ h)) (eP (XZ h)).1) λη=>Np (dD η)
 |.ak7 xs=>λg hw h=>X0 h λp es q h=>X3 h λa h=>rD (Yn h) λts k p' _=>uX (Gh (g.gl (X7 h)).1 (g.nob z (by decide)) (sA z xs g hw (XZ h)) (eP (XZ h)).1) λη=>Js (dD η)
theorem sG (z:Z.Ok):∀(m:MG){cc:CC}{e:Expr}{X:Cx},Good Z n cc X->kf m cc e=true->PG X e (kG Z.G (XB (Z.Pg.env n) m))
 |.nm i=>λg h=>YG h λy p h=>Hg (vS g.nd' (g.slot (X8 h)) (g.loc (XZ h)).1 (g.loc (XZ h)).2) λη=>jH i
 |.tup gs=>λg h=>rD h λes k p h=>Hg (Gj g.hK (g.calm (X8 h)) (sGs z gs g (XZ h)) (Ho (XZ h)).1 (Ho (XZ h)).2) λη=>Fk (G:=Z.G.at η) (BX η)
 |.sub o i=>λg h=>Wp h λl r p h=>by
  rename_i cc e X _;refine Hg (NT (sE z o g (c9 (X:=X)) (X7 h)) (sE z i g (c9 (X:=X)) (XZ h)) set_list (λv=>?_)) λη=>Fl (W:=WF) (bz η) (bz η);have:=ZD (Yn h);cases r<;>first |rfl|cases this
theorem sGs (z:Z.Ok):∀(m:MGs){cc:CC}{es:List Expr}{X:Cx},Good Z n cc X->om m cc es=true->PGs X es (kGs Z.G (DC (Z.Pg.env n) m))
 |.nil=>λg h=>X4 h λ_=>Hf JV λη=>Fm
 |.cons a r=>λg h=>fk h λe es h=>Hf (Gi (sG z a g (X7 h)) (sGs z r g (XZ h)) (vw (YT h))) λη=>CS (iy η) (BX η)
end
end
end
section
section
variable {Z:Wd}{n:Nat}
theorem Bx {t:Option Expr}{k:Nat}{env:Env}(h:wG e=false):swapsWith e t k env=pure false:=by
 cases e<;>first |rfl|cases h
theorem rg {t:Expr}{k:Nat}{env:Env}(h:isName t=false):swapsWith e (some t) k env=pure false:=by
 cases e<;>first |rfl| (cases t<;>first |rfl|cases h)
theorem CB (g:Good Z n cc X){t:Expr}{k:Nat}(h:Ci cc t=true):swapsWith e (some t) k X.env=pure false:=YG h λy p h=>by
 have hl:X.env.kindOf y=some .cell:=by
  show X.env.scope.names.lookup y=_;rw[g.hs];split at h
  ·rename_i q;exact q
  ·cases h
 have hf:(X.env.kindOf y==some NameKind.local)=false:=by rw[hl];rfl
 cases e<;>first |rfl| (unfold swapsWith;simp[hf])
theorem CF {t:Expr}{env:Env}(h1:wD t=false)(h2:(j9 t&&j9 e)=false):swappedStores [t] e env=pure none:=by
 cases t<;>first |rfl| (cases h1;done)| (cases e<;>first |rfl|cases h2)
theorem IW {ns:List Str}{ds:List D}(h:vs.length=ds.length)(e:ns.zip vs=[]):ns.zip ds=[]:=by
 cases ns with
 |nil=>rfl
 |cons a r=>
  cases vs with
  |nil=>cases ds with
   |nil=>rfl
   |cons _ _=>cases h
  |cons _ _=>cases e
theorem Bm {G:Gx}{ι ξ:List Addr}{H:Hp}:∀{ns:List Str}{vs:List V}{ds:List D},VRs G ι ξ H vs ds->VRf G ι ξ H (ns.zip vs) (ns.zip ds)
 | [],_,_,_=>.nil
 |_::_,_,_,.nil=>.nil
 |_::ns,_,_,.cons a r=>.cons a (Bm r)
theorem CP {W:XW}{ns:List Str}(hc:ff G.K (G.cls c) bm nid)(hk:ns.length<=100)(a:iE G W ta fa):
  fY G W (zm G.K (vF (G.cls c) ns ta) W) (λδ M=>sb δ (fa δ M) λds M1=>if ds.length=ns.length then some (.ex c (ns.zip ds) δ M1) else none):=λE σ δ ι M H R er h=>
 a σ δ ι M H _ R er (GS.bind er h λvs H1 ι1 M1 ds e1 R1 r1 h1=>by
  split at h1
  ·rename_i hl;have hl':vs.length=ns.length:=by rw[r1.length];exact hl
   refine⟨hl',by lia,λx H' hx nx sm=>?_⟩;have s2:∀d,fD H1 (upd H' x (fL false (G.cls c) x d)):=λd b o z=>by rw[aQ (bh z hx)];exact sm b o z
   have fin:∀d,XR G ι1 (upd H' x (fL false (G.cls c) x d)) x c (ns.zip ds)->W x σ (upd H' x (fL false (G.cls c) x d)):=λd xr=>h1 x σ _ ι1 (Ext.same (s2 d)) (R1.same (s2 d)) ((er.ext e1).ext (Ext.same (s2 d))) xr;rcases nx with ⟨z,n1⟩|⟨dx,n0,ne,n1,n2⟩
   ·refine⟨x,_,bm,nid,_,none,rfl,n1,.inl ⟨rfl,rfl⟩,hc,fin none ?_⟩;rw[IW r1.length z];exact .az7 bu (R1.rN hx)
   ·exact⟨x,_,bm,nid,_,some dx,rfl,n1,.inr ⟨dx,rfl,n2⟩,hc,fin (some dx) (.az8 bu (R1.rN hx) (by rw[aQ ne];exact n2) (R1.rN n0) (Bm (r1.ext (Ext.same (s2 _)))))⟩
  ·exact h1.elim)
theorem CM {W:XW}{tb:(Addr->St->Hp->Prop)->TS}{ts:Addr->TS}{b h:FS}(hc:ff G.K (G.cls c) bm nid)(em:exmOne G.K (.ref (G.cls c)) u=some true)
  (sb':∀W',fY G W' (tb W') b) (sh:∀x,fY G WF (ts x) h):fY G W (zj G.K u i tb ts) (se c i b h):=λE σ δ ι M H R er hh=>by
 refine sb' _ E σ δ ι M H R er ?_;unfold se at hh;cases q:b δ M with
 |none=>rw[q]at hh;exact hh.elim
 |some o=>
  rw[q]at hh;cases o with
  |ex c' fs δ' M'=>
   simp only at hh;split at hh
   ·rename_i hcc;subst hcc;intro x σ' H' ι' e' R' er' xr;obtain⟨a,vs,ea,ix,_⟩:=vD xr;cases ea;refine⟨_,bm,nid,vs,ix,hc,em,sh x _ _ (δ'.set i (some (.exc c' fs))) ι' M' H' R' (er'.set xr i) ?_⟩;have hh:=GS.ext e' hh;cases q2:h (δ'.set i (some (.exc c' fs))) M' with
    |none=>rw[q2]at hh;exact hh.elim
    |some o2=>
     rw[q2]at hh;cases o2 with
     |nx δ2 M2=>exact λσ2 H2 ι2 e2 R2 er2=>hh _ H2 ι2 e2 R2 (er2.unset i)
     |rt d2 M2=>exact hh
     |bk δ2 M2=>exact λσ2 H2 ι2 e2 R2 er2=>hh _ H2 ι2 e2 R2 (er2.unset i)
     |ct δ2 M2=>exact λσ2 H2 ι2 e2 R2 er2=>hh _ H2 ι2 e2 R2 (er2.unset i)
     |ex c2 fs2 δ2 M2=>exact hh.elim
   ·exact hh.elim
  |nx δ' M'=>exact hh
  |rt d' M'=>exact hh
  |bk δ' M'=>exact hh
  |ct δ' M'=>exact hh
theorem Good.fC (g:Good Z n cc X){pn:List (Addr×Obj)}(hp:PassesOwn (model X.prog X.w) X.A X.env xe):Good Z n cc (X.fC pn xe):=
 ⟨g.hK,g.hP,g.hw,g.hm,g.hb,g.hN,g.hs,g.nd,g.calm,g.room,g.units,g.fn,hp,g.top,g.bk,g.call⟩
theorem Good.dE (g:Good Z n cc X)(x:Addr):Good Z n { cc with calm:=false } (X.dE x):=
 ⟨g.hK,g.hP,g.hw,g.hm,g.hb,g.hN,g.hs,g.nd,λz=>(nomatch z),λz=>(nomatch z),g.units,g.fn,PassesOwn.never,g.top,g.bk,g.call⟩
theorem BW {W:XW}{s:Stmt}:PS X s (kS Z.G W j5):=gn rG λη=>oM
theorem C2 {K:Frag}{W:Addr->St->Hp->Prop}(hK:X.K=K)(he:PE X e te)(hw:Xw X W)(hc:X.calm=true):PS X (.Raise (some e) none pos) (zm K te W):=hK ▸ Gf he hw hc
theorem BP:∀{xs:Xr}{cc:CC}{es:List Expr},eT xs cc es=true->es.length=G5 xs
 |.nil,_,_,h=>X4 h λ_=>rfl
 |.cons a r,_,_,h=>fk h λe es h=>congrArg (·+1) (BP (XZ h))
theorem Good.raise {W:XW}(z:Z.Ok)(g:Good Z n cc X)(hc:cc.calm=true)(hw:Xw X W){xs:Xr}(hg:dI cc c=true)(hx:eT xs cc []=true):
  PS X (.Raise (some (.Call (.Name c p) [] [] apos)) none pos) (kS Z.G W (Ac (Z.Pg.env n) c (G5 xs) (Xi (Z.Pg.env n) xs))):=by
 unfold Ac;simp only;split
 ·rename_i ns hn;split
  ·rename_i hl;have ok:=z.xc c ns hn;obtain⟨bm,Bn,nid,inN,bmN,mk,hi⟩:=ok.ex;have mk':XMk X.K (Z.G.cls c) bm Bn nid inN bmN:=by rw[g.hK];exact mk
   have hr:=g.room hc;have hm:X.mg c=some (.ref (Z.G.cls c)):=by rw[g.hm];exact ok.mg
   have ha:=sA z xs g hw hx;have h0:ns=[]:=by
    have:=BP hx;exact List.eq_nil_of_length_eq_zero (by rw[←hl.1,←this];rfl)
   subst h0;have hxs:xs=.nil:=by
    cases xs with
    |nil=>rfl
    |cons a r=>cases hx
   subst hxs;rcases hi with ⟨_,_,rfl,h4⟩|⟨h0,_⟩
   ·have p0:PE X (.Call (.Name c p) [] [] apos) (vF (Z.G.cls c) [] iw):=C5 mk' (by rw[g.hK];exact h4) (g.gl hg).1 hm (g.gl hg).2;exact gn (C2 g.hK p0 hw (g.calm hc)) λη=>CP (G:=Z.G.at η) mk.c (bG _) nB
   ·exact(h0 rfl).elim
  ·exact BW
 ·exact BW
theorem Good.setC {W:XW}(g:Good Z n cc X)(hc:cc.calm=true){sc:Scope}{t:Expr}(hk:i6 vars bq ix cc sc=true)(Xe:eR iter=false)
  (hi:PI X t iter (kI Z.G W fi)) (hg:∀Y,Good Z n (Xs vars bq sc cc.sc) Y->PG Y t (kG Z.G fg)) (ht:∀Y,Good Z n (Xs vars bq sc cc.sc) Y->PTs Y es (kT Z.G WF ft)) (he:∀Y,Good Z n (Xs vars bq sc cc.sc) Y->PE Y elt (kE Z.G WF fe))
     (hs:gO cc i y=true) (hl:uW cc y=true):
  PS X (.Assign [.Name y p] (.ListComp elt [⟨t,iter,es,0⟩] sc pos) apos) (kS Z.G W (kC (uV r fi fg ft fe vars.length ix) (nG i))):=by
 have Xb:=hk;unfold i6 at Xb;simp only[ag]at Xb;have sw:swapsWith (.ListComp elt [⟨t,iter,es,0⟩] sc pos) (some (.Name y p)) apos.line X.env=pure (X.env.blockKind==.function&&X.env.kindOf y==some .local&&p.line==pos.line&&!(sc.names.any λ(n,k)=>n==y&&(k==.local||k==.cell))):=rfl;cases q:(X.env.blockKind==.function&&X.env.kindOf y==some .local&&p.line==pos.line&&!(sc.names.any λ(n,k)=>n==y&&(k==.local||k==.cell))) with
 |true=>
  rw[q]at sw;have hy:X.env.scope.names.lookup y=some .local:=by
   simp only[ag]at q;exact eq_of_beq q.1.1.2
  exact gn (Gd g.nd' (g.slot hs) hy sw bq (by rw[g.hN];exact eq_of_beq Xb.1.1.1) (by rw[g.hN];exact Xb.1.1.2) (by rw[g.hs];exact Xb.1.2) (eY Xb.2) (g.calm hc) hi (λcl C fp s H=>hg _ (g.W4 hc hk cl C fp s H)) (λcl C fp s H=>ht _ (g.W4 hc hk cl C fp s H)) (λcl C fp s H=>he _ (g.W4 hc hk cl C fp s H)) (iU Xe))
   λη=>nE (xJ (G:=Z.G.at η) (j8 η) (λζ=>iy (ζ++η)) (λζ=>f9 (ζ++η)) (λζ=>bz (ζ++η))) (jH i)
 |false=>
  rw[q]at sw;exact gn (zQ (g.comp hc hk Xe hi hg ht he) (vS g.nd' (g.slot hs) (g.loc hl).1 (g.loc hl).2) sw rfl rfl) λη=>nE (bz η) (jH i)
theorem Good.Qs {W:XW}(g:Good Z n cc X)(hc:cc.calm=true){sc:Scope}{t:Expr}{fg2:FG}(hk:i6 vars bq ix cc sc=true)(Xe:eR iter=false)(al0:eR l=false)
  (hi:PI X t iter (kI Z.G W fi)) (hg:∀Y,Good Z n (Xs vars bq sc cc.sc) Y->PG Y t (kG Z.G fg)) (h2:∀Y,Good Z n (Xs vars bq sc cc.sc) Y->PE Y l (kE Z.G WF f)) (hg2:∀Y,Good Z n (Xs vars bq sc cc.sc) Y->PG Y e (kG Z.G fg2)) (he:∀Y,Good Z n (Xs vars bq sc cc.sc) Y->PE Y elt (kE Z.G WF fe))
     (hs:gO cc i y=true) (hl:uW cc y=true):
  PS X (.Assign [.Name y p] (.ListComp elt [⟨t,iter,[],0⟩,⟨e,l,[],0⟩] sc pos) apos) (kS Z.G W (kC (wm r fi fg f fg2 fe vars.length ix) (nG i))):=by
 have Xb:=hk;unfold i6 at Xb;simp only[ag]at Xb;have sw:swapsWith (.ListComp elt [⟨t,iter,[],0⟩,⟨e,l,[],0⟩] sc pos) (some (.Name y p)) apos.line X.env=pure (X.env.blockKind==.function&&X.env.kindOf y==some .local&&p.line==pos.line&&!(sc.names.any λ(n,k)=>n==y&&(k==.local||k==.cell))):=rfl;cases q:(X.env.blockKind==.function&&X.env.kindOf y==some .local&&p.line==pos.line&&!(sc.names.any λ(n,k)=>n==y&&(k==.local||k==.cell))) with
 |true=>
  rw[q]at sw;have hy:X.env.scope.names.lookup y=some .local:=by
   simp only[ag]at q;exact eq_of_beq q.1.1.2
  exact gn (Ge g.nd' (g.slot hs) hy sw (g.calm hc) bq (by rw[g.hN];exact eq_of_beq Xb.1.1.1) (by rw[g.hN];exact Xb.1.1.2) (by rw[g.hs];exact Xb.1.2) (eY Xb.2) hi (λcl C fp s H=>hg _ (g.W4 hc hk cl C fp s H)) (λcl C fp s H=>rL (X:=L2.W4 X sc (vars++bq) cl C fp s H) (K:=Z.G.K) g.hK (h2 _ (g.W4 hc hk cl C fp s H))) (λcl C fp s H=>hg2 _ (g.W4 hc hk cl C fp s H)) (λcl C fp s H=>he _ (g.W4 hc hk cl C fp s H)) (λenv=>iU Xe) (λenv=>iU al0))
   λη=>nE (uB (G:=Z.G.at η) (j8 η) (λζ=>iy (ζ++η)) (λζ=>bz (ζ++η)) (λζ=>iy (ζ++η)) (λζ=>bz (ζ++η))) (jH i)
 |false=>
  rw[q]at sw;exact gn (zQ (g.n8 hc hk Xe al0 hi hg h2 hg2 he) (vS g.nd' (g.slot hs) (g.loc hl).1 (g.loc hl).2) sw rfl rfl) λη=>nE (bz η) (jH i)
section
variable {X:Cx}{K:Frag}{body:List Stmt}{b₀:Stmt}{dE:List Stmt}{cx n:Str}{i:Nat}{cv:af}{tb:(Addr->St->Hp->Prop)->TS}{ts:Addr->TS}{p ae7 pos:Pos}
theorem C1 {outer:List Env}{L:Addr}(hK:X.K=K)(hst:X.stack=X.env::outer)(hf:X.env.frame=some L)(hN:X.N.Nodup)(hi:X.N[i]?=some n)(hk:X.env.scope.names.lookup n=some .local)(hg:Gl X cx)(hm:X.mg cx=some cv)
  (hb:∀(pn:List (Addr×Obj))(xe:af->ah->Prop)(W:Addr->St->Hp->Prop),PassesOwn (model X.prog X.w) X.A X.env xe->Xw (X.fC pn xe) W->PSs (X.fC pn xe) body (tb W))
  (hs:∀x,PSs (X.dE x) (b₀::dE) (ts x)) (XC:(cx==("__debug__":Str))=false):
  PS X (.Try body [.ExceptHandler (some (.Name cx p)) (some n) (b₀::dE) ae7] [] [] pos) (zj K cv i tb ts):=hK ▸ Gc hst hf hN hi hk hg hm hb hs XC
end
theorem zC {env:Env}{a b:Expr}{kt k2 pt2}(hb:env.blockKind=.function)(hx:env.scope.names.lookup x=some .local)(hy:env.scope.names.lookup y=some .local)(ne:¬(x=y))(hl:(apos.line==p.line)=true)
  (ha:isStar a=false) (hb':isStar b=false) (hf:[a,b].all (foldedForSure 8)=false) (hk:[a,b].all (constantsAlone 8)=false):
  swappedStores [.Tuple [.Name x p,.Name y apos] kt bO] (.Tuple [a,b] k2 pt2) env=pure (some [x,y]):=by
 have kx:(env.kindOf x==some .local)=true:=by rw[show env.kindOf x=some .local from hx];rfl
 have ky:(env.kindOf y==some .local)=true:=by rw[show env.kindOf y=some .local from hy];rfl
 have bk:(env.blockKind != ScopeKind.function)=false:=by rw[hb];rfl
 have er:([x,y]:List Str).eraseDups=[x,y]:=by
  have:(y==x)=false:=by simpa using λe=>ne e.symm
  simp[List.eraseDups_cons,this]
 have kx':env.kindOf x=some .local:=hx;have ky':env.kindOf y=some .local:=hy;unfold swappedStores;simp only[aN,cY,bk];rw[if_neg (by decide),if_neg ?_]
 ·simp[kx',ky',eq_of_beq hl,Expr.pos,jF,er];rw[if_neg (λq=>by simp[q.1,q.2]at hf),if_neg (λq=>by simp[q.1,q.2]at hk)]
 ·intro h;simp only[cX,List.any_nil,D7,cz]at h;rcases h with h |h
  ·cases a<;>first |cases ha;done |cases h;done
  ·cases b<;>first |cases hb';done |cases h;done
mutual
theorem sS (z:Z.Ok):∀(m:MSt){cc:CC}{s:Stmt}{X:Cx}{W:XW},Good Z n cc X->Xw X W->pI m cc s=true->PS X s (kS Z.G W (Xj (Z.Pg.env n) m))
 |.expr a=>λg hw h=>ZP h λe p h=>gn (JN (sE z a g hw (XZ h)) (Bx (ZT h))) λη=>Fq (bz η)
 |.ret a=>λg hw h=>Zz h λo p h=>Yr h λe h=>gn (NL (sE z a g hw h)) λη=>Jf (bz η)
 |.asg tg a=>λg hw h=>YH h λts e pos h=>X3 h λt h=>by
  rename_i cc s X W _ _;have h7:=XZ h;have h6:=X7 h;have h5:=Yg h;have plain:swapsWith e (some t) pos.line X.env=pure false->PS X (.Assign [t] e pos) (kS Z.G W (kC (WM (Z.Pg.env n) a) (XB (Z.Pg.env n) tg))):=λsw=>
   gn (zQ (sE z a g hw h7) (sG z tg g h6) sw (CF (Zk h) (YK h)) (vw (YZ h))) λη=>nE (bz η) (iy η)
  clear h;rcases Zb h5 with h5 |h5
  rotate_left
  ·exact plain (CB g h5)
  rcases Zb h5 with h5 |h5
  ·rcases Zb h5 with h5 |h5
   ·exact plain (Bx (ZD h5))
   ·exact plain (rg (ZD h5))
  ·cases hn:isName t with
   |false=>exact plain (rg hn)
   |true=>
    clear plain
    revert h6
    refine Ym hn λy p _ h6=>?_;cases tg with
    |tup gs=>cases h6
    |sub o i=>cases h6
    |nm i=>
    cases a with
    |comp r vars bq ix it tg' ifs b=>
     exact Yu h7 λelt gs sc p h=>Ys h λt iter fs h=>g.setC (Zm h) (YJ h) (Zk h) (sI z it g hw (Yk h)) (λY gY=>sG z tg' gY (Yg h)) (λY gY=>sTs z ifs gY c9 (X7 h)) (λY gY=>sE z b gY c9 (XZ h)) (X8 h6) (XZ h6)
    |n8 r vars bq ix it tg' a2 tg2 b=>
     exact Yu h7 λelt gs sc p h=>YW h λt iter t2 ak8 h=>g.Qs (Zl h) (Zi h) (ZU h) (YZ h) (sI z it g hw (Yx h)) (λY gY=>sG z tg' gY (Yk h)) (λY gY=>sE z a2 gY c9 (Yg h)) (λY gY=>sG z tg2 gY (X7 h)) (λY gY=>sE z b gY c9 (XZ h)) (X8 h6) (XZ h6)
    |_=>cases h5
 |.aug i x o a=>λg hw h=>ZC h λt p e pos h=>Ya (Zn h) λq=>by
  have h2:=Yx h;have h3:=Yk h;have h4:=eq_of_beq (Yg h);have h6:=XZ h;have h5:=X7 h;clear h;rcases Zb h5 with h5 |h5
  ·rcases Zb h5 with h5 |h5
   ·obtain rfl:=eq_of_beq h5;cases h4;exact gn (zP g.nd' (g.slot h2) (g.loc h3).1 (sE z a g hw h6) KM (g.loc h3).2) λη=>qB (bz η) (rA (λ_ _=>Cn) λ_ _ _ _ _ _=>.int _)
   ·obtain rfl:=eq_of_beq h5;cases h4;exact gn (zP g.nd' (g.slot h2) (g.loc h3).1 (sE z a g hw h6) OF (g.loc h3).2) λη=>qB (bz η) (oO λ_ _ _ _ _ _=>.int _)
  ·obtain rfl:=eq_of_beq h5;cases h4;exact gn (zP g.nd' (g.slot h2) (g.loc h3).1 (sE z a g hw h6) OE (g.loc h3).2) λη=>qB (bz η) (oO λ_ _ _ _ _ _=>.int _)
 |.W9 t a b=>λg hw h=>ZL h λc l r p h=>gn (QM (sT z t g hw (Yn h)) (sSs z a g hw (X7 h)) (sSs z b g hw (XZ h))) λη=>Jr (f9 η) (lx η) (lx η)
 |.for_ it tg b=>λg hw h=>ZB h λt i body l p h=>X4 h λh=>gn (NN g.po (g.calm (YL h)) (sI z it g hw (Yg h)) (sG z tg g (X7 h)) (sSs z b g hw (XZ h)) (iU (YK h))) λη=>Jt (j8 η) (iy η) (lx η)
 |.whl k t b=>λg hw h=>Zw h λc body l p h=>X4 h λh=>gn (Gb g.po (sT z t g hw (X8 h)) (sSs z b g hw (XZ h))) λη=>CK k (f9 η) (lx η)
 |.par i x j y xs=>λg hw h=>YH h λts e pos h=>X3 h λt h=>rD h λus k p h=>Ye h λt1 t2 h=>rD h λvs k2 p2 h=>Ye h λa b h=>Ym h λx' px h=>Ym h λy' py h=>by
  have hx:=XZ h;have hk:=YA h;have hf:=Yz h;have hb:=YK h;have ha:=Zk h;have h9:=YJ h;have h8:=ZU h;have h7:=Zi h;have h6:=aa8 h;have h:=aa9 h;have h5:=Z4 h;have h4:=X7 h;have h3:=Yg h;have h2:=Yk h;have h1:=Yx h;have hc:=YJ h;have hd:=Zm h;clear h;obtain rfl:=eq_of_beq h1;obtain rfl:=eq_of_beq h2;have l1:=g.mI h6;have l2:=g.mI h7;exact gn (NM (g.calm hc) g.nd' (g.slot h3) (g.slot h4) (by simpa using h5) l1 l2 (sA z xs g hw hx) (zC (g.bk hd) l1 l2 (by simpa using h8) h9 ha hb hf hk)) λη=>Jg (dD η)
 |.ah4 c f o a=>λg hw h=>YH h λts e pos h=>X3 h λt h=>WI h λl p h=>by
  show PS _ _ (kS Z.G _ (Ah (Z.Pg.env n) c _ (WM (Z.Pg.env n) o) (WM (Z.Pg.env n) a)));unfold Ah;simp only;split
  ·rename_i fs q;split
   ·rename_i hf;have hc:=z.ic c fs q;refine gn (NO (sE z o g hw (X8 h)) (sE z a g hw (XZ h)) (rg rfl)) λη=>?_;rw[g.hK];exact Fo (G:=Z.G.at η) hc.cl.cl (hc.na _ (by simpa using hf)) (bz η) (bz η)
   ·exact gn rG λη=>oM
  ·exact gn rG λη=>oM
 |.raise c xs=>λg hw h=>ZA h λo o' p h=>WB (X8 h) (Yr (XZ h) λe h=>X0 h λp' es q h=>X4 h λh=>g.raise z (Yn h) hw (X7 h) (XZ h))
 |.ah5 c i x b hd=>λg hw h=>Zx h λbody hs l g' p h=>X4 h λh=>X4 h λh=>X3 h λeh h=>by
  rename_i cc s X W _ _ _ _;obtain⟨o,zn,dE,hp⟩:=eh;refine Yr (show YC o _=true from h) λe h=>Yr h λzn h=>fk h λs0 dE h=>Ya (Zl h) λp'=>?_;have h9:=XZ h;have h8:=X7 h;have h7:=Yg h;have h6:=Yk h;have h5:=Yx h;have h4:=YJ h;have h2:=Zj h;clear h;obtain rfl:=eq_of_beq h5;obtain⟨outer,L,t1,t2⟩:=g.top h2;show PS X _ (kS Z.G W (nU (Z.Pg.env n) _ i (cN (Z.Pg.env n) b) (cN (Z.Pg.env n) hd)));unfold nU;simp only;split
  ·rename_i ns q;have ok:=z.xc _ ns q;obtain⟨bm,Bn,nid,inN,bmN,mk,hi⟩:=ok.ex;exact gn (C1 g.hK t1 t2 g.nd' (g.slot h6) (g.mI h7) (g.gl h4).1 (by rw[g.hm];exact ok.mg) (λpn xe W' hp hw'=>sSs z b (g.fC (pn:=pn) hp) hw' h8) (λx=>sSs z hd (g.dE x) (c9 (X:=X.dE x)) h9) (g.gl h4).2)
     λη=>CM (G:=Z.G.at η) mk.c ok.em (λW'=>lx η) (λx=>lx η)
  ·exact BW
 |.never=>λg hw h=>BW
theorem sSs (z:Z.Ok):∀(m:MSs){cc:CC}{ss:List Stmt}{X:Cx}{W:XW},Good Z n cc X->Xw X W->gK m cc ss=true->PSs X ss (kS Z.G W (cN (Z.Pg.env n) m))
 |.nil=>λg hw h=>X4 h λ_=>Hd JL λη=>Fa
 |.cons s r=>λg hw h=>fk h λs' ss h=>Hd (Ga (sS z s g hw (X8 h)) (sSs z r g hw (XZ h))) λη=>Je (lx η) (lx η)
end
end
end
section
theorem mf.okX {P:aI}{K:Frag}{st:Stmt}{f:Addr}{N:List Str}{k:Nat}{sp:Sp}(F:mf K x c st f fd)(S:eC N bq (aW st))(len:∀vs H Q E,sp vs H Q E->vs.length=bq.length)
  (Xv:∀(W7:af)(A:br)(outer:List Env)(s:ah)(H:Hp)(vs:List V)(Q:VK)(E:XK),c8 k (A.deeper (envOfC c (aW st) s.heap.objs.size f W7))->sp vs H Q E->
   ∃t,PSs (pH (CX1 P w) P w K mg h N c (aW st) f W7 A outer s H E) (cf st) t/\t { nx:=λ_ H'=>Q .WN H',rt:=Q } (start N vs) H):d8 P w K mg h (CX1 P w) (k+1) f fd bq sp:=by
 obtain⟨oc,od,dV,kV,doc,pm,an,W7,ct,osl,rfl,lk,hcd⟩:=F.ex;exact Ca lk hcd S len λA outer s H vs Q E hr hsp=>Xv W7 A outer s H vs Q E hr hsp
theorem mf.lk {K:Frag}{x qual:Str}{st:Stmt}{f:Addr}{fd:aK}(F:mf K x qual st f fd):∃oc od osl,K.lookup f=some ⟨oc,od,.func fd,osl⟩:=by
 obtain⟨oc,od,dV,kV,doc,pm,an,W7,ct,osl,h,lk,hcd⟩:=F.ex;exact⟨oc,od,osl,lk⟩
structure vA (Z:Wd)(x:Str)(md:cA):Prop where
 ex:∃nm qn st fd dvs ds,mf Z.G.K nm qn st (Z.G.fn x) fd/\(gp x=false->Z.mg x=some (.ref (Z.G.fn x)))/\Binds Z.G.K fd md.ps ds/\bA dvs ds/\(∀ι ξ H,VRs Z.G ι ξ H dvs md.dv)/\eC md.N md.ps (aW st)/\gK md.body ⟨md.N,aW st,true,true,λ_=>true⟩ (cf st)=true
section
variable {Z:Wd}
theorem Hq {st:Stmt}{f:Addr}{outer:List Env}{E:XK}(S:eC md.N md.ps (aW st))(hr:c8 (2*n+5) (A.deeper (envOfC x (aW st) s.heap.objs.size f u)))
  (call:∀x md,Z.Pg.defs x=some md->A7 Z (2*n+4) x md (iV Z.Pg md n)):
  Good Z n ⟨md.N,aW st,true,true,λ_=>true⟩ (pH (CX1 Z.G.P Z.G.w) Z.G.P Z.G.w Z.G.K Z.mg Z.base md.N x (aW st) f u A outer s H E) where
 hK:=rfl
 hP:=rfl
 hw:=rfl
 hm:=rfl
 hb:=rfl
 hN:=rfl
 hs:=rfl
 nd:=S.nd
 calm:=λ_=>rfl
 room:=λ_=>hr
 units:=by
  have:=hr.un;show(A.deeper (envOfC x (aW st) s.heap.objs.size f u)).units+100<cLine
  lia
 fn:=λ_ _=>rfl
 po:=PassesOwn.leaving
 top:=λ_=>⟨outer,_,rfl,rfl⟩
 bk:=λ_=>by
  show(if (aW st).kind.isAnnotationScope then ScopeKind.function else (aW st).kind)=.function;rw[S.kind];rfl
 call:=call
theorem IP (z:Z.Ok)(hd:∀x md,Z.Pg.defs x=some md->vA Z x md):∀(n:Nat)(x:Str)(md:cA),Z.Pg.defs x=some md->A7 Z (2*n+4) x md (iV Z.Pg md n)
 | 0,x,md,h=>by
  obtain⟨nm,qn,st,fd,dvs,ds,F,hm,hb,hv,hr,S,hc⟩:=(hd x md h).ex;refine⟨fd,dvs,ds,F.okX (k:=3) S (λvs H Q E q=>?_) (λW7 A outer s H vs Q E hr q=>?_),hm,F.kp,hb,hv,hr,F.lk⟩
  ·obtain⟨η,ι,M,XA,R,r,g⟩:=q;exact g.elim
  ·obtain⟨η,ι,M,XA,R,r,g⟩:=q;exact g.elim
 |n+1,x,md,h=>by
  obtain⟨nm,qn,st,fd,dvs,ds,F,hm,hb,hv,hr,S,hc⟩:=(hd x md h).ex;refine⟨fd,dvs,ds,F.okX (k:=2*n+5) S (λvs H Q E q=>?_) (λW7 A outer s H vs Q E hr q=>?_),hm,F.kp,hb,hv,hr,F.lk⟩
  ·obtain⟨η,ι,M,XA,R,r,g⟩:=q;exact r.length.trans (HE R g).1
  ·obtain⟨η,ι,M,XA,R,r,g⟩:=q;obtain⟨hl,hg⟩:=HE R g;refine⟨_,sSs z md.body (W:=WE E) (Hq S hr (IP z hd n)) Mq hc,?_⟩;refine⟨η,XA.map some++bg (md.N.length - XA.length) none,ι,M,R,RW r md.N,?_⟩;rw[hl];exact hg
def Xm (mg:Str->Option af)(x:Str):Addr:=match mg x with
 |some (.ref a)=>a
 |_=>0
theorem mY (h:mg x=some (.ref a)):Xm mg x=a:=by unfold Xm;rw[h]
def scr (ns:List Int):D:=.frl (ns.map D.int)
theorem qV {G:Gx}{ι ξ:List Addr}{H:Hp}:∀{ns:List Int},VRs G ι ξ H (ns.map V.int) (ns.map D.int)
 | []=>.nil
 |_::_=>.cons (.int _) qV
theorem Eg (hO:A4 H)(hS:Xc G.K H a (ns.map V.int)):VR G [] [] H (.ref a) (scr ns):=by
 rcases hS with (h |⟨o,h⟩)|h
 ·rcases hO a with q |⟨o,xs,q⟩
  ·rw[h]at q;cases q
  ·rw[h]at q;cases q
 ·exact .frl h aE qV
 ·exact .frk h qV
def M7 (K:PySem.W.Frag):Sp:=λvs H Q _=>∃(a:Addr)(ns:List Int),vs=[.ref a]/\A4 H/\Xc K H a (ns.map V.int)/\ns.length<=63/\∀H',Q (.bl true) H'
theorem xo {l:PySem.W.OpenLaw}{q:aI}{XP:(Str->Option af)->Heap->Prop}{YP:aZ->Heap->Prop}{d:DefRec}{K:Params->PySem.W.Frag}{Pg:fE}(n:Nat)(hn4:n=40)(hn:l.most=some 63)(hdf:d.params.defaults=[])(hdn:d.name=x)(hps:md.ps=[y])(hdv:md.dv=[])
  (hx:Pg.defs x=some md)
  (hY:∀(w:aZ)(h:Heap),YP w h->(K w.params).In h)
  (F:∀(w:aZ)(mg:Str->Option af)(h:Heap),(K w.params).In h->h.Ns a8 mg->∃fn:Str->Addr,fn x=Xm mg x/\∀base:Heap,(K w.params).In base->base.Ns a8 mg->Wd.Ok ⟨⟨l.prog,w,K w.params,Xm mg,fn,[]⟩,mg,base,Pg⟩/\∀x md,Pg.defs x=some md->vA ⟨⟨l.prog,w,K w.params,Xm mg,fn,[]⟩,mg,base,Pg⟩ x md)
  (B:∀(w:aZ)(mg:Str->Option af)(fa:Addr)(h:Heap),(K w.params).In h->h.Ns a8 mg->mg x=some (.ref fa)->∃st fd,mf (K w.params) x x st fa fd/\∀(s:ah)(u:af),BindsTo s fd ⟨[u],[]⟩ [(y,u)])
  (T:∀ns:List Int,ns.length<=63->∃M,bY Pg n x [scr ns] []=some (.ok (.bl true) M)):
  PySem.W.WalkO q bq XP YP l.row.toRowW d [] (λf vs=>PySem.call f vs):=by
 subst hn4;subst hdn;refine L2.Bh (n:=63) (k:=84) (x:=y) (CX:=λw=>CX1 l.prog w) (K:=K) (sp:=λw=>M7 (K w.params)) hn (by decide) hdf ⟨rfl,rfl,by decide,by decide⟩ hY (λw mg fa h hK hG hmg=>?_) (λw H a ns hl hO hS=>⟨a,ns,rfl,hO,hS,hl,λ_=>rfl⟩) λw H s e s' hc=>?_
 ·obtain⟨st,fd,FD,hbd⟩:=B w mg fa h hK hG hmg;obtain⟨fn,hfn,FF⟩:=F w mg h hK hG;refine⟨fd,hbd,λbase hKb hGb=>?_⟩;obtain⟨z,hd⟩:=FF base hKb hGb;obtain⟨fd',dvs,ds,FO,h2,h3,h4,h5,h6,oc,od,osl,lk⟩:=IP z hd 40 d.name md hx;have efa:fn d.name=fa:=hfn.trans (mY hmg);obtain⟨oc2,od2,osl2,XM⟩:=FD.lk;simp only at lk;rw[efa,XM]at lk;cases lk;simp only at FO;rw[efa,hps]at FO;refine FO.imp λvs H Q E hsp=>?_;obtain⟨a,ns,rfl,hO,hS,hl,hq⟩:=hsp;obtain⟨M,hT⟩:=T ns hl;rw[dF hx,hdv,bN]at hT;refine⟨[],[],[],[scr ns],⟨rfl,eI,λk a m h=>by simp at h,λa h=>by cases h⟩,.cons ((Eg (G:=⟨l.prog,w,K w.params,Xm mg,fn,[]⟩) hO hS).at []) .nil,?_⟩;rw[hT];exact λv H' ι' e R r=>by rw[jj r];exact hq H'
 ·obtain⟨x,T',H',e1,e2,e3,e4,e5,e6,e7,e8,e9,e10⟩:=hc;exact e10
end
end
noncomputable section
theorem yu {it:XI}{g:FG}{body:FS}(I:cO->MS->Prop)(hs:it.src=none):∀(xs:List D),(∀x∈xs,∀δ M,I δ M->∃δ1 M1 δ2 M2,g x δ M=some (δ1,M1)/\(body δ1 M1=some (.nx δ2 M2)\/body δ1 M1=some (.ct δ2 M2))/\I δ2 M2)->
  ∀δ M,I δ M->∃δ' M',jo it g body xs δ M=some (.nx δ' M')/\I δ' M'
 | [],_,δ,M,h=>⟨δ,M,rfl,h⟩
 |x::xs,hb,δ,M,h=>by
  obtain⟨δ1,M1,δ2,M2,e1,e2,h2⟩:=hb x aR δ M h;obtain⟨δ3,M3,e3,h3⟩:=yu I hs xs (λy hy=>hb y (aJ _ hy)) δ2 M2 h2;refine⟨δ3,M3,?_,h3⟩;have sr:jw it M2=true:=et hs;unfold jo;rw[e1];rcases e2 with e2 |e2
  ·simp only[e2,if_pos sr];exact e3
  ·simp only[e2,if_pos sr];exact e3
theorem KS {g:Bool->Bool}{i:Int}:gEq g (.int i) (.int j) M=some (.ok (.bl (g (i==j))) M):=rfl
theorem Ih {α:Type}(xs:List α)(lo hi:Option Int):(tY xs lo hi).length<=xs.length:=by
 unfold tY;simp only[fm,jf]
 lia
end
section
def B4 (c:Stmt)(i:Nat):Stmt:=match c with
 |.ClassDef (body:=b) ..=>b.getD i (.Pass ⟨0,0,0,0⟩)
 |_=>.Pass ⟨0,0,0,0⟩
theorem Mr {K:Frag}{N:Addr}{bs:List af}{col:Option Bool}{k1 k2 k3 k5:Option af}
  (lC:K.lookup C=some (excClassObj x c C N bs bm true bq us b col od k0 k1 k2 k3 k5 nid)) (ga:findIn K (.ref C) "__getattribute__"=some (some (.builtin "BaseException.__getattribute__"))) (gh:findIn K (.ref C) "__getattr__"=some none)
  (sa:findIn K (.ref C) "__setattr__"=some (some (.builtin "object.__setattr__"))) (cl:findIn K (.ref C) "__class__"=some (some (.builtin "object.__class__")))
  (hb:bm.contains (.type "BaseException")=true) (ho:bm.contains (.type "object")=true) (hp:∀self:af,refuseLoop self "__setattr__" bm=pure ()):ff K C bm nid:=by
 have hm:∀v,mroIn K C v=some ((Value.ref C::bm).contains v):=λv=>by
  unfold mroIn clsIn;rw[lC];rfl
 exact⟨⟨x,c,N,bs,bq,us,b,col,od,k0,k1,k2,k3,k5,lC⟩,ga,gh,sa,cl,by rw[hm,cM,hb,uh],by rw[hm,cM,ho,uh],hp⟩
theorem mf.mk' {K:Frag}{st:Stmt}{f:Addr}(l:K.lookup f=some ⟨oc,od,.func (fnOf x y (dA st) (cf st) (aW st) dV u cd pm an dc ct),sl⟩)
  (c:codeIn K dc y=true) (k:keepIn K (.ref f)=true):mf K x y st f (fnOf x y (dA st) (cf st) (aW st) dV u cd pm an dc ct):=⟨⟨oc,od,dV,u,cd,pm,an,dc,ct,sl,rfl,l,c⟩,k⟩
def DK (Pg:fE)(K:Frag)(mg:Str->Option af)(fn:Str->Addr)(x:Str)(md:cA):Prop:=∀(P:aI)(w:aZ)(base:Heap),vA ⟨⟨P,w,K,Xm mg,fn,[]⟩,mg,base,Pg⟩ x md
def fnT (mg:Str->Option af)(t:List (Str×Addr))(x:Str):Addr:=match t.lookup x with
 |some a=>a
 |none=>Xm mg x
theorem Mf {Pg:fE}{K:Frag}(X:K.In h)(G:h.Ns a8 mg){st:Stmt}{f:Addr}
  (hfn:fn x=Xm mg x) (S:eC md.N md.ps (aW st)) (ck:gK md.body ⟨md.N,aW st,true,true,λ_=>true⟩ (cf st)=true)
  (a:nsIn K a8 x=some (some (.ref f))) (l:K.lookup f=some ⟨oc,od,.func (fnOf y y (dA st) (cf st) (aW st) dV u dc pm an cd ct),sl⟩) (c:codeIn K cd y=true) (k:keepIn K (.ref f)=true)
  {dvs:List V} {ds:List af} (b:Binds K (fnOf y y (dA st) (cf st) (aW st) dV u dc pm an cd ct) md.ps ds) (hv:bA dvs ds) (hr:∀(G:Gx) ι ξ H,VRs G ι ξ H dvs md.dv):DK Pg K mg fn x md:=λP w base=>by
 have hm:=ud X G a;have e:fn x=f:=hfn.trans (mY hm);refine⟨y,y,st,_,dvs,ds,?_,λ_=>?_,b,hv,λι ξ H=>hr _ ι ξ H,S,ck⟩
 ·show mf K y y st (fn x) _;rw[e];exact mf.mk' l c k
 ·show mg x=some (.ref (fn x));rw[e];exact hm
theorem Sj {Pg:fE}{K:Frag}{qn:Str}{st:Stmt}{f:Addr}
  (hfn:fn x=f) (hx:gp x=true) (S:eC md.N md.ps (aW st)) (ck:gK md.body ⟨md.N,aW st,true,true,λ_=>true⟩ (cf st)=true)
  (l:K.lookup f=some ⟨oc,od,.func (fnOf y qn (dA st) (cf st) (aW st) dV u dc pm an cd ct),sl⟩) (c:codeIn K cd qn=true) (k:keepIn K (.ref f)=true)
  {dvs:List V} {ds:List af} (b:Binds K (fnOf y qn (dA st) (cf st) (aW st) dV u dc pm an cd ct) md.ps ds) (hv:bA dvs ds) (hr:∀(G:Gx) ι ξ H,VRs G ι ξ H dvs md.dv):DK Pg K mg fn x md:=λP w base=>by
 refine⟨y,qn,st,_,dvs,ds,?_,λz=>?_,b,hv,λι ξ H=>hr _ ι ξ H,S,ck⟩
 ·show mf K y qn st (fn x) _;rw[hfn];exact mf.mk' l c k
 ·rw[hx]at z;cases z
theorem dk0 {Pg:fE}{K:Frag}(X:K.In h)(G:h.Ns a8 mg){st:Stmt}{f:Addr}
  (hfn:fn x=Xm mg x) (S:eC md.N md.ps (aW st)) (ck:gK md.body ⟨md.N,aW st,true,true,λ_=>true⟩ (cf st)=true) (hdv:md.dv=[])
  (hb:∀(u doc pm:af)(an:Option Addr)(W7 ct:af)(us:List af),us.length=md.ps.length->bindArgs (fnOf y y (dA st) (cf st) (aW st) .none u doc pm an W7 ct) ⟨us,[]⟩=pure (md.ps.zip us))
  (a:nsIn K a8 x=some (some (.ref f))) (l:K.lookup f=some ⟨oc,od,.func (fnOf y y (dA st) (cf st) (aW st) .none u dc pm an cd ct),sl⟩) (c:codeIn K cd y=true) (k:keepIn K (.ref f)=true):DK Pg K mg fn x md:=
 Mf X G hfn S ck a l c k (.all (hb u dc pm an cd ct)) .nil λ_ _ _ _=>by rw[hdv];exact .nil
structure PkX (K:Frag)(mg:Str->Option af)(c:Str)(bm:List af)(ns:List Str):Prop where
 ex:∀(P:aI)(w:aZ)(base:Heap)(Pg:fE)(fn:Str->Addr),XOk ⟨⟨P,w,K,Xm mg,fn,[]⟩,mg,base,Pg⟩ c ns
 kt:∀T,kitMeta T=true->kitOne K (.ref (Xm mg c)) (.type T)=some (bm.contains (.type T))
theorem HJ {K:Frag}(c:ff K C bm nid):exmOne K (.ref C) (.ref C)=some true:=by
 have h1:subIn K (.ref C) (.type "BaseException")=some true:=by
  unfold subIn;exact c.base
 unfold exmOne;rw[h1,if_pos (by decide)];obtain⟨cd,h1,h2⟩:=c.clsIn;obtain⟨nm,q,N,bs,sn,sub,ab,col,dd,k0,k1,k2,k3,k5,ho⟩:=c.obj;unfold kitCls;dsimp only;rw[h1,if_pos (by unfold typeIn;dsimp only;rw[ho];rfl)];show mroIn K C _=_;rw[c.mro,cM];simp
structure PkI (K:Frag)(mg:Str->Option af)(c:Str)(fs:List Str):Prop where
 ex:∀(P:aI)(w:aZ)(base:Heap)(Pg:fE)(fn:Str->Addr),IOk ⟨⟨P,w,K,Xm mg,fn,[]⟩,mg,base,Pg⟩ c fs
theorem Rj {K:Frag}(hm:mroIn K C (.type "object")=some true)(ty:typeIn K (.ref C)=some (.type "type")):∀t∈tys,kitOne K (.type t) (.ref C)=some false:=λt ht=>by
 have h1:(clsIn K C).isSome=true:=by
  unfold mroIn at hm;cases e:clsIn K C with
  |none=>rw[e]at hm;cases hm
  |some cd=>rfl
 unfold kitOne;rw[if_neg (by simp)];unfold kitCls;dsimp only;rw[h1,ty,if_pos (by decide)];simp only[tys,aV,aE,or_false]at ht;rcases ht with rfl|rfl|rfl|rfl|rfl|rfl|rfl<;>rfl
@[elab_as_elim]theorem gQ {α:Type}{n:Nat}{us:List α}{P:List α->Prop}(h:us.length=n+1)(k:∀a r,r.length=n->P (a::r)):P us:=by
 cases us with
 |nil=>cases h
 |cons a r=>exact k a r (Nat.succ.inj h)
@[elab_as_elim]theorem my {α:Type}{us:List α}{P:List α->Prop}(h:us.length=0)(k:P []):P us:=by rw[List.eq_nil_of_length_eq_zero h];exact k
theorem NP {K:Frag}(X:K.In h)(G:h.Ns a8 mg){fs:List Str}(a:nsIn K a8 x=some (some (.ref C)))
  (pg:plainGet K C Str.empty=true) (hd:hasDictIn K C=true) (po:plainOver K C=true) (sa:findIn K (.ref C) "__setattr__"=some (some (.builtin "object.__setattr__")))
  (ha:findIn K (.ref C) "__class__"=some (some (.builtin "object.__class__"))) (hn:specialIn K (.builtin "object.__class__") "__get__"=some (some (.builtin "getset_descriptor.__get__"))) (htk:takesIn K (.builtin "object.__class__")=some true)
  (hm:mroIn K C (.type "object")=some true)
  (ty:typeIn K (.ref C)=some (.type "type")) (na:∀g∈fs,dW K C g):PkI K mg x fs:=⟨λP w base Pg fn=>by
 have hx:=ud X G a;have e:Xm mg x=C:=mY hx;refine⟨?_,?_,?_⟩
 ·show Pd K (Xm mg x);rw[e];exact⟨⟨pg,hd,po,sa⟩,ha,hn,htk,hm,Rj hm ty⟩
 ·show mg x=some (.ref (Xm mg x));rw[e];exact hx
 ·show ∀g∈fs,dW K (Xm mg x) g;rw[e];exact na⟩
theorem lookup_mem {α:Type}{x:Str}{d:α}:∀{l:List (Str×α)},l.lookup x=some d->(x,d)∈l
 | (y,e)::r,h=>by
  unfold cw at h;split at h
  ·rename_i q;cases h;rw[eq_of_beq q];exact aR
  ·exact aJ _ (lookup_mem h)
end
section
noncomputable section
section
variable {Γ:mh}{δ δ1:cO}{M M1 M2:MS}{d:D}{i:Nat}{x:Str}{a:MX}{s:MSt}{r bs cs:MSs}{t:MT}{c:Str}{fs:List (Str×D)}
theorem bF (h:WM Γ a δ M=some (.ok d M1)):Xj Γ (.asg (.nm i) a) δ M=some (.nx (δ.set i (some d)) M1):=by
 show kC (WM Γ a) (XB Γ (.nm i)) δ M=_;unfold kC;rw[h];rfl
theorem cG (h:WM Γ a δ M=some (.ok d M1)):Xj Γ (.expr a) δ M=some (.nx δ M1):=by
 show nV (WM Γ a) δ M=_;unfold nV;rw[h];rfl
theorem zF (h:WM Γ a δ M=some (.ex c fs M1)):Xj Γ (.expr a) δ M=some (.ex c fs δ M1):=by
 show nV (WM Γ a) δ M=_;unfold nV;rw[h];rfl
theorem CG {g:MG}(h:WM Γ a δ M=some (.ex c fs M1)):Xj Γ (.asg g a) δ M=some (.ex c fs δ M1):=by
 show kC (WM Γ a) (XB Γ g) δ M=_;unfold kC;rw[h];rfl
theorem eF (h:WM Γ a δ M=some (.ok d M1)):Xj Γ (.ret a) δ M=some (.rt d M1):=by
 show sf (WM Γ a) δ M=_;unfold sf;rw[h];rfl
theorem jk (h:evT Γ t δ M=some (.ok false M1)):Xj Γ (.W9 t bs cs) δ M=cN Γ cs δ M1:=by
 show pe (evT Γ t) (cN Γ bs) (cN Γ cs) δ M=_;unfold pe;rw[h];rfl
theorem be (h:Xj Γ s δ M=some (.nx δ1 M1)):cN Γ (.cons s r) δ M=cN Γ r δ1 M1:=by
 show k9 (Xj Γ s) (cN Γ r) δ M=_;unfold k9;rw[h]
theorem fO (h:Xj Γ s δ M=some (.rt d M1)):cN Γ (.cons s r) δ M=some (.rt d M1):=by
 show k9 (Xj Γ s) (cN Γ r) δ M=_;unfold k9;rw[h]
theorem Lw (h:Xj Γ s δ M=some (.ex c fs δ1 M1)):cN Γ (.cons s r) δ M=some (.ex c fs δ1 M1):=by
 show k9 (Xj Γ s) (cN Γ r) δ M=_;unfold k9;rw[h]
theorem lU (h:evT Γ t δ M=some (.ok false M1)):cN Γ (.cons (.W9 t bs .nil) r) δ M=cN Γ r δ M1:=be ((jk h).trans rfl)
end
section
variable {Pg:fE}{n:Nat}{x:Str}{md:cA}{ds:List D}{M M1:MS}{d:D}{δ:cO}{c:Str}{fs:List (Str×D)}{xs:Xr}
theorem dP (hd:Pg.defs x=some md)(hv:md.dv=[])(hm:md.mode=.keep)(hl:ds.length=md.ps.length)(h:cN (Pg.env n) md.body (ds.map some++bg (md.N.length - md.ps.length) none) M=some (.rt d M1)):bY Pg (n+1) x ds M=some (.ok d M1):=by
 rw[dF hd,hv,bN];show mFn md.ps.length md.N.length md.mode (cN (Pg.env n) md.body) ds M=_;unfold mFn;rw[if_pos hl,h,hm];rfl
theorem RT (hd:Pg.defs x=some md)(hv:md.dv=[])(hm:md.mode=.keep)(hl:ds.length=md.ps.length)(h:cN (Pg.env n) md.body (ds.map some++bg (md.N.length - md.ps.length) none) M=some (.nx δ M1)):bY Pg (n+1) x ds M=some (.ok .WN M1):=by
 rw[dF hd,hv,bN];show mFn md.ps.length md.N.length md.mode (cN (Pg.env n) md.body) ds M=_;unfold mFn;rw[if_pos hl,h,hm];rfl
theorem Md (hd:Pg.defs x=some md)(hv:md.dv=[])(hm:md.mode=.keep)(hl:ds.length=md.ps.length)(h:cN (Pg.env n) md.body (ds.map some++bg (md.N.length - md.ps.length) none) M=some (.ex c fs δ M1)):bY Pg (n+1) x ds M=some (.ex c fs M1):=by
 rw[dF hd,hv,bN];show mFn md.ps.length md.N.length md.mode (cN (Pg.env n) md.body) ds M=_;unfold mFn;rw[if_pos hl,h,hm];rfl
theorem bD (hk:(Pg.defs x).isSome=true)(ha:Xi (Pg.env n) xs δ M=some (.ok ds M1)):WM (Pg.env n) (.call x xs) δ M=bY Pg n x ds M1:=by
 show lh (Pg.env n) x (Xi (Pg.env n) xs) δ M=_;unfold lh;rw[if_pos hk];show rb (Xi (Pg.env n) xs δ M) _=_;rw[ha];rfl
theorem Hy {c:Int->Int->Bool}{f:Int->Int->D}{i:Int}(h:c i j=true):gI c f (.int i) (.int j) M=some (.ok (f i j) M):=by
 simp[gI,h]
end
section
variable {Γ:mh}{δ:cO}{M M1 M2 M3:MS}{d x y z:D}{ds:List D}{a b c':MX}{xs:Xr}{o o':Op2}{t u:MT}{ts:MTs}
theorem i5 (ha:WM Γ a δ M=some (.ok x M1))(hb:WM Γ b δ M1=some (.ok y M2))(ho:jy o x y M2=some (.ok z M3)):WM Γ (.bin o a b) δ M=some (.ok z M3):=by
 show rb (WM Γ a δ M) _=_;rw[ha];show rb (WM Γ b δ M1) _=_;rw[hb];exact ho
theorem AA (ha:WM Γ a δ M=some (.ok x M1))(hb:WM Γ b δ M1=some (.ok y M2))(ho:jy o x y M2=some (.ok z M3)):WM Γ (.cmp o a b) δ M=some (.ok z M3):=i5 (o:=o) ha hb ho
theorem fP (ha:WM Γ a δ M=some (.ok x M1))(hb:WM Γ b δ M1=some (.ok y M2))(ho:gIx x y M2=some (.ok z M3)):WM Γ (.ix a b) δ M=some (.ok z M3):=by
 show rb (WM Γ a δ M) _=_;rw[ha];show rb (WM Γ b δ M1) _=_;rw[hb];exact ho
theorem aU:Xi Γ .nil δ M=some (.ok [] M):=rfl
theorem ar (ha:WM Γ a δ M=some (.ok x M1))(hr:Xi Γ xs δ M1=some (.ok ds M2)):Xi Γ (.cons a xs) δ M=some (.ok (x::ds) M2):=by
 show rb (WM Γ a δ M) _=_;rw[ha];show rb (Xi Γ xs δ M1) _=_;rw[hr];rfl
theorem fQ (ha:Xi Γ xs δ M=some (.ok ds M1))(hl:ds.length<=au):WM Γ (.tup xs) δ M=some (.ok (.tup ds) M1):=by
 show rb (Xi Γ xs δ M) _=_;rw[ha];show n5 ds M1=_;unfold n5;rw[if_pos hl]
theorem lD (ha:Xi Γ xs δ M=some (.ok ds M1))(hl:ds.length<=au):WM Γ (.lst false xs) δ M=some (.ok (.lst ds) M1):=by
 show rb (Xi Γ xs δ M) _=_;rw[ha];show qe false ds M1=_;unfold qe;rw[if_pos hl];rfl
theorem ko {v:Bool}(ha:WM Γ a δ M=some (.ok x M1))(hb:WM Γ b δ M1=some (.ok y M2))(ho:jy o x y M2=some (.ok (.bl v) M3)):evT Γ (.cmp o a b) δ M=some (.ok v M3):=by
 show tru (WM Γ (.bin o a b)) δ M=_;unfold tru;rw[i5 ha hb ho];rfl
theorem xx {v:Bool}(ha:WM Γ a δ M=some (.ok (.bl v) M1)):evT Γ (.val a) δ M=some (.ok v M1):=by
 show Aa (WM Γ a) δ M=_;unfold Aa;rw[ha];rfl
theorem xA {v:Bool}(ht:evT Γ t δ M=some (.ok v M1)):evT Γ (.not t) δ M=some (.ok (!v) M1):=by
 show Ae (evT Γ t) δ M=_;unfold Ae;rw[ht];rfl
theorem kP (ht:evT Γ t δ M=some (.ok false M1)):evT Γ (.bool false (.cons t (.cons u ts))) δ M=evT Γ (.bool false (.cons u ts)) δ M1:=by
 show mOr (evT Γ t) (yG Γ false (.cons u ts)) δ M=_;unfold mOr;rw[ht];rfl
theorem xy {k:Bool}:evT Γ (.bool k (.cons t .nil)) δ M=evT Γ t δ M:=rfl
theorem qO {r:MX}(ha:WM Γ a δ M=some (.ok (.bl true) M1)):WM Γ (.bool true (.cons a (.cons r xs))) δ M=WM Γ (.bool true (.cons r xs)) δ M1:=by
 show sj (WM Γ a) (evB Γ true (.cons r xs)) δ M=_;unfold sj tru;rw[ha];rfl
theorem Mp {k:Bool}:WM Γ (.bool k (.cons a .nil)) δ M=WM Γ a δ M:=rfl
end
section
variable {Γ:mh}{δ δ1 δ2:cO}{M M1 M2 M3 M4:MS}{d x y z p:D}{ds ps xl:List D}{a b:MX}{xs:Xr}{i j:Int}{it:XI}{g:FG}{c:FT}{e:FE}{body:FS}{o:Option Out}
theorem iN (ha:WM Γ a δ M=some (.ok (.int i) M1))(hb:WM Γ b δ M1=some (.ok (.int j) M2))(h:ma i j=true):WM Γ (.bin .fdiv a b) δ M=some (.ok (.int (i/j)) M2):=i5 (o:=.fdiv) ha hb (Hy (f:=λi j=>.int (i/j)) h)
theorem iA (ha:WM Γ a δ M=some (.ok (.int i) M1))(hb:WM Γ b δ M1=some (.ok (.int j) M2))(h:jg i j=true):WM Γ (.bin .mul a b) δ M=some (.ok (.int (i*j)) M2):=i5 (o:=.mul) ha hb (Hy (f:=λi j=>.int (i*j)) h)
theorem OP (ha:WM Γ a δ M=some (.ok (.int i) M1))(hb:WM Γ b δ M1=some (.ok (.int j) M2))(h:0<j):WM Γ (.bin .mod a b) δ M=some (.ok (.int (i % j)) M2):=i5 (o:=.mod) ha hb (Hy (f:=λi j=>.int (i % j)) (c:=λ_ j=>decide (0<j)) (by simpa using h))
theorem AB (ha:WM Γ a δ M=some (.ok (.int i) M1))(hb:WM Γ b δ M1=some (.ok (.int j) M2)):WM Γ (.bin .add a b) δ M=some (.ok (.int (i+j)) M2):=i5 (o:=.add) ha hb rfl
theorem sD (ha:WM Γ a δ M=some (.ok (.int i) M1))(hb:WM Γ b δ M1=some (.ok (.int j) M2)):WM Γ (.bin .sub a b) δ M=some (.ok (.int (i - j)) M2):=i5 (o:=.sub) ha hb rfl
theorem KW {k:Nat}(h:δ[k]?=some (some d)):WM Γ (.v k) δ M=some (.ok d M):=by
 show mV k δ M=_;unfold mV;rw[h]
theorem gS {bf:Bif}(ha:Xi Γ xs δ M=some (.ok ds M1))(h:ql bf ds M1=some (.ok d M2)):WM Γ (.bif bf xs) δ M=some (.ok d M2):=by
 show rb (Xi Γ xs δ M) _=_;rw[ha];exact h
theorem eS (hg:g x δ M=some (δ1,M1))(hc:c δ1 M1=some (.ok true M2))(he:e δ1 M2=some (.ok p M3))(hs:jw it M3=true)(hr:de it g c e xl δ1 M3=some (ps,M4)):de it g c e (x::xl) δ M=some (p::ps,M4):=by
 unfold de;simp only[hg,hc,he,if_pos hs,hr]
theorem AJ:de it g c e [] δ M=some ([],M):=rfl
theorem cI {fs:List Str}{mi:MI}{ifs:MTs}(hi:evI Γ mi δ M=some (.ok it M1))(hc:de it (XB Γ tg) (iq Γ ifs) (WM Γ a) it.xs (dH vars.length ix δ) M1=some (ps,M2))(hl:ps.length<=au):WM Γ (.comp false vars fs ix mi tg ifs a) δ M=some (.ok (.lst ps) M2):=by
 show uV false (evI Γ mi) (XB Γ tg) (iq Γ ifs) (WM Γ a) vars.length ix δ M=_;unfold uV;rw[hi];show(match de it (XB Γ tg) (iq Γ ifs) (WM Γ a) it.xs (dH vars.length ix δ) M1 with |some (ps,M2)=>if ps.length<=au then mS false ps M2 else none |none=>none)=_;rw[hc];show(if ps.length<=au then mS false ps M2 else none)=_;rw[if_pos hl];rfl
theorem df (ha:WM Γ a δ M=some (.ok (.lst ps) M1)):evI Γ (.lst a) δ M=some (.ok ⟨ps,none⟩ M1):=by
 show fiL (WM Γ a) δ M=_;unfold fiL;rw[ha];rfl
theorem j6 (hg:g x δ M=some (δ1,M1))(hb:body δ1 M1=some (.nx δ2 M2))(hs:jw it M2=true):jo it g body (x::xl) δ M=jo it g body xl δ2 M2:=by
 rw[jo];simp only[hg,hb,if_pos hs]
theorem kR {mi:MI}{bs:MSs}(hi:evI Γ mi δ M=some (.ok it M1))(hl:jo it (XB Γ tg) (cN Γ bs) it.xs δ M1=o):Xj Γ (.for_ mi tg bs) δ M=o:=by
 show Kx (evI Γ mi) (XB Γ tg) (cN Γ bs) δ M=_;unfold Kx;rw[hi];exact hl
theorem jY (h:WM Γ a δ M=some (.ok d M1))(hg:XB Γ tg d δ M1=some (δ1,M2)):Xj Γ (.asg tg a) δ M=some (.nx δ1 M2):=by
 show kC (WM Γ a) (XB Γ tg) δ M=_;unfold kC;rw[h];show(match XB Γ tg d δ M1 with |some (δ',M')=>some (Out.nx δ' M')|none=>none)=_;rw[hg]
end
end
end
section
noncomputable section
structure Ld where
 gl:List (Str×D):=[]
 xf:List (Str×List Str):=[]
 ub:List (String×List Str):=[]
 ic:List (Str×List Str):=[]
 mt:List (Str×Str×Str):=[]
 kd:List (Str×List (Key×D)):=[]
 kt:List (Str×List Str):=[]
 tab:List (Str×cA)
def Ld.pg (t:Ld):fE:=⟨λx=>t.gl.lookup x,λx=>t.xf.lookup x,λx=>t.ub.lookup x,λx=>t.ic.lookup x,λc m=>(t.mt.lookup c).bind λ_=>(t.mt.find? λe=>e.1==c&&e.2.1==m).map (·.2.2),λx=>t.kd.lookup x,λx=>t.kt.lookup x,λx=>t.tab.lookup x⟩
theorem iD {α:Type}{P:α->Prop}:∀p∈([]:List α),P p:=λ_ h=>nomatch h
theorem cq {α:Type}{P:α->Prop}{x:α}{l:List α}(a:P x)(b:∀p∈l,P p):∀p∈x::l,P p:=λp h=>by
 rcases List.mem_cons.mp h with rfl|h
 ·exact a
 ·exact b p h
theorem lp {α:Type}{x:String}{d:α}:∀{l:List (String×α)},l.lookup x=some d->(x,d)∈l
 | (y,e)::r,h=>by
  unfold cw at h;split at h
  ·rename_i q;cases h;rw[eq_of_beq q];exact aR
  ·exact aJ _ (lp h)
theorem wJ {t:List (Str×Addr)}(ht:∀p∈t,gp p.1=true)(hx:gp x=false):fnT mg t x=Xm mg x:=by
 unfold fnT;cases e:t.lookup x with
 |none=>rfl
 |some a=>
  have:=ht _ (lookup_mem e);rw[hx]at this;cases this
def Pc (mg:Str->Option af)(fn:Str->Addr)(p:Str×D):Prop:=∃v u,mg p.1=some u/\RelV v u/\∀(G:Gx),G.fn=fn->∀ι ξ H,VR G ι ξ H v p.2
def SK (K:Frag)(mg:Str->Option af)(p:Str×List Str):Prop:=∃a,mg p.1=some (.ref a)/\∃(o:Obj)(its:Array af)(n:Nat),K.lookup a=some o/\o.cls=.type "tuple"/\o.data=.seq its n/\its.size<=au/\bA (p.2.map V.str) its.toList
def SL (P:aI)(w:aZ)(K:Frag)(mg:Str->Option af)(fn:Str->Addr)(p:Str×List (Key×D)):Prop:=∃a kvs,mg p.1=some (.ref a)/\KD P w K a kvs/\∀(G:Gx),G.fn=fn->∀ι ξ H,VRk G ι ξ H kvs p.2
theorem P4 {K:Frag}{A:Addr}(X:K.In h)(G:h.Ns a8 mg)(hm:∀p∈cl,gp p.1=true)(a:nsIn K a8 x=some (some (.ref A)))(hx:gp x=false){Γ:Gx}(hG:Γ.fn=fnT mg cl):VR Γ ι η H (.ref A) (.fn x):=by
 have:Γ.fn x=A:=by rw[hG,wJ hm hx,mY (ud X G a)]
 exact this ▸ .fn x
structure qk (Pg:fE)(K:Frag)(mg:Str->Option af)(c m q:Str)(md:cA)(f:Addr):Prop where
 ini:m="__init__"->Mk K (Xm mg c) f
 mt:w6 K (Xm mg c) m f
 dk:∀fn:Str->Addr,fn q=f->DK Pg K mg fn q md
section
variable {K:Frag}{mg:Str->Option af}{h:Heap}{Pg:fE}
theorem gl_int {i:Int}{t:Tok}(X:K.In h)(G:h.Ns a8 mg)(a:nsIn K a8 x=some (some (.int i t))):Pc mg fn (x,.int i):=⟨.int i,_,ud X G a,⟨_,rfl⟩,λ_ _ _ _ _=>.int _⟩
theorem gl_str {t:Tok}(X:K.In h)(G:h.Ns a8 mg)(a:nsIn K a8 x=some (some (.str y t))):Pc mg fn (x,.str y):=⟨.str y,_,ud X G a,⟨_,rfl⟩,λ_ _ _ _ _=>.str _⟩
theorem RC {L:Addr}{its:Array af}(X:K.In h)(G:h.Ns a8 mg)(aL:nsIn K a8 x=some (some (.ref L)))(lL:K.lookup L=some ⟨.type "tuple",od,.seq its i,sl⟩)(hs:its.size<=au)(hv:bA (bq.map V.str) its.toList):SK K mg (x,bq):=
 ⟨L,ud X G aL,_,_,_,lL,rfl,rfl,hs,hv⟩
theorem RE {P:aI}{es:Array DictEntry}{vs:List (Key×af)}(sm:(a==sysModules)=false)(l:K.lookup a=some ⟨.type "dict",none,.dict es n,#[]⟩)(r:KV kvs vs)
  (hk:KeysOf (bZ P w) es) (hp:Pairs (bZ P w) es.toList vs) (nd:(vs.map (·.1)).Nodup):KD P w K a kvs:=
 ⟨sm,vs,r,λh hK=>⟨_,es,n,hK _ _ l,⟨rfl,rfl,rfl⟩,rfl,hk,hp,nd⟩⟩
inductive SEs (w:aZ):List DictEntry->List (Key×af)->Prop
 |nil:SEs w [] []
 |cons {x:Str} {t:Tok} {v:af} {es:List DictEntry} {vs:List (Key×af)} (r:SEs w es vs):SEs w (⟨PyData.keyHash w.params x,.str x t,v⟩::es) ((.inr x,v)::vs)
theorem SEs.keys {P:aI}{es:List DictEntry}{vs:List (Key×af)}(s:SEs w es vs):KeysOf (bZ P w) es.toArray:=by
 have:∀e∈es,∃k,(bZ P w).is k e.key=true/\e.hash=(bZ P w).hash k:=by
  induction s with
  |nil=>exact λe he=>nomatch he
  | @cons x t v es vs r ih=>
   intro e he;rcases List.mem_cons.mp he with rfl|he
   ·exact⟨.inr x,pA x t,rfl⟩
   ·exact ih e he
 exact λe he=>this e (by simpa using he)
theorem SEs.pairs {P:aI}{es:List DictEntry}{vs:List (Key×af)}(s:SEs w es vs):Pairs (bZ P w) es vs:=by
 induction s with
 |nil=>exact .nil
 | @cons x t v es vs r ih=>exact .cons (pA x t) rfl ih
theorem L0 {P:aI}{A:Addr}{es:List DictEntry}{vs:List (Key×af)}(X:K.In h)(G:h.Ns a8 mg)(aA:nsIn K a8 x=some (some (.ref A)))(lA:K.lookup A=some ⟨.type "dict",none,.dict es.toArray n,#[]⟩)
  (sA:(A==sysModules)=false) (s:SEs w es vs) (nd:(vs.map (·.1)).Nodup) (r:KV kvs vs) (v:∀(G:Gx),G.fn=fn->∀ι ξ H,VRk G ι ξ H kvs W0):SL P w K mg fn (x,W0):=
 ⟨A,kvs,ud X G aA,RE sA lA r s.keys s.pairs nd,v⟩
theorem qF {m:Str}{st:Stmt}{f:Addr}(X:K.In h)(G:h.Ns a8 mg)(hq:gp x=true)(S:eC md.N md.ps (aW st))(ck:gK md.body ⟨md.N,aW st,true,true,λ_=>true⟩ (cf st)=true)
  (aC:nsIn K a8 c=some (some (.ref C))) (i:findIn K (.ref C) m=some (some (.ref f))) (j:isFn K (.ref f)=true) (k:keepIn K (.ref f)=true) (mk:m="__init__"->makesIn K C=true/\keepIn K (.ref C)=true)
  (l:K.lookup f=some ⟨oc,od,.func (fnOf m x (dA st) (cf st) (aW st) dV u dc pm an cd ct),sl⟩) (c':codeIn K cd x=true)
  {dvs:List V} {ds:List af} (b:Binds K (fnOf m x (dA st) (cf st) (aW st) dV u dc pm an cd ct) md.ps ds) (hv:bA dvs ds) (hr:∀(G:Gx) ι ξ H,VRs G ι ξ H dvs md.dv):∃f,qk Pg K mg c m x md f:=by
 have e:Xm mg c=C:=mY (ud X G aC);refine⟨f,λhm=>?_,?_,λfn hfn=>Sj hfn hq S ck l c' k b hv hr⟩
 ·rw[e];exact⟨(mk hm).1,hm ▸ i,j,(mk hm).2⟩
 ·rw[e];exact⟨i,j,k⟩
theorem all1 {α:Type}{P:List α->Prop}(h:∀a,P [a]):∀us,us.length=1->P us:=λus hu=>gQ hu λa us hu=>my hu (h a)
theorem all2 {α:Type}{P:List α->Prop}(h:∀a b,P [a,b]):∀us,us.length=2->P us:=λus hu=>gQ hu λa us hu=>gQ hu λb us hu=>my hu (h a b)
theorem VW {α:Type}{P:List α->Prop}(h:∀a b c,P [a,b,c]):∀us,us.length=3->P us:=λus hu=>gQ hu λa us hu=>gQ hu λb us hu=>gQ hu λc us hu=>my hu (h a b c)
theorem IK (hps:bq.length=1)(h:∀(s:ah)(a:af),K.In s.heap->BindsTo s fd ⟨[a],[]⟩ (bq.zip [a])):Binds K fd bq []:=λs us XN hl=>by
 rw[bN]at hl ⊢;rw[hps]at hl;exact all1 (P:=λus=>BindsTo s fd ⟨us,[]⟩ (bq.zip us)) (λa=>h s a XN) us hl
theorem O5 (hps:bq.length=2)(h:∀(s:ah)(a b:af),K.In s.heap->BindsTo s fd ⟨[a,b],[]⟩ (bq.zip [a,b])):Binds K fd bq []:=λs us XN hl=>by
 rw[bN]at hl ⊢;rw[hps]at hl;exact all2 (P:=λus=>BindsTo s fd ⟨us,[]⟩ (bq.zip us)) (λa b=>h s a b XN) us hl
theorem O4 (hps:bq.length=3)(h:∀(s:ah)(a b c:af),K.In s.heap->BindsTo s fd ⟨[a,b,c],[]⟩ (bq.zip [a,b,c])):Binds K fd bq []:=λs us XN hl=>by
 rw[bN]at hl ⊢;rw[hps]at hl;exact VW (P:=λus=>BindsTo s fd ⟨us,[]⟩ (bq.zip us)) (λa b c=>h s a b c XN) us hl
theorem Kp {t:Ld}{P:aI}(ms:List (Str×Addr))(hx:gp x=false)(hm:∀p∈ms,gp p.1=true)(gl:∀p∈t.gl,Pc mg (fnT mg ms) p)(bn:∀x∈jQ,mg x=none)
  (xf:∀p∈t.xf,∃bm,PkX K mg p.1 bm p.2/\∀u∈t.ub,bm.contains (.type u.1)=u.2.contains p.1) (ub:∀u∈t.ub,u.1∈["ValueError","KeyError","IndexError","RuntimeError","OverflowError"]/\kitMeta u.1=true) (ic:∀p∈t.ic,PkI K mg p.1 p.2)
  (mt:∀e∈t.mt,∃md f,qk t.pg K mg e.1 e.2.1 e.2.2 md f/\fnT mg ms e.2.2=f)
  (kd:∀p∈t.kd,SL P w K mg (fnT mg ms) p) (kt:∀p∈t.kt,SK K mg p) (D:∀p∈t.tab,DK t.pg K mg (fnT mg ms) p.1 p.2)
  (hn:specialIn K (.builtin "object.__class__") "__get__"=some (some (.builtin "getset_descriptor.__get__"))) (htk:takesIn K (.builtin "object.__class__")=some true):
  ∃fn:Str->Addr,fn x=Xm mg x/\∀base:Heap,K.In base->base.Ns a8 mg->Wd.Ok ⟨⟨P,w,K,Xm mg,fn,[]⟩,mg,base,t.pg⟩/\∀x md,t.pg.defs x=some md->vA ⟨⟨P,w,K,Xm mg,fn,[]⟩,mg,base,t.pg⟩ x md:=by
 refine⟨fnT mg ms,wJ hm hx,λbase _ _=>?_⟩;have dd:∀x md,t.pg.defs x=some md->vA ⟨⟨P,w,K,Xm mg,fnT mg ms,[]⟩,mg,base,t.pg⟩ x md:=λx md hx=>D (x,md) (lookup_mem hx) P w base;have find:∀{c m f:Str},t.pg.mt c m=some f->∃md,qk t.pg K mg c m f md (fnT mg ms f):=λ{c m f} hf=>by
  have hg:((t.mt.lookup c).bind λ_=>(t.mt.find? λe=>e.1==c&&e.2.1==m).map (·.2.2))=some f:=hf;cases e1:t.mt.lookup c with
  |none=>rw[e1]at hg;cases hg
  |some q=>
   rw[e1]at hg;cases e2:t.mt.find? λe=>e.1==c&&e.2.1==m with
   |none=>simp[e2]at hg
   |some e=>
    simp only[e2,je,cy,Option.some.injEq]at hg;have hp:=List.find?_some e2;simp only[ag,beq_iff_eq]at hp;obtain⟨md,f',M,ef⟩:=mt e (List.mem_of_find?_eq_some e2);obtain⟨e1,e2,e3⟩:=e;simp only at hp hg M ef;obtain⟨rfl,rfl⟩:=hp;subst hg;rw[ef];exact⟨md,M⟩
 refine⟨⟨λx d hx=>?_,bn,λc ns hc=>?_,λc fs hc=>?_,λT bs hT=>?_,hn,htk,λx W0 hk=>?_,λx ss hk=>?_,λc f hf=>?_,λc m f hf hm=>?_⟩,dd⟩
 ·obtain⟨v,u,h1,h2,h3⟩:=gl (x,d) (lookup_mem hx);exact⟨v,u,h1,h2,h3 _ rfl⟩
 ·obtain⟨bm,X,_⟩:=xf (c,ns) (lookup_mem hc);exact X.ex P w base t.pg _
 ·exact(ic (c,fs) (lookup_mem hc)).ex P w base t.pg _
 ·have hT:t.ub.lookup T=some bs:=hT;obtain⟨h1,h2⟩:=ub (T,bs) (lp hT);refine⟨h1,λc ns hc=>?_⟩;obtain⟨bm,X,h3⟩:=xf (c,ns) (lookup_mem hc);exact(X.kt T h2).trans (congrArg some (h3 (T,bs) (lp hT)))
 ·obtain⟨a,kvs,h1,h2,h3⟩:=kd (x,W0) (lookup_mem hk);exact⟨a,kvs,h1,h2,h3 _ rfl⟩
 ·exact kt (x,ss) (lookup_mem hk)
 ·obtain⟨md,M⟩:=find hf;exact M.ini rfl
 ·obtain⟨md,M⟩:=find hf;exact M.mt
theorem IM {st:Stmt}{f:Addr}(X:K.In h)(G:h.Ns a8 mg)(hm:mg "law"=some (.ref C))(a:nsIn K a8 "law"=some (some (.ref f)))
  (l:K.lookup f=some ⟨oc,od,.func (fnOf "law" "law" (dA st) (cf st) (aW st) .none dV dc pm an cd ct),sl⟩) (c:codeIn K cd "law"=true) (k:keepIn K (.ref f)=true)
  (b:∀u:af,bindArgs (fnOf "law" "law" (dA st) (cf st) (aW st) .none dV dc pm an cd ct) ⟨[u],[]⟩=pure [(y,u)]):
  ∃st fd,mf K "law" "law" st C fd/\∀(s:ah)(u:af),BindsTo s fd ⟨[u],[]⟩ [(y,u)]:=by
 have e:=hm.symm.trans (ud X G a);cases e;exact⟨st,_,mf.mk' l c k,λs u=>.of_eq (b u)⟩
abbrev iZ:List af:=[.type "RuntimeError",.type "Exception",.type "BaseException",.type "object"]
theorem oX (self:af):refuseLoop self "__setattr__" iZ=pure ():=by kernel_rfl
theorem JQ (X:K.In h)(G:h.Ns a8 mg){Bn inN:String}(M:XMk K C bm Bn nid inN bm)(a:nsIn K a8 x=some (some (.ref C)))(ai:findIn K (.ref C) "__init__"=some (some (.builtin inN))):PkX K mg x bm []:=by
 have hm:=ud X G a;have e:Xm mg x=C:=mY hm;refine⟨λP w base Pg fn=>?_,λT hT=>?_⟩
 ·refine⟨⟨bm,Bn,nid,inN,bm,?_,.inl ⟨rfl,rfl,rfl,?_⟩⟩,?_,(λg hg=>nomatch hg),?_⟩
  ·show XMk K (Xm mg x) _ _ _ _ _;rw[e];exact M
  ·show findIn K (.ref (Xm mg x)) _=_;rw[e];exact ai
  ·show mg x=some (.ref (Xm mg x));rw[e];exact hm
  ·show exmOne K (.ref (Xm mg x)) (.ref (Xm mg x))=_;rw[e];exact HJ M.c
 ·rw[e];exact yx M.c hT
theorem NQ (X:K.In h)(G:h.Ns a8 mg){N:Addr}{bs:List af}{col:Option Bool}{k1 k2 k3 k5:Option af}
  (aC:nsIn K a8 x=some (some (.ref C))) (lC:K.lookup C=some (excClassObj x c C N bs iZ true bq bm b col od k0 k1 k2 k3 k5 "RuntimeError.__new__"))
  (ga:findIn K (.ref C) "__getattribute__"=some (some (.builtin "BaseException.__getattribute__"))) (gh:findIn K (.ref C) "__getattr__"=some none) (sa:findIn K (.ref C) "__setattr__"=some (some (.builtin "object.__setattr__")))
  (cl:findIn K (.ref C) "__class__"=some (some (.builtin "object.__class__"))) (kp:keepIn K (.ref C)=true)
  (ai:findIn K (.ref C) "__init__"=some (some (.builtin "RuntimeError.__init__"))):PkX K mg x iZ []:=
 JQ X G (Bn:="RuntimeError") (nid:="RuntimeError.__new__") (inN:="RuntimeError.__init__") ⟨PySem.F.excBase_RuntimeError,by decide +kernel,by decide +kernel,by decide +kernel,Mr lC ga gh sa cl (by decide +kernel) (by decide +kernel) oX,kp⟩ aC ai
end
end
end
theorem Ha:KV ([]:List (Key×V)) []:=.nil
theorem pw {k:Key}{i:Int}{t:Tok}{vs:List (Key×af)}(r:KV kvs vs):KV ((k,V.int i)::kvs) ((k,Value.int i t)::vs):=.cons ⟨rfl,⟨t,rfl⟩⟩ r
theorem ls {k:Key}{vs:List (Key×af)}(r:KV kvs vs):KV ((k,V.ref a)::kvs) ((k,Value.ref a)::vs):=.cons ⟨rfl,rfl⟩ r
section
noncomputable section
def Nu (N P:List Str)(sc:Scope):Bool:=decide (sc.kind=.function)&&!sc.isCoroutine&&!sc.isGenerator&&decide N.Nodup&&decide (N.take P.length=P)&&P.all (λx=>decide (sc.names.lookup x=some .local)||decide (sc.names.lookup x=some .cell))&&sc.names.all λy=>!decide (y.2=.free)
theorem JB {N P:List Str}(h:Nu N P scope=true):eC N P scope:=by
 simp only[Nu,ag,aF,decide_eq_true_eq,xi,cz,decide_eq_false_iff_not]at h;obtain⟨⟨⟨⟨⟨⟨h1,h2⟩,h3⟩,h4⟩,h5⟩,h6⟩,h7⟩:=h;exact⟨h1,h2,h3,h4,h5,h6,h7⟩
abbrev Row:=Str×cA×Stmt
def xP (p:Row):Bool:=Nu p.2.1.N p.2.1.ps (aW p.2.2)&&gK p.2.1.body ⟨p.2.1.N,aW p.2.2,true,true,λ_=>true⟩ (cf p.2.2)
def O9 (md:cA)(st:Stmt):Prop:=eC md.N md.ps (aW st)/\gK md.body ⟨md.N,aW st,true,true,λ_=>true⟩ (cf st)=true
theorem FV {T:List Row}(ok:T.all xP=true){p:Row}(h:p∈T):O9 p.2.1 p.2.2:=by
 have:=List.all_eq_true.mp ok p h;simp only[xP,ag]at this;exact⟨JB this.1,this.2⟩
theorem vP {T:List Row}(ok:T.all xP=true)(n:Nat){p:Row}(h:T[n]?=some p):O9 p.2.1 p.2.2:=FV ok (bH h)
def TF (Pg:fE)(K:Frag)(mg:Str->Option af)(fn:Str->Addr)(p:Row):Prop:=O9 p.2.1 p.2.2->DK Pg K mg fn p.1 p.2.1
section
variable {K:Frag}{mg:Str->Option af}{h:Heap}{Pg:fE}{fn:Str->Addr}
theorem MA {st:Stmt}{f:Addr}(X:K.In h)(G:h.Ns a8 mg)(hfn:fn x=Xm mg x)(hdv:md.dv=[])
  (hb:∀(u doc pm:af)(an:Option Addr)(W7 ct:af)(us:List af),us.length=md.ps.length->bindArgs (fnOf x x (dA st) (cf st) (aW st) .none u doc pm an W7 ct) ⟨us,[]⟩=pure (md.ps.zip us))
  (a:nsIn K a8 x=some (some (.ref f))) (l:K.lookup f=some ⟨oc,od,.func (fnOf x x (dA st) (cf st) (aW st) .none u dc pm an cd ct),sl⟩) (c:codeIn K cd x=true) (k:keepIn K (.ref f)=true):TF Pg K mg fn (x,md,st):=
 λs=>dk0 X G hfn s.1 s.2 hdv hb a l c k
theorem qz {m:Str}{st:Stmt}{f:Addr}(M:qk Pg K mg c m x md f)(e:fn x=f):TF Pg K mg fn (x,md,st):=λ_=>M.dk fn e
theorem KY {T:List Row}(ok:T.all xP=true)(F:∀p∈T,TF Pg K mg fn p):∀p∈T.map (λp:Row=>(p.1,p.2.1)),DK Pg K mg fn p.1 p.2:=λp hp=>by
 obtain⟨r,hr,rfl⟩:=List.mem_map.mp hp;exact F r hr (FV ok hr)
end
end
end
end L2
namespace K32
open PySem PySem.Spec PyProof.Rows PySem.W L2
local macro_rules
|`(#[ ])=>`(.nil)
|`(#[ $x ])=>`(.cons $x .nil)
|`(#[ $x,$xs,* ])=>`(.cons $x #[ $xs,* ])
local macro_rules
|`(#v[ ])=>`([])
|`(#v[ $x ])=>if x.raw.isIdent && x.raw.getId==`none then `([none]) else `([some $x])
|`(#v[ $x,$xs,* ])=>if x.raw.isIdent && x.raw.getId==`none then `(none :: #v[ $xs,* ]) else `((some $x) :: #v[ $xs,* ])
noncomputable def top (i:Nat):Stmt:=PySem.Challenge.pw_leastblame_k32_known_chances.main.body.getD i (.Pass ⟨0,0,0,0⟩)
section
local macro_rules
  | `(#[ ]) => `(.nil)
  | `(#[ $x ]) => `(.cons $x .nil)
  | `(#[ $x, $xs,* ]) => `(.cons $x #[ $xs,* ])
noncomputable def nN:cA:=⟨["thing","low"],["thing","low"],.keep,[],#[.ret (.bool true #[.isT "int" (.v 0),.not (.isT "bool" (.v 0)),.cmp .le (.v 1) (.v 0)])]⟩
noncomputable def rT:cA:=⟨["thing","low","high"],["thing","low","high"],.keep,[],#[.ret (.bool true #[.call "whole_from" #[.v 0,.v 1],.cmp .le (.v 0) (.v 2)])]⟩
noncomputable def Dn:cA:=⟨["thing"],["thing"],.keep,[],#[.W9 (.bool false #[.not (.val (.isT "str" (.v 0))),.not (.chain .le .le (.int 1) (.bif .len #[.v 0]) (.g "LONGEST_NAME"))]) #[.never] .nil,.ret (.bif .all #[.comp false ["letter"] [] [] (.str (.v 0)) (.nm 0) .nil (.cmp .isin (.v 0) (.g "LETTERS"))])]⟩
noncomputable def GP:cA:=⟨["thing","names"],["thing","names","word"],.keep,[],#[.W9 (.bool false #[.not (.val (.isT "tuple" (.v 0))),.not (.val (.v 0)),.not (.val (.isT "str" (.ix (.v 0) (.int 0))))]) #[.never] .nil,.asg (.nm 2) (.ix (.v 0) (.int 0)),.W9 (.cmp .eq (.v 2) (.str "fixed")) #[.ret (.bool true #[.cmp .eq (.bif .len #[.v 0]) (.int 3),.call "are_wires" #[.sl false (.v 0) (.some (.int 1)) (.some (.int 2)),.v 1],.call "whole_within" #[.ix (.v 0) (.int 2),.int 0,.g "GREATEST_VALUE"]])] .nil,.W9 (.cmp .eq (.v 2) (.str "rows")) #[.never] .nil,.ret (.bool true #[.cmp .eq (.Dq "WIRES_BEHIND" (.v 2)) (.bin .sub (.bif .len #[.v 0]) (.int 1)),.call "are_wires" #[.sl false (.v 0) (.some (.int 1)) .none,.v 1]])]⟩
noncomputable def yp:cA:=⟨["things","names"],["things","names"],.keep,[],#[.ret (.bif .all #[.comp false ["thing"] ["names"] [1] (.tup (.v 0)) (.nm 0) .nil (.bool true #[.isT "str" (.v 0),.cmp .isin (.v 0) (.v 1)])])]⟩
noncomputable def yk:cA:=⟨["tie"],["tie"],.keep,[],#[.W9 (.cmp .eq (.ix (.v 0) (.int 0)) (.str "rows")) #[.never] .nil,.ret (.bif .tuple #[.v 0])]⟩
noncomputable def v8:cA:=⟨["tie","places","manys"],["tie","places","manys","word","at"],.keep,[],#[.asg (.nm 3) (.ix (.v 0) (.int 0)),.W9 (.cmp .eq (.v 3) (.str "fixed")) #[.ret (.tup #[.v 3,.lst false #[.ix (.v 1) (.ix (.v 0) (.int 1))],.ix (.v 0) (.int 2)])] .nil,.W9 (.cmp .eq (.v 3) (.str "rows")) #[.never] .nil,.asg (.nm 4) (.comp false ["name"] ["places"] [1] (.tup (.sl false (.v 0) (.some (.int 1)) .none)) (.nm 0) .nil (.ix (.v 1) (.v 0))),.ret (.tup #[.v 3,.v 4,.W9 (.cmp .eq (.v 3) (.str "turned")) (.ix (.v 2) (.ix (.v 4) (.int 1))) (.ix (.v 2) (.ix (.v 4) (.int 0)))])]⟩
noncomputable def tP:cA:=⟨["values","number"],["values","number"],.keep,[],#[.ret (.cmp .eq (.ix (.v 0) (.int 0)) (.v 1))]⟩
noncomputable def v7:cA:=⟨["values","many"],["values","many"],.keep,[],#[.ret (.cmp .eq (.ix (.v 0) (.int 0)) (.ix (.v 0) (.int 1)))]⟩
noncomputable def rV:cA:=⟨["values","many"],["values","many"],.keep,[],#[.ret (.cmp .eq (.ix (.v 0) (.int 0)) (.bin .sub (.bin .sub (.v 1) (.int 1)) (.ix (.v 0) (.int 1))))]⟩
noncomputable def z9:cA:=⟨["placed","world"],["placed","world","word","at","needed","test"],.keep,[],#[.for_ (.lst (.v 0)) (.tup #[.nm 2,.nm 3,.nm 4]) #[.asg (.nm 5) (.kix "TESTS" (.v 2)),.W9 (.not (.val (.vk 5 "test" #[.comp false ["number"] ["world"] [1] (.lst (.v 3)) (.nm 0) .nil (.ix (.v 1) (.v 0)),.v 4]))) #[.ret (.bl false)] .nil],.ret (.bl true)]⟩
noncomputable def pd:cA:=⟨["one","other"],["one","other"],.keep,[],#[.whl 18446744073709551616 (.cmp .gt (.v 1) (.int 0)) #[.par 0 "one" 1 "other" #[.v 1,.bin .mod (.v 0) (.v 1)]],.ret (.v 0)]⟩
noncomputable def rW:cA:=⟨["numbers"],["numbers","least","number"],.keep,[],#[.asg (.nm 1) (.int 1),.for_ (.lst (.v 0)) (.nm 2) #[.asg (.nm 1) (.bin .mul (.bin .fdiv (.v 1) (.call "divisor" #[.v 1,.v 2])) (.v 2))],.ret (.v 1)]⟩
noncomputable def mF:cA:=⟨["thing"],["thing"],.keep,[],#[.W9 (.bool false #[.not (.val (.isT "tuple" (.v 0))),.cmp .ne (.bif .len #[.v 0]) (.int 2)]) #[.never] .nil,.ret (.bool true #[.call "whole_from" #[.ix (.v 0) (.int 0),.int 0],.call "whole_from" #[.ix (.v 0) (.int 1),.int 1],.cmp .eq (.call "divisor" #[.ix (.v 0) (.int 0),.ix (.v 0) (.int 1)]) (.int 1)])]⟩
noncomputable def rY:cA:=⟨["top","bottom"],["top","bottom","common"],.keep,[],#[.asg (.nm 2) (.call "divisor" #[.v 0,.v 1]),.ret (.tup #[.bin .fdiv (.v 0) (.v 2),.bin .fdiv (.v 1) (.v 2)])]⟩
noncomputable def kr:cA:=⟨["fractions"],["fractions","bottom"],.keep,[],#[.asg (.nm 1) (.call "multiple" #[.comp false ["top","below"] [] [] (.lst (.v 0)) (.tup #[.nm 0,.nm 1]) .nil (.v 1)]),.ret (.tup #[.comp false ["top","below"] ["bottom"] [1] (.lst (.v 0)) (.tup #[.nm 0,.nm 1]) .nil (.bin .mul (.v 0) (.bin .fdiv (.v 2) (.v 1))),.v 1])]⟩
noncomputable def Dm:cA:=⟨["thing"],["thing"],.keep,[],#[.ret (.bool true #[.isT "tuple" (.v 0),.cmp .eq (.bif .len #[.v 0]) (.int 2),.call "is_name" #[.ix (.v 0) (.int 0)]])]⟩
noncomputable def tQ:cA:=⟨["wires"],["wires","names","worlds","number","wire"],.data,[],#[.W9 (.bool false #[.not (.val (.isT "list" (.v 0))),.not (.chain .le .le (.int 1) (.bif .len #[.v 0]) (.g "MOST_WIRES"))]) #[.never] .nil,.asg (.nm 1) .ap6,.asg (.nm 2) (.int 1),.for_ (.enum #[.v 0]) (.tup #[.nm 3,.nm 4]) #[.W9 (.bool false #[.not (.val (.call "is_pair" #[.v 4])),.cmp .isin (.ix (.v 4) (.int 0)) (.v 1),.not (.val (.call "whole_within" #[.ix (.v 4) (.int 1),.int 2,.int 4]))]) #[.never] .nil,.expr (.ap7 (.v 1) (.ix (.v 4) (.int 0))),.aug 2 "worlds" .mul (.ix (.v 4) (.int 1))],.W9 (.cmp .gt (.v 2) (.g "MOST_WORLDS")) #[.never] .nil]⟩
noncomputable def tR:cA:=⟨["parts"],["parts","names","number","part"],.data,[],#[.W9 (.bool false #[.not (.val (.Du "list" "tuple" (.v 0))),.cmp .gt (.bif .len #[.v 0]) (.g "MOST_PARTS")]) #[.never] .nil,.asg (.nm 1) .ap6,.for_ (.enum #[.v 0]) (.tup #[.nm 2,.nm 3]) #[.W9 (.bool false #[.not (.val (.call "is_pair" #[.v 3])),.cmp .isin (.ix (.v 3) (.int 0)) (.v 1),.not (.val (.isT "list" (.ix (.v 3) (.int 1))))]) #[.never] .nil,.W9 (.not (.chain .le .le (.int 1) (.bif .len #[.ix (.v 3) (.int 1)]) (.g "MOST_TIES"))) #[.never] .nil,.expr (.ap7 (.v 1) (.ix (.v 3) (.int 0)))]]⟩
noncomputable def wb:cA:=⟨["parts","names"],["parts","names","number","part","at","tie"],.keep,[],#[.for_ (.enum #[.v 0]) (.tup #[.nm 2,.nm 3]) #[.for_ (.enum #[.ix (.v 3) (.int 1)]) (.tup #[.nm 4,.nm 5]) #[.W9 (.not (.val (.call "is_tie" #[.v 5,.v 1]))) #[.never] .nil]]]⟩
noncomputable def ym:cA:=⟨["pairs"],["pairs"],.keep,[],#[.ret (.vd false ["number","pair"] [] [] (.enum #[.v 0]) (.tup #[.nm 0,.nm 1]) .nil (.ix (.v 1) (.int 0)) (.v 0))]⟩
noncomputable def wa:cA:=⟨["work"],["work"],.keep,[],#[.W9 (.not (.val (.isC "Work" (.v 0)))) #[.never] .nil]⟩
noncomputable def we:cA:=⟨["work","lot","looks"],["work","lot","looks","ties","worlds","number","values","longer"],.data,[],#[.expr (.call "check_work" #[.v 0]),.expr (.call "check_lot" #[.v 0,.v 1]),.expr (.call "check_looks" #[.v 0,.v 2]),.asg (.nm 3) (.call "ties_by_last_wire" #[.v 0,.v 1]),.asg (.nm 4) (.lst false #[.lst false .nil]),.for_ (.enum #[.call "values_met" #[.v 0,.v 2]]) (.tup #[.nm 5,.nm 6]) #[.asg (.nm 7) (.n8 false ["world","value"] ["values"] [6] (.lst (.v 4)) (.nm 0) (.v 2) (.nm 1) (.ak4 false (.v 0) #[.v 1])),.asg (.nm 4) (.comp false ["world"] ["ties","number"] [3,5] (.lst (.v 7)) (.nm 0) #[.val (.call "all_hold" #[.ix (.v 1) (.v 2),.v 0])] (.v 0))],.ret (.v 4)]⟩
noncomputable def yo:cA:=⟨["work","lot"],["work","lot"],.keep,[],#[.expr (.call "check_numbers" #[.v 1,.yv "Work" "Work.__len__" (.v 0)])]⟩
noncomputable def qm:cA:=⟨["lot","many"],["lot","many","least","number","part"],.keep,[],#[.W9 (.not (.val (.isT "tuple" (.v 0)))) #[.never] .nil,.asg (.nm 2) (.int 0),.for_ (.ak7 #[.v 0]) (.tup #[.nm 3,.nm 4]) #[.never,.never]]⟩
noncomputable def tS:cA:=⟨["work","looks"],["work","looks","manys","number","look"],.keep,[],#[.W9 (.not (.val (.isT "list" (.v 1)))) #[.never] .nil,.asg (.nm 2) (.bif .dict #[.tO "Work" "wires" "Work.wires" (.v 0) .nil]),.for_ (.enum #[.v 1]) (.tup #[.nm 3,.nm 4]) #[.W9 (.not (.val (.call "is_look" #[.v 4,.v 2]))) #[.never] .nil]]⟩
noncomputable def Do:cA:=⟨["thing","manys"],["thing","manys","word","wire","value"],.keep,[],#[.W9 (.bool false #[.not (.val (.isT "tuple" (.v 0))),.cmp .ne (.bif .len #[.v 0]) (.int 3)]) #[.never] .nil,.asg (.tup #[.nm 2,.nm 3,.nm 4]) (.v 0),.W9 (.bool false #[.not (.val (.isT "str" (.v 2))),.not (.val (.isT "str" (.v 3)))]) #[.never] .nil,.ret (.bool true #[.kin "LOOK_WORDS" (.v 2),.cmp .isin (.v 3) (.v 1),.call "whole_within" #[.v 4,.int 0,.bin .sub (.ix (.v 1) (.v 3)) (.int 1)]])]⟩
noncomputable def lZ:cA:=⟨["work","lot"],["work","lot","grouped","part","tie"],.data,[],#[.asg (.nm 2) (.comp false ["wire"] [] [] (.lst (.tO "Work" "wires" "Work.wires" (.v 0) .nil)) (.nm 0) .nil (.lst false .nil)),.for_ (.tup (.v 1)) (.nm 3) #[.never],.ret (.v 2)]⟩
noncomputable def Kw:cA:=⟨["value","look"],["value","look"],.keep,[],#[.ret (.cmp .eq (.cmp .eq (.v 0) (.ix (.v 1) (.int 2))) (.cmp .eq (.ix (.v 1) (.int 0)) (.str "is")))]⟩
noncomputable def v5:cA:=⟨["work","looks"],["work","looks","values","look","at"],.data,[],#[.asg (.nm 2) (.comp true ["name","many"] [] [] (.lst (.tO "Work" "wires" "Work.wires" (.v 0) .nil)) (.tup #[.nm 0,.nm 1]) .nil (.au6 false #[.v 1])),.for_ (.lst (.v 1)) (.nm 3) #[.asg (.nm 4) (.tO "Work" "wire_number" "Work.wire_number" (.v 0) #[.ix (.v 3) (.int 1)]),.asg (.sub (.v 2) (.v 4)) (.comp false ["value"] ["look"] [3] (.lst (.ix (.v 2) (.v 4))) (.nm 0) #[.val (.call "meets" #[.v 0,.v 1])] (.v 0))],.ret (.v 2)]⟩
noncomputable def uS:cA:=⟨["work","ways","looks"],["work","ways","looks","rows","whole"],.keep,[],#[.asg (.nm 3) (.call "modes_left" #[.v 0,.v 1,.v 2]),.asg (.nm 4) (.bif .sum #[.comp false ["modes","weight"] [] [] (.lst (.v 3)) (.tup #[.nm 0,.nm 1]) .nil (.v 1)]),.ret (.comp false ["modes","weight"] ["whole"] [4] (.lst (.v 3)) (.tup #[.nm 0,.nm 1]) .nil (.tup #[.v 0,.call "fraction" #[.v 1,.v 2]]))]⟩
noncomputable def jK:cA:=⟨["work","ways","looks"],["work","ways","looks","rows","whole"],.keep,[],#[.asg (.nm 3) (.call "modes_left" #[.v 0,.v 1,.v 2]),.asg (.nm 4) (.bif .sum #[.comp false ["modes","weight"] [] [] (.lst (.v 3)) (.tup #[.nm 0,.nm 1]) .nil (.v 1)]),.ret (.comp false ["part"] ["rows","whole"] [3,4] (.rng #[.yv "Work" "Work.__len__" (.v 0)]) (.nm 0) .nil (.call "fraction" #[.bif .sum #[.comp false ["modes","weight"] ["part"] [0] (.lst (.v 1)) (.tup #[.nm 0,.nm 1]) #[.cmp .gt (.ix (.v 0) (.v 2)) (.int 0)] (.v 1)],.v 2]))]⟩
noncomputable def nP:cA:=⟨["work","ways"],["work","ways","number","some"],.keep,[],#[.W9 (.bool false #[.not (.val (.isT "list" (.v 1))),.cmp .ne (.bif .len #[.v 1]) (.yv "Work" "Work.__len__" (.v 0))]) #[.never] .nil,.for_ (.enum #[.v 1]) (.tup #[.nm 2,.nm 3]) #[.W9 (.not (.val (.call "are_ways" #[.v 3,.fld "Work" "wire_places" (.v 0)]))) #[.never] .nil]]⟩
noncomputable def rZ:cA:=⟨["thing","names"],["thing","names","tops","bottom"],.keep,[],#[.W9 (.bool false #[.not (.val (.isT "list" (.v 0))),.cmp .gt (.bif .len #[.v 0]) (.g "MOST_WAYS"),.not (.val (.bif .all #[.comp false ["way"] ["names"] [1] (.lst (.v 0)) (.nm 0) .nil (.call "is_way" #[.v 0,.v 1])]))]) #[.never] .nil,.asg (.tup #[.nm 2,.nm 3]) (.call "on_one_bottom" #[.comp false ["share","ties"] [] [] (.lst (.v 0)) (.tup #[.nm 0,.nm 1]) .nil (.v 0)]),.ret (.cmp .lt (.bif .sum #[.v 2]) (.v 3))]⟩
noncomputable def yn:cA:=⟨["thing","names"],["thing","names","share","ties"],.keep,[],#[.W9 (.bool false #[.not (.val (.isT "tuple" (.v 0))),.cmp .ne (.bif .len #[.v 0]) (.int 2)]) #[.never] .nil,.asg (.tup #[.nm 2,.nm 3]) (.v 0),.W9 (.bool false #[.not (.val (.call "is_fraction" #[.v 2])),.cmp .eq (.ix (.v 2) (.int 0)) (.int 0),.not (.val (.isT "list" (.v 3))),.cmp .gt (.bif .len #[.v 3]) (.g "MOST_WAY_TIES")]) #[.never] .nil,.ret (.bif .all #[.comp false ["tie"] ["names"] [1] (.lst (.v 3)) (.nm 0) .nil (.call "is_tie" #[.v 0,.v 1])])]⟩
noncomputable def wc:cA:=⟨["ways"],["ways","many","some"],.keep,[],#[.asg (.nm 1) (.int 1),.for_ (.lst (.v 0)) (.nm 2) #[.aug 1 "many" .mul (.bin .add (.bif .len #[.v 2]) (.int 1))],.W9 (.cmp .gt (.v 1) (.g "MOST_MODES")) #[.never] .nil]⟩
noncomputable def nO:cA:=⟨["work","ways","looks"],["work","ways","looks","met","counted","rows"],.keep,[],#[.expr (.call "check_work" #[.v 0]),.expr (.call "check_ways" #[.v 0,.v 1]),.expr (.call "check_looks" #[.v 0,.v 2]),.expr (.call "check_many" #[.v 1]),.asg (.nm 3) (.lF ["world"] [] [] (.lst (.call "all_worlds" #[.v 0,.tup .nil,.v 2])) (.nm 0) .nil (.bif .tuple #[.v 0]) (.bl true)),.asg (.nm 4) (.comp false ["modes","weight","worlds"] ["met"] [3] (.lst (.call "modes_with_worlds" #[.v 0,.v 1])) (.tup #[.nm 0,.nm 1,.nm 2]) .nil (.tup #[.v 0,.v 1,.bif .len #[.comp false ["world"] ["met"] [3] (.lst (.v 2)) (.nm 0) #[.cmp .isin (.v 0) (.v 1)] (.v 0)]])),.asg (.nm 5) (.comp false ["modes","weight","many"] [] [] (.lst (.v 4)) (.tup #[.nm 0,.nm 1,.nm 2]) #[.cmp .gt (.v 2) (.int 0)] (.tup #[.v 0,.bin .mulR (.v 1) (.v 2)])),.W9 (.not (.val (.v 5))) #[.raise "NoWorlds" .nil] .nil,.ret (.v 5)]⟩
noncomputable def iK:cA:=⟨["work","ways"],["work","ways","worlds","rows","part","some","tables","common"],.keep,[],#[.asg (.nm 2) (.comp false ["world"] [] [] (.lst (.call "all_worlds" #[.v 0,.tup .nil,.lst false .nil])) (.nm 0) .nil (.bif .tuple #[.v 0])),.asg (.nm 3) (.lst false #[.tup #[.tup .nil,.int 1,.v 2]]),.for_ (.enum #[.v 1]) (.tup #[.nm 4,.nm 5]) #[.asg (.nm 6) (.comp false ["top","ties"] ["worlds"] [2] (.lst (.call "choices" #[.v 0,.v 4,.v 5])) (.tup #[.nm 0,.nm 1]) .nil (.tup #[.v 0,.lF ["world"] ["ties"] [1] (.lst (.v 2)) (.nm 0) #[.val (.call "all_hold" #[.v 1,.v 0])] (.v 0) (.bl true)])),.asg (.nm 3) (.call "longer_modes" #[.v 3,.v 6])],.asg (.nm 7) (.call "multiple" #[.rj false ["modes","top","held"] [] [] (.lst (.v 3)) (.tup #[.nm 0,.nm 1,.nm 2]) (.bif .len #[.v 2])]),.ret (.comp false ["modes","top","held"] ["common"] [7] (.lst (.v 3)) (.tup #[.nm 0,.nm 1,.nm 2]) .nil (.tup #[.v 0,.bin .mulR (.v 1) (.bin .fdiv (.v 3) (.bif .len #[.v 2])),.v 2]))]⟩
noncomputable def rX:cA:=⟨["rows","tables"],["rows","tables","longer","modes","top","worlds","number","share","held","left"],.data,[],#[.asg (.nm 2) (.lst true .nil),.for_ (.lst (.v 0)) (.tup #[.nm 3,.nm 4,.nm 5]) #[.for_ (.enum #[.v 1]) (.tup #[.nm 6,.tup #[.nm 7,.nm 8]]) #[.asg (.nm 9) (.comp false ["world"] ["held"] [8] (.lst (.v 5)) (.nm 0) #[.cmp .isin (.v 0) (.v 1)] (.v 0)),.W9 (.val (.v 9)) #[.expr (.app (.v 2) (.tup #[.ak5 (.v 3) #[.v 6],.bin .mulL (.v 4) (.v 7),.v 9]))] .nil]],.ret (.v 2)]⟩
noncomputable def uR:cA:=⟨["work","part","some"],["work","part","some","tops","bottom","manys","placed"],.keep,[],#[.asg (.tup #[.nm 3,.nm 4]) (.call "on_one_bottom" #[.comp false ["share","ties"] [] [] (.lst (.v 2)) (.tup #[.nm 0,.nm 1]) .nil (.v 0)]),.asg (.nm 5) (.comp false ["name","many"] [] [] (.lst (.tO "Work" "wires" "Work.wires" (.v 0) .nil)) (.tup #[.nm 0,.nm 1]) .nil (.v 1)),.asg (.nm 6) (.comp false ["share","ties"] ["work","manys"] [0,5] (.lst (.v 2)) (.tup #[.nm 0,.nm 1]) .nil (.comp false ["tie"] ["work","manys"] [2,3] (.lst (.v 1)) (.nm 0) .nil (.call "placed_tie" #[.v 0,.fld "Work" "wire_places" (.v 1),.v 2]))),.ret (.bin .add (.lst false #[.tup #[.bin .sub (.v 4) (.bif .sum #[.v 3]),.ix (.fld "Work" "placed_parts" (.v 0)) (.v 1)]]) (.au7 false #[.v 3,.v 6]))]⟩
noncomputable def jm:cA:=⟨["_law_script","_law_k"],["_law_script","_law_k","_law_cell","_law_seed"],.keep,[],#[.asg (.nm 2) (.ix (.bin .add (.sl false (.v 0) (.some (.v 1)) (.some (.bin .add (.v 1) (.int 1)))) (.lst false #[.int 0])) (.int 0)),.asg (.nm 3) (.bin .mod (.bin .mul (.bin .add (.bin .add (.bin .mod (.v 2) (.int 2147483647)) (.bin .mul (.int 7919) (.v 1))) (.int 1)) (.int 48271)) (.int 2147483629)),.ret (.lst true #[.bin .mul (.bif .int #[.cmp .ge (.v 2) (.bin .pow (.int 10) (.int 18))]) (.v 2),.v 3])]⟩
noncomputable def jn:cA:=⟨["_law_hand_here","_law_size"],["_law_hand_here","_law_size","_law_found"],.keep,[],#[.W9 (.cmp .gt (.ix (.v 0) (.int 0)) (.int 0)) #[.asg (.nm 2) (.bin .mod (.ix (.v 0) (.int 0)) (.v 1)),.asg (.sub (.v 0) (.int 0)) (.bin .fdiv (.ix (.v 0) (.int 0)) (.v 1)),.ret (.v 2)] .nil,.asg (.sub (.v 0) (.int 1)) (.bin .mod (.bin .add (.bin .mul (.ix (.v 0) (.int 1)) (.int 48271)) (.int 11)) (.int 2147483647)),.ret (.bin .mod (.bin .fdiv (.bin .mod (.bin .mul (.ix (.v 0) (.int 1)) (.ix (.v 0) (.int 1))) (.int 2147483629)) (.int 64)) (.v 1))]⟩
noncomputable def r9:cA:=⟨["_law_top","_law_bottom"],["_law_top","_law_bottom","_law_one","_law_other"],.keep,[],#[.asg (.nm 2) (.v 0),.asg (.nm 3) (.v 1),.whl 18446744073709551616 (.cmp .gt (.v 3) (.int 0)) #[.par 2 "_law_one" 3 "_law_other" #[.v 3,.bin .mod (.v 2) (.v 3)]],.ret (.tup #[.bin .fdiv (.v 0) (.v 2),.bin .fdiv (.v 1) (.v 2)])]⟩
noncomputable def pY:cA:=⟨["_law_one","_law_other"],["_law_one","_law_other"],.keep,[],#[.ret (.call "_law_low" #[.bin .add (.bin .mul (.ix (.v 0) (.int 0)) (.ix (.v 1) (.int 1))) (.bin .mul (.ix (.v 1) (.int 0)) (.ix (.v 0) (.int 1))),.bin .mul (.ix (.v 0) (.int 1)) (.ix (.v 1) (.int 1))])]⟩
noncomputable def nR:cA:=⟨["_law_one","_law_other"],["_law_one","_law_other"],.keep,[],#[.ret (.call "_law_low" #[.bin .mul (.ix (.v 0) (.int 0)) (.ix (.v 1) (.int 0)),.bin .mul (.ix (.v 0) (.int 1)) (.ix (.v 1) (.int 1))])]⟩
noncomputable def pZ:cA:=⟨["_law_one","_law_other"],["_law_one","_law_other"],.keep,[],#[.ret (.call "_law_low" #[.bin .mul (.ix (.v 0) (.int 0)) (.ix (.v 1) (.int 1)),.bin .mul (.ix (.v 0) (.int 1)) (.ix (.v 1) (.int 0))])]⟩
noncomputable def nQ:cA:=⟨["_law_some"],["_law_some","_law_found","_law_one"],.keep,[],#[.asg (.nm 1) (.tup #[.int 0,.int 1]),.for_ (.lst (.v 0)) (.nm 2) #[.asg (.nm 1) (.call "_law_plus" #[.v 1,.v 2])],.ret (.v 1)]⟩
noncomputable def mG:cA:=⟨["_law_hand_here"],["_law_hand_here","_law_bottom","_law_some"],.keep,[],#[.asg (.nm 1) (.bin .add (.int 5) (.call "_law_draw" #[.v 0,.int 95])),.asg (.nm 2) (.comp false ["_law_k"] ["_law_hand_here","_law_bottom"] [0,1] (.rng #[.int 3]) (.nm 0) .nil (.bin .add (.int 1) (.call "_law_draw" #[.v 1,.bin .fdiv (.v 2) (.int 5)]))),.ret (.tup #[.comp false ["_law_one"] ["_law_bottom"] [1] (.lst (.v 2)) (.nm 0) .nil (.call "_law_low" #[.v 0,.v 1]),.call "_law_low" #[.bin .sub (.v 1) (.bif .sum #[.v 2]),.v 1]])]⟩
noncomputable def sd:cA:=⟨["_law_weights"],["_law_weights","_law_total_here"],.keep,[],#[.asg (.nm 1) (.call "_law_total" #[.comp false ["_law_modes","_law_share"] [] [] (.lst (.v 0)) (.tup #[.nm 0,.nm 1]) .nil (.v 1)]),.ret (.comp false ["_law_modes","_law_share"] ["_law_total_here"] [1] (.lst (.v 0)) (.tup #[.nm 0,.nm 1]) #[.cmp .gt (.ix (.v 1) (.int 0)) (.int 0)] (.tup #[.v 0,.call "_law_over" #[.v 1,.v 2]]))]⟩
noncomputable def kY:cA:=⟨["_law_work","_law_faults","_law_looks"],["_law_work","_law_faults","_law_looks","e"],.keep,[],#[.ah5 "NoWorlds" 3 "e" #[.expr (.cB "chances" #[.v 0,.v 1,.v 2])] #[.ret (.isB "RuntimeError" (.v 3))],.never]⟩
noncomputable def GO:cA:=⟨["_law_script"],["_law_script","_law_k","_law_hand_here","_law_low_here","_law_high","_law_free","_law_sound","_law_work","_law_stuck","_law_half","_law_due_here","_law_both","_law_left","_law_told"],.keep,[],#[.for_ (.rng #[.bif .max #[.int 1,.bif .min #[.bif .len #[.v 0],.int 10]]]) (.nm 1) #[.asg (.nm 2) (.call "_law_hand" #[.v 0,.v 1]),.asg (.tup #[.tup #[.nm 3,.nm 4,.nm 5],.nm 6]) (.call "_law_shares" #[.v 2]),.asg (.nm 7) (.rS "Work" "Work.__init__" #[.lst false #[.tup #[.str "in",.int 2],.tup #[.str "out",.int 2]],.lst false #[.tup #[.str "p",.lst false #[.tup #[.str "same",.str "out",.str "in"]]]]]),.asg (.nm 8) (.lst false #[.tup #[.v 3,.lst false #[.tup #[.str "fixed",.str "out",.int 0]]],.tup #[.v 4,.lst false #[.tup #[.str "fixed",.str "out",.int 1]]],.tup #[.v 5,.lst false .nil]]),.W9 (.cmp .ne (.cB "chances" #[.v 7,.lst false #[.v 8],.lst false .nil]) (.cB "_law_due" #[.lst false #[.tup #[.tup #[.int 0],.v 6],.tup #[.tup #[.int 1],.v 3],.tup #[.tup #[.int 2],.v 4],.tup #[.tup #[.int 3],.v 5]]])) #[.never] .nil,.asg (.nm 9) (.tup #[.int 1,.int 2]),.asg (.nm 10) (.cB "_law_due" #[.lst false #[.tup #[.tup #[.int 0],.cB "_law_times" #[.v 6,.v 9]],.tup #[.tup #[.int 1],.v 3],.tup #[.tup #[.int 3],.cB "_law_times" #[.v 5,.v 9]]]]),.W9 (.cmp .ne (.cB "chances" #[.v 7,.lst false #[.v 8],.lst false #[.tup #[.str "is",.str "out",.int 0]]]) (.v 10)) #[.never] .nil,.asg (.nm 11) (.lst false #[.tup #[.str "is",.str "in",.int 1],.tup #[.str "is",.str "out",.int 0]]),.asg (.nm 10) (.cB "_law_due" #[.lst false #[.tup #[.tup #[.int 1],.cB "_law_times" #[.v 3,.v 9]],.tup #[.tup #[.int 3],.cB "_law_times" #[.v 5,.tup #[.int 1,.int 4]]]]]),.W9 (.bool false #[.cmp .ne (.cB "chances" #[.v 7,.lst false #[.v 8],.v 11]) (.v 10),.cmp .ne (.cB "broken_chances" #[.v 7,.lst false #[.v 8],.v 11]) (.lst false #[.tup #[.int 1,.int 1]])]) #[.never] .nil,.W9 (.cmp .ne (.cB "chances" #[.v 7,.lst false #[.sl false (.v 8) .none (.some (.int 2))],.v 11]) (.lst false #[.tup #[.tup #[.int 1],.tup #[.int 1,.int 1]]])) #[.never] .nil,.W9 (.bool false #[.not (.val (.cB "_law_refused" #[.v 7,.lst false #[.sl false (.v 8) (.some (.int 1)) (.some (.int 2))],.v 11])),.not (.val (.cB "_law_refused" #[.v 7,.lst false #[.lst false .nil],.v 11]))]) #[.never] .nil,.W9 (.cmp .ne (.cB "broken_chances" #[.v 7,.lst false #[.v 8],.lst false .nil]) (.lst false #[.cB "_law_total" #[.lst false #[.v 3,.v 4,.v 5]]])) #[.never] .nil,.asg (.nm 11) (.lst false #[.tup #[.v 3,.lst false #[.tup #[.str "fixed",.str "out",.int 0],.tup #[.str "fixed",.str "in",.int 1]]],.tup #[.v 4,.lst false #[.tup #[.str "turned",.str "out",.str "in"]]]]),.asg (.nm 12) (.cB "_law_low" #[.bin .add (.bin .mul (.ix (.v 6) (.int 0)) (.ix (.v 5) (.int 1))) (.bin .mul (.ix (.v 5) (.int 0)) (.ix (.v 6) (.int 1))),.bin .mul (.ix (.v 6) (.int 1)) (.ix (.v 5) (.int 1))]),.asg (.nm 10) (.cB "_law_due" #[.lst false #[.tup #[.tup #[.int 0],.cB "_law_times" #[.v 12,.v 9]],.tup #[.tup #[.int 1],.v 3],.tup #[.tup #[.int 2],.cB "_law_times" #[.v 4,.v 9]]]]),.asg (.nm 13) (.cB "chances" #[.v 7,.lst false #[.v 11],.lst false #[.tup #[.str "is",.str "in",.int 1]]]),.W9 (.bool false #[.cmp .ne (.v 13) (.v 10),.cmp .ne (.ix (.ix (.cB "chances" #[.v 7,.lst false #[.v 11],.lst false #[.tup #[.str "is",.str "out",.int 0],.tup #[.str "is",.str "in",.int 1]]]) (.int 0)) (.int 0)) (.tup #[.int 1])]) #[.never] .nil],.ret (.bl true)]⟩
noncomputable def kB:cA:=⟨["self","wires","parts"],["self","wires","parts","places","manys"],.keep,[],#[.expr (.call "check_wires" #[.v 1]),.expr (.call "check_parts" #[.v 2]),.asg (.nm 3) (.call "places_of" #[.v 1]),.expr (.call "check_ties" #[.v 2,.v 3]),.ah4 "Work" "wire_rows" (.v 0) (.comp false ["name","many"] [] [] (.lst (.v 1)) (.tup #[.nm 0,.nm 1]) .nil (.tup #[.v 0,.v 1])),.ah4 "Work" "part_rows" (.v 0) (.comp false ["name","ties"] [] [] (.lst (.v 2)) (.tup #[.nm 0,.nm 1]) .nil (.tup #[.v 0,.comp false ["tie"] [] [] (.lst (.v 1)) (.nm 0) .nil (.call "plain_tie" #[.v 0])])),.ah4 "Work" "wire_places" (.v 0) (.v 3),.ah4 "Work" "part_places" (.v 0) (.call "places_of" #[.v 2]),.asg (.nm 4) (.comp false ["name","many"] [] [] (.lst (.v 1)) (.tup #[.nm 0,.nm 1]) .nil (.v 1)),.ah4 "Work" "placed_parts" (.v 0) (.comp false ["name","ties"] ["places","manys"] [3,4] (.lst (.fld "Work" "part_rows" (.v 0))) (.tup #[.nm 0,.nm 1]) .nil (.comp false ["tie"] ["places","manys"] [2,3] (.lst (.v 1)) (.nm 0) .nil (.call "placed_tie" #[.v 0,.v 1,.v 2])))]⟩
noncomputable def i3:cA:=⟨["self","name"],["self","name"],.keep,[],#[.W9 (.bool false #[.not (.val (.isT "str" (.v 1))),.cmp .xX (.v 1) (.fld "Work" "wire_places" (.v 0))]) #[.never] .nil,.ret (.ix (.fld "Work" "wire_places" (.v 0)) (.v 1))]⟩
noncomputable def nS:cA:=⟨["self"],["self"],.keep,[],#[.ret (.bif (.list false) #[.fld "Work" "wire_rows" (.v 0)])]⟩
noncomputable def kZ:cA:=⟨["self"],["self"],.keep,[],#[.ret (.bif .len #[.fld "Work" "part_rows" (.v 0)])]⟩
end
noncomputable def MC:List L2.Row:=[(("whole_from":Str),nN,top 14),(("whole_within":Str),rT,top 15),(("is_name":Str),Dn,top 16),(("is_tie":Str),GP,top 17),(("are_wires":Str),yp,top 18),(("plain_tie":Str),yk,top 22),(("placed_tie":Str),v8,top 23),(("fixed_holds":Str),tP,top 24),(("same_holds":Str),v7,top 25),(("turned_holds":Str),rV,top 26),(("all_hold":Str),z9,top 33),(("divisor":Str),pd,top 35),(("multiple":Str),rW,top 36),(("is_fraction":Str),mF,top 37),(("fraction":Str),rY,top 38),(("on_one_bottom":Str),kr,top 39),(("is_pair":Str),Dm,top 45),(("check_wires":Str),tQ,top 46),(("check_parts":Str),tR,top 47),(("check_ties":Str),wb,top 48),(("places_of":Str),ym,top 49),(("check_work":Str),wa,top 51),(("all_worlds":Str),we,top 54),(("check_lot":Str),yo,top 55),(("check_numbers":Str),qm,top 56),(("check_looks":Str),tS,top 57),(("is_look":Str),Do,top 58),(("ties_by_last_wire":Str),lZ,top 59),(("meets":Str),Kw,top 60),(("values_met":Str),v5,top 61),(("chances":Str),uS,top 66),(("broken_chances":Str),jK,top 67),(("check_ways":Str),nP,top 68),(("are_ways":Str),rZ,top 69),(("is_way":Str),yn,top 70),(("check_many":Str),wc,top 71),(("modes_left":Str),nO,top 72),(("modes_with_worlds":Str),iK,top 73),(("longer_modes":Str),rX,top 74),(("choices":Str),uR,top 75),(("_law_hand":Str),jm,top 77),(("_law_draw":Str),jn,top 78),(("_law_low":Str),r9,top 79),(("_law_plus":Str),pY,top 80),(("_law_times":Str),nR,top 81),(("_law_over":Str),pZ,top 82),(("_law_total":Str),nQ,top 83),(("_law_shares":Str),mG,top 84),(("_law_due":Str),sd,top 85),(("_law_refused":Str),kY,top 86),(("law":Str),GO,top 87),(("Work.__init__":Str),kB,B4 (top 50) 0),(("Work.wire_number":Str),i3,B4 (top 50) 3),(("Work.wires":Str),nS,B4 (top 50) 1),(("Work.__len__":Str),kZ,B4 (top 50) 5)]
theorem qY:MC.all xP=true:=by decide +kernel
noncomputable def tab:List (Str×cA):=MC.map λp:L2.Row=>(p.1,p.2.1)
noncomputable def fields:List Str:=["wire_rows","part_rows","wire_places","part_places","placed_parts"]
noncomputable def glT:List (Str×D):=[("LETTERS",.str "abcdefghijklmnopqrstuvwxyz"),("LONGEST_NAME",.int 6),("GREATEST_VALUE",.int 3),("MOST_WIRES",.int 8),("MOST_WORLDS",.int 2048),("MOST_PARTS",.int 7),("MOST_TIES",.int 24),("MOST_MODES",.int 1024),("MOST_WAYS",.int 3),("MOST_WAY_TIES",.int 6)]
noncomputable def La:List (Key×D):=[(.inr "same",.int 2),(.inr "turned",.int 2),(.inr "least",.int 3),(.inr "most",.int 3),(.inr "sum",.int 3),(.inr "pick",.int 4)]
noncomputable def MB:List (Key×D):=[(.inr "fixed",.fn "fixed_holds"),(.inr "same",.fn "same_holds"),(.inr "turned",.fn "turned_holds"),(.inr "least",.fn "least_holds"),(.inr "most",.fn "most_holds"),(.inr "sum",.fn "sum_holds"),(.inr "pick",.fn "pick_holds"),(.inr "rows",.fn "rows_hold")]
noncomputable def TB:Ld where
 gl:=glT
 xf:=[("NoWorlds",[])]
 ub:=[("RuntimeError",["NoWorlds"])]
 ic:=[("Work",fields)]
 mt:=[("Work","__init__","Work.__init__"),("Work","wires","Work.wires"),("Work","wire_number","Work.wire_number"),("Work","__len__","Work.__len__")]
 kd:=[("WIRES_BEHIND",La),("TESTS",MB)]
 kt:=[("LOOK_WORDS",["is","isnt"])]
 tab:=tab
noncomputable abbrev Pg:fE:=TB.pg
end K32
namespace K32
def low (a b:Nat):Nat×Nat:=(a/bL a b,b/bL a b)
theorem eO {a b c d:Nat}(hb:0<b)(hd:0<d)(h:a*d=c*b):low a b=low c d:=by
 have g1:0<bL a b:=gH _ hb;have g2:0<bL c d:=gH _ hd;have c1:=jT g1;have c2:=jT g2;obtain⟨a',ha⟩:=mq a b;obtain⟨b',hb'⟩:=fT a b;obtain⟨c',hc⟩:=mq c d;obtain⟨d',hd'⟩:=fT c d;have ea:a/bL a b=a':=by rw[dh g1 ha]
 have eb:b/bL a b=b':=by rw[dh g1 hb']
 have ec:c/bL c d=c':=by rw[dh g2 hc]
 have ed:d/bL c d=d':=by rw[dh g2 hd']
 unfold low;rw[ea,eb,ec,ed];rw[ea,eb]at c1;rw[ec,ed]at c2;have hx:a'*d'=c'*b':=by
  have:(bL a b*bL c d)*(a'*d')=(bL a b*bL c d)*(c'*b'):=by
   have q:(bL a b*a')*(bL c d*d')=(bL c d*c')*(bL a b*b'):=by rw[←ha,←hb',←hc,←hd'];exact h
   calc (bL a b*bL c d)*(a'*d')=(bL a b*a')*(bL c d*d'):=by ac_rfl
    _=(bL c d*c')*(bL a b*b'):=q
    _=(bL a b*bL c d)*(c'*b'):=by ac_rfl
  exact Nat.eq_of_mul_eq_mul_left (bx g1 g2) this
 have d1:b' ∣ d':=by
  have:b' ∣ a'*d':=by rw[hx];exact Nat.dvd_mul_left _ _
  exact Nat.Coprime.dvd_of_dvd_mul_left c1.symm this
 have d2:d' ∣ b':=by
  have:d' ∣ c'*b':=by rw[←hx];exact Nat.dvd_mul_left _ _
  exact Nat.Coprime.dvd_of_dvd_mul_left c2.symm this
 have e1:b'=d':=Nat.dvd_antisymm d1 d2;have bp:0<b':=by
  cases b' with
  |zero=>rw[Nat.mul_zero]at hb';lia
  |succ n=>exact Nat.succ_pos n
 have e2:a'=c':=by rw[←e1]at hx;exact Nat.eq_of_mul_eq_mul_right bp hx
 rw[e1,e2]
theorem da (a b:Nat)(hb:0<b):(low a b).1*b=a*(low a b).2/\0<(low a b).2/\bL (low a b).1 (low a b).2=1/\(low a b).2<=b/\(low a b).1<=a:=by
 have g1:0<bL a b:=gH _ hb;obtain⟨a',ha⟩:=mq a b;obtain⟨b',hb'⟩:=fT a b;have ea:a/bL a b=a':=by rw[dh g1 ha]
 have eb:b/bL a b=b':=by rw[dh g1 hb']
 refine⟨?_,Nat.div_pos (dM hb (fT a b)) g1,jT g1,y3 _ _,y3 _ _⟩;show a/bL a b*b=a*(b/bL a b);rw[ea,eb]
 calc a'*b=a'*(bL a b*b'):=by rw[←hb']
  _=(bL a b*a')*b':=by ac_rfl
  _=a*b':=by rw[←ha]
theorem qG {a b:Nat}(ha:0<a)(hb:0<b):0<(low a b).1:=by
 obtain⟨h,h2,_⟩:=da a b hb;cases e:(low a b).1 with
 |zero=>
  rw[e,Nat.zero_mul]at h;have:=bx ha h2
  lia
 |succ n=>exact Nat.succ_pos n
def plus (p q:Nat×Nat):Nat×Nat:=low (p.1*q.2+q.1*p.2) (p.2*q.2)
def times (p q:Nat×Nat):Nat×Nat:=low (p.1*q.1) (p.2*q.2)
def over (p q:Nat×Nat):Nat×Nat:=low (p.1*q.2) (p.2*q.1)
theorem xT {x u n:Nat}(hn:0<n):plus (low x n) (low u n)=low (x+u) n:=by
 obtain⟨h1,p1,_⟩:=da x n hn;obtain⟨h2,p2,_⟩:=da u n hn;unfold plus;refine eO (bx p1 p2) hn ?_;rw[hJ,hJ]
 congr 1
 ·calc (low x n).1*(low u n).2*n=((low x n).1*n)*(low u n).2:=by ac_rfl
   _=x*((low x n).2*(low u n).2):=by rw[h1];ac_rfl
 ·calc (low u n).1*(low x n).2*n=((low u n).1*n)*(low x n).2:=by ac_rfl
   _=u*((low x n).2*(low u n).2):=by rw[h2];ac_rfl
theorem uz {x n u m:Nat}(hn:0<n)(hm:0<m):times (low x n) (low u m)=low (x*u) (n*m):=by
 obtain⟨h1,p1,_⟩:=da x n hn;obtain⟨h2,p2,_⟩:=da u m hm;unfold times;refine eO (bx p1 p2) (bx hn hm) ?_
 calc (low x n).1*(low u m).1*(n*m)=((low x n).1*n)*((low u m).1*m):=by ac_rfl
  _=x*u*((low x n).2*(low u m).2):=by rw[h1,h2];ac_rfl
theorem GD {x n u m:Nat}(hn:0<n)(hm:0<m)(hu:0<u):over (low x n) (low u m)=low (x*m) (n*u):=by
 obtain⟨h1,p1,_⟩:=da x n hn;obtain⟨h2,p2,_⟩:=da u m hm;unfold over;refine eO (bx p1 (qG hu hm)) (bx hn hu) ?_
 calc (low x n).1*(low u m).2*(n*u)=((low x n).1*n)*(u*(low u m).2):=by ac_rfl
  _=x*(low x n).2*((low u m).1*m):=by rw[h1,h2]
  _=x*m*((low x n).2*(low u m).1):=by ac_rfl
theorem C8 {x n u:Nat}(hn:0<n)(hu:0<u):over (low x n) (low u n)=low x u:=by
 rw[GD hn hn hu];exact eO (bx hn hu) hu (by ac_rfl)
end K32
namespace K32
open PySem PySem.Spec PyProof.Rows PySem.W L2
local macro_rules
|`(#[ ])=>`(.nil)
|`(#[ $x ])=>`(.cons $x .nil)
|`(#[ $x,$xs,* ])=>`(.cons $x #[ $xs,* ])
local macro_rules
|`(#v[ ])=>`([])
|`(#v[ $x ])=>if x.raw.isIdent && x.raw.getId==`none then `([none]) else `([some $x])
|`(#v[ $x,$xs,* ])=>if x.raw.isIdent && x.raw.getId==`none then `(none :: #v[ $xs,* ]) else `((some $x) :: #v[ $xs,* ])
section
theorem DI:Pg.defs "divisor"=some pd:=rfl
theorem AG:Pg.defs "fraction"=some rY:=rfl
theorem AE:Pg.defs "multiple"=some rW:=rfl
theorem tV:Pg.defs "is_fraction"=some mF:=rfl
theorem wM:Pg.defs "whole_from"=some nN:=rfl
theorem qp:Pg.defs "on_one_bottom"=some kr:=rfl
theorem AI:Pg.defs "_law_low"=some r9:=rfl
theorem yL:Pg.defs "_law_plus"=some pY:=rfl
theorem wO:Pg.defs "_law_times"=some nR:=rfl
theorem yM:Pg.defs "_law_over"=some pZ:=rfl
theorem yO:Pg.defs "_law_draw"=some jn:=rfl
theorem yN:Pg.defs "_law_hand"=some jm:=rfl
theorem tW:Pg.defs "_law_shares"=some mG:=rfl
section
variable {Γ:mh}
theorem Zr {i:Nat}:WM Γ (.v i)=mV i:=by rfl
theorem Zt {i:Int}:WM Γ (.int i)=mC (.int i):=by rfl
theorem Zu {o:Op2}{a b:MX}:WM Γ (.bin o a b)=mOp (jy o) (WM Γ a) (WM Γ b):=by rfl
theorem aa7 {o:Op2}{a b:MX}:WM Γ (.cmp o a b)=mOp (jy o) (WM Γ a) (WM Γ b):=by rfl
theorem ZX {a b:MX}:WM Γ (.ix a b)=mOp gIx (WM Γ a) (WM Γ b):=by rfl
theorem aa5 {r:Bool}{a:Xr}:WM Γ (.lst r a)=mB (qe r) (Xi Γ a):=by rfl
theorem aa3 {r:Bool}{a:MX}{l h:MO}:WM Γ (.sl r a l h)=mSl r (WM Γ a) (evO Γ l) (evO Γ h):=by rfl
theorem aa6 {b:Bif}{a:Xr}:WM Γ (.bif b a)=mB (ql b) (Xi Γ a):=by rfl
theorem Zf:Xi Γ .nil=sg:=by rfl
theorem Ze {a:MX}{r:Xr}:Xi Γ (.cons a r)=si (WM Γ a) (Xi Γ r):=by rfl
theorem aa4 {a:MX}:evO Γ (.some a)=oS (WM Γ a):=by rfl
theorem ZR {o:Op2}{a b:MX}:evT Γ (.cmp o a b)=tru (mOp (jy o) (WM Γ a) (WM Γ b)):=by rfl
theorem ZY {i:Nat}:XB Γ (.nm i)=nG i:=by rfl
theorem Z2 {a b:MX}:XB Γ (.sub a b)=BO (WM Γ a) (WM Γ b):=by rfl
theorem Zh:cN Γ .nil=uT:=by rfl
theorem Zg {s:MSt}{r:MSs}:cN Γ (.cons s r)=k9 (Xj Γ s) (cN Γ r):=by rfl
theorem Y9 {g:MG}{a:MX}:Xj Γ (.asg g a)=kC (WM Γ a) (XB Γ g):=by rfl
theorem Yy {a:MX}:Xj Γ (.ret a)=sf (WM Γ a):=by rfl
theorem ZS {t:MT}{a b:MSs}:Xj Γ (.W9 t a b)=pe (evT Γ t) (cN Γ a) (cN Γ b):=by rfl
theorem Y8 {k:Nat}{t:MT}{b:MSs}:Xj Γ (.whl k t b)=jU (evT Γ t) (cN Γ b) k:=by rfl
theorem Zs {i j:Nat}{x y:Str}{a:Xr}:Xj Γ (.par i x j y a)=Ad i j (Xi Γ a):=by rfl
end
theorem pD {c:FT}{body:FS}{i j:Nat}{δ:cO}(hij:i≠j)(hi:i<δ.length)(hj:j<δ.length)
  (hc:∀(δ:cO)(b:Nat) M,δ[j]?=some (some (.int b))->c δ M=some (.ok (decide (0<b)) M))
  (hb:∀(δ:cO)(a b:Nat) M,0<b->δ[i]?=some (some (.int a))->δ[j]?=some (some (.int b))->body δ M=some (.nx ((δ.set i (some (.int b))).set j (some (.int (a % b:Nat)))) M)):
  ∀(fuel a b:Nat)(M:MS),b<fuel->jU c body fuel ((δ.set i (some (.int a))).set j (some (.int b))) M=some (.nx ((δ.set i (some (.int (bL a b)))).set j (some (.int 0))) M)
 | 0,_,_,_,h=>absurd h (jC _)
 |fuel+1,a,b,M,h=>by
  have e1:((δ.set i (some (D.int a))).set j (some (.int b)))[j]?=some (some (.int b)):=dj (by simpa using hj);have e2:((δ.set i (some (D.int a))).set j (some (.int b)))[i]?=some (some (.int a)):=by rw[ji (Ne.symm hij)];exact dj hi
  unfold jU;rw[hc _ b M e1];simp only[Qu]
  by_cases hb0:0<b
  ·rw[if_pos (by simpa using hb0),hb _ a b M hb0 e2 e1];have q:((((δ.set i (some (D.int a))).set j (some (.int b))).set i (some (.int b))).set j (some (.int (a % b:Nat))))=(δ.set i (some (.int b))).set j (some (.int (a % b:Nat))):=by
    rw[List.set_comm _ _ hij.symm,List.set_set,List.set_set]
   rw[q];have:=pD hij hi hj hc hb fuel b (a % b) M (by have:=Nat.mod_lt a hb0;lia);simp only[this];rw[Nat.gcd_comm b,←Nat.gcd_rec,Nat.gcd_comm]
  ·have:b=0:=by lia
   subst this;rw[if_neg (by simp)];simp
section
variable {k:Nat}{M:MS}
theorem pK (a b:Nat)(hb:b<18446744073709551616):bY Pg (k+1) "divisor" [.int a,.int b] M=some (.ok (.int (bL a b)) M):=by
 rw[dF DI];have w:=λ(c:FT)(body:FS) hc hb'=>pD (c:=c) (body:=body) (i:=0) (j:=1) (δ:=[none,none]) (by decide) (by decide) (by decide) hc hb' 18446744073709551616 a b M hb;simp only[pd,iV,mFn,Zh,Zg,Y8,Yy,aN,cY,bN,if_true,aM,bV,bg,k9,Nat.reduceAdd,Nat.sub_self,List.replicate_zero];rw[show(#v[D.int a,D.int b]:cO)=(([none,none]:cO).set 0 (some (.int a))).set 1 (some (.int b)) from rfl,w]
 ·simp[iV,mFn,Zh,Zg,Y8,Zs,Yy,ZR,Zr,Zt,Zu,Zf,Ze,An,k9,pe,Ae,Aa,Cz,tru,mOp,mB,si,sg,mV,mC,mUn,rb,sb,re,kC,sf,nV,nG,uO,oY,uP,jP,sN,jy,ql,gI,gI0,gIx,gJ,atI,ixN,sj,qa,yq,Ad,n5,bT,uT]
 ·intro δ b M h;simp[iV,mFn,Zh,Zg,Y8,Zs,Yy,ZR,Zr,Zt,Zu,Zf,Ze,An,k9,pe,Ae,Aa,Cz,tru,mOp,mB,si,sg,mV,mC,mUn,rb,sb,re,kC,sf,nV,nG,uO,oY,uP,jP,sN,jy,ql,gI,gI0,gIx,gJ,atI,ixN,sj,qa,yq,Ad,n5,bT,uT,h]
 ·intro δ a b M hb0 h1 h2;have:(0:Int)<b:=by lia
  simp[iV,mFn,Zh,Zg,Y8,Zs,Yy,ZR,Zr,Zt,Zu,Zf,Ze,An,k9,pe,Ae,Aa,Cz,tru,mOp,mB,si,sg,mV,mC,mUn,rb,sb,re,kC,sf,nV,nG,uO,oY,uP,jP,sN,jy,ql,gI,gI0,gIx,gJ,atI,ixN,sj,qa,yq,Ad,n5,bT,uT,h1,h2,this,hb0]
def fr (p:Nat×Nat):D:=.tup [.int p.1,.int p.2]
def lc (a b:Nat):Nat:=a/bL a b*b
theorem OH {a b:Nat}(hb:0<b):0<bL a b:=gH _ hb
theorem gle {a b:Nat}(hb:0<b):bL a b<=b:=dM hb (fT a b)
theorem qL {a:Int}{g:Nat}(h0:0<g)(h1:g<1073741824):ma a g=true:=by
 simp only[ma,ag,decide_eq_true_eq]
 lia
theorem Cg {a:Nat}{b:Int}(h1:a<18446744073709551616):jg a b=true:=by
 simp only[jg,cz,ag,decide_eq_true_eq]
 lia
end
end
section
variable {k:Nat}{M:MS}
theorem le2:(2:Nat)<=au:=by rw[bT];decide
theorem XJ {n:Nat}(h:n<=1000):n<=au:=by rw[bT];lia
theorem mW:(Pg.defs "divisor").isSome=true:=rfl
theorem Ao:(Pg.defs "_law_low").isSome=true:=rfl
theorem yw:(Pg.defs "multiple").isSome=true:=rfl
theorem G2 (a b:Nat):fr (low a b)=.tup [.int ((a:Int)/(bL a b:Nat)),.int ((b:Int)/(bL a b:Nat))]:=rfl
theorem sV (a b:Nat)(h0:0<b)(hb:b<1073741824):bY Pg (k+2) "fraction" [.int a,.int b] M=some (.ok (fr (low a b)) M):=by
 have q:∀x:Int,ma x (bL a b)=true:=λx=>qL (OH h0) (fG (gle h0) hb);rw[G2];exact dP AG rfl rfl rfl ((be (bF ((bD mW (ar rfl (ar rfl aU))).trans (pK a b (by lia))))).trans
  (fO (eF (fQ (ar (iN rfl rfl (q _)) (ar (iN rfl rfl (q _)) aU)) le2))))
theorem gC {a b:Nat}(h1:a<18446744073709551616):jg (a:Int) (b:Int)=true:=Cg h1
theorem MZ {Γ:mh}{n:Nat}{t:MT}{b:MSs}{δ:cO}{o:Option Out}(h:jU (evT Γ t) (cN Γ b) n δ M=o):Xj Γ (.whl n t b) δ M=o:=h
theorem gq (a b:Nat)(h0:0<b)(hb:b<1073741824):bY Pg (k+1) "_law_low" [.int a,.int b] M=some (.ok (fr (low a b)) M):=by
 have q:∀x:Int,ma x (bL a b)=true:=λx=>qL (OH h0) (fG (gle h0) hb);have w:=λ(c:FT)(body:FS) hc hb'=>pD (c:=c) (body:=body) (i:=2) (j:=3) (δ:=#v[.int a,.int b,none,none]) (by decide) (by simp) (by simp) hc hb' 18446744073709551616 a b M (by lia);rw[G2];refine dP AI rfl rfl rfl ((be (bF rfl)).trans ((be (bF rfl)).trans ((be (MZ (w _ _ ?_ ?_))).trans (fO (eF (fQ (ar (iN rfl rfl (q _)) (ar (iN rfl rfl (q _)) aU)) le2))))))
 ·intro δ b M h;refine(ko (x:=.int b) (y:=.int 0) (v:=decide (0<b)) (KW h) rfl ?_);show some (Rs.ok (D.bl (decide ((0:Int)<b))) M)=_;simp
 ·intro δ a b M hb0 h1 h2;refine(be ?_).trans rfl;show Ad 2 3 _ δ M=_;unfold Ad;rw[ar (KW h2) (ar (OP (KW h1) (KW h2) (by lia)) aU)];rfl
end
section
variable {k:Nat}{M:MS}
theorem wC (a b:Nat):lc a b=Nat.lcm a b:=Nat.div_mul_right_comm (mq a b) b
def lcs (ds:List Nat):Nat:=ds.foldl lc 1
theorem Ay {B:Nat}:∀(ds:List Nat)(l:Nat),l ∣ B->(∀d∈ds,d ∣ B)->ds.foldl lc l ∣ B
 | [],l,h,_=>h
 |d::ds,l,h,hd=>by
  refine Ay ds (lc l d) ?_ λx hx=>hd x (aJ _ hx);rw[wC];exact Nat.lcm_dvd h (hd d aR)
theorem HD:∀(ds:List Nat)(l:Nat),l ∣ ds.foldl lc l/\∀d∈ds,d ∣ ds.foldl lc l
 | [],l=>⟨Nat.dvd_refl l,λ_ h=>nomatch h⟩
 |d::ds,l=>by
  obtain⟨h1,h2⟩:=HD ds (lc l d);refine⟨Nat.dvd_trans (by rw[wC];exact Nat.dvd_lcm_left l d) h1,λx hx=>?_⟩;rcases List.mem_cons.mp hx with rfl|hx
  ·exact Nat.dvd_trans (by rw[wC];exact Nat.dvd_lcm_right l x) h1
  ·exact h2 x hx
theorem OS {d B:Nat}(h:d ∣ B)(hB:0<B):0<d:=Nat.pos_of_dvd_of_pos h hB
def SD:MSs:=.cons (.asg (.nm 1) (.bin .mul (.bin .fdiv (.v 1) (.call "divisor" #[.v 1,.v 2])) (.v 2))) .nil
theorem yd {N:D}{it:L2.XI}{B:Nat}(hs:it.src=none)(hB:0<B)(hB2:B<1073741824):∀(ds:List Nat)(l:Nat)(x:Option D),l ∣ B->(∀d∈ds,d ∣ B)->
  ∃x',jo it (XB (Pg.env (k+1)) (.nm 2)) (cN (Pg.env (k+1)) SD) (ds.map λd:Nat=>D.int d) [some N,some (.int l),x] M=some (.nx [some N,some (.int (ds.foldl lc l:Nat)),x'] M)
 | [],l,x,_,_=>⟨x,rfl⟩
 |d::ds,l,x,hl,hd=>by
  have d0:=OS (hd d aR) hB;have dB:=dM hB (hd d aR);have lB:=dM hB hl;obtain⟨x',e⟩:=yd hs hB hB2 ds (lc l d) (some (.int d)) (by rw[wC];exact Nat.lcm_dvd hl (hd d aR)) λy hy=>hd y (aJ _ hy);refine⟨x',(j6 (δ1:=#v[N,.int l,.int d]) (M1:=M) rfl ?_ (et hs)).trans e⟩;have q:ma (l:Int) (bL l d:Nat)=true:=qL (OH d0) (by have:=gle (a:=l) d0;lia);have q2:jg ((l:Int)/(bL l d:Nat)) (d:Int)=true:=gC (a:=l/bL l d) (by have:=y3 l (bL l d);lia);exact(be (bF (iA (iN rfl ((bD mW (ar rfl (ar rfl aU))).trans (pK l d (by lia))) q) rfl q2))).trans rfl
theorem AR {B:Nat}(hB:0<B)(hB2:B<1073741824)(ds:List Nat)(hd:∀d∈ds,d ∣ B):bY Pg (k+2) "multiple" [.lst (ds.map λd:Nat=>D.int d)] M=some (.ok (.int (lcs ds)) M):=by
 obtain⟨x',e⟩:=yd (k:=k) (M:=M) (N:=.lst (ds.map λd:Nat=>D.int d)) (it:=⟨ds.map λd:Nat=>D.int d,none⟩) rfl hB hB2 ds 1 none (Nat.one_dvd _) hd;exact dP AE rfl rfl rfl ((be (bF rfl)).trans ((be (kR (df rfl) e)).trans (fO (eF rfl))))
def tp (L:Nat)(p:Nat×Nat):Nat:=p.1*(L/p.2)
theorem yW {it:L2.XI}{Γ:mh}(hs:it.src=none):∀(ps:List (Nat×Nat))(x y:Option D),de it (XB Γ (.tup #[.nm 0,.nm 1])) (iq Γ .nil) (WM Γ (.v 1)) (ps.map fr) [x,y] M=some (ps.map λp=>D.int p.2,M)
 | [],x,y=>rfl
 |p::ps,x,y=>eS (δ1:=#v[.int p.1,.int p.2]) (M1:=M) (M2:=M) (M3:=M) rfl rfl rfl (et hs) (yW hs ps _ _)
theorem xw {it:L2.XI}{Γ:mh}{L:Nat}(hs:it.src=none):∀(ps:List (Nat×Nat))(x y:Option D),(∀p∈ps,0<p.2/\p.2<1073741824/\p.1<18446744073709551616)->
  de it (XB Γ (.tup #[.nm 0,.nm 1])) (iq Γ .nil) (WM Γ (.bin .mul (.v 0) (.bin .fdiv (.v 2) (.v 1)))) (ps.map fr) [x,y,some (.int L)] M=some (ps.map λp=>D.int (tp L p),M)
 | [],x,y,_=>rfl
 |p::ps,x,y,h=>by
  obtain⟨h1,h2,h3⟩:=h p aR;have q1:ma (L:Int) (p.2:Int)=true:=qL h1 h2;have q2:jg (p.1:Int) ((L:Int)/(p.2:Int))=true:=Cg h3;exact eS (δ1:=#v[.int p.1,.int p.2,.int L]) (M1:=M) (M2:=M) (M3:=M) rfl rfl (iA rfl (iN rfl rfl q1) q2) (et hs) (xw hs ps _ _ λy hy=>h y (aJ _ hy))
theorem qv {B:Nat}(hB:0<B)(hB2:B<1073741824)(ps:List (Nat×Nat))(hn:ps.length<=1000)(h:∀p∈ps,p.2 ∣ B/\p.1<18446744073709551616):
  bY Pg (k+3) "on_one_bottom" [.lst (ps.map fr)] M=some (.ok (.tup [.lst (ps.map λp=>D.int (tp (lcs (ps.map (·.2))) p)),.int (lcs (ps.map (·.2)))]) M):=by
 have hm:=AR (k:=k) (M:=M) hB hB2 (ps.map (·.2)) (λd hd=>by obtain⟨p,hp,rfl⟩:=List.mem_map.mp hd;exact(h p hp).1);have e1:((ps.map (·.2)).map λd:Nat=>D.int d)=ps.map λp=>D.int p.2:=by rw[iI];rfl
 rw[e1]at hm;refine dP qp rfl rfl rfl ((be (bF ((bD yw (ar (cI (df rfl) (yW rfl ps _ _) (by rw[aP];exact XJ hn)) aU)).trans hm))).trans
  (fO (eF (fQ (ar (cI (df rfl) (xw rfl ps _ _ λp hp=>?_) (by rw[aP];exact XJ hn)) (ar rfl aU)) le2))))
 have:=(h p hp).1;exact⟨OS this hB,fG (dM hB this) hB2,(h p hp).2⟩
theorem ou (n lo:Nat)(h:lo<=n):bY Pg (k+1) "whole_from" [.int n,.int lo] M=some (.ok (.bl true) M):=by
 refine dP wM rfl rfl rfl (fO (eF ((qO rfl).trans ((qO rfl).trans (Mp.trans (AA (o:=.le) rfl rfl ?_))))));show some (Rs.ok (D.bl (decide ((lo:Int)<=n))) M)=_;rw[decide_eq_true (by lia)]
theorem t9 (p:Nat×Nat)(h1:0<p.2)(h2:p.2<1073741824)(h3:bL p.1 p.2=1):bY Pg (k+2) "is_fraction" [fr p] M=some (.ok (.bl true) M):=by
 refine dP tV rfl rfl rfl ((lU (M1:=M) ?_).trans (fO (eF ((qO (M1:=M) ?_).trans ((qO (M1:=M) ?_).trans (Mp.trans (AA (x:=.int (1:Nat)) (y:=.int 1) (M1:=M) (M2:=M) ?_ rfl ?_)))))))
 ·kernel_rfl
 ·exact(bD rfl (ar rfl (ar rfl aU))).trans (ou p.1 0 (bG _))
 ·exact(bD rfl (ar rfl (ar rfl aU))).trans (ou p.2 1 h1)
 ·have q:=pK (k:=k) (M:=M) p.1 p.2 (by lia);rw[h3]at q;exact(bD mW (ar rfl (ar rfl aU))).trans q
 ·kernel_rfl
end
section
variable {k:Nat}{M:MS}
noncomputable def plc:D:=.XF [(.inr "in",.int 0),(.inr "out",.int 1)]
noncomputable def WK:D:=.ins "Work" [("wire_rows",.lst [.tup [.str "in",.int 2],.tup [.str "out",.int 2]]),("part_rows",.lst [.tup [.str "p",.lst [.tup [.str "same",.str "out",.str "in"]]]]),("wire_places",plc),("part_places",.XF [(.inr "p",.int 0)]),("placed_parts",.lst [.lst [.tup [.str "same",.lst [.int 1,.int 0],.int 2]]])]
noncomputable def tF0:D:=.lst [.tup [.str "fixed",.str "out",.int 0]]
noncomputable def tF1:D:=.lst [.tup [.str "fixed",.str "out",.int 1]]
noncomputable def tFF:D:=.lst [.tup [.str "fixed",.str "out",.int 0],.tup [.str "fixed",.str "in",.int 1]]
noncomputable def tTu:D:=.lst [.tup [.str "turned",.str "out",.str "in"]]
noncomputable def tNo:D:=.lst []
theorem Ie:Pg.defs "is_way"=some yn:=rfl
theorem AH:Pg.defs "are_ways"=some rZ:=rfl
theorem wN:Pg.defs "check_ways"=some nP:=rfl
theorem lV:Pg.defs "choices"=some uR:=rfl
theorem RP {i j:Int}{M:MS}(h:i≠j):jy .eq (.int i) (.int j) M=some (.ok (.bl false) M):=by
 refine(KS (g:=id)).trans ?_;simp[h]
noncomputable def TOK (k:Nat)(t:D):Prop:=∀(p:D)(M:MS),∃ts:List D,t=.lst ts/\
 evT (Pg.env (k+20)) (.cmp .gt (.bif .len #[.v 3]) (.g "MOST_WAY_TIES")) #v[.tup [p,t],plc,p,t] M=some (.ok false M)/\
 WM (Pg.env (k+20)) (.bif .all #[.comp false ["tie"] ["names"] [1] (.lst (.v 3)) (.nm 0) .nil (.call "is_tie" #[.v 0,.v 1])]) #v[.tup [p,t],plc,p,t] M=some (.ok (.bl true) M)
theorem LU:TOK k tF0:=λp M=>⟨_,rfl,by kernel_rfl,by kernel_rfl⟩
theorem GF:TOK k tF1:=λp M=>⟨_,rfl,by kernel_rfl,by kernel_rfl⟩
theorem Ri:TOK k tFF:=λp M=>⟨_,rfl,by kernel_rfl,by kernel_rfl⟩
theorem Rg:TOK k tTu:=λp M=>⟨_,rfl,by kernel_rfl,by kernel_rfl⟩
theorem Rh:TOK k tNo:=λp M=>⟨_,rfl,by kernel_rfl,by kernel_rfl⟩
theorem IF (p:Nat×Nat)(t:D)(ht:TOK k t)(h0:0<p.1)(h1:0<p.2)(h2:p.2<1073741824)(h3:bL p.1 p.2=1):bY Pg (k+21) "is_way" [.tup [fr p,t],plc] M=some (.ok (.bl true) M):=by
 obtain⟨ts,e,a1,a2⟩:=ht (fr p) M;refine dP Ie rfl rfl rfl ((lU (M1:=M) ?_).trans ((be (jY (d:=.tup [fr p,t]) (M1:=M) (δ1:=#v[.tup [fr p,t],plc,fr p,t]) (M2:=M) rfl rfl)).trans ((lU (M1:=M) ?_).trans (fO (eF a2)))))
 ·kernel_rfl
 ·refine(kP (M1:=M) (xA (v:=true) (xx ((bD rfl (ar rfl aU)).trans (t9 p h1 h2 h3))))).trans ((kP (M1:=M) (ko (x:=.int p.1) (y:=.int 0) (M1:=M) (M2:=M) rfl rfl (RP (by lia)))).trans ((kP (M1:=M) ?_).trans (xy.trans a1)));subst e;rfl
noncomputable def WD (B:Nat)(ws:List (Nat×D)):List D:=ws.map λw=>D.tup [fr (low w.1 B),w.2]
noncomputable def LL (B:Nat)(ws:List (Nat×D)):Nat:=lcs ((ws.map λw=>low w.1 B).map (·.2))
noncomputable def Xa (B:Nat)(ws:List (Nat×D)):List Nat:=ws.map λw=>tp (LL B ws) (low w.1 B)
theorem wo (a b:Nat):(low a b).2 ∣ b:=Nat.div_dvd_of_dvd (fT a b)
theorem m7 {B:Nat}(hB:0<B)(ws:List (Nat×D)):0<LL B ws:=OS (B:=B) (Ay _ _ (Nat.one_dvd _) (λd hd=>by
 obtain⟨p,hp,rfl⟩:=List.mem_map.mp hd;obtain⟨w,hw,rfl⟩:=List.mem_map.mp hp;exact wo _ _)) hB
theorem pO {B:Nat}(ws:List (Nat×D)):LL B ws ∣ B:=Ay _ _ (Nat.one_dvd _) (λd hd=>by
 obtain⟨p,hp,rfl⟩:=List.mem_map.mp hd;obtain⟨w,hw,rfl⟩:=List.mem_map.mp hp;exact wo _ _)
theorem P7 {B s L:Nat}(hB:0<B)(h:(low s B).2 ∣ L):tp L (low s B)*B=s*L:=by
 obtain⟨h1,h2,_⟩:=da s B hB;obtain⟨c,rfl⟩:=h;unfold tp;rw[Nat.mul_div_cancel_left _ h2]
 calc (low s B).1*c*B=((low s B).1*B)*c:=by ac_rfl
  _=s*((low s B).2*c):=by rw[h1];ac_rfl
theorem iJ {B:Nat}(hB:0<B)(ws:List (Nat×D))(w:Nat×D)(hw:w∈ws):tp (LL B ws) (low w.1 B)*B=w.1*LL B ws:=
 P7 hB ((HD _ 1).2 _ (List.mem_map.mpr ⟨low w.1 B,List.mem_map.mpr ⟨w,hw,rfl⟩,rfl⟩))
theorem By {B L:Nat}(f:Nat×D->Nat):∀(ws:List (Nat×D)),(∀w∈ws,f w*B=w.1*L)->(ws.map f).sum*B=(ws.map (·.1)).sum*L
 | [],_=>by simp
 |w::ws,h=>by
  simp only[aM,ez,hJ];rw[h w aR,By f ws λx hx=>h x (aJ _ hx)]
theorem Br {B:Nat}(hB:0<B)(ws:List (Nat×D)):(Xa B ws).sum*B=(ws.map (·.1)).sum*LL B ws:=By _ ws λw hw=>iJ hB ws w hw
theorem iT {B:Nat}(hB:0<B)(ws:List (Nat×D))(h:(ws.map (·.1)).sum<B):(Xa B ws).sum<LL B ws:=by
 have e:=Br hB ws;have p:=m7 hB ws;have:(Xa B ws).sum*B<LL B ws*B:=by rw[e,Nat.mul_comm (LL B ws)];exact Nat.mul_lt_mul_of_pos_right h p
 exact Nat.lt_of_mul_lt_mul_right this
theorem yC:∀(ns:List Nat),intsOf (ns.map λn:Nat=>D.int n)=some (ns.map λn:Nat=>(n:Int))
 | []=>rfl
 |n::ns=>by
  show(intsOf (ns.map λn:Nat=>D.int n)).map _=_;rw[yC ns];rfl
theorem sum_nat:∀(ns:List Nat),(ns.map λn:Nat=>(n:Int)).sum=((ns.sum:Nat):Int)
 | []=>rfl
 |n::ns=>by
  simp only[aM,ez];rw[sum_nat ns];lia
theorem oy (ns:List Nat):ql .sum [.lst (ns.map λn:Nat=>D.int n)] M=some (.ok (.int (ns.sum:Nat)) M):=by
 show(match intsOf (ns.map λn:Nat=>D.int n) with |some ns=>some (Rs.ok (D.int ns.sum) M)|none=>none)=_;rw[yC,←sum_nat]
theorem yU {B:Nat}(hB:0<B)(hB2:B<1073741824)(ws:List (Nat×D))(hn:ws.length<=1000)(hs:∀w∈ws,w.1<=B):
  bY Pg (k+3) "on_one_bottom" [.lst (ws.map λw=>fr (low w.1 B))] M=some (.ok (.tup [.lst ((Xa B ws).map λn:Nat=>D.int n),.int (LL B ws)]) M):=by
 have:=qv (k:=k) (M:=M) hB hB2 (ws.map λw=>low w.1 B) (by rw[aP];exact hn) (λp hp=>by
  obtain⟨w,hw,rfl⟩:=List.mem_map.mp hp;have:=(da w.1 B hB).2.2.2.2;have:=hs w hw;exact⟨wo _ _,by lia⟩)
 rw[iI]at this;rw[iI]at this;show _=some (Rs.ok (D.tup [.lst (List.map (λn:Nat=>D.int n) (List.map _ ws)),_]) M);rw[iI];exact this
theorem lP {it:L2.XI}{Γ:mh}{B:Nat}(hs:it.src=none):∀(ws:List (Nat×D))(x y:Option D),de it (XB Γ (.tup #[.nm 0,.nm 1])) (iq Γ .nil) (WM Γ (.v 0)) (WD B ws) [x,y] M=some (ws.map λw=>fr (low w.1 B),M)
 | [],x,y=>rfl
 |w::ws,x,y=>eS (δ1:=#v[fr (low w.1 B),w.2]) (M1:=M) (M2:=M) (M3:=M) rfl rfl rfl (et hs) (lP hs ws _ _)
structure WOK (B:Nat)(ws:List (Nat×D)):Prop where
 pos:0<B
 sm:B<1073741824
 len:ws.length<=3
 le:∀w∈ws,0<w.1/\w.1<=B
 ties:∀w∈ws,∀k,TOK k w.2
 sum:(ws.map (·.1)).sum<B
theorem xn {it:L2.XI}{B:Nat}(hs:it.src=none)(h0:0<B)(hB:B<1073741824):∀(ws:List (Nat×D))(x:Option D),(∀w∈ws,0<w.1)->(∀w∈ws,TOK k w.2)->
  de it (XB (Pg.env (k+21)) (.nm 0)) (iq (Pg.env (k+21)) .nil) (WM (Pg.env (k+21)) (.call "is_way" #[.v 0,.v 1])) (WD B ws) [x,some plc] M=some (ws.map λ_=>D.bl true,M)
 | [],x,_,_=>rfl
 |w::ws,x,h1,h2=>by
  obtain⟨_,l2,l3,l4,_⟩:=da w.1 B h0;have:=IF (k:=k) (M:=M) (low w.1 B) w.2 (h2 w aR) (qG (h1 w aR) h0) l2 (by lia) l3;exact eS (δ1:=#v[.tup [fr (low w.1 B),w.2],plc]) (M1:=M) (M2:=M) (M3:=M) rfl rfl ((bD rfl (ar rfl (ar rfl aU))).trans this) (et hs) (xn hs h0 hB ws _ (λy hy=>h1 y (aJ _ hy)) λy hy=>h2 y (aJ _ hy))
theorem sW:∀(ws:List (Nat×D)),bools (ws.map λ_=>D.bl true)=some (ws.map λ_=>true)
 | []=>rfl
 |w::ws=>by
  simp only[aM,bools,sW ws]
theorem SB (ws:List (Nat×D)):ql .all [.lst (ws.map λ_=>D.bl true)] M=some (.ok (.bl true) M):=by
 show(match bools (ws.map λ_=>D.bl true) with |some bs=>some (Rs.ok (D.bl (bs.all id)) M)|none=>none)=_;rw[sW];simp
theorem AX {B:Nat}{ws:List (Nat×D)}(h:WOK B ws):bY Pg (k+22) "are_ways" [.lst (WD B ws),plc] M=some (.ok (.bl true) M):=by
 have hl:(WD B ws).length=ws.length:=aP _;refine dP AH rfl rfl rfl ((lU (M1:=M) ?_).trans ((be (jY (d:=.tup [.lst ((Xa B ws).map λn:Nat=>D.int n),.int (LL B ws)]) (M1:=M) (δ1:=#v[.lst (WD B ws),plc,(.lst ((Xa B ws).map λn:Nat=>D.int n)),.int (LL B ws)]) (M2:=M) ?_ rfl)).trans (fO (eF (AA (o:=.lt) (x:=.int (Xa B ws).sum) (y:=.int (LL B ws)) (M1:=M) (M2:=M) ?_ rfl ?_)))))
 ·refine(kP (M1:=M) rfl).trans ((kP (M1:=M) (ko (o:=.gt) (x:=.int ((WD B ws).length:Nat)) (y:=.int 3) (M1:=M) (M2:=M) rfl rfl ?_)).trans (xy.trans (xA (v:=true) (xx (gS (ar (cI (df rfl) (xn rfl h.pos h.sm ws _ (λw hw=>(h.le w hw).1) λw hw=>h.ties w hw k) (by rw[aP];exact XJ (by have:=h.len;lia))) aU) (SB ws))))));show some (Rs.ok (D.bl (decide ((3:Int)<((WD B ws).length:Nat)))) M)=_;rw[decide_eq_false (by have:=h.len;lia)]
 ·exact(bD rfl (ar (cI (df rfl) (lP rfl ws _ _) (by rw[aP];exact XJ (by have:=h.len;lia))) aU)).trans (yU h.pos h.sm ws (by have:=h.len;lia) λw hw=>(h.le w hw).2)
 ·exact gS (ar rfl aU) (oy (Xa B ws))
 ·show some (Rs.ok (D.bl (decide (((Xa B ws).sum:Int)<(LL B ws:Nat)))) M)=_;rw[decide_eq_true (by have:=iT h.pos ws h.sum;lia)]
end
section
variable {k:Nat}{M:MS}
theorem K0:Pg.defs "modes_with_worlds"=some iK:=rfl
theorem AF:Pg.defs "modes_left"=some nO:=rfl
theorem eU {B:Nat}{ws:List (Nat×D)}(h:WOK B ws):bY Pg (k+23) "check_ways" [WK,.lst [.lst (WD B ws)]] M=some (.ok .WN M):=by
 refine RT (δ:=#v[WK,.lst [.lst (WD B ws)],.int 0,.lst (WD B ws)]) wN rfl rfl rfl ((lU (M1:=M) ?_).trans ((be (kR (M1:=M) (it:=⟨[.tup [.int 0,.lst (WD B ws)]],none⟩) ?_ ((j6 (δ1:=#v[WK,.lst [.lst (WD B ws)],.int 0,.lst (WD B ws)]) (M1:=M) (δ2:=#v[WK,.lst [.lst (WD B ws)],.int 0,.lst (WD B ws)]) (M2:=M) rfl ?_ rfl).trans rfl))).trans rfl))
 ·kernel_rfl
 ·rfl
 ·exact(lU (xA (v:=true) (xx ((bD rfl (ar rfl (ar rfl aU))).trans (AX h))))).trans rfl
noncomputable def same:D:=.lst [.tup [.str "same",.lst [.int 1,.int 0],.int 2]]
noncomputable def w4:D:=.lst [.tup [.int 0,.int 0],.tup [.int 0,.int 1],.tup [.int 1,.int 0],.tup [.int 1,.int 1]]
noncomputable def lk0:D:=.lst []
noncomputable def lk1:D:=.lst [.tup [.str "is",.str "out",.int 0]]
noncomputable def XM:D:=.lst [.tup [.str "is",.str "in",.int 1],.tup [.str "is",.str "out",.int 0]]
noncomputable def lk3:D:=.lst [.tup [.str "is",.str "in",.int 1]]
noncomputable def lk4:D:=.lst [.tup [.str "is",.str "out",.int 0],.tup [.str "is",.str "in",.int 1]]
noncomputable def tTG:MG:=(.tup #[.nm 0,.nm 1])
noncomputable def tE:MX:=(.tup #[.v 0,.lF ["world"] ["ties"] [1] (.lst (.v 2)) (.nm 0) #[.val (.call "all_hold" #[.v 1,.v 0])] (.v 0) (.bl true)])
noncomputable def v3:MSs:=#[.asg (.nm 7) (.call "multiple" #[.rj false ["modes","top","held"] [] [] (.lst (.v 3)) (.tup #[.nm 0,.nm 1,.nm 2]) (.bif .len #[.v 2])]),.ret (.comp false ["modes","top","held"] ["common"] [7] (.lst (.v 3)) (.tup #[.nm 0,.nm 1,.nm 2]) .nil (.tup #[.v 0,.bin .mulR (.v 1) (.bin .fdiv (.v 3) (.bif .len #[.v 2])),.v 2]))]
noncomputable def cTG:MG:=(.tup #[.nm 0,.nm 1,.nm 2])
noncomputable def cE:MX:=(.tup #[.v 0,.v 1,.bif .len #[.comp false ["world"] ["met"] [3] (.lst (.v 2)) (.nm 0) #[.cmp .isin (.v 0) (.v 1)] (.v 0)]])
noncomputable def mT:MSs:=#[.asg (.nm 5) (.comp false ["modes","weight","many"] [] [] (.lst (.v 4)) (.tup #[.nm 0,.nm 1,.nm 2]) #[.cmp .gt (.v 2) (.int 0)] (.tup #[.v 0,.bin .mulR (.v 1) (.v 2)])),.W9 (.not (.val (.v 5))) #[.raise "NoWorlds" .nil] .nil,.ret (.v 5)]
noncomputable def WT (s1 s2 s3:Nat):List (Nat×D):=[(s1,tF0),(s2,tF1),(s3,tNo)]
noncomputable def plS:List D:=[.lst [.tup [.str "fixed",.lst [.int 1],.int 0]],.lst [.tup [.str "fixed",.lst [.int 1],.int 1]],.lst []]
noncomputable def chS (t0 t1 t2 t3:Int):List D:=[.tup [.int t0,same],.tup [.int t1,.lst [.tup [.str "fixed",.lst [.int 1],.int 0]]],.tup [.int t2,.lst [.tup [.str "fixed",.lst [.int 1],.int 1]]],.tup [.int t3,.lst []]]
noncomputable def tbS (t0 t1 t2 t3:Int):List D:=[.tup [.int t0,.dcT [([.inl 0,.inl 0],.bl true),([.inl 1,.inl 1],.bl true)]],.tup [.int t1,.dcT [([.inl 0,.inl 0],.bl true),([.inl 1,.inl 0],.bl true)]],.tup [.int t2,.dcT [([.inl 0,.inl 1],.bl true),([.inl 1,.inl 1],.bl true)]],.tup [.int t3,.dcT [([.inl 0,.inl 0],.bl true),([.inl 0,.inl 1],.bl true),([.inl 1,.inl 0],.bl true),([.inl 1,.inl 1],.bl true)]]]
noncomputable def roS (t0 t1 t2 t3:Int):List D:=[.tup [.tup [.int 0],.int (1*t0),.lst [.tup [.int 0,.int 0],.tup [.int 1,.int 1]]],.tup [.tup [.int 1],.int (1*t1),.lst [.tup [.int 0,.int 0],.tup [.int 1,.int 0]]],.tup [.tup [.int 2],.int (1*t2),.lst [.tup [.int 0,.int 1],.tup [.int 1,.int 1]]],.tup [.tup [.int 3],.int (1*t3),.lst [.tup [.int 0,.int 0],.tup [.int 0,.int 1],.tup [.int 1,.int 0],.tup [.int 1,.int 1]]]]
noncomputable def moS (t0 t1 t2 t3:Int):List D:=[.tup [.tup [.int 0],.int (1*t0*2),.lst [.tup [.int 0,.int 0],.tup [.int 1,.int 1]]],.tup [.tup [.int 1],.int (1*t1*2),.lst [.tup [.int 0,.int 0],.tup [.int 1,.int 0]]],.tup [.tup [.int 2],.int (1*t2*2),.lst [.tup [.int 0,.int 1],.tup [.int 1,.int 1]]],.tup [.tup [.int 3],.int (1*t3*1),.lst [.tup [.int 0,.int 0],.tup [.int 0,.int 1],.tup [.int 1,.int 0],.tup [.int 1,.int 1]]]]
noncomputable abbrev rE (B s1 s2 s3:Nat)(f:Int->Int->Int->Int->List D):List D:=f (LL B (WT s1 s2 s3) - (Xa B (WT s1 s2 s3)).sum:Nat) (tp (LL B (WT s1 s2 s3)) (low s1 B):Nat) (tp (LL B (WT s1 s2 s3)) (low s2 B):Nat) (tp (LL B (WT s1 s2 s3)) (low s3 B):Nat)
theorem AW {B s1 s2 s3:Nat}(h:WOK B (WT s1 s2 s3)):bY Pg (k+24) "choices" [WK,.int 0,.lst (WD B (WT s1 s2 s3))] M=some (.ok (.lst (rE B s1 s2 s3 chS)) M):=by
 have e:(((LL B (WT s1 s2 s3) - (Xa B (WT s1 s2 s3)).sum:Nat)):Int)=(LL B (WT s1 s2 s3):Int) - ((Xa B (WT s1 s2 s3)).sum:Nat):=by have:=iT h.pos _ h.sum;lia
 unfold rE;rw[e];refine dP lV rfl rfl rfl ((be (jY (d:=.tup [.lst ((Xa B (WT s1 s2 s3)).map λn:Nat=>D.int n),.int (LL B (WT s1 s2 s3))]) (M1:=M) (δ1:=#v[WK,.int 0,.lst (WD B (WT s1 s2 s3)),(.lst ((Xa B (WT s1 s2 s3)).map λn:Nat=>D.int n)),.int (LL B (WT s1 s2 s3)),none,none]) (M2:=M) ?_ rfl)).trans ((be (bF (d:=.lst [.int 2,.int 2]) (M1:=M) ?_)).trans ((be (bF (d:=.lst plS) (M1:=M) ?_)).trans (fO (eF (i5 (o:=.add) (x:=.lst [.tup [.int ((LL B (WT s1 s2 s3):Int) - ((Xa B (WT s1 s2 s3)).sum:Nat)),same]]) (y:=.lst [.tup [.int (tp (LL B (WT s1 s2 s3)) (low s1 B):Nat),.lst [.tup [.str "fixed",.lst [.int 1],.int 0]]],.tup [.int (tp (LL B (WT s1 s2 s3)) (low s2 B):Nat),.lst [.tup [.str "fixed",.lst [.int 1],.int 1]]],.tup [.int (tp (LL B (WT s1 s2 s3)) (low s3 B):Nat),.lst []]]) (M1:=M) (M2:=M) (lD (ar (fQ (ar (sD rfl (gS (ar rfl aU) (oy _))) (ar ?_ aU)) le2) aU) (by exact XJ (aG rfl))) ?_ ?_))))))
 ·exact(bD rfl (ar (cI (df rfl) (lP rfl _ _ _) (by rw[aP];exact XJ (by have:=h.len;lia))) aU)).trans (yU h.pos h.sm _ (by have:=h.len;lia) λw hw=>(h.le w hw).2)
 ·kernel_rfl
 ·kernel_rfl
 ·kernel_rfl
 ·kernel_rfl
 ·kernel_rfl
theorem R9 (t0 t1 t2 t3:Int)(x:D):de ⟨chS t0 t1 t2 t3,none⟩ (XB (Pg.env (k+24)) tTG) (iq (Pg.env (k+24)) .nil) (WM (Pg.env (k+24)) tE) (chS t0 t1 t2 t3) #v[none,none,w4] []=some (tbS t0 t1 t2 t3,[]):=by kernel_rfl
theorem Se (t0 t1 t2 t3:Int)(x:D):WM (Pg.env (k+24)) (.call "longer_modes" #[.v 3,.v 6]) #v[WK,.lst [x],w4,.lst [.tup [.tup [],.int 1,w4]],.int 0,x,.lst (tbS t0 t1 t2 t3),none] []=some (.ok (.lst (roS t0 t1 t2 t3)) []):=by kernel_rfl
theorem Si (t0 t1 t2 t3:Int)(x:D):cN (Pg.env (k+24)) v3 #v[WK,.lst [x],w4,.lst (roS t0 t1 t2 t3),.int 0,x,.lst (tbS t0 t1 t2 t3),none] []=some (.rt (.lst (moS t0 t1 t2 t3)) []):=by kernel_rfl
theorem Iw {B s1 s2 s3:Nat}(h:WOK B (WT s1 s2 s3)):bY Pg (k+25) "modes_with_worlds" [WK,.lst [.lst (WD B (WT s1 s2 s3))]] []=some (.ok (.lst (rE B s1 s2 s3 moS)) []):=by
 have hc:=AW (k:=k) (M:=[]) h
 generalize hx:D.lst (WD B (WT s1 s2 s3))=x at hc ⊢
 refine dP K0 rfl rfl rfl ((be (bF (d:=w4) (M1:=[]) ?_)).trans ((be (bF (d:=.lst [.tup [.tup [],.int 1,w4]]) (M1:=[]) ?_)).trans ((be (kR (M1:=[]) (it:=⟨[.tup [.int 0,x]],none⟩) ?_ ((j6 (δ1:=#v[WK,.lst [x],w4,.lst [.tup [.tup [],.int 1,w4]],.int 0,x,none,none]) (M1:=[]) (M2:=[]) rfl ?_ rfl).trans rfl))).trans (Si _ _ _ _ x))))
 ·kernel_rfl
 ·kernel_rfl
 ·rfl
 ·exact(be (bF (cI (df ((bD rfl (ar rfl (ar rfl (ar rfl aU)))).trans hc)) (R9 _ _ _ _ x) (by exact XJ (aG rfl))))).trans ((be (bF (Se _ _ _ _ x))).trans rfl)
noncomputable def Xf (s1 s2:Nat):List (Nat×D):=[(s1,tF0),(s2,tF1)]
noncomputable def plT:List D:=[.lst [.tup [.str "fixed",.lst [.int 1],.int 0]],.lst [.tup [.str "fixed",.lst [.int 1],.int 1]]]
noncomputable def chT (t0 t1 t2:Int):List D:=[.tup [.int t0,same],.tup [.int t1,.lst [.tup [.str "fixed",.lst [.int 1],.int 0]]],.tup [.int t2,.lst [.tup [.str "fixed",.lst [.int 1],.int 1]]]]
noncomputable def tbT (t0 t1 t2:Int):List D:=[.tup [.int t0,.dcT [([.inl 0,.inl 0],.bl true),([.inl 1,.inl 1],.bl true)]],.tup [.int t1,.dcT [([.inl 0,.inl 0],.bl true),([.inl 1,.inl 0],.bl true)]],.tup [.int t2,.dcT [([.inl 0,.inl 1],.bl true),([.inl 1,.inl 1],.bl true)]]]
noncomputable def roT (t0 t1 t2:Int):List D:=[.tup [.tup [.int 0],.int (1*t0),.lst [.tup [.int 0,.int 0],.tup [.int 1,.int 1]]],.tup [.tup [.int 1],.int (1*t1),.lst [.tup [.int 0,.int 0],.tup [.int 1,.int 0]]],.tup [.tup [.int 2],.int (1*t2),.lst [.tup [.int 0,.int 1],.tup [.int 1,.int 1]]]]
noncomputable def moT (t0 t1 t2:Int):List D:=[.tup [.tup [.int 0],.int (1*t0*1),.lst [.tup [.int 0,.int 0],.tup [.int 1,.int 1]]],.tup [.tup [.int 1],.int (1*t1*1),.lst [.tup [.int 0,.int 0],.tup [.int 1,.int 0]]],.tup [.tup [.int 2],.int (1*t2*1),.lst [.tup [.int 0,.int 1],.tup [.int 1,.int 1]]]]
noncomputable abbrev Ws (B s1 s2:Nat)(f:Int->Int->Int->List D):List D:=f (LL B (Xf s1 s2) - (Xa B (Xf s1 s2)).sum:Nat) (tp (LL B (Xf s1 s2)) (low s1 B):Nat) (tp (LL B (Xf s1 s2)) (low s2 B):Nat)
theorem AV {B s1 s2:Nat}(h:WOK B (Xf s1 s2)):bY Pg (k+24) "choices" [WK,.int 0,.lst (WD B (Xf s1 s2))] M=some (.ok (.lst (Ws B s1 s2 chT)) M):=by
 have e:(((LL B (Xf s1 s2) - (Xa B (Xf s1 s2)).sum:Nat)):Int)=(LL B (Xf s1 s2):Int) - ((Xa B (Xf s1 s2)).sum:Nat):=by have:=iT h.pos _ h.sum;lia
 unfold Ws;rw[e];refine dP lV rfl rfl rfl ((be (jY (d:=.tup [.lst ((Xa B (Xf s1 s2)).map λn:Nat=>D.int n),.int (LL B (Xf s1 s2))]) (M1:=M) (δ1:=#v[WK,.int 0,.lst (WD B (Xf s1 s2)),(.lst ((Xa B (Xf s1 s2)).map λn:Nat=>D.int n)),.int (LL B (Xf s1 s2)),none,none]) (M2:=M) ?_ rfl)).trans ((be (bF (d:=.lst [.int 2,.int 2]) (M1:=M) ?_)).trans ((be (bF (d:=.lst plT) (M1:=M) ?_)).trans (fO (eF (i5 (o:=.add) (x:=.lst [.tup [.int ((LL B (Xf s1 s2):Int) - ((Xa B (Xf s1 s2)).sum:Nat)),same]]) (y:=.lst [.tup [.int (tp (LL B (Xf s1 s2)) (low s1 B):Nat),.lst [.tup [.str "fixed",.lst [.int 1],.int 0]]],.tup [.int (tp (LL B (Xf s1 s2)) (low s2 B):Nat),.lst [.tup [.str "fixed",.lst [.int 1],.int 1]]]]) (M1:=M) (M2:=M) (lD (ar (fQ (ar (sD rfl (gS (ar rfl aU) (oy _))) (ar ?_ aU)) le2) aU) (by exact XJ (aG rfl))) ?_ ?_))))))
 ·exact(bD rfl (ar (cI (df rfl) (lP rfl _ _ _) (by rw[aP];exact XJ (by have:=h.len;lia))) aU)).trans (yU h.pos h.sm _ (by have:=h.len;lia) λw hw=>(h.le w hw).2)
 ·kernel_rfl
 ·kernel_rfl
 ·kernel_rfl
 ·kernel_rfl
 ·kernel_rfl
theorem RZ (t0 t1 t2:Int)(x:D):de ⟨chT t0 t1 t2,none⟩ (XB (Pg.env (k+24)) tTG) (iq (Pg.env (k+24)) .nil) (WM (Pg.env (k+24)) tE) (chT t0 t1 t2) #v[none,none,w4] []=some (tbT t0 t1 t2,[]):=by kernel_rfl
theorem Sd (t0 t1 t2:Int)(x:D):WM (Pg.env (k+24)) (.call "longer_modes" #[.v 3,.v 6]) #v[WK,.lst [x],w4,.lst [.tup [.tup [],.int 1,w4]],.int 0,x,.lst (tbT t0 t1 t2),none] []=some (.ok (.lst (roT t0 t1 t2)) []):=by kernel_rfl
theorem Sh (t0 t1 t2:Int)(x:D):cN (Pg.env (k+24)) v3 #v[WK,.lst [x],w4,.lst (roT t0 t1 t2),.int 0,x,.lst (tbT t0 t1 t2),none] []=some (.rt (.lst (moT t0 t1 t2)) []):=by kernel_rfl
theorem SA {B s1 s2:Nat}(h:WOK B (Xf s1 s2)):bY Pg (k+25) "modes_with_worlds" [WK,.lst [.lst (WD B (Xf s1 s2))]] []=some (.ok (.lst (Ws B s1 s2 moT)) []):=by
 have hc:=AV (k:=k) (M:=[]) h
 generalize hx:D.lst (WD B (Xf s1 s2))=x at hc ⊢
 refine dP K0 rfl rfl rfl ((be (bF (d:=w4) (M1:=[]) ?_)).trans ((be (bF (d:=.lst [.tup [.tup [],.int 1,w4]]) (M1:=[]) ?_)).trans ((be (kR (M1:=[]) (it:=⟨[.tup [.int 0,x]],none⟩) ?_ ((j6 (δ1:=#v[WK,.lst [x],w4,.lst [.tup [.tup [],.int 1,w4]],.int 0,x,none,none]) (M1:=[]) (M2:=[]) rfl ?_ rfl).trans rfl))).trans (Sh _ _ _ x))))
 ·kernel_rfl
 ·kernel_rfl
 ·rfl
 ·exact(be (bF (cI (df ((bD rfl (ar rfl (ar rfl (ar rfl aU)))).trans hc)) (RZ _ _ _ x) (by exact XJ (aG rfl))))).trans ((be (bF (Sd _ _ _ x))).trans rfl)
noncomputable def wsU (s1:Nat):List (Nat×D):=[(s1,tF1)]
noncomputable def plU:List D:=[.lst [.tup [.str "fixed",.lst [.int 1],.int 1]]]
noncomputable def chU (t0 t1:Int):List D:=[.tup [.int t0,same],.tup [.int t1,.lst [.tup [.str "fixed",.lst [.int 1],.int 1]]]]
noncomputable def tbU (t0 t1:Int):List D:=[.tup [.int t0,.dcT [([.inl 0,.inl 0],.bl true),([.inl 1,.inl 1],.bl true)]],.tup [.int t1,.dcT [([.inl 0,.inl 1],.bl true),([.inl 1,.inl 1],.bl true)]]]
noncomputable def roU (t0 t1:Int):List D:=[.tup [.tup [.int 0],.int (1*t0),.lst [.tup [.int 0,.int 0],.tup [.int 1,.int 1]]],.tup [.tup [.int 1],.int (1*t1),.lst [.tup [.int 0,.int 1],.tup [.int 1,.int 1]]]]
noncomputable def moU (t0 t1:Int):List D:=[.tup [.tup [.int 0],.int (1*t0*1),.lst [.tup [.int 0,.int 0],.tup [.int 1,.int 1]]],.tup [.tup [.int 1],.int (1*t1*1),.lst [.tup [.int 0,.int 1],.tup [.int 1,.int 1]]]]
noncomputable abbrev Wt (B s1:Nat)(f:Int->Int->List D):List D:=f (LL B (wsU s1) - (Xa B (wsU s1)).sum:Nat) (tp (LL B (wsU s1)) (low s1 B):Nat)
theorem AU {B s1:Nat}(h:WOK B (wsU s1)):bY Pg (k+24) "choices" [WK,.int 0,.lst (WD B (wsU s1))] M=some (.ok (.lst (Wt B s1 chU)) M):=by
 have e:(((LL B (wsU s1) - (Xa B (wsU s1)).sum:Nat)):Int)=(LL B (wsU s1):Int) - ((Xa B (wsU s1)).sum:Nat):=by have:=iT h.pos _ h.sum;lia
 unfold Wt;rw[e];refine dP lV rfl rfl rfl ((be (jY (d:=.tup [.lst ((Xa B (wsU s1)).map λn:Nat=>D.int n),.int (LL B (wsU s1))]) (M1:=M) (δ1:=#v[WK,.int 0,.lst (WD B (wsU s1)),(.lst ((Xa B (wsU s1)).map λn:Nat=>D.int n)),.int (LL B (wsU s1)),none,none]) (M2:=M) ?_ rfl)).trans ((be (bF (d:=.lst [.int 2,.int 2]) (M1:=M) ?_)).trans ((be (bF (d:=.lst plU) (M1:=M) ?_)).trans (fO (eF (i5 (o:=.add) (x:=.lst [.tup [.int ((LL B (wsU s1):Int) - ((Xa B (wsU s1)).sum:Nat)),same]]) (y:=.lst [.tup [.int (tp (LL B (wsU s1)) (low s1 B):Nat),.lst [.tup [.str "fixed",.lst [.int 1],.int 1]]]]) (M1:=M) (M2:=M) (lD (ar (fQ (ar (sD rfl (gS (ar rfl aU) (oy _))) (ar ?_ aU)) le2) aU) (by exact XJ (aG rfl))) ?_ ?_))))))
 ·exact(bD rfl (ar (cI (df rfl) (lP rfl _ _ _) (by rw[aP];exact XJ (by have:=h.len;lia))) aU)).trans (yU h.pos h.sm _ (by have:=h.len;lia) λw hw=>(h.le w hw).2)
 ·kernel_rfl
 ·kernel_rfl
 ·kernel_rfl
 ·kernel_rfl
 ·kernel_rfl
theorem RY (t0 t1:Int)(x:D):de ⟨chU t0 t1,none⟩ (XB (Pg.env (k+24)) tTG) (iq (Pg.env (k+24)) .nil) (WM (Pg.env (k+24)) tE) (chU t0 t1) #v[none,none,w4] []=some (tbU t0 t1,[]):=by kernel_rfl
theorem Sb (t0 t1:Int)(x:D):WM (Pg.env (k+24)) (.call "longer_modes" #[.v 3,.v 6]) #v[WK,.lst [x],w4,.lst [.tup [.tup [],.int 1,w4]],.int 0,x,.lst (tbU t0 t1),none] []=some (.ok (.lst (roU t0 t1)) []):=by kernel_rfl
theorem Sg (t0 t1:Int)(x:D):cN (Pg.env (k+24)) v3 #v[WK,.lst [x],w4,.lst (roU t0 t1),.int 0,x,.lst (tbU t0 t1),none] []=some (.rt (.lst (moU t0 t1)) []):=by kernel_rfl
theorem Sz {B s1:Nat}(h:WOK B (wsU s1)):bY Pg (k+25) "modes_with_worlds" [WK,.lst [.lst (WD B (wsU s1))]] []=some (.ok (.lst (Wt B s1 moU)) []):=by
 have hc:=AU (k:=k) (M:=[]) h
 generalize hx:D.lst (WD B (wsU s1))=x at hc ⊢
 refine dP K0 rfl rfl rfl ((be (bF (d:=w4) (M1:=[]) ?_)).trans ((be (bF (d:=.lst [.tup [.tup [],.int 1,w4]]) (M1:=[]) ?_)).trans ((be (kR (M1:=[]) (it:=⟨[.tup [.int 0,x]],none⟩) ?_ ((j6 (δ1:=#v[WK,.lst [x],w4,.lst [.tup [.tup [],.int 1,w4]],.int 0,x,none,none]) (M1:=[]) (M2:=[]) rfl ?_ rfl).trans rfl))).trans (Sg _ _ x))))
 ·kernel_rfl
 ·kernel_rfl
 ·rfl
 ·exact(be (bF (cI (df ((bD rfl (ar rfl (ar rfl (ar rfl aU)))).trans hc)) (RY _ _ x) (by exact XJ (aG rfl))))).trans ((be (bF (Sb _ _ x))).trans rfl)
noncomputable def WW (s1 s2:Nat):List (Nat×D):=[(s1,tFF),(s2,tTu)]
noncomputable def plV:List D:=[.lst [.tup [.str "fixed",.lst [.int 1],.int 0],.tup [.str "fixed",.lst [.int 0],.int 1]],.lst [.tup [.str "turned",.lst [.int 1,.int 0],.int 2]]]
noncomputable def chV (t0 t1 t2:Int):List D:=[.tup [.int t0,same],.tup [.int t1,.lst [.tup [.str "fixed",.lst [.int 1],.int 0],.tup [.str "fixed",.lst [.int 0],.int 1]]],.tup [.int t2,.lst [.tup [.str "turned",.lst [.int 1,.int 0],.int 2]]]]
noncomputable def tbV (t0 t1 t2:Int):List D:=[.tup [.int t0,.dcT [([.inl 0,.inl 0],.bl true),([.inl 1,.inl 1],.bl true)]],.tup [.int t1,.dcT [([.inl 1,.inl 0],.bl true)]],.tup [.int t2,.dcT [([.inl 0,.inl 1],.bl true),([.inl 1,.inl 0],.bl true)]]]
noncomputable def roV (t0 t1 t2:Int):List D:=[.tup [.tup [.int 0],.int (1*t0),.lst [.tup [.int 0,.int 0],.tup [.int 1,.int 1]]],.tup [.tup [.int 1],.int (1*t1),.lst [.tup [.int 1,.int 0]]],.tup [.tup [.int 2],.int (1*t2),.lst [.tup [.int 0,.int 1],.tup [.int 1,.int 0]]]]
noncomputable def moV (t0 t1 t2:Int):List D:=[.tup [.tup [.int 0],.int (1*t0*1),.lst [.tup [.int 0,.int 0],.tup [.int 1,.int 1]]],.tup [.tup [.int 1],.int (1*t1*2),.lst [.tup [.int 1,.int 0]]],.tup [.tup [.int 2],.int (1*t2*1),.lst [.tup [.int 0,.int 1],.tup [.int 1,.int 0]]]]
noncomputable abbrev Wq (B s1 s2:Nat)(f:Int->Int->Int->List D):List D:=f (LL B (WW s1 s2) - (Xa B (WW s1 s2)).sum:Nat) (tp (LL B (WW s1 s2)) (low s1 B):Nat) (tp (LL B (WW s1 s2)) (low s2 B):Nat)
theorem AS {B s1 s2:Nat}(h:WOK B (WW s1 s2)):bY Pg (k+24) "choices" [WK,.int 0,.lst (WD B (WW s1 s2))] M=some (.ok (.lst (Wq B s1 s2 chV)) M):=by
 have e:(((LL B (WW s1 s2) - (Xa B (WW s1 s2)).sum:Nat)):Int)=(LL B (WW s1 s2):Int) - ((Xa B (WW s1 s2)).sum:Nat):=by have:=iT h.pos _ h.sum;lia
 unfold Wq;rw[e];refine dP lV rfl rfl rfl ((be (jY (d:=.tup [.lst ((Xa B (WW s1 s2)).map λn:Nat=>D.int n),.int (LL B (WW s1 s2))]) (M1:=M) (δ1:=#v[WK,.int 0,.lst (WD B (WW s1 s2)),(.lst ((Xa B (WW s1 s2)).map λn:Nat=>D.int n)),.int (LL B (WW s1 s2)),none,none]) (M2:=M) ?_ rfl)).trans ((be (bF (d:=.lst [.int 2,.int 2]) (M1:=M) ?_)).trans ((be (bF (d:=.lst plV) (M1:=M) ?_)).trans (fO (eF (i5 (o:=.add) (x:=.lst [.tup [.int ((LL B (WW s1 s2):Int) - ((Xa B (WW s1 s2)).sum:Nat)),same]]) (y:=.lst [.tup [.int (tp (LL B (WW s1 s2)) (low s1 B):Nat),.lst [.tup [.str "fixed",.lst [.int 1],.int 0],.tup [.str "fixed",.lst [.int 0],.int 1]]],.tup [.int (tp (LL B (WW s1 s2)) (low s2 B):Nat),.lst [.tup [.str "turned",.lst [.int 1,.int 0],.int 2]]]]) (M1:=M) (M2:=M) (lD (ar (fQ (ar (sD rfl (gS (ar rfl aU) (oy _))) (ar ?_ aU)) le2) aU) (by exact XJ (aG rfl))) ?_ ?_))))))
 ·exact(bD rfl (ar (cI (df rfl) (lP rfl _ _ _) (by rw[aP];exact XJ (by have:=h.len;lia))) aU)).trans (yU h.pos h.sm _ (by have:=h.len;lia) λw hw=>(h.le w hw).2)
 ·kernel_rfl
 ·kernel_rfl
 ·kernel_rfl
 ·kernel_rfl
 ·kernel_rfl
theorem RX (t0 t1 t2:Int)(x:D):de ⟨chV t0 t1 t2,none⟩ (XB (Pg.env (k+24)) tTG) (iq (Pg.env (k+24)) .nil) (WM (Pg.env (k+24)) tE) (chV t0 t1 t2) #v[none,none,w4] []=some (tbV t0 t1 t2,[]):=by kernel_rfl
theorem Sa (t0 t1 t2:Int)(x:D):WM (Pg.env (k+24)) (.call "longer_modes" #[.v 3,.v 6]) #v[WK,.lst [x],w4,.lst [.tup [.tup [],.int 1,w4]],.int 0,x,.lst (tbV t0 t1 t2),none] []=some (.ok (.lst (roV t0 t1 t2)) []):=by kernel_rfl
theorem Sf (t0 t1 t2:Int)(x:D):cN (Pg.env (k+24)) v3 #v[WK,.lst [x],w4,.lst (roV t0 t1 t2),.int 0,x,.lst (tbV t0 t1 t2),none] []=some (.rt (.lst (moV t0 t1 t2)) []):=by kernel_rfl
theorem Mo {B s1 s2:Nat}(h:WOK B (WW s1 s2)):bY Pg (k+25) "modes_with_worlds" [WK,.lst [.lst (WD B (WW s1 s2))]] []=some (.ok (.lst (Wq B s1 s2 moV)) []):=by
 have hc:=AS (k:=k) (M:=[]) h
 generalize hx:D.lst (WD B (WW s1 s2))=x at hc ⊢
 refine dP K0 rfl rfl rfl ((be (bF (d:=w4) (M1:=[]) ?_)).trans ((be (bF (d:=.lst [.tup [.tup [],.int 1,w4]]) (M1:=[]) ?_)).trans ((be (kR (M1:=[]) (it:=⟨[.tup [.int 0,x]],none⟩) ?_ ((j6 (δ1:=#v[WK,.lst [x],w4,.lst [.tup [.tup [],.int 1,w4]],.int 0,x,none,none]) (M1:=[]) (M2:=[]) rfl ?_ rfl).trans rfl))).trans (Sf _ _ _ x))))
 ·kernel_rfl
 ·kernel_rfl
 ·rfl
 ·exact(be (bF (cI (df ((bD rfl (ar rfl (ar rfl (ar rfl aU)))).trans hc)) (RX _ _ _ x) (by exact XJ (aG rfl))))).trans ((be (bF (Sa _ _ _ x))).trans rfl)
noncomputable def dcE:MX:=(.lF ["world"] [] [] (.lst (.call "all_worlds" #[.v 0,.tup .nil,.v 2])) (.nm 0) .nil (.bif .tuple #[.v 0]) (.bl true))
noncomputable def dl0:D:=.dcT [([.inl 0,.inl 0],.bl true),([.inl 0,.inl 1],.bl true),([.inl 1,.inl 0],.bl true),([.inl 1,.inl 1],.bl true)]
noncomputable def dl1:D:=.dcT [([.inl 0,.inl 0],.bl true),([.inl 1,.inl 0],.bl true)]
noncomputable def dl2:D:=.dcT [([.inl 1,.inl 0],.bl true)]
noncomputable def dl3:D:=.dcT [([.inl 1,.inl 0],.bl true),([.inl 1,.inl 1],.bl true)]
noncomputable abbrev WA (k:Nat)(mo:List D)(dt:D):=de ⟨mo,none⟩ (XB (Pg.env (k+25)) cTG) (iq (Pg.env (k+25)) .nil) (WM (Pg.env (k+25)) cE) mo #v[none,none,none,dt] []
noncomputable abbrev leFn (k:Nat)(x lk dt:D)(co:List D):=cN (Pg.env (k+25)) mT #v[WK,.lst [x],lk,dt,.lst co,none] []
theorem Wz {B:Nat}{ws:List (Nat×D)}(h:WOK B ws){mo co:List D}{lk dt:D}(hm:bY Pg (k+25) "modes_with_worlds" [WK,.lst [.lst (WD B ws)]] []=some (.ok (.lst mo) []))(hn:WM (Pg.env (k+25)) (.call "check_many" #[.v 1]) #v[WK,.lst [.lst (WD B ws)],lk,none,none,none] []=some (.ok .WN []))(h3:WM (Pg.env (k+25)) (.call "check_looks" #[.v 0,.v 2]) #v[WK,.lst [.lst (WD B ws)],lk,none,none,none] []=some (.ok .WN []))(h5:WM (Pg.env (k+25)) dcE #v[WK,.lst [.lst (WD B ws)],lk,none,none,none] []=some (.ok dt []))(hco:WA k mo dt=some (co,[]))(hl:co.length<=au):cN (Pg.env (k+25)) nO.body #v[WK,.lst [.lst (WD B ws)],lk,none,none,none] []=leFn k (.lst (WD B ws)) lk dt co:=by
 have hc:=eU (k:=k+2) (M:=[]) h
 generalize hx:D.lst (WD B ws)=x at hc hm hn h3 h5 ⊢
 refine(be (cG (d:=.WN) (M1:=[]) ?_)).trans ((be (cG ((bD rfl (ar rfl (ar rfl aU))).trans hc))).trans ((be (cG h3)).trans ((be (cG hn)).trans ((be (bF h5)).trans ((be (bF (cI (df ((bD rfl (ar rfl (ar rfl aU))).trans hm)) hco hl))).trans rfl)))))
 kernel_rfl
noncomputable def Ip (t0 t1 t2 t3:Int):List D:=[.tup [.tup [.int 0],.int (1*t0*2),.int 2],.tup [.tup [.int 1],.int (1*t1*2),.int 2],.tup [.tup [.int 2],.int (1*t2*2),.int 2],.tup [.tup [.int 3],.int (1*t3*1),.int 4]]
noncomputable def wB (t0 t1 t2 t3:Int):List D:=[.tup [.tup [.int 0],.int (1*t0*2*2)],.tup [.tup [.int 1],.int (1*t1*2*2)],.tup [.tup [.int 2],.int (1*t2*2*2)],.tup [.tup [.int 3],.int (1*t3*1*4)]]
theorem HZ (t0 t1 t2 t3:Int):WA k (moS t0 t1 t2 t3) dl0=some (Ip t0 t1 t2 t3,[]):=by kernel_rfl
theorem HR (t0 t1 t2 t3:Int)(x:D):leFn k x lk0 dl0 (Ip t0 t1 t2 t3)=some (.rt (.lst (wB t0 t1 t2 t3)) []):=by kernel_rfl
theorem IE {B s1 s2 s3:Nat}(h:WOK B (WT s1 s2 s3)):bY Pg (k+26) "modes_left" [WK,.lst [.lst (WD B (WT s1 s2 s3))],lk0] []=some (.ok (.lst (rE B s1 s2 s3 wB)) []):=dP AF rfl rfl rfl ((Wz h (Iw h) (by kernel_rfl) (by kernel_rfl) (by kernel_rfl) (HZ _ _ _ _) (by exact XJ (aG rfl))).trans (HR _ _ _ _ _))
noncomputable def Io (t0 t1 t2 t3:Int):List D:=[.tup [.tup [.int 0],.int (1*t0*2),.int 1],.tup [.tup [.int 1],.int (1*t1*2),.int 2],.tup [.tup [.int 2],.int (1*t2*2),.int 0],.tup [.tup [.int 3],.int (1*t3*1),.int 2]]
noncomputable def wA (t0 t1 t2 t3:Int):List D:=[.tup [.tup [.int 0],.int (1*t0*2*1)],.tup [.tup [.int 1],.int (1*t1*2*2)],.tup [.tup [.int 3],.int (1*t3*1*2)]]
theorem HY (t0 t1 t2 t3:Int):WA k (moS t0 t1 t2 t3) dl1=some (Io t0 t1 t2 t3,[]):=by kernel_rfl
theorem HQ (t0 t1 t2 t3:Int)(x:D):leFn k x lk1 dl1 (Io t0 t1 t2 t3)=some (.rt (.lst (wA t0 t1 t2 t3)) []):=by kernel_rfl
theorem ID {B s1 s2 s3:Nat}(h:WOK B (WT s1 s2 s3)):bY Pg (k+26) "modes_left" [WK,.lst [.lst (WD B (WT s1 s2 s3))],lk1] []=some (.ok (.lst (rE B s1 s2 s3 wA)) []):=dP AF rfl rfl rfl ((Wz h (Iw h) (by kernel_rfl) (by kernel_rfl) (by kernel_rfl) (HY _ _ _ _) (by exact XJ (aG rfl))).trans (HQ _ _ _ _ _))
noncomputable def Im (t0 t1 t2 t3:Int):List D:=[.tup [.tup [.int 0],.int (1*t0*2),.int 0],.tup [.tup [.int 1],.int (1*t1*2),.int 1],.tup [.tup [.int 2],.int (1*t2*2),.int 0],.tup [.tup [.int 3],.int (1*t3*1),.int 1]]
noncomputable def wz (t0 t1 t2 t3:Int):List D:=[.tup [.tup [.int 1],.int (1*t1*2*1)],.tup [.tup [.int 3],.int (1*t3*1*1)]]
theorem HX (t0 t1 t2 t3:Int):WA k (moS t0 t1 t2 t3) dl2=some (Im t0 t1 t2 t3,[]):=by kernel_rfl
theorem HP (t0 t1 t2 t3:Int)(x:D):leFn k x XM dl2 (Im t0 t1 t2 t3)=some (.rt (.lst (wz t0 t1 t2 t3)) []):=by kernel_rfl
theorem IC {B s1 s2 s3:Nat}(h:WOK B (WT s1 s2 s3)):bY Pg (k+26) "modes_left" [WK,.lst [.lst (WD B (WT s1 s2 s3))],XM] []=some (.ok (.lst (rE B s1 s2 s3 wz)) []):=dP AF rfl rfl rfl ((Wz h (Iw h) (by kernel_rfl) (by kernel_rfl) (by kernel_rfl) (HX _ _ _ _) (by exact XJ (aG rfl))).trans (HP _ _ _ _ _))
noncomputable def Il (t0 t1 t2:Int):List D:=[.tup [.tup [.int 0],.int (1*t0*1),.int 0],.tup [.tup [.int 1],.int (1*t1*1),.int 1],.tup [.tup [.int 2],.int (1*t2*1),.int 0]]
noncomputable def wy (t0 t1 t2:Int):List D:=[.tup [.tup [.int 1],.int (1*t1*1*1)]]
theorem HW (t0 t1 t2:Int):WA k (moT t0 t1 t2) dl2=some (Il t0 t1 t2,[]):=by kernel_rfl
theorem HN (t0 t1 t2:Int)(x:D):leFn k x XM dl2 (Il t0 t1 t2)=some (.rt (.lst (wy t0 t1 t2)) []):=by kernel_rfl
theorem IB {B s1 s2:Nat}(h:WOK B (Xf s1 s2)):bY Pg (k+26) "modes_left" [WK,.lst [.lst (WD B (Xf s1 s2))],XM] []=some (.ok (.lst (Ws B s1 s2 wy)) []):=dP AF rfl rfl rfl ((Wz h (SA h) (by kernel_rfl) (by kernel_rfl) (by kernel_rfl) (HW _ _ _) (by exact XJ (aG rfl))).trans (HN _ _ _ _))
noncomputable def AK (t0 t1:Int):List D:=[.tup [.tup [.int 0],.int (1*t0*1),.int 0],.tup [.tup [.int 1],.int (1*t1*1),.int 0]]
theorem HV (t0 t1:Int):WA k (moU t0 t1) dl2=some (AK t0 t1,[]):=by kernel_rfl
theorem HM (t0 t1:Int)(x:D):leFn k x XM dl2 (AK t0 t1)=some (.ex "NoWorlds" [] #v[WK,.lst [x],XM,dl2,.lst (AK t0 t1),.lst []] []):=by kernel_rfl
theorem IA {B s1:Nat}(h:WOK B (wsU s1)):bY Pg (k+26) "modes_left" [WK,.lst [.lst (WD B (wsU s1))],XM] []=some (.ex "NoWorlds" [] []):=Md AF rfl rfl rfl ((Wz h (Sz h) (by kernel_rfl) (by kernel_rfl) (by kernel_rfl) (HV _ _) (by exact XJ (aG rfl))).trans (HM _ _ _))
noncomputable def Ik (t0 t1 t2:Int):List D:=[.tup [.tup [.int 0],.int (1*t0*1),.int 1],.tup [.tup [.int 1],.int (1*t1*2),.int 1],.tup [.tup [.int 2],.int (1*t2*1),.int 1]]
noncomputable def wx (t0 t1 t2:Int):List D:=[.tup [.tup [.int 0],.int (1*t0*1*1)],.tup [.tup [.int 1],.int (1*t1*2*1)],.tup [.tup [.int 2],.int (1*t2*1*1)]]
theorem HU (t0 t1 t2:Int):WA k (moV t0 t1 t2) dl3=some (Ik t0 t1 t2,[]):=by kernel_rfl
theorem HL (t0 t1 t2:Int)(x:D):leFn k x lk3 dl3 (Ik t0 t1 t2)=some (.rt (.lst (wx t0 t1 t2)) []):=by kernel_rfl
theorem Iz {B s1 s2:Nat}(h:WOK B (WW s1 s2)):bY Pg (k+26) "modes_left" [WK,.lst [.lst (WD B (WW s1 s2))],lk3] []=some (.ok (.lst (Wq B s1 s2 wx)) []):=dP AF rfl rfl rfl ((Wz h (Mo h) (by kernel_rfl) (by kernel_rfl) (by kernel_rfl) (HU _ _ _) (by exact XJ (aG rfl))).trans (HL _ _ _ _))
noncomputable def Ij (t0 t1 t2:Int):List D:=[.tup [.tup [.int 0],.int (1*t0*1),.int 0],.tup [.tup [.int 1],.int (1*t1*2),.int 1],.tup [.tup [.int 2],.int (1*t2*1),.int 1]]
noncomputable def wu (t0 t1 t2:Int):List D:=[.tup [.tup [.int 1],.int (1*t1*2*1)],.tup [.tup [.int 2],.int (1*t2*1*1)]]
theorem HS (t0 t1 t2:Int):WA k (moV t0 t1 t2) dl2=some (Ij t0 t1 t2,[]):=by kernel_rfl
theorem HK (t0 t1 t2:Int)(x:D):leFn k x lk4 dl2 (Ij t0 t1 t2)=some (.rt (.lst (wu t0 t1 t2)) []):=by kernel_rfl
theorem Iy {B s1 s2:Nat}(h:WOK B (WW s1 s2)):bY Pg (k+26) "modes_left" [WK,.lst [.lst (WD B (WW s1 s2))],lk4] []=some (.ok (.lst (Wq B s1 s2 wu)) []):=dP AF rfl rfl rfl ((Wz h (Mo h) (by kernel_rfl) (by kernel_rfl) (by kernel_rfl) (HS _ _ _) (by exact XJ (aG rfl))).trans (HK _ _ _ _))
end
section
variable {k:Nat}{M:MS}
theorem vf:Pg.defs "chances"=some uS:=rfl
theorem Ig:Pg.defs "broken_chances"=some jK:=rfl
theorem KZ:Pg.defs "_law_total"=some nQ:=rfl
theorem So:Pg.defs "_law_due"=some sd:=rfl
theorem DH:Pg.defs "_law_refused"=some kY:=rfl
noncomputable def RD (rw:List (D×Nat)):List D:=rw.map λr=>.tup [r.1,.int r.2]
noncomputable def CD (W:Nat)(rw:List (D×Nat)):List D:=rw.map λr=>.tup [r.1,fr (low r.2 W)]
noncomputable def SU (rw:List (D×Nat)):Nat:=(rw.map (·.2)).sum
theorem vC {it:L2.XI}{Γ:mh}(hs:it.src=none):∀(rw:List (D×Nat))(x y:Option D),de it (XB Γ (.tup #[.nm 0,.nm 1])) (iq Γ .nil) (WM Γ (.v 1)) (RD rw) [x,y] M=some ((rw.map (·.2)).map λn:Nat=>D.int n,M)
 | [],x,y=>rfl
 |r::rw,x,y=>eS (δ1:=#v[r.1,.int r.2]) (M1:=M) (M2:=M) (M3:=M) rfl rfl rfl (et hs) (vC hs rw _ _)
theorem B9 {it:L2.XI}{W:Nat}(hs:it.src=none)(h0:0<W)(h1:W<1073741824):∀(rw:List (D×Nat))(x y:Option D),de it (XB (Pg.env (k+2)) (.tup #[.nm 0,.nm 1])) (iq (Pg.env (k+2)) .nil) (WM (Pg.env (k+2)) (.tup #[.v 0,.call "fraction" #[.v 1,.v 2]])) (RD rw) [x,y,some (.int W)] M=some (CD W rw,M)
 | [],x,y=>rfl
 |r::rw,x,y=>eS (δ1:=#v[r.1,.int r.2,.int W]) (M1:=M) (M2:=M) (M3:=M) rfl rfl (fQ (ar rfl (ar ((bD rfl (ar rfl (ar rfl aU))).trans (sV r.2 W h0 h1)) aU)) le2) (et hs) (B9 hs h0 h1 rw _ _)
theorem iR {ab6 Xn:D}{rw:List (D×Nat)}(hm:bY Pg (k+26) "modes_left" [WK,ab6,Xn] []=some (.ok (.lst (RD rw)) []))(hn:rw.length<=1000)(h0:0<SU rw)(h1:SU rw <1073741824):bY Pg (k+27) "chances" [WK,ab6,Xn] []=some (.ok (.lst (CD (SU rw) rw)) []):=by
 refine dP vf rfl rfl rfl ((be (bF ((bD rfl (ar rfl (ar rfl (ar rfl aU)))).trans hm))).trans ((be (bF (gS (ar (cI (df rfl) (vC rfl rw _ _) (by rw[aP,aP];exact XJ hn)) aU) (oy _)))).trans (fO (eF (cI (df rfl) (B9 (k:=k+24) rfl h0 h1 rw _ _) (by unfold CD;rw[aP];exact XJ hn))))))
theorem wV {ab6 Xn:D}(hm:bY Pg (k+26) "modes_left" [WK,ab6,Xn] []=some (.ex "NoWorlds" [] [])):bY Pg (k+27) "chances" [WK,ab6,Xn] []=some (.ex "NoWorlds" [] []):=
 Md vf rfl rfl rfl (Lw (CG ((bD rfl (ar rfl (ar rfl (ar rfl aU)))).trans hm)))
noncomputable def brE:MX:=(.comp false ["modes","weight"] ["part"] [0] (.lst (.v 1)) (.tup #[.nm 0,.nm 1]) #[.cmp .gt (.ix (.v 0) (.v 2)) (.int 0)] (.v 1))
theorem yV {ab6 Xn:D}{rw:List (D×Nat)}{bs:List Nat}(hm:bY Pg (k+26) "modes_left" [WK,ab6,Xn] []=some (.ok (.lst (RD rw)) []))(hn:rw.length<=1000)(h0:0<SU rw)(h1:SU rw <1073741824)
  (hb:WM (Pg.env (k+26)) brE #v[.int 0,.lst (RD rw),.int (SU rw)] []=some (.ok (.lst (bs.map λn:Nat=>D.int n)) [])):bY Pg (k+27) "broken_chances" [WK,ab6,Xn] []=some (.ok (.lst [fr (low bs.sum (SU rw))]) []):=by
 refine dP Ig rfl rfl rfl ((be (bF ((bD rfl (ar rfl (ar rfl (ar rfl aU)))).trans hm))).trans ((be (bF (gS (ar (cI (df rfl) (vC rfl rw _ _) (by rw[aP,aP];exact XJ hn)) aU) (oy _)))).trans (fO (eF (cI (it:=⟨[.int 0],none⟩) (M1:=[]) ?_ (eS (δ1:=#v[.int 0,.lst (RD rw),.int (SU rw)]) (M1:=[]) (M2:=[]) (M3:=[]) rfl rfl ((bD rfl (ar (gS (ar hb aU) (oy bs)) (ar rfl aU))).trans (sV (k:=k+24) bs.sum (SU rw) h0 h1)) rfl AJ) (by exact XJ (aG rfl)))))))
 kernel_rfl
theorem E5 {Γ:mh}{c x:Str}{i:Nat}{b h:MSs}{δ δ':cO}{M M' M2:MS}{fs:List (Str×D)}{r:D}(hx:(Γ.xf c).isSome=true)(hb:cN Γ b δ M=some (.ex c fs δ' M'))(hh:cN Γ h (δ'.set i (some (.exc c fs))) M'=some (.rt r M2)):Xj Γ (.ah5 c i x b h) δ M=some (.rt r M2):=by
 show nU Γ c i (cN Γ b) (cN Γ h) δ M=_;unfold nU;obtain⟨v,e⟩:=Option.isSome_iff_exists.mp hx;rw[e];show se c i (cN Γ b) (cN Γ h) δ M=_;unfold se;rw[hb];simp only[if_true,hh];rfl
theorem vm {ab6 Xn:D}(hp:fw [WK,ab6,Xn]=true)(hm:bY Pg (k+26) "modes_left" [WK,ab6,Xn] []=some (.ex "NoWorlds" [] [])):bY Pg (k+28) "_law_refused" [WK,ab6,Xn] M=some (.ok (.bl true) M):=by
 have hc:=wV hm;have e:WM (Pg.env (k+27)) (.cB "chances" #[.v 0,.v 1,.v 2]) #v[WK,ab6,Xn,none] M=some (.ex "NoWorlds" [] M):=by
  show gP (bY Pg (k+27) "chances") [WK,ab6,Xn] M=_;unfold gP;rw[if_pos hp,hc];rfl
 exact dP DH rfl rfl rfl (fO (E5 rfl (Lw (zF e)) rfl))
theorem BM:((1,1):Nat×Nat)=low 1 1:=rfl
theorem Eb {N:Nat}(hN:0<N):((0,1):Nat×Nat)=low 0 N:=by
 unfold low;rw[Nat.gcd_zero_left,Nat.zero_div,Nat.div_self hN]
theorem O2 (p q:Nat×Nat)(hp:0<p.2)(hq:0<q.2)(h1:p.1<1000000)(h2:q.1<1000000)(h3:p.2<10000)(h4:q.2<10000):bY Pg (k+2) "_law_plus" [fr p,fr q] M=some (.ok (fr (plus p q)) M):=by
 have hb:p.2*q.2<1073741824:=aO (gj h3 h4) (by decide);exact dP yL rfl rfl rfl (fO (eF ((bD Ao (ar (AB (iA (fP rfl rfl rfl) (fP rfl rfl rfl) (gC (a:=p.1) (b:=q.2) (by lia))) (iA (fP rfl rfl rfl) (fP rfl rfl rfl) (gC (a:=q.1) (b:=p.2) (by lia)))) (ar (iA (fP rfl rfl rfl) (fP rfl rfl rfl) (gC (a:=p.2) (b:=q.2) (by lia))) aU))).trans (gq (p.1*q.2+q.1*p.2) (p.2*q.2) (bx hp hq) hb))))
theorem Ck (p q:Nat×Nat)(hp:0<p.2)(hq:0<q.2)(h1:p.1<1000000)(h3:p.2<10000)(h4:q.2<10000):bY Pg (k+2) "_law_times" [fr p,fr q] M=some (.ok (fr (times p q)) M):=by
 have hb:p.2*q.2<1073741824:=aO (gj h3 h4) (by decide);exact dP wO rfl rfl rfl (fO (eF ((bD Ao (ar (iA (fP rfl rfl rfl) (fP rfl rfl rfl) (gC (a:=p.1) (b:=q.1) (by lia))) (ar (iA (fP rfl rfl rfl) (fP rfl rfl rfl) (gC (a:=p.2) (b:=q.2) (by lia))) aU))).trans (gq (p.1*q.1) (p.2*q.2) (bx hp hq) hb))))
theorem O3 (p q:Nat×Nat)(hp:0<p.2)(hq:0<q.1)(h1:p.1<1000000)(h3:p.2<10000)(h4:q.1<10000):bY Pg (k+2) "_law_over" [fr p,fr q] M=some (.ok (fr (over p q)) M):=by
 have hb:p.2*q.1<1073741824:=aO (gj h3 h4) (by decide);exact dP yM rfl rfl rfl (fO (eF ((bD Ao (ar (iA (fP rfl rfl rfl) (fP rfl rfl rfl) (gC (a:=p.1) (b:=q.2) (by lia))) (ar (iA (fP rfl rfl rfl) (fP rfl rfl rfl) (gC (a:=p.2) (b:=q.1) (by lia))) aU))).trans (gq (p.1*q.2) (p.2*q.1) (bx hp hq) hb))))
theorem lj {x N b c:Nat}(hN:0<N)(h:x<b)(h2:N<c):(low x N).1<b/\(low x N).2<c:=by
 obtain⟨_,_,_,l1,l2⟩:=da x N hN
 lia
noncomputable def SC:MSs:=.cons (.asg (.nm 1) (.call "_law_plus" #[.v 1,.v 2])) .nil
theorem xv {it:L2.XI}{N:Nat}{x0:D}(hs:it.src=none)(hN:0<N)(hN2:N<10000):∀(xs:List Nat)(a:Nat)(y:Option D),a+xs.sum<10000->
  ∃y',jo it (XB (Pg.env (k+2)) (.nm 2)) (cN (Pg.env (k+2)) SC) (xs.map λx=>fr (low x N)) [some x0,some (fr (low a N)),y] M=some (.nx [some x0,some (fr (low (a+xs.sum) N)),y'] M)
 | [],a,y,_=>⟨y,rfl⟩
 |x::xs,a,y,h=>by
  rw[ez]at h;obtain⟨y',e⟩:=xv hs hN hN2 xs (a+x) (some (fr (low x N))) (by lia);refine⟨y',?_⟩;rw[ez,←Nat.add_assoc];refine(j6 (δ1:=#v[x0,fr (low a N),fr (low x N)]) (M1:=M) (δ2:=#v[x0,fr (low (a+x) N),fr (low x N)]) (M2:=M) rfl ?_ (et hs)).trans e;have l1:=lj (x:=a) (b:=1000000) hN (by lia) hN2;have l2:=lj (x:=x) (b:=1000000) hN (by lia) hN2;have:=O2 (k:=k) (M:=M) (low a N) (low x N) (da a N hN).2.1 (da x N hN).2.1 l1.1 l2.1 l1.2 l2.2;rw[xT hN]at this;exact(be (bF ((bD rfl (ar rfl (ar rfl aU))).trans this))).trans rfl
theorem Cj {N:Nat}(hN:0<N)(hN2:N<10000)(xs:List Nat)(h:xs.sum<10000):bY Pg (k+3) "_law_total" [.lst (xs.map λx=>fr (low x N))] M=some (.ok (fr (low xs.sum N)) M):=by
 obtain⟨y',e⟩:=xv (k:=k) (M:=M) (it:=⟨xs.map λx=>fr (low x N),none⟩) (x0:=.lst (xs.map λx=>fr (low x N))) rfl hN hN2 xs 0 none (by lia);rw[←Eb hN,Nat.zero_add]at e;exact dP KZ rfl rfl rfl ((be (bF rfl)).trans ((be (kR (df rfl) e)).trans (fO (eF rfl))))
theorem xM {it:L2.XI}{Γ:mh}{N:Nat}(hs:it.src=none):∀(rw:List (D×Nat))(x y:Option D),de it (XB Γ (.tup #[.nm 0,.nm 1])) (iq Γ .nil) (WM Γ (.v 1)) (CD N rw) [x,y] M=some ((rw.map (·.2)).map λx=>fr (low x N),M)
 | [],x,y=>rfl
 |r::rw,x,y=>eS (δ1:=#v[r.1,fr (low r.2 N)]) (M1:=M) (M2:=M) (M3:=M) rfl rfl rfl (et hs) (xM hs rw _ _)
theorem yH {it:L2.XI}{N X:Nat}(hs:it.src=none)(hN:0<N)(hN2:N<10000)(hX:0<X)(hX2:X<10000):∀(rw:List (D×Nat))(x y:Option D),(∀r∈rw,0<r.2/\r.2<10000)->de it (XB (Pg.env (k+2)) (.tup #[.nm 0,.nm 1])) (iq (Pg.env (k+2)) #[.cmp .gt (.ix (.v 1) (.int 0)) (.int 0)]) (WM (Pg.env (k+2)) (.tup #[.v 0,.call "_law_over" #[.v 1,.v 2]])) (CD N rw) [x,y,some (fr (low X N))] M=some (CD X rw,M)
 | [],x,y,_=>rfl
 |r::rw,x,y,h=>by
  obtain⟨r0,r1⟩:=h r aR;have l1:=lj (x:=r.2) (b:=1000000) hN (by lia) hN2;have l2:=lj (x:=X) (b:=10000) hN (by lia) hN2;have:=O3 (k:=k) (M:=M) (low r.2 N) (low X N) (da r.2 N hN).2.1 (qG hX hN) l1.1 l1.2 l2.1;rw[C8 hN hX]at this;refine eS (δ1:=#v[r.1,fr (low r.2 N),fr (low X N)]) (M1:=M) (M2:=M) (M3:=M) rfl (ko (o:=.gt) (x:=.int ((low r.2 N).1:Nat)) (y:=.int 0) (M1:=M) (M2:=M) rfl rfl ?_) (fQ (ar rfl (ar ((bD rfl (ar rfl (ar rfl aU))).trans this) aU)) le2) (et hs) (yH hs hN hN2 hX hX2 rw _ _ λz hz=>h z (aJ _ hz));show some (Rs.ok (D.bl (decide ((0:Int)<((low r.2 N).1:Nat)))) M)=_;rw[decide_eq_true (by have:=qG r0 hN;lia)]
theorem Cm {N:Nat}(hN:0<N)(hN2:N<10000)(rw:List (D×Nat))(hl:rw.length<=1000)(h:∀r∈rw,0<r.2/\r.2<10000)(h0:0<SU rw)(h1:SU rw <10000):bY Pg (k+4) "_law_due" [.lst (CD N rw)] M=some (.ok (.lst (CD (SU rw) rw)) M):=by
 refine dP So rfl rfl rfl ((be (bF ((bD rfl (ar (cI (df rfl) (xM rfl rw _ _) (by rw[aP,aP];exact XJ hl)) aU)).trans (Cj hN hN2 _ h1)))).trans (fO (eF (cI (df rfl) (yH (k:=k+1) rfl hN hN2 h0 h1 rw _ _ h) (by unfold CD;rw[aP];exact XJ hl)))))
theorem G1 {w W x X B C:Nat}(hB:0<B)(hW:0<W)(hX:0<X)(h1:w*B=x*C)(h2:W*B=X*C):low w W=low x X:=by
 refine eO hW hX ?_;have:w*X*B=x*W*B:=by
  calc w*X*B=(w*B)*X:=by ac_rfl
   _=x*(X*C):=by rw[h1];ac_rfl
   _=x*W*B:=by rw[←h2];ac_rfl
 exact Nat.eq_of_mul_eq_mul_right hB this
end
theorem qK {k:Nat}{M:MS}{h:Nat}{a b s:Int}(hM:M[h]?=some (.lst [.int a,.int b]))(hs:0<s)(hs2:s<1073741824):
  ∃(r:Nat)(a' b':Int),bY Pg (k+1) "_law_draw" [.ref h,.int s] M=some (.ok (.int r) (M.set h (.lst [.int a',.int b'])))/\(r:Int)<s:=by
 suffices z:∃(r a' b':Int),bY Pg (k+1) "_law_draw" [.ref h,.int s] M=some (.ok (.int r) (M.set h (.lst [.int a',.int b'])))/\0<=r/\r<s by
  obtain⟨r,a',b',e,h0,h1⟩:=z;refine⟨r.toNat,a',b',?_,?_⟩
  ·rw[Int.toNat_of_nonneg h0];exact e
  ·rw[Int.toNat_of_nonneg h0];exact h1
 rw[dF yO];have hl:h<M.length:=(List.getElem?_eq_some_iff.mp hM).1;have Xe:∀x:fZ,(M.set h x)[h]?=some x:=λx=>dj hl
 by_cases ha:0<a
 ·refine⟨a % s,a/s,b,?_,y9 _ (by lia),tD _ hs⟩;simp[jn,iV,mFn,Zh,Zg,Y9,Yy,ZS,Zr,Zt,Zu,ZX,ZR,k9,pe,tru,mOp,jy,gI0,gI,gIx,gJ,hM,atI,ixN,mV,rb,sb,mC,kC,ZY,Z2,nG,BO,re,ma,jP,sf,ha,hs,hs2]
 ·refine⟨((b*48271+11) % 2147483647)*((b*48271+11) % 2147483647) % 2147483629/64 % s,a,(b*48271+11) % 2147483647,?_,y9 _ (by lia),tD _ hs⟩;have c1:jg b 48271=true:=by simp[jg]
  have c2:jg ((b*48271+11) % 2147483647) ((b*48271+11) % 2147483647)=true:=by
   have h1:=y9 (b*48271+11) (b:=2147483647) (by decide);have h2:=tD (b*48271+11) (b:=2147483647) (by decide);simp only[jg,cz,ag,decide_eq_true_eq]
   lia
  simp[jn,iV,mFn,Zh,Zg,Y9,Yy,ZS,Zr,Zt,Zu,ZX,ZR,k9,pe,tru,mOp,jy,gI0,gI,DB,gIx,gJ,hM,atI,ixN,mV,rb,sb,mC,kC,ZY,Z2,nG,BO,re,ma,jP,sf,ha,hs,hs2,c1,c2,uT,Xe]
theorem VG (ns:List Int)(lo hi:Option Int):∃c:Int,∃r,tY (ns.map D.int) lo hi++[D.int 0]=D.int c::r:=by
 cases e:tY (ns.map D.int) lo hi with
 |nil=>exact⟨0,[],rfl⟩
 |cons d r=>
  have:d∈ns.map D.int:=by
   have:d∈tY (ns.map D.int) lo hi:=by rw[e];exact aR
   exact List.mem_of_mem_drop (List.mem_of_mem_take this)
  obtain⟨c,_,rfl⟩:=List.mem_map.mp this;exact⟨c,r++[D.int 0],rfl⟩
theorem KN {k:Nat}{M:MS}{ns:List Int}(i:Int)(hn:ns.length<=63):∃a b,bY Pg (k+1) "_law_hand" [scr ns,.int i] M=some (.ok (.ref M.length) (M++[.lst [.int a,.int b]])):=by
 rw[dF yN];obtain⟨c,r,hc⟩:=VG ns (some i) (some (i+1));have hlen:(tY (ns.map D.int) (some i) (some (i+1))).length+1<=16777216:=by
  have:=Ih (ns.map D.int) (some i) (some (i+1));rw[aP]at this
  lia
 have c1:∀x:Int,jg x 48271=true:=λx=>by simp[jg]
 have c2:∀x:Int,jg 7919 x=true:=λx=>by simp[jg]
 have c3:∀x:Int,jg 1 x=true:=λx=>by simp[jg]
 have c4:∀x:Int,jg 0 x=true:=λx=>by simp[jg]
 by_cases hb:1000000000000000000<=c
 ·refine⟨c,(c % 2147483647+7919*i+1)*48271 % 2147483629,?_⟩;simp[jm,scr,iV,mFn,Zh,Zg,Y9,Yy,Zr,Zt,Zu,aa7,ZX,aa5,aa3,aa6,Zf,Ze,aa4,k9,pe,mOp,mB,si,sg,mSl,oS,gSl,mS,gJ,jL,DB,qe,jy,gI0,gI,gIx,atI,ixN,mV,rb,sb,mC,kC,ZY,nG,ma,IG,jP,sf,hc,hlen,c1,c2,c3,c4,ql,Hx,bT,hb]
 ·refine⟨0,(c % 2147483647+7919*i+1)*48271 % 2147483629,?_⟩;simp[jm,scr,iV,mFn,Zh,Zg,Y9,Yy,Zr,Zt,Zu,aa7,ZX,aa5,aa3,aa6,Zf,Ze,aa4,k9,pe,mOp,mB,si,sg,mSl,oS,gSl,mS,gJ,jL,DB,qe,jy,gI0,gI,gIx,atI,ixN,mV,rb,sb,mC,kC,ZY,nG,ma,IG,jP,sf,hc,hlen,c1,c2,c3,c4,ql,Hx,bT,hb]
theorem qJ {Γ:mh}{δ:cO}{M M1 M2:MS}{a b:MX}{x y:Nat}(ha:WM Γ a δ M=some (.ok (.int (x:Nat)) M1))(hb:WM Γ b δ M1=some (.ok (.int (y:Nat)) M2)):WM Γ (.bin .add a b) δ M=some (.ok (.int (x+y:Nat)) M2):=AB ha hb
theorem CW {k:Nat}{M:MS}{h:Nat}{a b:Int}(hM:M[h]?=some (.lst [.int a,.int b])):
  ∃(B s1 s2 s3:Nat)(M':MS),bY Pg (k+3) "_law_shares" [.ref h] M=some (.ok (.tup [.lst [fr (low s1 B),fr (low s2 B),fr (low s3 B)],fr (low (B - (s1+s2+s3)) B)]) M')/\5<=B/\B<=99/\1<=s1/\s1<=B/5/\1<=s2/\s2<=B/5/\1<=s3/\s3<=B/5:=by
 have Xe:∀{M:MS}(x y:fZ),M[h]?=some y->(M.set h x)[h]?=some x:=λx y e=>dj (List.getElem?_eq_some_iff.mp e).1;obtain⟨n0,a0,b0,e0,l0⟩:=qK (k:=k+1) (s:=95) hM (by decide) (by decide);have q:(0:Int)<((5+n0)/5:Nat)/\(((5+n0)/5:Nat):Int)<1073741824:=by lia
 have h1:=Xe (.lst [.int a0,.int b0]) _ hM;obtain⟨n1,a1,b1,e1,l1⟩:=qK (k:=k+1) (s:=((5+n0)/5:Nat)) h1 q.1 q.2;have h2:=Xe (.lst [.int a1,.int b1]) _ h1;obtain⟨n2,a2,b2,e2,l2⟩:=qK (k:=k+1) (s:=((5+n0)/5:Nat)) h2 q.1 q.2;have h3:=Xe (.lst [.int a2,.int b2]) _ h2;obtain⟨n3,a3,b3,e3,l3⟩:=qK (k:=k+1) (s:=((5+n0)/5:Nat)) h3 q.1 q.2;refine⟨5+n0,1+n1,1+n2,1+n3,(((M.set h (.lst [.int a0,.int b0])).set h (.lst [.int a1,.int b1])).set h (.lst [.int a2,.int b2])).set h (.lst [.int a3,.int b3]),?_,by lia,by lia,by lia,by lia,by lia,by lia,by lia,by lia⟩;have p0:0<5+n0:=by lia
 have p1:5+n0<1073741824:=by lia
 have d5:ma ((5+n0:Nat):Int) 5=true:=by simp[ma]
 have hsub:∀{Γ:mh}{M:MS}{x:Option D},WM Γ (.bin .sub (.v 1) (.bif .sum #[.v 2])) [x,some (.int (5+n0:Nat)),some (.lst [.int (1+n1:Nat),.int (1+n2:Nat),.int (1+n3:Nat)])] M=some (.ok (.int (5+n0 - (1+n1+(1+n2)+(1+n3)):Nat)) M):=by
  intro Γ M x;have z:=sD (Γ:=Γ) (δ:=[x,some (.int (5+n0:Nat)),some (.lst [.int (1+n1:Nat),.int (1+n2:Nat),.int (1+n3:Nat)])]) (a:=.v 1) (M:=M) (i:=(5+n0:Nat)) rfl (gS (bf:=.sum) (xs:=.cons (.v 2) .nil) (ar rfl aU) (oy [1+n1,1+n2,1+n3]));rw[z];have:(((5+n0:Nat):Int) - (([1+n1,1+n2,1+n3]:List Nat).sum:Nat))=((5+n0 - (1+n1+(1+n2)+(1+n3)):Nat):Int):=by
   simp only[ez,nc]
   lia
  rw[this]
 exact dP tW rfl rfl rfl ((be (bF (d:=.int (5+n0:Nat)) (qJ (x:=5) rfl ((bD rfl (ar rfl (ar rfl aU))).trans e0)))).trans
  ((be (bF (d:=.lst [.int (1+n1:Nat),.int (1+n2:Nat),.int (1+n3:Nat)]) (cI (it:=⟨[.int 0,.int 1,.int 2],none⟩) rfl
   (eS rfl rfl (qJ (x:=1) rfl ((bD rfl (ar rfl (ar (iN rfl rfl d5) aU))).trans e1)) rfl
   (eS rfl rfl (qJ (x:=1) rfl ((bD rfl (ar rfl (ar (iN rfl rfl d5) aU))).trans e2)) rfl
   (eS rfl rfl (qJ (x:=1) rfl ((bD rfl (ar rfl (ar (iN rfl rfl d5) aU))).trans e3)) rfl AJ))) (by exact XJ (aG rfl))))).trans
  (fO (eF (fQ (ar (cI (df rfl)
   (eS rfl rfl ((bD rfl (ar rfl (ar rfl aU))).trans (gq (1+n1) (5+n0) p0 p1)) rfl
   (eS rfl rfl ((bD rfl (ar rfl (ar rfl aU))).trans (gq (1+n2) (5+n0) p0 p1)) rfl
   (eS rfl rfl ((bD rfl (ar rfl (ar rfl aU))).trans (gq (1+n3) (5+n0) p0 p1)) rfl AJ))) (by exact XJ (aG rfl)))
   (ar ((bD rfl (ar hsub (ar rfl aU))).trans (gq (5+n0 - (1+n1+(1+n2)+(1+n3))) (5+n0) p0 p1)) aU)) le2)))))
section
variable {k:Nat}{M:MS}
def m (i:Int):D:=.tup [.int i]
structure HB (B s1 s2 s3:Nat):Prop where
 b5:5<=B
 b9:B<=99
 p1:1<=s1
 q1:s1<=B/5
 p2:1<=s2
 q2:s2<=B/5
 p3:1<=s3
 q3:s3<=B/5
section
variable {B s1 s2 s3:Nat}
theorem HB.S (h:HB B s1 s2 s3):WOK B (WT s1 s2 s3):=by
 obtain⟨h1,h2,h3,h4,h5,h6,h7,h8⟩:=h;refine⟨by lia,by lia,by show 3<=3;decide,λw hw=>?_,λw hw k=>?_,?_⟩
 ·simp only[WT,aV,aE,or_false]at hw;rcases hw with rfl|rfl|rfl<;>(simp only;lia)
 ·simp only[WT,aV,aE,or_false]at hw;rcases hw with rfl|rfl|rfl
  ·exact LU
  ·exact GF
  ·exact Rh
 ·simp only[WT,aM,bV,ez,nc];lia
theorem HB.T (h:HB B s1 s2 s3):WOK B (Xf s1 s2):=by
 obtain⟨h1,h2,h3,h4,h5,h6,h7,h8⟩:=h;refine⟨by lia,by lia,by show 2<=3;decide,λw hw=>?_,λw hw k=>?_,?_⟩
 ·simp only[Xf,aV,aE,or_false]at hw;rcases hw with rfl|rfl<;>(simp only;lia)
 ·simp only[Xf,aV,aE,or_false]at hw;rcases hw with rfl|rfl
  ·exact LU
  ·exact GF
 ·simp only[Xf,aM,bV,ez,nc];lia
theorem HB.U (h:HB B s1 s2 s3):WOK B (wsU s2):=by
 obtain⟨h1,h2,h3,h4,h5,h6,h7,h8⟩:=h;refine⟨by lia,by lia,by show 1<=3;decide,λw hw=>?_,λw hw k=>?_,?_⟩
 ·simp only[wsU,aV,aE,or_false]at hw;subst hw;simp only;lia
 ·simp only[wsU,aV,aE,or_false]at hw;subst hw;exact GF
 ·simp only[wsU,aM,bV,ez,nc];lia
theorem HB.V (h:HB B s1 s2 s3):WOK B (WW s1 s2):=by
 obtain⟨h1,h2,h3,h4,h5,h6,h7,h8⟩:=h;refine⟨by lia,by lia,by show 2<=3;decide,λw hw=>?_,λw hw k=>?_,?_⟩
 ·simp only[WW,aV,aE,or_false]at hw;rcases hw with rfl|rfl<;>(simp only;lia)
 ·simp only[WW,aV,aE,or_false]at hw;rcases hw with rfl|rfl
  ·exact Ri
  ·exact Rg
 ·simp only[WW,aM,bV,ez,nc];lia
theorem rest_eq {B:Nat}(ws:List (Nat×D))(h:WOK B ws):(LL B ws - (Xa B ws).sum)*B=(B - (ws.map (·.1)).sum)*LL B ws:=by
 rw[Nat.sub_mul,Nat.sub_mul,Br h.pos ws,Nat.mul_comm B]
theorem lY {B C:Nat}(hB:0<B)(zs:List (D×Nat×Nat))(h:∀z∈zs,z.2.1*B=z.2.2*C)(h1:0<SU (zs.map λz=>(z.1,z.2.1)))(h2:0<SU (zs.map λz=>(z.1,z.2.2))):
  CD (SU (zs.map λz=>(z.1,z.2.1))) (zs.map λz=>(z.1,z.2.1))=CD (SU (zs.map λz=>(z.1,z.2.2))) (zs.map λz=>(z.1,z.2.2)):=by
 have hs:∀(ys:List (D×Nat×Nat)),(∀z∈ys,z.2.1*B=z.2.2*C)->SU (ys.map λz=>(z.1,z.2.1))*B=SU (ys.map λz=>(z.1,z.2.2))*C:=by
  intro ys
  induction ys with
  |nil=>intro _;simp[SU]
  |cons y ys ih=>
   intro hy;have:=ih λz hz=>hy z (aJ _ hz);simp only[SU,aM,ez,hJ]at this ⊢;rw[hy y aR,this]
 have e:=hs zs h;unfold CD;rw[iI,iI];refine List.map_congr_left λz hz=>?_;show D.tup [z.1,fr (low z.2.1 _)]=D.tup [z.1,fr (low z.2.2 _)];rw[G1 hB h1 h2 (h z hz) e]
theorem Wv {t B s L:Nat}(h:t*B=s*L)(l0:0<L)(hs:0<s):0<t:=Nat.pos_of_ne_zero λz=>by
 rw[z,Nat.zero_mul]at h;exact d9 (bx hs l0) h.symm
theorem sc {t B s L c d e:Nat}(h:t*B=s*L)(hc:c=d*e):(t*c)*B=(s*d)*(L*e):=by
 subst hc
 calc (t*(d*e))*B=(t*B)*(d*e):=by ac_rfl
  _=(s*d)*(L*e):=by rw[h];ac_rfl
theorem Rn (h:HB B s1 s2 s3):∃L t0 t1 t2 t3:Nat,0<L/\L<=B/\t0*B=(B - (s1+s2+s3))*L/\t1*B=s1*L/\t2*B=s2*L/\t3*B=s3*L/\t0+t1+t2+t3=L/\∀k,bY Pg (k+26) "modes_left" [WK,.lst [.lst (WD B (WT s1 s2 s3))],lk0] []=some (.ok (.lst (RD [(m 0,t0*4),(m 1,t1*4),(m 2,t2*4),(m 3,t3*4)])) []):=by
 have w:=h.S;have hm:=λk=>IE (k:=k) w;have hr:=rest_eq _ w;have a1:=iJ w.pos (WT s1 s2 s3) (s1,tF0) (by simp[WT]);have a2:=iJ w.pos (WT s1 s2 s3) (s2,tF1) (by simp[WT]);have a3:=iJ w.pos (WT s1 s2 s3) (s3,tNo) (by simp[WT]);have hl:=iT w.pos _ w.sum;have lb:=dM w.pos (pO (B:=B) (WT s1 s2 s3));have es:(Xa B (WT s1 s2 s3)).sum=tp (LL B (WT s1 s2 s3)) (low s1 B)+tp (LL B (WT s1 s2 s3)) (low s2 B)+tp (LL B (WT s1 s2 s3)) (low s3 B):=by simp[Xa,WT];try lia
 have ew:((WT s1 s2 s3).map (·.1)).sum=s1+s2+s3:=by simp[WT];try lia
 rw[ew]at hr;refine⟨LL B (WT s1 s2 s3),LL B (WT s1 s2 s3) - (Xa B (WT s1 s2 s3)).sum,tp (LL B (WT s1 s2 s3)) (low s1 B),tp (LL B (WT s1 s2 s3)) (low s2 B),tp (LL B (WT s1 s2 s3)) (low s3 B),m7 w.pos _,lb,hr,a1,a2,a3,by lia,λk=>?_⟩;have z:=hm k;unfold rE at z
 generalize LL B (WT s1 s2 s3) - (Xa B (WT s1 s2 s3)).sum=t0 at z ⊢
 generalize tp (LL B (WT s1 s2 s3)) (low s1 B)=t1 at z ⊢
 generalize tp (LL B (WT s1 s2 s3)) (low s2 B)=t2 at z ⊢
 generalize tp (LL B (WT s1 s2 s3)) (low s3 B)=t3 at z ⊢
 have e:wB t0 t1 t2 t3=RD [(m 0,t0*4),(m 1,t1*4),(m 2,t2*4),(m 3,t3*4)]:=by
  simp only[wB,RD,aM,bV,m,List.cons.injEq,D.tup.injEq,D.int.injEq,and_true,true_and]
  lia
 rw[e]at z;exact z
theorem VO (h:HB B s1 s2 s3):bY Pg (k+27) "chances" [WK,.lst [.lst (WD B (WT s1 s2 s3))],lk0] []=some (.ok (.lst (CD (SU [(m 0,(B - (s1+s2+s3))),(m 1,s1),(m 2,s2),(m 3,s3)]) [(m 0,(B - (s1+s2+s3))),(m 1,s1),(m 2,s2),(m 3,s3)])) []):=by
 obtain⟨L,t0,t1,t2,t3,l0,lb,hr,a1,a2,a3,hs,hm⟩:=Rn h;have hB:0<B:=by have:=h.b5;lia
 obtain⟨h1,h2,h3,h4,h5,h6,h7,h8⟩:=h;have g0:0<t0:=Wv hr l0 (by lia);have g1:0<t1:=Wv a1 l0 (by lia);have g2:0<t2:=Wv a2 l0 (by lia);have g3:0<t3:=Wv a3 l0 (by lia);have c:=iR (hm k) (aG rfl) (by simp[SU];lia) (by simp[SU];lia)
 try simp only[dC]at c
 rw[c];have p:=lY hB [(m 0,t0*4,(B - (s1+s2+s3))*1),(m 1,t1*4,s1*1),(m 2,t2*4,s2*1),(m 3,t3*4,s3*1)] (C:=L*4) (by
  intro z hz;simp only[aV,aE,or_false]at hz;rcases hz with rfl|rfl|rfl|rfl
  ·exact sc hr (by decide)
  ·exact sc a1 (by decide)
  ·exact sc a2 (by decide)
  ·exact sc a3 (by decide)) (by simp[SU];lia) (by simp[SU];lia)
 simp only[aM,bV,dC]at p;rw[p]
theorem Vn (h:HB B s1 s2 s3):∃L t0 t1 t2 t3:Nat,0<L/\L<=B/\t0*B=(B - (s1+s2+s3))*L/\t1*B=s1*L/\t2*B=s2*L/\t3*B=s3*L/\t0+t1+t2+t3=L/\∀k,bY Pg (k+26) "modes_left" [WK,.lst [.lst (WD B (WT s1 s2 s3))],lk1] []=some (.ok (.lst (RD [(m 0,t0*2),(m 1,t1*4),(m 3,t3*2)])) []):=by
 have w:=h.S;have hm:=λk=>ID (k:=k) w;have hr:=rest_eq _ w;have a1:=iJ w.pos (WT s1 s2 s3) (s1,tF0) (by simp[WT]);have a2:=iJ w.pos (WT s1 s2 s3) (s2,tF1) (by simp[WT]);have a3:=iJ w.pos (WT s1 s2 s3) (s3,tNo) (by simp[WT]);have hl:=iT w.pos _ w.sum;have lb:=dM w.pos (pO (B:=B) (WT s1 s2 s3));have es:(Xa B (WT s1 s2 s3)).sum=tp (LL B (WT s1 s2 s3)) (low s1 B)+tp (LL B (WT s1 s2 s3)) (low s2 B)+tp (LL B (WT s1 s2 s3)) (low s3 B):=by simp[Xa,WT];try lia
 have ew:((WT s1 s2 s3).map (·.1)).sum=s1+s2+s3:=by simp[WT];try lia
 rw[ew]at hr;refine⟨LL B (WT s1 s2 s3),LL B (WT s1 s2 s3) - (Xa B (WT s1 s2 s3)).sum,tp (LL B (WT s1 s2 s3)) (low s1 B),tp (LL B (WT s1 s2 s3)) (low s2 B),tp (LL B (WT s1 s2 s3)) (low s3 B),m7 w.pos _,lb,hr,a1,a2,a3,by lia,λk=>?_⟩;have z:=hm k;unfold rE at z
 generalize LL B (WT s1 s2 s3) - (Xa B (WT s1 s2 s3)).sum=t0 at z ⊢
 generalize tp (LL B (WT s1 s2 s3)) (low s1 B)=t1 at z ⊢
 generalize tp (LL B (WT s1 s2 s3)) (low s2 B)=t2 at z ⊢
 generalize tp (LL B (WT s1 s2 s3)) (low s3 B)=t3 at z ⊢
 have e:wA t0 t1 t2 t3=RD [(m 0,t0*2),(m 1,t1*4),(m 3,t3*2)]:=by
  simp only[wA,RD,aM,bV,m,List.cons.injEq,D.tup.injEq,D.int.injEq,and_true,true_and]
  lia
 rw[e]at z;exact z
theorem VN (h:HB B s1 s2 s3):bY Pg (k+27) "chances" [WK,.lst [.lst (WD B (WT s1 s2 s3))],lk1] []=some (.ok (.lst (CD (SU [(m 0,(B - (s1+s2+s3))),(m 1,s1*2),(m 3,s3)]) [(m 0,(B - (s1+s2+s3))),(m 1,s1*2),(m 3,s3)])) []):=by
 obtain⟨L,t0,t1,t2,t3,l0,lb,hr,a1,a2,a3,hs,hm⟩:=Vn h;have hB:0<B:=by have:=h.b5;lia
 obtain⟨h1,h2,h3,h4,h5,h6,h7,h8⟩:=h;have g0:0<t0:=Wv hr l0 (by lia);have g1:0<t1:=Wv a1 l0 (by lia);have g2:0<t2:=Wv a2 l0 (by lia);have g3:0<t3:=Wv a3 l0 (by lia);have c:=iR (hm k) (aG rfl) (by simp[SU];lia) (by simp[SU];lia)
 try simp only[dC]at c
 rw[c];have p:=lY hB [(m 0,t0*2,(B - (s1+s2+s3))*1),(m 1,t1*4,s1*2),(m 3,t3*2,s3*1)] (C:=L*2) (by
  intro z hz;simp only[aV,aE,or_false]at hz;rcases hz with rfl|rfl|rfl
  ·exact sc hr (by decide)
  ·exact sc a1 (by decide)
  ·exact sc a3 (by decide)) (by simp[SU];lia) (by simp[SU];lia)
 simp only[aM,bV,dC]at p;rw[p]
theorem Rm (h:HB B s1 s2 s3):∃L t0 t1 t2 t3:Nat,0<L/\L<=B/\t0*B=(B - (s1+s2+s3))*L/\t1*B=s1*L/\t2*B=s2*L/\t3*B=s3*L/\t0+t1+t2+t3=L/\∀k,bY Pg (k+26) "modes_left" [WK,.lst [.lst (WD B (WT s1 s2 s3))],XM] []=some (.ok (.lst (RD [(m 1,t1*2),(m 3,t3*1)])) []):=by
 have w:=h.S;have hm:=λk=>IC (k:=k) w;have hr:=rest_eq _ w;have a1:=iJ w.pos (WT s1 s2 s3) (s1,tF0) (by simp[WT]);have a2:=iJ w.pos (WT s1 s2 s3) (s2,tF1) (by simp[WT]);have a3:=iJ w.pos (WT s1 s2 s3) (s3,tNo) (by simp[WT]);have hl:=iT w.pos _ w.sum;have lb:=dM w.pos (pO (B:=B) (WT s1 s2 s3));have es:(Xa B (WT s1 s2 s3)).sum=tp (LL B (WT s1 s2 s3)) (low s1 B)+tp (LL B (WT s1 s2 s3)) (low s2 B)+tp (LL B (WT s1 s2 s3)) (low s3 B):=by simp[Xa,WT];try lia
 have ew:((WT s1 s2 s3).map (·.1)).sum=s1+s2+s3:=by simp[WT];try lia
 rw[ew]at hr;refine⟨LL B (WT s1 s2 s3),LL B (WT s1 s2 s3) - (Xa B (WT s1 s2 s3)).sum,tp (LL B (WT s1 s2 s3)) (low s1 B),tp (LL B (WT s1 s2 s3)) (low s2 B),tp (LL B (WT s1 s2 s3)) (low s3 B),m7 w.pos _,lb,hr,a1,a2,a3,by lia,λk=>?_⟩;have z:=hm k;unfold rE at z
 generalize LL B (WT s1 s2 s3) - (Xa B (WT s1 s2 s3)).sum=t0 at z ⊢
 generalize tp (LL B (WT s1 s2 s3)) (low s1 B)=t1 at z ⊢
 generalize tp (LL B (WT s1 s2 s3)) (low s2 B)=t2 at z ⊢
 generalize tp (LL B (WT s1 s2 s3)) (low s3 B)=t3 at z ⊢
 have e:wz t0 t1 t2 t3=RD [(m 1,t1*2),(m 3,t3*1)]:=by
  simp only[wz,RD,aM,bV,m,List.cons.injEq,D.tup.injEq,D.int.injEq,and_true,true_and]
  lia
 rw[e]at z;exact z
theorem VL (h:HB B s1 s2 s3):bY Pg (k+27) "chances" [WK,.lst [.lst (WD B (WT s1 s2 s3))],XM] []=some (.ok (.lst (CD (SU [(m 1,s1*2),(m 3,s3)]) [(m 1,s1*2),(m 3,s3)])) []):=by
 obtain⟨L,t0,t1,t2,t3,l0,lb,hr,a1,a2,a3,hs,hm⟩:=Rm h;have hB:0<B:=by have:=h.b5;lia
 obtain⟨h1,h2,h3,h4,h5,h6,h7,h8⟩:=h;have g0:0<t0:=Wv hr l0 (by lia);have g1:0<t1:=Wv a1 l0 (by lia);have g2:0<t2:=Wv a2 l0 (by lia);have g3:0<t3:=Wv a3 l0 (by lia);have c:=iR (hm k) (aG rfl) (by simp[SU];lia) (by simp[SU];lia)
 try simp only[dC]at c
 rw[c];have p:=lY hB [(m 1,t1*2,s1*2),(m 3,t3*1,s3*1)] (C:=L*1) (by
  intro z hz;simp only[aV,aE,or_false]at hz;rcases hz with rfl|rfl
  ·exact sc a1 (by decide)
  ·exact sc a3 (by decide)) (by simp[SU];lia) (by simp[SU];lia)
 simp only[aM,bV,dC]at p;rw[p]
theorem Vm (h:HB B s1 s2 s3):∃L t0 t1 t2:Nat,0<L/\L<=B/\t0*B=(B - (s1+s2))*L/\t1*B=s1*L/\t2*B=s2*L/\t0+t1+t2=L/\∀k,bY Pg (k+26) "modes_left" [WK,.lst [.lst (WD B (Xf s1 s2))],XM] []=some (.ok (.lst (RD [(m 1,t1*1)])) []):=by
 have w:=h.T;have hm:=λk=>IB (k:=k) w;have hr:=rest_eq _ w;have a1:=iJ w.pos (Xf s1 s2) (s1,tF0) (by simp[Xf]);have a2:=iJ w.pos (Xf s1 s2) (s2,tF1) (by simp[Xf]);have hl:=iT w.pos _ w.sum;have lb:=dM w.pos (pO (B:=B) (Xf s1 s2));have es:(Xa B (Xf s1 s2)).sum=tp (LL B (Xf s1 s2)) (low s1 B)+tp (LL B (Xf s1 s2)) (low s2 B):=by simp[Xa,Xf];try lia
 have ew:((Xf s1 s2).map (·.1)).sum=s1+s2:=by simp[Xf];try lia
 rw[ew]at hr;refine⟨LL B (Xf s1 s2),LL B (Xf s1 s2) - (Xa B (Xf s1 s2)).sum,tp (LL B (Xf s1 s2)) (low s1 B),tp (LL B (Xf s1 s2)) (low s2 B),m7 w.pos _,lb,hr,a1,a2,by lia,λk=>?_⟩;have z:=hm k;unfold Ws at z
 generalize LL B (Xf s1 s2) - (Xa B (Xf s1 s2)).sum=t0 at z ⊢
 generalize tp (LL B (Xf s1 s2)) (low s1 B)=t1 at z ⊢
 generalize tp (LL B (Xf s1 s2)) (low s2 B)=t2 at z ⊢
 have e:wy t0 t1 t2=RD [(m 1,t1*1)]:=by
  simp only[wy,RD,aM,bV,m,List.cons.injEq,D.tup.injEq,D.int.injEq,and_true,true_and]
  lia
 rw[e]at z;exact z
theorem VJ (h:HB B s1 s2 s3):bY Pg (k+27) "chances" [WK,.lst [.lst (WD B (Xf s1 s2))],XM] []=some (.ok (.lst (CD (SU [(m 1,s1)]) [(m 1,s1)])) []):=by
 obtain⟨L,t0,t1,t2,l0,lb,hr,a1,a2,hs,hm⟩:=Vm h;have hB:0<B:=by have:=h.b5;lia
 obtain⟨h1,h2,h3,h4,h5,h6,h7,h8⟩:=h;have g0:0<t0:=Wv hr l0 (by lia);have g1:0<t1:=Wv a1 l0 (by lia);have g2:0<t2:=Wv a2 l0 (by lia);have c:=iR (hm k) (aG rfl) (by simp[SU];lia) (by simp[SU];lia)
 try simp only[dC]at c
 rw[c];have p:=lY hB [(m 1,t1*1,s1*1)] (C:=L*1) (by
  intro z hz;simp only[aV,aE,or_false]at hz;subst hz;exact sc a1 (by decide)) (by simp[SU];lia) (by simp[SU];lia)
 simp only[aM,bV,dC]at p;rw[p]
theorem Vl (h:HB B s1 s2 s3):∃L t0 t1 t2:Nat,0<L/\L<=B/\t0*B=(B - (s1+s2))*L/\t1*B=s1*L/\t2*B=s2*L/\t0+t1+t2=L/\∀k,bY Pg (k+26) "modes_left" [WK,.lst [.lst (WD B (WW s1 s2))],lk3] []=some (.ok (.lst (RD [(m 0,t0*1),(m 1,t1*2),(m 2,t2*1)])) []):=by
 have w:=h.V;have hm:=λk=>Iz (k:=k) w;have hr:=rest_eq _ w;have a1:=iJ w.pos (WW s1 s2) (s1,tFF) (by simp[WW]);have a2:=iJ w.pos (WW s1 s2) (s2,tTu) (by simp[WW]);have hl:=iT w.pos _ w.sum;have lb:=dM w.pos (pO (B:=B) (WW s1 s2));have es:(Xa B (WW s1 s2)).sum=tp (LL B (WW s1 s2)) (low s1 B)+tp (LL B (WW s1 s2)) (low s2 B):=by simp[Xa,WW];try lia
 have ew:((WW s1 s2).map (·.1)).sum=s1+s2:=by simp[WW];try lia
 rw[ew]at hr;refine⟨LL B (WW s1 s2),LL B (WW s1 s2) - (Xa B (WW s1 s2)).sum,tp (LL B (WW s1 s2)) (low s1 B),tp (LL B (WW s1 s2)) (low s2 B),m7 w.pos _,lb,hr,a1,a2,by lia,λk=>?_⟩;have z:=hm k;unfold Wq at z
 generalize LL B (WW s1 s2) - (Xa B (WW s1 s2)).sum=t0 at z ⊢
 generalize tp (LL B (WW s1 s2)) (low s1 B)=t1 at z ⊢
 generalize tp (LL B (WW s1 s2)) (low s2 B)=t2 at z ⊢
 have e:wx t0 t1 t2=RD [(m 0,t0*1),(m 1,t1*2),(m 2,t2*1)]:=by
  simp only[wx,RD,aM,bV,m,List.cons.injEq,D.tup.injEq,D.int.injEq,and_true,true_and]
  lia
 rw[e]at z;exact z
theorem VI (h:HB B s1 s2 s3):bY Pg (k+27) "chances" [WK,.lst [.lst (WD B (WW s1 s2))],lk3] []=some (.ok (.lst (CD (SU [(m 0,(B - (s1+s2))),(m 1,s1*2),(m 2,s2)]) [(m 0,(B - (s1+s2))),(m 1,s1*2),(m 2,s2)])) []):=by
 obtain⟨L,t0,t1,t2,l0,lb,hr,a1,a2,hs,hm⟩:=Vl h;have hB:0<B:=by have:=h.b5;lia
 obtain⟨h1,h2,h3,h4,h5,h6,h7,h8⟩:=h;have g0:0<t0:=Wv hr l0 (by lia);have g1:0<t1:=Wv a1 l0 (by lia);have g2:0<t2:=Wv a2 l0 (by lia);have c:=iR (hm k) (aG rfl) (by simp[SU];lia) (by simp[SU];lia)
 try simp only[dC]at c
 rw[c];have p:=lY hB [(m 0,t0*1,(B - (s1+s2))*1),(m 1,t1*2,s1*2),(m 2,t2*1,s2*1)] (C:=L*1) (by
  intro z hz;simp only[aV,aE,or_false]at hz;rcases hz with rfl|rfl|rfl
  ·exact sc hr (by decide)
  ·exact sc a1 (by decide)
  ·exact sc a2 (by decide)) (by simp[SU];lia) (by simp[SU];lia)
 simp only[aM,bV,dC]at p;rw[p]
theorem Vk (h:HB B s1 s2 s3):∃L t0 t1 t2:Nat,0<L/\L<=B/\t0*B=(B - (s1+s2))*L/\t1*B=s1*L/\t2*B=s2*L/\t0+t1+t2=L/\∀k,bY Pg (k+26) "modes_left" [WK,.lst [.lst (WD B (WW s1 s2))],lk4] []=some (.ok (.lst (RD [(m 1,t1*2),(m 2,t2*1)])) []):=by
 have w:=h.V;have hm:=λk=>Iy (k:=k) w;have hr:=rest_eq _ w;have a1:=iJ w.pos (WW s1 s2) (s1,tFF) (by simp[WW]);have a2:=iJ w.pos (WW s1 s2) (s2,tTu) (by simp[WW]);have hl:=iT w.pos _ w.sum;have lb:=dM w.pos (pO (B:=B) (WW s1 s2));have es:(Xa B (WW s1 s2)).sum=tp (LL B (WW s1 s2)) (low s1 B)+tp (LL B (WW s1 s2)) (low s2 B):=by simp[Xa,WW];try lia
 have ew:((WW s1 s2).map (·.1)).sum=s1+s2:=by simp[WW];try lia
 rw[ew]at hr;refine⟨LL B (WW s1 s2),LL B (WW s1 s2) - (Xa B (WW s1 s2)).sum,tp (LL B (WW s1 s2)) (low s1 B),tp (LL B (WW s1 s2)) (low s2 B),m7 w.pos _,lb,hr,a1,a2,by lia,λk=>?_⟩;have z:=hm k;unfold Wq at z
 generalize LL B (WW s1 s2) - (Xa B (WW s1 s2)).sum=t0 at z ⊢
 generalize tp (LL B (WW s1 s2)) (low s1 B)=t1 at z ⊢
 generalize tp (LL B (WW s1 s2)) (low s2 B)=t2 at z ⊢
 have e:wu t0 t1 t2=RD [(m 1,t1*2),(m 2,t2*1)]:=by
  simp only[wu,RD,aM,bV,m,List.cons.injEq,D.tup.injEq,D.int.injEq,and_true,true_and]
  lia
 rw[e]at z;exact z
theorem VH (h:HB B s1 s2 s3):bY Pg (k+27) "chances" [WK,.lst [.lst (WD B (WW s1 s2))],lk4] []=some (.ok (.lst (CD (SU [(m 1,s1*2),(m 2,s2)]) [(m 1,s1*2),(m 2,s2)])) []):=by
 obtain⟨L,t0,t1,t2,l0,lb,hr,a1,a2,hs,hm⟩:=Vk h;have hB:0<B:=by have:=h.b5;lia
 obtain⟨h1,h2,h3,h4,h5,h6,h7,h8⟩:=h;have g0:0<t0:=Wv hr l0 (by lia);have g1:0<t1:=Wv a1 l0 (by lia);have g2:0<t2:=Wv a2 l0 (by lia);have c:=iR (hm k) (aG rfl) (by simp[SU];lia) (by simp[SU];lia)
 try simp only[dC]at c
 rw[c];have p:=lY hB [(m 1,t1*2,s1*2),(m 2,t2*1,s2*1)] (C:=L*1) (by
  intro z hz;simp only[aV,aE,or_false]at hz;rcases hz with rfl|rfl
  ·exact sc a1 (by decide)
  ·exact sc a2 (by decide)) (by simp[SU];lia) (by simp[SU];lia)
 simp only[aM,bV,dC]at p;rw[p]
theorem VP (h:HB B s1 s2 s3):bY Pg (k+27) "broken_chances" [WK,.lst [.lst (WD B (WT s1 s2 s3))],XM] []=some (.ok (.lst [fr (1,1)]) []):=by
 obtain⟨L,t0,t1,t2,t3,l0,lb,hr,a1,a2,a3,hs,hm⟩:=Rm h;have hB:0<B:=by have:=h.b5;lia
 obtain⟨h1,h2,h3,h4,h5,h6,h7,h8⟩:=h;have g1:0<t1:=Wv a1 l0 (by lia);have c:=yV (bs:=[t1*2,t3*1]) (hm k) (aG rfl) (by simp[SU];lia) (by simp[SU];lia) (by kernel_rfl);rw[c];have e:low [t1*2,t3*1].sum (SU [(m 1,t1*2),(m 3,t3*1)])=(1,1):=by
  rw[BM];exact eO (by simp[SU];lia) (by decide) (by simp[SU])
 rw[e]
theorem VQ (h:HB B s1 s2 s3):bY Pg (k+27) "broken_chances" [WK,.lst [.lst (WD B (WT s1 s2 s3))],lk0] []=some (.ok (.lst [fr (low ([s1,s2,s3].sum) B)]) []):=by
 obtain⟨L,t0,t1,t2,t3,l0,lb,hr,a1,a2,a3,hs,hm⟩:=Rn h;have hB:0<B:=by have:=h.b5;lia
 obtain⟨h1,h2,h3,h4,h5,h6,h7,h8⟩:=h;have c:=yV (bs:=[t1*4,t2*4,t3*4]) (hm k) (aG rfl) (by simp[SU];lia) (by simp[SU];lia) (by kernel_rfl);rw[c];have e:low [t1*4,t2*4,t3*4].sum (SU [(m 0,t0*4),(m 1,t1*4),(m 2,t2*4),(m 3,t3*4)])=low ([s1,s2,s3].sum) B:=by
  refine eO (by simp[SU];lia) hB ?_;have e1:SU [(m 0,t0*4),(m 1,t1*4),(m 2,t2*4),(m 3,t3*4)]=L*4:=by simp[SU];lia
  have e2:[t1*4,t2*4,t3*4].sum=(t1+t2+t3)*4:=by simp;lia
  have e3:[s1,s2,s3].sum=s1+s2+s3:=by simp;lia
  rw[e1,e2,e3]
  calc (t1+t2+t3)*4*B=(t1*B+t2*B+t3*B)*4:=by rw[←hJ,←hJ];ac_rfl
   _=(s1+s2+s3)*(L*4):=by rw[a1,a2,a3,←hJ,←hJ];ac_rfl
 rw[e]
theorem rfU (h:HB B s1 s2 s3):bY Pg (k+28) "_law_refused" [WK,.lst [.lst (WD B (wsU s2))],XM] M=some (.ok (.bl true) M):=vm (by kernel_rfl) (IA h.U)
theorem rfN:bY Pg (k+28) "_law_refused" [WK,.lst [.lst []],XM] M=some (.ok (.bl true) M):=vm (by kernel_rfl) (by kernel_rfl)
end
end
section
theorem cJ {n:Nat}{x:Str}{xs:Xr}{δ:cO}{M M1 M2:MS}{ds:List D}{d:D}(hk:(Pg.defs x).isSome=true)(ha:Xi (Pg.env n) xs δ M=some (.ok ds M1))(hp:fw ds=true)(hr:bY Pg n x ds []=some (.ok d M2))(hd:d.pure=true):WM (Pg.env n) (.cB x xs) δ M=some (.ok d M1):=by
 show lg (Pg.env n) x (Xi (Pg.env n) xs) δ M=_;unfold lg;rw[if_pos hk];show rb (Xi (Pg.env n) xs δ M) _=_;rw[ha];show gP (bY Pg n x) ds M1=_;unfold gP;rw[if_pos hp,hr];show(if d.pure=true then some (Rs.ok d M1) else none)=_;rw[if_pos hd]
noncomputable def BF (M:MS)(d:D):Bool:=match toPy M d with
 |some p=>SeqAt.shaped p
 |none=>false
theorem ne_self {M:MS}{d:D}(h:BF M d=true):jy .ne d d M=some (.ok (.bl false) M):=by
 show L2.gEq not d d M=_;unfold BF at h;unfold L2.gEq;split at h
 ·rename_i p e;rw[e];simp only[h,Bool.and_self,if_true];rw[PySem.SeqAt.eqv_refl p (SeqAt.canLay_of_shaped h)];rfl
 ·cases h
theorem RA:low 1 2=(1,2):=by decide
theorem Rz:low 1 4=(1,4):=by decide
theorem nr {x N:Nat}(hN:0<N)(h1:x<1000000)(h2:N<5000){k:Nat}{M:MS}:bY Pg (k+2) "_law_times" [fr (low x N),.tup [.int 1,.int 2]] M=some (.ok (fr (low x (N*2))) M):=by
 have l:=lj (x:=x) (b:=1000000) (c:=5000) hN h1 h2;have:=Ck (k:=k) (M:=M) (low x N) (low 1 2) (da x N hN).2.1 (by decide) l.1 (by lia) (by decide);rw[uz hN (by decide),dC,RA]at this;exact this
theorem Ep {x N:Nat}(hN:0<N)(h1:x<1000000)(h2:N<5000){k:Nat}{M:MS}:bY Pg (k+2) "_law_times" [fr (low x N),.tup [.int 1,.int 4]] M=some (.ok (fr (low x (N*4))) M):=by
 have l:=lj (x:=x) (b:=1000000) (c:=5000) hN h1 h2;have:=Ck (k:=k) (M:=M) (low x N) (low 1 4) (da x N hN).2.1 (by decide) l.1 (by lia) (by decide);rw[uz hN (by decide),dC,Rz]at this;exact this
theorem Rx {s B:Nat}(hB:0<B):low s B=low (s*2) (B*2):=eO hB (by lia) (by ac_rfl)
theorem Rw {s B:Nat}(hB:0<B):low s (B*2)=low (s*2) (B*4):=eO (by lia) (by lia) (by
 have:B*4=2*(B*2):=by lia
 rw[this];ac_rfl)
section
variable {B s1 s2 s3:Nat}
noncomputable abbrev Wr (B s1 s2 s3:Nat):D:=.lst (CD (SU [(m 0,(B - (s1+s2+s3))),(m 1,s1),(m 2,s2),(m 3,s3)]) [(m 0,(B - (s1+s2+s3))),(m 1,s1),(m 2,s2),(m 3,s3)])
noncomputable abbrev xN (B s1 s2 s3:Nat):D:=.lst (CD (SU [(m 0,(B - (s1+s2+s3))),(m 1,s1*2),(m 3,s3)]) [(m 0,(B - (s1+s2+s3))),(m 1,s1*2),(m 3,s3)])
noncomputable abbrev kU (s1 s3:Nat):D:=.lst (CD (SU [(m 1,s1*2),(m 3,s3)]) [(m 1,s1*2),(m 3,s3)])
noncomputable abbrev kW (B s1 s2:Nat):D:=.lst (CD (SU [(m 0,(B - (s1+s2))),(m 1,s1*2),(m 2,s2)]) [(m 0,(B - (s1+s2))),(m 1,s1*2),(m 2,s2)])
noncomputable abbrev nH (B s1 s2 s3:Nat)(sc i hd:Option D)(r:cO):cO:=sc::i::hd::some (fr (low s1 B))::some (fr (low s2 B))::some (fr (low s3 B))::some (fr (low (B - (s1+s2+s3)) B))::r
noncomputable abbrev jZ (B s1 s2 s3:Nat)(sc i hd:Option D)(r:cO):cO:=nH B s1 s2 s3 sc i hd (some WK::some (.lst (WD B (WT s1 s2 s3)))::some (.tup [.int 1,.int 2])::r)
theorem du1 (h:HB B s1 s2 s3){k:Nat}:bY Pg (k+4) "_law_due" [.lst [.tup [m 0,fr (low (B - (s1+s2+s3)) B)],.tup [m 1,fr (low s1 B)],.tup [m 2,fr (low s2 B)],.tup [m 3,fr (low s3 B)]]] []=some (.ok (Wr B s1 s2 s3) []):=by
 obtain⟨h1,h2,h3,h4,h5,h6,h7,h8⟩:=h;exact Cm (N:=B) (by lia) (by lia) [(m 0,(B - (s1+s2+s3))),(m 1,s1),(m 2,s2),(m 3,s3)] (aG rfl) (by
  intro r hr;simp only[aV,aE,or_false]at hr;rcases hr with rfl|rfl|rfl|rfl<;>(simp only;lia)) (by simp[SU];lia) (by simp[SU];lia)
theorem du2 (h:HB B s1 s2 s3){k:Nat}:bY Pg (k+4) "_law_due" [.lst [.tup [m 0,fr (low (B - (s1+s2+s3)) (B*2))],.tup [m 1,fr (low s1 B)],.tup [m 3,fr (low s3 (B*2))]]] []=some (.ok (xN B s1 s2 s3) []):=by
 obtain⟨h1,h2,h3,h4,h5,h6,h7,h8⟩:=h;rw[Rx (s:=s1) (B:=B) (by lia)];exact Cm (N:=B*2) (by lia) (by lia) [(m 0,(B - (s1+s2+s3))),(m 1,s1*2),(m 3,s3)] (aG rfl) (by
  intro r hr;simp only[aV,aE,or_false]at hr;rcases hr with rfl|rfl|rfl<;>(simp only;lia)) (by simp[SU];lia) (by simp[SU];lia)
theorem du3 (h:HB B s1 s2 s3){k:Nat}:bY Pg (k+4) "_law_due" [.lst [.tup [m 1,fr (low s1 (B*2))],.tup [m 3,fr (low s3 (B*4))]]] []=some (.ok (kU s1 s3) []):=by
 obtain⟨h1,h2,h3,h4,h5,h6,h7,h8⟩:=h;rw[Rw (s:=s1) (B:=B) (by lia)];exact Cm (N:=B*4) (by lia) (by lia) [(m 1,s1*2),(m 3,s3)] (aG rfl) (by
  intro r hr;simp only[aV,aE,or_false]at hr;rcases hr with rfl|rfl<;>(simp only;lia)) (by simp[SU];lia) (by simp[SU];lia)
theorem du7 (h:HB B s1 s2 s3){k:Nat}:bY Pg (k+4) "_law_due" [.lst [.tup [m 0,fr (low (B - (s1+s2)) (B*2))],.tup [m 1,fr (low s1 B)],.tup [m 2,fr (low s2 (B*2))]]] []=some (.ok (kW B s1 s2) []):=by
 obtain⟨h1,h2,h3,h4,h5,h6,h7,h8⟩:=h;rw[Rx (s:=s1) (B:=B) (by lia)];exact Cm (N:=B*2) (by lia) (by lia) [(m 0,(B - (s1+s2))),(m 1,s1*2),(m 2,s2)] (aG rfl) (by
  intro r hr;simp only[aV,aE,or_false]at hr;rcases hr with rfl|rfl|rfl<;>(simp only;lia)) (by simp[SU];lia) (by simp[SU];lia)
theorem KC (h:HB B s1 s2 s3):plus (low (B - (s1+s2+s3)) B) (low s3 B)=low (B - (s1+s2)) B:=by
 obtain⟨h1,h2,h3,h4,h5,h6,h7,h8⟩:=h;rw[xT (by lia)]
 congr 1
 lia
theorem O8 (h:HB B s1 s2 s3):CD (SU [(m 1,s1)]) [(m 1,s1)]=[.tup [m 1,.tup [.int 1,.int 1]]]:=by
 have:low s1 (SU [(m 1,s1)])=(1,1):=by
  rw[BM];exact eO (by simp[SU];have:=h.p1;lia) (by decide) (by simp[SU])
 show [D.tup [m 1,fr (low s1 (SU [(m 1,s1)]))]]=_;rw[this];rfl
end
noncomputable def l0:MSt:=(.asg (.nm 2) (.call "_law_hand" #[.v 0,.v 1]))
noncomputable def l1:MSt:=(.asg (.tup #[.tup #[.nm 3,.nm 4,.nm 5],.nm 6]) (.call "_law_shares" #[.v 2]))
noncomputable def l2:MSt:=(.asg (.nm 7) (.rS "Work" "Work.__init__" #[.lst false #[.tup #[.str "in",.int 2],.tup #[.str "out",.int 2]],.lst false #[.tup #[.str "p",.lst false #[.tup #[.str "same",.str "out",.str "in"]]]]]))
noncomputable def l3:MSt:=(.asg (.nm 8) (.lst false #[.tup #[.v 3,.lst false #[.tup #[.str "fixed",.str "out",.int 0]]],.tup #[.v 4,.lst false #[.tup #[.str "fixed",.str "out",.int 1]]],.tup #[.v 5,.lst false .nil]]))
noncomputable def l4:MSt:=(.W9 (.cmp .ne (.cB "chances" #[.v 7,.lst false #[.v 8],.lst false .nil]) (.cB "_law_due" #[.lst false #[.tup #[.tup #[.int 0],.v 6],.tup #[.tup #[.int 1],.v 3],.tup #[.tup #[.int 2],.v 4],.tup #[.tup #[.int 3],.v 5]]])) #[.never] .nil)
noncomputable def l5:MSt:=(.asg (.nm 9) (.tup #[.int 1,.int 2]))
noncomputable def l6:MSt:=(.asg (.nm 10) (.cB "_law_due" #[.lst false #[.tup #[.tup #[.int 0],.cB "_law_times" #[.v 6,.v 9]],.tup #[.tup #[.int 1],.v 3],.tup #[.tup #[.int 3],.cB "_law_times" #[.v 5,.v 9]]]]))
noncomputable def l7:MSt:=(.W9 (.cmp .ne (.cB "chances" #[.v 7,.lst false #[.v 8],.lst false #[.tup #[.str "is",.str "out",.int 0]]]) (.v 10)) #[.never] .nil)
noncomputable def l8:MSt:=(.asg (.nm 11) (.lst false #[.tup #[.str "is",.str "in",.int 1],.tup #[.str "is",.str "out",.int 0]]))
noncomputable def l9:MSt:=(.asg (.nm 10) (.cB "_law_due" #[.lst false #[.tup #[.tup #[.int 1],.cB "_law_times" #[.v 3,.v 9]],.tup #[.tup #[.int 3],.cB "_law_times" #[.v 5,.tup #[.int 1,.int 4]]]]]))
noncomputable def l10:MSt:=(.W9 (.bool false #[.cmp .ne (.cB "chances" #[.v 7,.lst false #[.v 8],.v 11]) (.v 10),.cmp .ne (.cB "broken_chances" #[.v 7,.lst false #[.v 8],.v 11]) (.lst false #[.tup #[.int 1,.int 1]])]) #[.never] .nil)
noncomputable def l11:MSt:=(.W9 (.cmp .ne (.cB "chances" #[.v 7,.lst false #[.sl false (.v 8) .none (.some (.int 2))],.v 11]) (.lst false #[.tup #[.tup #[.int 1],.tup #[.int 1,.int 1]]])) #[.never] .nil)
noncomputable def l12:MSt:=(.W9 (.bool false #[.not (.val (.cB "_law_refused" #[.v 7,.lst false #[.sl false (.v 8) (.some (.int 1)) (.some (.int 2))],.v 11])),.not (.val (.cB "_law_refused" #[.v 7,.lst false #[.lst false .nil],.v 11]))]) #[.never] .nil)
noncomputable def l13:MSt:=(.W9 (.cmp .ne (.cB "broken_chances" #[.v 7,.lst false #[.v 8],.lst false .nil]) (.lst false #[.cB "_law_total" #[.lst false #[.v 3,.v 4,.v 5]]])) #[.never] .nil)
noncomputable def l14:MSt:=(.asg (.nm 11) (.lst false #[.tup #[.v 3,.lst false #[.tup #[.str "fixed",.str "out",.int 0],.tup #[.str "fixed",.str "in",.int 1]]],.tup #[.v 4,.lst false #[.tup #[.str "turned",.str "out",.str "in"]]]]))
noncomputable def l15:MSt:=(.asg (.nm 12) (.cB "_law_low" #[.bin .add (.bin .mul (.ix (.v 6) (.int 0)) (.ix (.v 5) (.int 1))) (.bin .mul (.ix (.v 5) (.int 0)) (.ix (.v 6) (.int 1))),.bin .mul (.ix (.v 6) (.int 1)) (.ix (.v 5) (.int 1))]))
noncomputable def l16:MSt:=(.asg (.nm 10) (.cB "_law_due" #[.lst false #[.tup #[.tup #[.int 0],.cB "_law_times" #[.v 12,.v 9]],.tup #[.tup #[.int 1],.v 3],.tup #[.tup #[.int 2],.cB "_law_times" #[.v 4,.v 9]]]]))
noncomputable def l17:MSt:=(.asg (.nm 13) (.cB "chances" #[.v 7,.lst false #[.v 11],.lst false #[.tup #[.str "is",.str "in",.int 1]]]))
noncomputable def l18:MSt:=(.W9 (.bool false #[.cmp .ne (.v 13) (.v 10),.cmp .ne (.ix (.ix (.cB "chances" #[.v 7,.lst false #[.v 11],.lst false #[.tup #[.str "is",.str "out",.int 0],.tup #[.str "is",.str "in",.int 1]]]) (.int 0)) (.int 0)) (.tup #[.int 1])]) #[.never] .nil)
section
variable {sc i hd wk stk hf du bo le to:Option D}{M:MS}{B s1 s2 s3:Nat}(h:HB B s1 s2 s3)
include h
theorem x2:Xj (Pg.env 39) l2 (nH B s1 s2 s3 sc i hd [wk,stk,hf,du,bo,le,to]) M=some (.nx (nH B s1 s2 s3 sc i hd [some WK,stk,hf,du,bo,le,to]) M):=by
 exact bF (M1:=M) (d:=WK) (by kernel_rfl)
theorem x3:Xj (Pg.env 39) l3 (nH B s1 s2 s3 sc i hd [some WK,stk,hf,du,bo,le,to]) M=some (.nx (nH B s1 s2 s3 sc i hd [some WK,some (.lst (WD B (WT s1 s2 s3))),hf,du,bo,le,to]) M):=by
 exact bF (M1:=M) (d:=.lst (WD B (WT s1 s2 s3))) (by kernel_rfl)
theorem x4:Xj (Pg.env 39) l4 (nH B s1 s2 s3 sc i hd [some WK,some (.lst (WD B (WT s1 s2 s3))),hf,du,bo,le,to]) M=some (.nx (nH B s1 s2 s3 sc i hd [some WK,some (.lst (WD B (WT s1 s2 s3))),hf,du,bo,le,to]) M):=by
 exact(jk (M1:=M) (ko (o:=.ne) (x:=Wr B s1 s2 s3) (y:=Wr B s1 s2 s3) (cJ (d:=Wr B s1 s2 s3) (ds:=[WK,.lst [.lst (WD B (WT s1 s2 s3))],lk0]) (M1:=M) rfl (by kernel_rfl) (by kernel_rfl) (VO (k:=12) h) (by kernel_rfl)) (cJ (d:=Wr B s1 s2 s3) (ds:=[.lst [.tup [m 0,fr (low (B - (s1+s2+s3)) B)],.tup [m 1,fr (low s1 B)],.tup [m 2,fr (low s2 B)],.tup [m 3,fr (low s3 B)]]]) (M1:=M) rfl (by kernel_rfl) (by kernel_rfl) (du1 (k:=35) h) (by kernel_rfl)) (ne_self (by kernel_rfl)))).trans rfl
theorem x5:Xj (Pg.env 39) l5 (nH B s1 s2 s3 sc i hd [some WK,some (.lst (WD B (WT s1 s2 s3))),hf,du,bo,le,to]) M=some (.nx (jZ B s1 s2 s3 sc i hd [du,bo,le,to]) M):=by
 exact bF (M1:=M) (d:=.tup [.int 1,.int 2]) (by kernel_rfl)
theorem x6:Xj (Pg.env 39) l6 (jZ B s1 s2 s3 sc i hd [du,bo,le,to]) M=some (.nx (jZ B s1 s2 s3 sc i hd [some (xN B s1 s2 s3),bo,le,to]) M):=by
 obtain⟨h1,h2,h3,h4,h5,h6,h7,h8⟩:=id h;exact bF (cJ (d:=xN B s1 s2 s3) (M1:=M) rfl (ar (lD (ar (fQ (ar rfl (ar (cJ (d:=fr (low (B - (s1+s2+s3)) (B*2))) (ds:=[fr (low (B - (s1+s2+s3)) B),.tup [.int 1,.int 2]]) (M1:=M) rfl (by kernel_rfl) (by kernel_rfl) (nr (k:=37) (by lia) (by lia) (by lia)) (by kernel_rfl)) aU)) le2) (ar rfl (ar (fQ (ar rfl (ar (cJ (d:=fr (low s3 (B*2))) (ds:=[fr (low s3 B),.tup [.int 1,.int 2]]) (M1:=M) rfl (by kernel_rfl) (by kernel_rfl) (nr (k:=37) (by lia) (by lia) (by lia)) (by kernel_rfl)) aU)) le2) aU))) (by exact XJ (aG rfl))) aU) (by kernel_rfl) (du2 (k:=35) h) (by kernel_rfl))
theorem x7:Xj (Pg.env 39) l7 (jZ B s1 s2 s3 sc i hd [some (xN B s1 s2 s3),bo,le,to]) M=some (.nx (jZ B s1 s2 s3 sc i hd [some (xN B s1 s2 s3),bo,le,to]) M):=by
 exact(jk (M1:=M) (ko (o:=.ne) (x:=xN B s1 s2 s3) (y:=xN B s1 s2 s3) (M2:=M) (cJ (d:=xN B s1 s2 s3) (ds:=[WK,.lst [.lst (WD B (WT s1 s2 s3))],lk1]) (M1:=M) rfl (by kernel_rfl) (by kernel_rfl) (VN (k:=12) h) (by kernel_rfl)) rfl (ne_self (by kernel_rfl)))).trans rfl
theorem x8:Xj (Pg.env 39) l8 (jZ B s1 s2 s3 sc i hd [du,bo,le,to]) M=some (.nx (jZ B s1 s2 s3 sc i hd [du,some XM,le,to]) M):=by
 exact bF (M1:=M) (d:=XM) (by kernel_rfl)
theorem x9:Xj (Pg.env 39) l9 (jZ B s1 s2 s3 sc i hd [du,some XM,le,to]) M=some (.nx (jZ B s1 s2 s3 sc i hd [some (kU s1 s3),some XM,le,to]) M):=by
 obtain⟨h1,h2,h3,h4,h5,h6,h7,h8⟩:=id h;exact bF (cJ (d:=kU s1 s3) (M1:=M) rfl (ar (lD (ar (fQ (ar rfl (ar (cJ (d:=fr (low s1 (B*2))) (ds:=[fr (low s1 B),.tup [.int 1,.int 2]]) (M1:=M) rfl (by kernel_rfl) (by kernel_rfl) (nr (k:=37) (by lia) (by lia) (by lia)) (by kernel_rfl)) aU)) le2) (ar (fQ (ar rfl (ar (cJ (d:=fr (low s3 (B*4))) (ds:=[fr (low s3 B),.tup [.int 1,.int 4]]) (M1:=M) rfl (by kernel_rfl) (by kernel_rfl) (Ep (k:=37) (by lia) (by lia) (by lia)) (by kernel_rfl)) aU)) le2) aU)) (by exact XJ (aG rfl))) aU) (by kernel_rfl) (du3 (k:=35) h) (by kernel_rfl))
theorem x10:Xj (Pg.env 39) l10 (jZ B s1 s2 s3 sc i hd [some (kU s1 s3),some XM,le,to]) M=some (.nx (jZ B s1 s2 s3 sc i hd [some (kU s1 s3),some XM,le,to]) M):=by
 exact(jk (M1:=M) ((kP (M1:=M) (ko (o:=.ne) (x:=kU s1 s3) (y:=kU s1 s3) (M2:=M) (cJ (d:=kU s1 s3) (ds:=[WK,.lst [.lst (WD B (WT s1 s2 s3))],XM]) (M1:=M) rfl (by kernel_rfl) (by kernel_rfl) (VL (k:=12) h) (by kernel_rfl)) rfl (ne_self (by kernel_rfl)))).trans (xy.trans (ko (o:=.ne) (x:=.lst [fr (1,1)]) (y:=.lst [fr (1,1)]) (M1:=M) (M2:=M) (cJ (d:=.lst [fr (1,1)]) (ds:=[WK,.lst [.lst (WD B (WT s1 s2 s3))],XM]) (M1:=M) rfl (by kernel_rfl) (by kernel_rfl) (VP (k:=12) h) (by kernel_rfl)) (by kernel_rfl) (ne_self (by kernel_rfl)))))).trans rfl
theorem x11:Xj (Pg.env 39) l11 (jZ B s1 s2 s3 sc i hd [some (kU s1 s3),some XM,le,to]) M=some (.nx (jZ B s1 s2 s3 sc i hd [some (kU s1 s3),some XM,le,to]) M):=by
 have z:=VJ (k:=12) h;rw[O8 h]at z;exact(jk (M1:=M) (ko (o:=.ne) (x:=.lst [.tup [m 1,.tup [.int 1,.int 1]]]) (y:=.lst [.tup [m 1,.tup [.int 1,.int 1]]]) (M1:=M) (M2:=M) (cJ (d:=.lst [.tup [m 1,.tup [.int 1,.int 1]]]) (ds:=[WK,.lst [.lst (WD B (Xf s1 s2))],XM]) (M1:=M) rfl (by kernel_rfl) (by kernel_rfl) (z) (by kernel_rfl)) (by kernel_rfl) (ne_self (by kernel_rfl)))).trans rfl
theorem x12:Xj (Pg.env 39) l12 (jZ B s1 s2 s3 sc i hd [some (kU s1 s3),some XM,le,to]) M=some (.nx (jZ B s1 s2 s3 sc i hd [some (kU s1 s3),some XM,le,to]) M):=by
 exact(jk (M1:=M) ((kP (M1:=M) (xA (v:=true) (xx (cJ (d:=.bl true) (ds:=[WK,.lst [.lst (WD B (wsU s2))],XM]) (M1:=M) rfl (by kernel_rfl) (by kernel_rfl) (rfU (k:=11) h) (by kernel_rfl))))).trans (xy.trans (xA (v:=true) (xx (cJ (d:=.bl true) (ds:=[WK,.lst [.lst []],XM]) (M1:=M) rfl (by kernel_rfl) (by kernel_rfl) (rfN (k:=11)) (by kernel_rfl))))))).trans rfl
theorem x13:Xj (Pg.env 39) l13 (jZ B s1 s2 s3 sc i hd [some (kU s1 s3),some XM,le,to]) M=some (.nx (jZ B s1 s2 s3 sc i hd [some (kU s1 s3),some XM,le,to]) M):=by
 obtain⟨h1,h2,h3,h4,h5,h6,h7,h8⟩:=id h;exact(jk (M1:=M) (ko (o:=.ne) (x:=.lst [fr (low ([s1,s2,s3].sum) B)]) (y:=.lst [fr (low ([s1,s2,s3].sum) B)]) (M1:=M) (M2:=M) (cJ (d:=.lst [fr (low ([s1,s2,s3].sum) B)]) (ds:=[WK,.lst [.lst (WD B (WT s1 s2 s3))],lk0]) (M1:=M) rfl (by kernel_rfl) (by kernel_rfl) (VQ (k:=12) h) (by kernel_rfl)) (lD (ar (cJ (d:=fr (low ([s1,s2,s3].sum) B)) (ds:=[.lst [fr (low s1 B),fr (low s2 B),fr (low s3 B)]]) (M1:=M) rfl (by kernel_rfl) (by kernel_rfl) (Cj (k:=36) (N:=B) (by lia) (by lia) [s1,s2,s3] (by simp;lia)) (by kernel_rfl)) aU) (by exact XJ (aG rfl))) (ne_self (by kernel_rfl)))).trans rfl
theorem x14:Xj (Pg.env 39) l14 (jZ B s1 s2 s3 sc i hd [some (kU s1 s3),some XM,le,to]) M=some (.nx (jZ B s1 s2 s3 sc i hd [some (kU s1 s3),some (.lst (WD B (WW s1 s2))),le,to]) M):=by
 exact bF (M1:=M) (d:=.lst (WD B (WW s1 s2))) (by kernel_rfl)
theorem x15:Xj (Pg.env 39) l15 (jZ B s1 s2 s3 sc i hd [some (kU s1 s3),some (.lst (WD B (WW s1 s2))),le,to]) M=some (.nx (jZ B s1 s2 s3 sc i hd [some (kU s1 s3),some (.lst (WD B (WW s1 s2))),some (fr (low (B - (s1+s2)) B)),to]) M):=by
 unfold jZ nH;obtain⟨h1,h2,h3,h4,h5,h6,h7,h8⟩:=id h;have l1:=lj (x:=(B - (s1+s2+s3))) (b:=100) (c:=100) (show 0<B by lia) (by lia) (by lia);have l2:=lj (x:=s3) (b:=100) (c:=100) (show 0<B by lia) (by lia) (by lia);have p1:=(da (B - (s1+s2+s3)) B (by lia)).2.1;have p2:=(da s3 B (by lia)).2.1;have e:=KC h;rw[←e]
 generalize low (B - (s1+s2+s3)) B=p at *
 generalize low s3 B=q at *
 have hb:p.2*q.2<1073741824:=aO (gj l1.2 l2.2) (by decide);exact bF (cJ (d:=fr (plus p q)) (M1:=M) rfl (ar (AB (iA (fP rfl rfl rfl) (fP rfl rfl rfl) (gC (a:=p.1) (b:=q.2) (by lia))) (iA (fP rfl rfl rfl) (fP rfl rfl rfl) (gC (a:=q.1) (b:=p.2) (by lia)))) (ar (iA (fP rfl rfl rfl) (fP rfl rfl rfl) (gC (a:=p.2) (b:=q.2) (by lia))) aU)) (by kernel_rfl) (gq (k:=38) (p.1*q.2+q.1*p.2) (p.2*q.2) (bx p1 p2) hb) (by kernel_rfl))
theorem x16:Xj (Pg.env 39) l16 (jZ B s1 s2 s3 sc i hd [some (kU s1 s3),some (.lst (WD B (WW s1 s2))),some (fr (low (B - (s1+s2)) B)),to]) M=some (.nx (jZ B s1 s2 s3 sc i hd [some (kW B s1 s2),some (.lst (WD B (WW s1 s2))),some (fr (low (B - (s1+s2)) B)),to]) M):=by
 obtain⟨h1,h2,h3,h4,h5,h6,h7,h8⟩:=id h;exact bF (cJ (d:=kW B s1 s2) (M1:=M) rfl (ar (lD (ar (fQ (ar rfl (ar (cJ (d:=fr (low (B - (s1+s2)) (B*2))) (ds:=[fr (low (B - (s1+s2)) B),.tup [.int 1,.int 2]]) (M1:=M) rfl (by kernel_rfl) (by kernel_rfl) (nr (k:=37) (by lia) (by lia) (by lia)) (by kernel_rfl)) aU)) le2) (ar rfl (ar (fQ (ar rfl (ar (cJ (d:=fr (low s2 (B*2))) (ds:=[fr (low s2 B),.tup [.int 1,.int 2]]) (M1:=M) rfl (by kernel_rfl) (by kernel_rfl) (nr (k:=37) (by lia) (by lia) (by lia)) (by kernel_rfl)) aU)) le2) aU))) (by exact XJ (aG rfl))) aU) (by kernel_rfl) (du7 (k:=35) h) (by kernel_rfl))
theorem x17:Xj (Pg.env 39) l17 (jZ B s1 s2 s3 sc i hd [some (kW B s1 s2),some (.lst (WD B (WW s1 s2))),some (fr (low (B - (s1+s2)) B)),to]) M=some (.nx (jZ B s1 s2 s3 sc i hd #v[kW B s1 s2,.lst (WD B (WW s1 s2)),fr (low (B - (s1+s2)) B),kW B s1 s2]) M):=by
 exact bF (cJ (d:=kW B s1 s2) (ds:=[WK,.lst [.lst (WD B (WW s1 s2))],lk3]) (M1:=M) rfl (by kernel_rfl) (by kernel_rfl) (VI (k:=12) h) (by kernel_rfl))
theorem x18:Xj (Pg.env 39) l18 (jZ B s1 s2 s3 sc i hd #v[kW B s1 s2,.lst (WD B (WW s1 s2)),fr (low (B - (s1+s2)) B),kW B s1 s2]) M=some (.nx (jZ B s1 s2 s3 sc i hd #v[kW B s1 s2,.lst (WD B (WW s1 s2)),fr (low (B - (s1+s2)) B),kW B s1 s2]) M):=by
 exact(jk (M1:=M) ((kP (M1:=M) (ko (o:=.ne) (x:=kW B s1 s2) (y:=kW B s1 s2) (M1:=M) (M2:=M) rfl rfl (ne_self (by kernel_rfl)))).trans (xy.trans (ko (o:=.ne) (x:=m 1) (y:=m 1) (M1:=M) (M2:=M) (fP (fP (cJ (d:=.lst (CD (SU [(m 1,s1*2),(m 2,s2)]) [(m 1,s1*2),(m 2,s2)])) (ds:=[WK,.lst [.lst (WD B (WW s1 s2))],lk4]) (M1:=M) rfl (by kernel_rfl) (by kernel_rfl) (VH (k:=12) h) (by kernel_rfl)) rfl rfl) rfl rfl) (by kernel_rfl) (ne_self (by kernel_rfl)))))).trans rfl
end
noncomputable def G9:MSs:=#[l0,l1,l2,l3,l4,l5,l6,l7,l8,l9,l10,l11,l12,l13,l14,l15,l16,l17,l18]
end
theorem Mi:Pg.defs "law"=some GO:=rfl
theorem I0 {ns:List Int}(hn:ns.length<=63){i:Int}{o2 o3 o4 o5 o6 o7 o8 o9 o10 o11 o12 o13:Option D}{M:MS}:
  ∃o2' o3' o4' o5' o6' o7' o8' o9' o10' o11' o12' o13' M',cN (Pg.env 39) G9 [some (scr ns),some (.int i),o2,o3,o4,o5,o6,o7,o8,o9,o10,o11,o12,o13] M=some (.nx [some (scr ns),some (.int i),o2',o3',o4',o5',o6',o7',o8',o9',o10',o11',o12',o13'] M'):=by
 obtain⟨a,b,e0⟩:=KN (k:=38) (M:=M) i hn;have hM:(M++[fZ.lst [.int a,.int b]])[M.length]?=some (.lst [.int a,.int b]):=by simp
 obtain⟨B,s1,s2,s3,M',e1,b5,b9,p1,q1,p2,q2,p3,q3⟩:=CW (k:=36) hM;have h:HB B s1 s2 s3:=⟨b5,b9,p1,q1,p2,q2,p3,q3⟩;have x0:Xj (Pg.env 39) l0 [some (scr ns),some (.int i),o2,o3,o4,o5,o6,o7,o8,o9,o10,o11,o12,o13] M=some (.nx [some (scr ns),some (.int i),some (.ref M.length),o3,o4,o5,o6,o7,o8,o9,o10,o11,o12,o13] (M++[fZ.lst [.int a,.int b]])):=
  bF ((bD rfl (ar rfl (ar rfl aU))).trans e0)
 have x1:Xj (Pg.env 39) l1 [some (scr ns),some (.int i),some (.ref M.length),o3,o4,o5,o6,o7,o8,o9,o10,o11,o12,o13] (M++[fZ.lst [.int a,.int b]])=some (.nx [some (scr ns),some (.int i),some (.ref M.length),some (fr (low s1 B)),some (fr (low s2 B)),some (fr (low s3 B)),some (fr (low (B - (s1+s2+s3)) B)),o7,o8,o9,o10,o11,o12,o13] M'):=
  jY ((bD rfl (ar rfl aU)).trans e1) rfl
 exact⟨some (.ref M.length),some (fr (low s1 B)),some (fr (low s2 B)),some (fr (low s3 B)),some (fr (low (B - (s1+s2+s3)) B)),some WK,some (.lst (WD B (WT s1 s2 s3))),some (.tup [.int 1,.int 2]),some (kW B s1 s2),some (.lst (WD B (WW s1 s2))),some (fr (low (B - (s1+s2)) B)),some (kW B s1 s2),M',(be x0).trans ((be x1).trans ((be (x2 h)).trans ((be (x3 h)).trans ((be (x4 h)).trans ((be (x5 h)).trans ((be (x6 h)).trans ((be (x7 h)).trans ((be (x8 h)).trans ((be (x9 h)).trans ((be (x10 h)).trans ((be (x11 h)).trans ((be (x12 h)).trans ((be (x13 h)).trans ((be (x14 h)).trans ((be (x15 h)).trans ((be (x16 h)).trans ((be (x17 h)).trans ((be (x18 h)).trans rfl))))))))))))))))))⟩
theorem G7 (ns:List Int)(hn:ns.length<=63):∃M,bY Pg 40 "law" [scr ns] []=some (.ok (.bl true) M):=by
 have hj:∃j:Int,iW j=true/\Xi (Pg.env 39) #[.bif .max #[.int 1,.bif .min #[.bif .len #[.v 0],.int 10]]] #v[scr ns,none,none,none,none,none,none,none,none,none,none,none,none,none] []=some (.ok [.int j] []):=by
  have el:ql .len [scr ns] []=some (.ok (.int (ns.length:Nat)) []):=by
   simp[ql,KP,scr,gJ]
  refine⟨(λi j:Int=>if j>i then j else i) 1 ((λi j:Int=>if j<i then j else i) ((ns.length:Nat):Int) 10),?_,ar (gS (ar rfl (ar (gS (ar (gS (ar rfl aU) el) (ar rfl aU)) rfl) aU)) rfl) aU⟩;simp only[iW,ag,decide_eq_true_eq];split<;>split<;>lia
 obtain⟨j,hr,ha⟩:=hj;obtain⟨δ',M',e,o1,o2,o3,o4,o5,o6,o7,o8,o9,o10,o11,o12,o13,rfl⟩:=yu (it:=⟨tL 0 j.toNat,none⟩) (g:=XB (Pg.env 39) (.nm 1)) (body:=cN (Pg.env 39) G9)
  (λδ M=>∃o1 o2 o3 o4 o5 o6 o7 o8 o9 o10 o11 o12 o13,δ=[some (scr ns),o1,o2,o3,o4,o5,o6,o7,o8,o9,o10,o11,o12,o13]) rfl (tL 0 j.toNat) (by
   rintro x hx δ M ⟨o1,o2,o3,o4,o5,o6,o7,o8,o9,o10,o11,o12,o13,rfl⟩;obtain⟨i,rfl⟩:∃i:Int,x=.int i:=by
    simp only[tL,List.mem_map]at hx;obtain⟨n,_,rfl⟩:=hx;exact⟨_,rfl⟩
   obtain⟨p2,p3,p4,p5,p6,p7,p8,p9,p10,p11,p12,p13,M',e⟩:=I0 (ns:=ns) hn (i:=i) (o2:=o2) (o3:=o3) (o4:=o4) (o5:=o5) (o6:=o6) (o7:=o7) (o8:=o8) (o9:=o9) (o10:=o10) (o11:=o11) (o12:=o12) (o13:=o13) (M:=M);exact⟨_,_,_,_,rfl,.inl e,_,_,_,_,_,_,_,_,_,_,_,_,_,rfl⟩)
  #v[scr ns,none,none,none,none,none,none,none,none,none,none,none,none,none] [] ⟨_,_,_,_,_,_,_,_,_,_,_,_,_,rfl⟩
 have hi:evI (Pg.env 39) (.rng #[.bif .max #[.int 1,.bif .min #[.bif .len #[.v 0],.int 10]]]) #v[scr ns,none,none,none,none,none,none,none,none,none,none,none,none,none] []=some (.ok ⟨tL 0 j.toNat,none⟩ []):=by
  show fiR (Xi (Pg.env 39) #[.bif .max #[.int 1,.bif .min #[.bif .len #[.v 0],.int 10]]]) _ []=_;unfold fiR;rw[ha];show(if iW j=true then some (Rs.ok (⟨tL 0 j.toNat,none⟩:L2.XI) []) else none)=_;rw[if_pos hr]
 exact⟨M',dP Mi rfl rfl rfl ((be (kR hi e)).trans (fO (eF rfl)))⟩
end K32

open PySem PySem.W PyProof.Rows
set_option maxRecDepth 100000 in
set_option maxHeartbeats 0 in
theorem PySem.Challenge.cw_leastblame_k32_known_chances_holds : PySem.Challenge.rw_leastblame_k32_known_chances.Holds := by
 refine K32Head.2 ?_;dsimp only[K32Head]
 k_fill
 refine L2.xo (l:=PySem.Challenge.rw_leastblame_k32_known_chances) (Pg:=K32.Pg) (x:="law") (y:="_law_script") (md:=K32.GO) 40 rfl rfl rfl rfl rfl rfl K32.Mi (λw h Y=>PySem.W.kIn_of Y) ?F ?B K32.G7
 case F=>
  intro w mg h KX G;obtain⟨S,C⟩:=L2.vP K32.qY 51 rfl;obtain⟨f0,M0⟩:∃f,L2.qk K32.Pg (L2.KOf KX) mg "Work" "__init__" "Work.__init__" K32.kB f:=by
   dsimp only[L2.KOf];refine' L2.qF KX G (by decide +kernel) S C ?aC ?i ?j ?k ?mk ?l ?c ?b .nil λ_ _ _ _=>.nil
   (case aC=>k_is);(case i=>k_is);(case j=>k_is);(case k=>k_is);(case mk=>exact λ_=>⟨by k_is,by k_is⟩);(case l=>k_is);(case c=>k_is)
   (case b=>exact L2.O4 rfl λs a b c XN=>PySem.W.kp_binds XN (λ_=>rfl))
  obtain⟨S,C⟩:=L2.vP K32.qY 52 rfl;obtain⟨f1,M1⟩:∃f,L2.qk K32.Pg (L2.KOf KX) mg "Work" "wire_number" "Work.wire_number" K32.i3 f:=by
   dsimp only[L2.KOf];refine' L2.qF KX G (by decide +kernel) S C ?aC ?i ?j ?k ?mk ?l ?c ?b .nil λ_ _ _ _=>.nil
   (case aC=>k_is);(case i=>k_is);(case j=>k_is);(case k=>k_is);(case mk=>exact λh=>absurd h (by decide +kernel));(case l=>k_is);(case c=>k_is)
   (case b=>exact L2.O5 rfl λs a b XN=>.of_eq rfl)
  obtain⟨S,C⟩:=L2.vP K32.qY 53 rfl;obtain⟨f2,M2⟩:∃f,L2.qk K32.Pg (L2.KOf KX) mg "Work" "wires" "Work.wires" K32.nS f:=by
   dsimp only[L2.KOf];refine' L2.qF KX G (by decide +kernel) S C ?aC ?i ?j ?k ?mk ?l ?c ?b .nil λ_ _ _ _=>.nil
   (case aC=>k_is);(case i=>k_is);(case j=>k_is);(case k=>k_is);(case mk=>exact λh=>absurd h (by decide +kernel));(case l=>k_is);(case c=>k_is)
   (case b=>exact L2.IK rfl λs a XN=>.of_eq rfl)
  obtain⟨S,C⟩:=L2.vP K32.qY 54 rfl;obtain⟨f3,M3⟩:∃f,L2.qk K32.Pg (L2.KOf KX) mg "Work" "__len__" "Work.__len__" K32.kZ f:=by
   dsimp only[L2.KOf];refine' L2.qF KX G (by decide +kernel) S C ?aC ?i ?j ?k ?mk ?l ?c ?b .nil λ_ _ _ _=>.nil
   (case aC=>k_is);(case i=>k_is);(case j=>k_is);(case k=>k_is);(case mk=>exact λh=>absurd h (by decide +kernel));(case l=>k_is);(case c=>k_is)
   (case b=>exact L2.IK rfl λs a XN=>.of_eq rfl)
  dsimp only[L2.KOf]at M0 M1 M2 M3;have hm:∀p∈([("Work.__init__",f0),("Work.wire_number",f1),("Work.wires",f2),("Work.__len__",f3)]:List (PySem.Str×Addr)),L2.gp p.1=true:=L2.cq (by show L2.gp "Work.__init__"=true;decide +kernel) (L2.cq (by show L2.gp "Work.wire_number"=true;decide +kernel) (L2.cq (by show L2.gp "Work.wires"=true;decide +kernel) (L2.cq (by show L2.gp "Work.__len__"=true;decide +kernel) (L2.iD))));refine L2.Kp (t:=K32.TB) [("Work.__init__",f0),("Work.wire_number",f1),("Work.wires",f2),("Work.__len__",f3)] (by decide +kernel) hm ?gl ?bn ?xf ?ub ?ic ?mt ?kd ?kt ?D ?hn ?htk
  case gl=>
   refine' L2.cq (L2.gl_str KX G ?z) ?_;(case z=>k_is)
   iterate 9 (refine' L2.cq (L2.gl_int KX G ?z) ?_;(case z=>k_is))
   exact L2.iD
  case bn=>
   unfold L2.jQ
   repeat (refine' L2.cq (PySem.W.mg_none_of KX G ?z) ?_;(case z=>k_is))
   exact L2.iD
  case xf=>
   refine' L2.cq ⟨_,L2.NQ KX G ?aC ?lC ?ga ?gh ?sa ?cl ?kp ?ai,L2.cq (by decide +kernel) L2.iD⟩ L2.iD
   (case aC=>k_is);(case lC=>k_is);(case ga=>k_is);(case gh=>k_is);(case sa=>k_is);(case cl=>k_is);(case kp=>k_is);(case ai=>k_is)
  case ub=>exact L2.cq ⟨by decide +kernel,by decide +kernel⟩ L2.iD
  case ic=>
   refine' L2.cq (L2.NP KX G ?a ?pg ?hd ?po ?sa ?ha ?hn2 ?htk2 ?hm ?ty ?na) L2.iD
   (case a=>k_is);(case pg=>k_is);(case hd=>k_is);(case po=>k_is);(case sa=>k_is);(case ha=>k_is);(case hn2=>k_is);(case htk2=>k_is);(case hm=>k_is);(case ty=>k_is)
   case na=>
    repeat (refine' L2.cq ?_ ?_;(unfold L2.dW;k_is))
    exact L2.iD
  case mt=>exact L2.cq ⟨_,_,M0,rfl⟩ (L2.cq ⟨_,_,M2,rfl⟩ (L2.cq ⟨_,_,M1,rfl⟩ (L2.cq ⟨_,_,M3,rfl⟩ (L2.iD))))
  case kd=>
   refine' L2.cq (L2.L0 KX G ?a ?l ?s (.cons (.cons (.cons (.cons (.cons (.cons (.nil))))))) ?nd (L2.pw (L2.pw (L2.pw (L2.pw (L2.pw (L2.pw (L2.Ha))))))) ?v) ?_
   (case a=>k_is);(case l=>k_is);(case s=>rfl)
   (case nd=>decide +kernel)
   (case v=>exact λ_ _ _ _ _=>.cons (.int _) (.cons (.int _) (.cons (.int _) (.cons (.int _) (.cons (.int _) (.cons (.int _) (.nil)))))))
   refine' L2.cq (L2.L0 KX G ?a ?l ?s (.cons (.cons (.cons (.cons (.cons (.cons (.cons (.cons (.nil))))))))) ?nd (L2.ls (L2.ls (L2.ls (L2.ls (L2.ls (L2.ls (L2.ls (L2.ls (L2.Ha))))))))) ?v) L2.iD
   (case a=>k_is);(case l=>k_is);(case s=>rfl)
   (case nd=>decide +kernel)
   case v=>
    intro Γ hG ι ξ H
    repeat (refine' .cons (L2.P4 KX G hm ?z (by decide +kernel) hG) ?_;(case z=>k_is))
    exact .nil
  case kt=>
   refine' L2.cq (L2.RC KX G ?a ?l ?s ?v) L2.iD
   (case a=>k_is);(case l=>k_is);(case s=>decide);(case v=>exact .cons ⟨_,rfl⟩ (.cons ⟨_,rfl⟩ .nil))
  case D=>
   refine L2.KY K32.qY ?_;unfold K32.MC
   repeat (refine' L2.cq (L2.MA KX G (L2.wJ hm (by decide +kernel)) rfl (λ_ _ _ _ _ _=>by first |exact L2.all1 λ_=>rfl|exact L2.all2 λ_ _=>rfl|exact L2.VW λ_ _ _=>rfl|exact L2.VU λ_ _ _ _=>rfl) ?a ?l ?c ?k) ?_;(case a=>k_is);(case l=>k_is);(case c=>k_is);(case k=>k_is))
   exact L2.cq (L2.qz M0 rfl) (L2.cq (L2.qz M1 rfl) (L2.cq (L2.qz M2 rfl) (L2.cq (L2.qz M3 rfl) (L2.iD))))
  (case hn=>k_is)
  (case htk=>k_is)
 case B=>
  intro w mg fa h KX G hmg;refine' L2.IM (st:=K32.top 87) KX G hmg ?a ?l ?c ?k (λ_=>rfl)
  (case a=>k_is);(case l=>k_is);(case c=>k_is);(case k=>k_is)
