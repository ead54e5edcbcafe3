import PyProof.Rows.All
import Wide.All
import OpenK.AllK
import Wide.FinOn
import Lean
import PyProof.EqAt
import PyProof.EqKinds
import PyProof.TupleCall
import PyProof.DictKeyH
import PyProof.DictFindH
import KE.KDictList
import PyProof.DictWalks
import PyProof.StrCalls2
import PyProof.StrCalls3
import PyProof.StrCalls
import PyProof.StrWalks
import PyProof.FString
import KE.KIntText
import PyProof.FitsReplace
import PyProof.StrLawsTight
import PyProof.StrLawsOcc
import PyProof.StrBlockI
import PyProof.SliceStr2
import PyProof.StrLawsChain
import PyProof.StrLaws
import PyProof.Rows.StrJoinMade
import PyProof.StrLawsIdx
import PyProof.StrLawsJoin
import PySem.Challenge.RW_signsmooth_k60_whole_strict_by_corners
set_option genSizeOf false
set_option bootstrap.genMatcherCode false
set_option Elab.async false
set_option linter.all false
set_option maxRecDepth 100000
set_option exponentiation.threshold 4000
namespace Hx
open PySem PySem.Spec PyProof.Rows
theorem j5:entryFor table "proto.unchain" = some Builtin.«proto.unchain»:=entryFor_of_tree (by kernel_rfl)
section
variable {prog:Program} {w:World} {A:Around} {E:Value->Shared->Prop} {s:Shared}
theorem nA {α:Type} {a h:Addr} {oa oh:Obj} {us vs:Array Value} {Q:α->Shared->Prop} (hh:A.handled=some (.ref h)) (hne:h ≠ a) (ha:s.heap.get? a=some oa) (hda:oa.data=.fields us) (hsz:2 < us.size)
   (ho:s.heap.get? h=some oh) (hd:oh.data=.fields vs) (h2:vs[2]?=some .none)
   (q:E (.ref a) { s with heap:=s.heap.update a (Obj.mapFields (·.setIfInBounds 2 (.ref h))) }):wpAny (model prog w) A (raiseNew (.ref a):Sem α) Q E s:=by
 unfold raiseNew; refine wpAny_bind (wpAny_handled ?_); rw [hh]
 dsimp only
 rw [if_pos (show (Value.ref h != Value.ref a)=true by simp [hne])]
 refine wpAny_bind (wpAny_holding (wpAny_runValue (codeAny_builtin j5 ?_)))
 unfold Builtin.«proto.unchain»
 dsimp only
 refine wpAny_bind (wpAny_field ho hd h2 ?_)
 rw [if_pos (show (Value.none == Value.none)=true by decide)]
 refine wpAny_pure ?_
 show wpAny _ A (do let _ <- updateField a 2 (.ref h); throw (Value.ref a)) _ _ _
 unfold updateField
 refine wpAny_bind (wpAny_bind (wpAny_load ha ?_))
 rw [hda]
 dsimp only
 rw [if_pos hsz]
 exact wpAny_update ha (wpAny_throw q)
theorem pe {r h:Addr} {v left step:Int} {oh:Obj} {vs:Array Value} {Q:Option Value->Shared->Prop} (hh:A.handled=some (.ref h)) (ho:s.heap.get? h=some oh) (hd:oh.data=.fields vs) (h2:vs[2]?=some .none)
   (hr:IsRangeIter s.heap r v left step) (hl:left<=0) (k:∀ h',Heap.ExtBut r s.heap h'->Q none { s with heap:=h' }):wpAny (model prog w) A (pyNext (.ref r)) Q E s:=by
 have ty:s.TypeIs (.ref r) "range_iterator":=⟨_,hr,rfl⟩
 have hlt:=Heap.lt_size ho
 have fl:∀ {α:Type} {B:Around} {F:Value->Shared->Prop} {R:α->Shared->Prop} (i:Nat) (y:Int) {f:Value->Sem α},(#[rawInt v,rawInt left,rawInt step]:Array Value)[i]?=some (rawInt y)->wpAny (model prog w) B (f (rawInt y)) R F s->wpAny (model prog w) B (field (.ref r) i >>= f) R F s:=by
   intro α B F R i y f e q
   exact wpAny_bind (wpAny_field hr rfl e q)
 unfold pyNext
 refine wpAny_bind (wpAny_attempt (wpAny_callSpecial?_slot (name:=Str.ofString "__next__") ty F.slot_range_iterator_next (wpAny_call_entry F.slot_range_iterator_next ty F.entry_range_iterator_next (fl 0 v rfl (fl 1 left rfl (fl 2 step rfl ?_))) (F.args_range_iterator_next_1 _))))
 show wpAny (model prog w) A.in1 (if left<=0 then _ else _) _ _ s
 rw [if_pos hl]
 refine wpAny_bind (wpAny_rule (wpAny_bind ?_))
 show wpAny _ _ (do let e <- newExc (.type "StopIteration") []; _) _ _ _
 refine wpAny_bind ?_
 simp only [newExc,newTuple]
 refine wpAny_bind (wpAny_newObj_type (wpAny_bind (m:=firstArgMember _ _) (wpAny_of_eq (a:=.none) (by first | rfl | (simp only [firstArgMember]; rfl)) (wpAny_newObj_type ?_ (by size_fits)))) (by size_fits))
 have hg:((s.heap.push { cls:=.type "tuple",data:=.seq ([]:List Value).toArray }).push { cls:=.type "StopIteration",data:=.fields (#[Value.ref s.heap.objs.size,.none,.none,.none,.bool false,.none]++ownMembersOf (.type "StopIteration") []) }).get? (s.heap.push { cls:=.type "tuple",data:=.seq ([]:List Value).toArray }).objs.size
     = some { cls:=.type "StopIteration",data:=.fields (#[Value.ref s.heap.objs.size,.none,.none,.none,.bool false,.none]++ownMembersOf (.type "StopIteration") []) }:=Heap.get?_push_size _ rfl
 refine nA (h:=h) (A:=A.in1) hh ?_ hg rfl (by rw [Array.size_append]; exact Nat.lt_of_lt_of_le (by decide:2 < 6) (Nat.le_add_right _ _)) (Heap.get?_push_of_some _ (Heap.get?_push_of_some _ ho)) hd h2 ?_
 · intro z
   rw [Heap.size_push] at z
   exact absurd hlt (by rw [z]; exact Nat.not_lt.mpr (Nat.le_succ _))
 have hu:=Heap.get?_update_self (Obj.mapFields (·.setIfInBounds 2 (.ref h))) hg rfl
 refine wpAny_bind (wpAny_isInstance (T:="StopIteration") (b:=true) ⟨_,hu,rfl⟩ isSubtype_stop ?_)
 refine wpAny_pure (k _ λb o hb e=>?_)
 have bl:=Heap.lt_size e
 rw [Heap.get?_update_other _ _ (by intro z; rw [Heap.size_push] at z; exact absurd bl (by rw [<- z]; exact Nat.not_lt.mpr (Nat.le_succ _)))]
 exact Heap.get?_push_of_some _ (Heap.get?_push_of_some _ e)
end
end Hx
set_option linter.all false
set_option maxRecDepth 100000
namespace L2
open PySem PySem.Spec PyProof.Rows
noncomputable abbrev Key:=Sum Int Str
noncomputable def kx:Key->Value->Bool
 | .inl k,v=>Value.isInt k v
 | .inr x,v=>Value.isStrOf x v
noncomputable def BF (w:World):Key->Int
 | .inl k=>hashInt k
 | .inr x=>hashStr w x
theorem a9:∀ {k:Key} {v:Value},kx k v=true->(∃ i t,k=Sum.inl i/\v=Value.int i t)\/(∃ x t,k=Sum.inr x/\v=Value.str x t)
 | .inl i,v,h=>by
   obtain ⟨t,e⟩:=Value.isInt_shape (k:=i) (v:=v) h
   exact .inl ⟨i,t,rfl,e⟩
 | .inr x,v,h=>by
   obtain ⟨t,e⟩:=Value.isStrOf_shape (x:=x) (v:=v) h
   exact .inr ⟨x,t,rfl,e⟩
theorem rb (i:Int) (t:Tok):kx (.inl i) (.int i t)=true:=by simp [kx,Value.isInt]
theorem rX (x:Str) (t:Tok):kx (.inr x) (.str x t)=true:=by simp [kx,Value.isStrOf]
theorem y9 (a b:Int):decide ((Sum.inl a:Key)=Sum.inl b)=(a == b):=by
 by_cases e:a=b
 · subst e; simp
 · have h:¬ (Sum.inl a:Key)=Sum.inl b:=λq=>e (Sum.inl.inj q)
   rw [decide_eq_false h]
   exact (beq_eq_false_iff_ne.mpr e).symm
theorem yP (a b:Str):decide ((Sum.inr a:Key)=Sum.inr b)=decide (a=b):=by
 by_cases e:a=b
 · subst e; simp
 · have h:¬ (Sum.inr a:Key)=Sum.inr b:=λq=>e (Sum.inr.inj q)
   rw [decide_eq_false h,decide_eq_false e]
theorem yG (a:Int) (b:Str):decide ((Sum.inl a:Key)=Sum.inr b)=false:=decide_eq_false (λq=>nomatch q)
theorem xT (a:Str) (b:Int):decide ((Sum.inr a:Key)=Sum.inl b)=false:=decide_eq_false (λq=>nomatch q)
noncomputable def a8 (prog:Program) (w:World):PySem.KeyKind prog w Key where
 is:=kx
 hash:=BF w
 inj:=λv a b ha hb=>by
   rcases a9 ha with ⟨i,t,rfl,rfl⟩ | ⟨x,t,rfl,rfl⟩
   · rcases a9 hb with ⟨j,u,rfl,e⟩ | ⟨y,u,rfl,e⟩
     · injection e with e1 _; rw [e1]
     · exact nomatch e
   · rcases a9 hb with ⟨j,u,rfl,e⟩ | ⟨y,u,rfl,e⟩
     · exact nomatch e
     · injection e with e1 _; rw [e1]
 byValue:=λk v h=>by
   rcases a9 h with ⟨i,t,rfl,rfl⟩ | ⟨x,t,rfl,rfl⟩ <;> rfl
 pyHash:=λhv h=>by
   rcases a9 hv with ⟨i,t,rfl,rfl⟩ | ⟨x,t,rfl,rfl⟩
   · exact wpAny_pyHash_int h
   · exact wpAny_pyHash_str h
 eqBool:=λhu hv h=>by
   rcases a9 hu with ⟨i,t,rfl,rfl⟩ | ⟨x,t,rfl,rfl⟩
   · rcases a9 hv with ⟨j,u,rfl,rfl⟩ | ⟨y,u,rfl,rfl⟩
     · rw [y9] at h; exact wpAny_eqBool_int h
     · rw [yG] at h; exact SeqAt.EqAt.int_str i t y u _ _ _ _ h
   · rcases a9 hv with ⟨j,u,rfl,rfl⟩ | ⟨y,u,rfl,rfl⟩
     · rw [xT] at h; exact SeqAt.EqAt.str_int x t j u _ _ _ _ h
     · rw [yP] at h; exact wpAny_eqBool_str h
 «strs»:=λk x t v h=>by
   rcases a9 h with ⟨i,u,rfl,e⟩ | ⟨y,u,rfl,e⟩
   · exact nomatch e
   · injection e with e1 _
     subst e1
     cases v <;> rfl
theorem nJ (prog:Program) (w:World) (i:Int) (t:Tok):(a8 prog w).is (.inl i) (.int i t)=true:=rb i t
theorem m6 (prog:Program) (w:World) (x:Str) (t:Tok):(a8 prog w).is (.inr x) (.str x t)=true:=rX x t
inductive V where
 | non | bl (b:Bool) | int (i:Int) | str (x:Str) | byt (b:Array UInt8) | flt (b:UInt64) | ref (a:Addr) | ty (n:String)
 deriving DecidableEq
noncomputable def RelV:V->Value->Prop
 | .non,u=>u=Value.none
 | .bl b,u=>u=Value.bool b
 | .int i,u=>∃ t,u=Value.int i t
 | .str x,u=>∃ t,u=Value.str x t
 | .byt b,u=>∃ t,u=Value.bytes b t
 | .flt b,u=>∃ t,u=Value.float b t
 | .ref a,u=>u=Value.ref a
 | .ty n,u=>u=Value.type n
noncomputable abbrev Vals:List V->List Value->Prop:=Paired RelV
theorem Vals.length {xs:List V} {us:List Value} (r:Vals xs us):xs.length=us.length:=Paired.length r
theorem Vals.get:∀ {xs:List V} {us:List Value} {i:Nat} {x:V},Vals xs us->xs[i]?=some x->∃ u,us[i]?=some u/\RelV x u
 | _,_,_,_,.nil,e=>by simp at e
 | _,_,0,_,.cons r _,e=>by simp at e; subst e; exact ⟨_,rfl,r⟩
 | _,_,i + 1,x,.cons _ t,e=>by
   obtain ⟨u,h1,h2⟩:=Vals.get (i:=i) (x:=x) t (by simpa using e)
   exact ⟨u,by simpa using h1,h2⟩
theorem Vals.set {x:V} {u:Value} (r:RelV x u):∀ {xs:List V} {us:List Value} (i:Nat),Vals xs us->Vals (xs.set i x) (us.set i u)
 | _,_,_,.nil=>.nil
 | _,_,0,.cons _ t=>.cons r t
 | _,_,i + 1,.cons q t=>.cons q (Vals.set r i t)
theorem Vals.append:∀ {xs ys:List V} {us ws:List Value},Vals xs us->Vals ys ws->Vals (xs++ys) (us++ws)
 | _,_,_,_,.nil,s=>s
 | _,_,_,_,.cons r t,s=>.cons r (Vals.append t s)
theorem Vals.take:∀ {xs:List V} {us:List Value} (n:Nat),Vals xs us->Vals (xs.take n) (us.take n)
 | _,_,0,_=>.nil
 | _,_,_ + 1,.nil=>.nil
 | _,_,n + 1,.cons r t=>.cons r (Vals.take n t)
theorem Vals.drop:∀ {xs:List V} {us:List Value} (n:Nat),Vals xs us->Vals (xs.drop n) (us.drop n)
 | _,_,0,r=>r
 | _,_,_ + 1,.nil=>.nil
 | _,_,n + 1,.cons _ t=>Vals.drop n t
noncomputable def nO:Option V->Option Value->Prop
 | some v,some u=>RelV v u
 | none,none=>True
 | _,_=>False
noncomputable def KV {κ:Type}:List (κ × V)->List (κ × Value)->Prop:=Paired λ(p:κ × V) (q:κ × Value)=>p.1=q.1/\RelV p.2 q.2
noncomputable def kV:Key->V
 | .inl i=>.int i
 | .inr x=>.str x
inductive HO where
 | lst (xs:List V)
 | tup (xs:List V)
 | dK (kvs:List (Key × V)) | dT (kvs:List (List Key × V))
 | set (S:Int->Bool) (n:Nat)
 | ins (C dx:Addr) (fs:List (Str × V))
 | own (x:Addr)
 | xd (fs:List (Str × V))
 | met (f x:Addr)
 | rng (lo hi:Int)
 | frz (o:Obj) (u:HO)
 | tbl (ps:Array Value)
 | ext (φ:Heap->Prop)
noncomputable abbrev Hp:=Addr->Option HO
noncomputable def upd (H:Hp) (a:Addr) (o:HO):Hp:=λb=>if b=a then some o else H b
theorem aA {H:Hp} {a:Addr} {o:HO}:upd H a o a=some o:=by unfold upd; rw [if_pos rfl]
theorem au {H:Hp} {a b:Addr} {o:HO} (h:b ≠ a):upd H a o b=H b:=by unfold upd; rw [if_neg h]
theorem aL {H:Hp} {a b:Addr} {o:HO} (h:H a=some o) (h':H b=none):a ≠ b:=by
 intro e; subst e; rw [h] at h'; cases h'
section
variable (P:Program) (w:World)
noncomputable def bf (H:Hp) (h:Heap) (a:Addr):HO->Prop
 | .lst xs=>xs.length<=sizeLine/\∃ (its:List Value) (n:Nat),Vals xs its/\h.get? a=some { cls:=.type "list",data:=.seq its.toArray n }
 | .tup xs=>xs.length<=sizeLine/\∃ its:List Value,Vals xs its/\IsTup h a its.toArray
 | .dK kvs=>kvs.length<=sizeLine/\(a == sysModules)=false/\∃ vs,KV kvs vs/\h.DictOf (a8 P w) a vs
 | .dT kvs=>kvs.length<=sizeLine/\(a == sysModules)=false/\∃ xs:List (List Key × Addr × Value),
     Paired (λ(p:List Key × V) (q:List Key × Addr × Value)=>p.1=q.1/\H q.2.1=some (.tup (p.1.map kV))/\RelV p.2 q.2.2) kvs xs /\
     ∃ o es ep,h.get? a=some o/\o.ExactDict/\o.data=.dict es ep/\es.toList=xs.map (entryOfKey (tupleKind (a8 P w)))/\(xs.map (·.1)).Nodup
 | .set S n=>h.SetOf (intKind P w) a S n
 | .ins C dx fs=>H dx=some (.own a)/\fs.length<=1000/\dx ≠ a/\h.get? a=some (PySem.W.instObj C dx) /\
     ∃ mA,h.Ns1 dx mA/\(∀ f,nO (fs.lookup f) (mA f))/\PySem.Within mA (fs.map (·.1))
 | .own _=>∃ o,h.get? a=some o
 | .xd fs=>∃ mA,h.Ns1 a mA/\∀ f,nO (fs.lookup f) (mA f)
 | .rng lo hi=>∃ t u v,h.get? a=some { cls:=.type "range",data:=.fields #[.int lo t,.int hi u,.int 1 v] }
 | .frz o u=>h.get? a=some o/\bf H h a u
 | .tbl ps=>h.get? a=some { cls:=.none,data:=.fields ps }
 | .met f x=>h.get? a=some (PySem.W.methodObj (.ref f) (.ref x))
 | .ext φ=>φ h/\(∃ o,h.get? a=some o)/\∀ h1 h2:Heap,φ h1->(∀ o,h1.get? a=some o->h2.get? a=some o)->φ h2
noncomputable def HOk (H:Hp) (h:Heap):Prop:=∀ a o,H a=some o->bf P w H h a o
end
section
variable {P:Program} {w:World} {H H':Hp} {h h':Heap} {a:Addr} {o:HO}
theorem bf.lt (x:bf P w H h a o):a < h.objs.size:=by
 cases o with
 | lst xs=>obtain ⟨_,_,_,_,e⟩:=x; exact Heap.lt_size e
 | tup xs=>obtain ⟨_,_,_,p⟩:=x; exact p.lt
 | dK kvs=>obtain ⟨_,_,_,_,o,_,_,e,_⟩:=x; exact Heap.lt_size e
 | dT kvs=>obtain ⟨_,_,_,_,o,_,_,e,_⟩:=x; exact Heap.lt_size e
 | set S n=>obtain ⟨o,_,_,_,e,_⟩:=x; exact Heap.lt_size e
 | ins C dx fs=>obtain ⟨_,_,_,e,_⟩:=x; exact Heap.lt_size e
 | own y=>obtain ⟨_,e⟩:=x; exact Heap.lt_size e
 | xd fs=>obtain ⟨_,⟨_,_,_,e,_⟩,_⟩:=x; exact Heap.lt_size e
 | rng lo hi=>obtain ⟨_,_,_,e⟩:=x; exact Heap.lt_size e
 | frz ob u=>obtain ⟨e,_⟩:=x; exact Heap.lt_size e
 | tbl ps=>exact Heap.lt_size (show h.get? a=some _ from x)
 | met f y=>exact Heap.lt_size (show h.get? a=some _ from x)
 | ext φ=>obtain ⟨_,⟨_,e⟩,_⟩:=x; exact Heap.lt_size e
theorem Paired.A5 {α β:Type} {F G:α->β->Prop}:∀ {l₁:List α} {l₂:List β},Paired F l₁ l₂->(∀ a b,F a b->G a b)->Paired G l₁ l₂
 | _,_,.nil,_=>.nil
 | _,_,.cons r t,f=>.cons (f _ _ r) (Paired.A5 t f)
theorem bf.jT (x:bf P w H h a o) (k:∀ b u,(b=a\/H b=some (.own a))->h.get? b=some u->h'.get? b=some u)
   (ho:∀ b,H b=some (.own a)->H' b=some (.own a)) (ht:∀ b xs,H b=some (.tup xs)->H' b=some (.tup xs)):bf P w H' h' a o:=by
 induction o with
 | lst xs=>obtain ⟨z,its,n,r,e⟩:=x; exact ⟨z,its,n,r,k _ _ (.inl rfl) e⟩
 | tup xs=>obtain ⟨z,its,r,ob,e,c⟩:=x; exact ⟨z,its,r,ob,k _ _ (.inl rfl) e,c⟩
 | dK kvs=>obtain ⟨z,y,vs,r,ob,es,ep,e,c⟩:=x; exact ⟨z,y,vs,r,ob,es,ep,k _ _ (.inl rfl) e,c⟩
 | dT kvs=>
   obtain ⟨z,y,xs,r,ob,es,ep,e,c⟩:=x
   exact ⟨z,y,xs,Paired.A5 r λp q z=>⟨z.1,ht _ _ z.2.1,z.2.2⟩,ob,es,ep,k _ _ (.inl rfl) e,c⟩
 | set S n=>obtain ⟨ob,es,ep,t,e,c⟩:=x; exact ⟨ob,es,ep,t,k _ _ (.inl rfl) e,c⟩
 | ins C dx fs=>
   obtain ⟨d,z,ne,e,mA,⟨od,es,ep,e2,c⟩,r⟩:=x
   exact ⟨ho _ d,z,ne,k _ _ (.inl rfl) e,mA,⟨od,es,ep,k _ _ (.inr d) e2,c⟩,r⟩
 | own y=>obtain ⟨ob,e⟩:=x; exact ⟨ob,k _ _ (.inl rfl) e⟩
 | xd fs=>obtain ⟨mA,⟨od,es,ep,e,c⟩,r⟩:=x; exact ⟨mA,⟨od,es,ep,k _ _ (.inl rfl) e,c⟩,r⟩
 | rng lo hi=>obtain ⟨t,u,v,e⟩:=x; exact ⟨t,u,v,k _ _ (.inl rfl) e⟩
 | frz ob u ih=>obtain ⟨e,q⟩:=x; exact ⟨k _ _ (.inl rfl) e,ih q⟩
 | tbl ps=>
   have e:h.get? a=some { cls:=.none,data:=.fields ps }:=x
   show h'.get? a=some { cls:=.none,data:=.fields ps }
   exact k a _ (.inl rfl) e
 | met f y=>
   have e:h.get? a=some (PySem.W.methodObj (.ref f) (.ref y)):=x
   show h'.get? a=some (PySem.W.methodObj (.ref f) (.ref y))
   exact k a _ (.inl rfl) e
 | ext φ=>obtain ⟨p,⟨o,e⟩,st⟩:=x; exact ⟨st _ _ p λo q=>k _ _ (.inl rfl) q,⟨o,k _ _ (.inl rfl) e⟩,st⟩
theorem HOk.lt (x:HOk P w H h) (e:H a=some o):a < h.objs.size:=(x a o e).lt
theorem HOk.fresh (x:HOk P w H h) (e:h.objs.size<=a):H a=none:=by
 cases q:H a with
 | none=>rfl
 | some u=>exact absurd (Nat.lt_of_lt_of_le (x.lt q) e) (Nat.lt_irrefl _)
theorem HOk.kept (x:HOk P w H h) (k:∀ b u,h.get? b=some u->h'.get? b=some u):HOk P w H h':=λa o e=>
 (x a o e).jT (λb u _ q=>k b u q) (λ_ q=>q) λ_ _ q=>q
theorem HOk.laid (x:HOk P w H h) (k:∀ b u,h.get? b=some u->h'.get? b=some u) (hp:h.objs.size<=a) (new:bf P w (upd H a o) h' a o):HOk P w (upd H a o) h':=λb u e=>by
 have hn:=x.fresh hp
 by_cases hb:b=a
 · subst hb; rw [aA] at e; cases e; exact new
 · rw [au hb] at e
   exact (x b u e).jT (λc v _ q=>k c v q) (λc q=>by rw [au (aL q hn)]; exact q) λc xs q=>by rw [au (aL q hn)]; exact q
end
noncomputable def Rd (H:Hp) (a:Addr) (u:HO):Prop:=H a=some u\/∃ o,H a=some (.frz o u)
theorem Rd.ok {P:Program} {w:World} {H:Hp} {h:Heap} {a:Addr} {u:HO} (r:Rd H a u) (x:HOk P w H h):bf P w H h a u:=by
 rcases r with r | ⟨o,r⟩
 · exact x a u r
 · obtain ⟨_,q⟩:=x a _ r
   exact q
noncomputable def Mut:Option HO->Prop
 | some (.lst _)=>True
 | some (.dK _)=>True
 | some (.dT _)=>True
 | some (.set _ _)=>True
 | some (.ins _ _ _)=>True
 | some (.ext _)=>True
 | _=>False
section
variable {P:Program} {w:World} {H:Hp} {h h':Heap} {x e:Addr} {o':HO}
theorem HOk.write (ok:HOk P w H h) (mu:Mut (H x)) (he:e=x\/H e=some (.own x)) (k:∀ b u,b ≠ e->h.get? b=some u->h'.get? b=some u) (heo:∃ u,h'.get? e=some u)
   (new:bf P w (upd H x o') h' x o'):HOk P w (upd H x o') h':=λb u q=>by
 have nown:∀ c y,H c=some (.own y)->c ≠ x:=λc y r z=>by subst z; rw [r] at mu; exact mu
 have ntup:∀ c xs,H c=some (.tup xs)->c ≠ x:=λc xs r z=>by subst z; rw [r] at mu; exact mu
 by_cases hb:b=x
 · subst hb; rw [aA] at q; cases q; exact new
 · rw [au hb] at q
   by_cases hbe:b=e
   · have q':H b=some (.own x):=by
       rcases he with z | z
       · exact absurd (hbe.trans z) hb
       · rw [hbe]; exact z
     rw [q] at q'; cases q'
     obtain ⟨v,hv⟩:=heo
     exact ⟨v,by rw [hbe]; exact hv⟩
   · refine (ok b u q).jT (λc v hc r=>k c v ?_ r) (λc r=>by rw [au (nown c b r)]; exact r) λc xs r=>by rw [au (ntup c xs r)]; exact r
     rcases hc with rfl | hc
     · exact hbe
     · rintro rfl
       rcases he with z | z
       · exact nown c b hc z
       · rw [hc] at z; cases z; exact hb rfl
end
structure Un (fs ex:List Addr) (H H':Hp) (h h':Heap):Prop where
 keep:∀ b o,h.get? b=some o->H b=none->b ∉ fs->b ∉ ex->h'.get? b=some o
 slot:∀ b o,h.get? b=some o->H b=none->b ∈ fs->b ∉ ex->∃ sl,h'.get? b=some { o with slots:=sl }
 free:∀ b o,h.get? b=some o->H b=none->b ∉ ex->H' b=none
 there:∀ b o,h.get? b=some o->b ∉ ex->∃ o',h'.get? b=some o'
 tups:∀ b xs,H b=some (.tup xs)->H' b=some (.tup xs)
 frzs:∀ b o u,H b=some (.frz o u)->H' b=some (.frz o u)
 tbls:∀ b ps,H b=some (.tbl ps)->∃ more,H' b=some (.tbl (ps++more))
section
variable {fs fs' ex ex':List Addr} {H H1 H2:Hp} {h h1 h2 h':Heap} {a x e:Addr} {o:HO}
theorem Un.any (u:Un fs ex H H1 h h1) {b:Addr} {ob:Obj} (q:h.get? b=some ob) (n:H b=none) (hx:b ∉ ex):∃ sl,h1.get? b=some { ob with slots:=sl }:=by
 by_cases hb:b ∈ fs
 · exact u.slot b ob q n hb hx
 · exact ⟨ob.slots,u.keep b ob q n hb hx⟩
theorem Un.kept (k:∀ b u,h.get? b=some u->h'.get? b=some u):Un fs ex H H h h':=
 ⟨λb ob q _ _ _=>k b ob q,λb ob q _ _ _=>⟨ob.slots,k b ob q⟩,λ_ _ _ n _=>n,λb ob q _=>⟨ob,k b ob q⟩,λ_ _ q=>q,λ_ _ _ q=>q,λ_ ps q=>⟨#[],by rw [q]; simp⟩⟩
theorem Un.refl:Un fs ex H H h h:=Un.kept λ_ _ q=>q
theorem Un.laid (k:∀ b u,h.get? b=some u->h'.get? b=some u) (hp:h.objs.size<=a) (hn:H a=none):Un fs ex H (upd H a o) h h' where
 keep:=λb u q _ _ _=>k b u q
 slot:=λb u q _ _ _=>⟨u.slots,k b u q⟩
 free:=λb u q n _=>by rw [au (Nat.ne_of_lt (Nat.lt_of_lt_of_le (Heap.lt_size q) hp))]; exact n
 there:=λb u q _=>⟨u,k b u q⟩
 tups:=λb xs q=>by rw [au (aL q hn)]; exact q
 frzs:=λb u xs q=>by rw [au (aL q hn)]; exact q
 tbls:=λb ps q=>⟨#[],by rw [au (aL q hn),q]; simp⟩
theorem Un.write (mu:Mut (H x)) (he:e=x\/H e=some (.own x)) (k:∀ b u,b ≠ e->h.get? b=some u->h'.get? b=some u) (heo:∃ u,h'.get? e=some u):Un fs ex H (upd H x o) h h':=by
 have hx:∀ b,H b=none->b ≠ x:=λb n z=>by subst z; rw [n] at mu; exact mu
 have hb:∀ b,H b=none->b ≠ e:=λb n z=>by
   subst z
   rcases he with r | r
   · exact hx b n r
   · rw [n] at r; cases r
 have hm:∀ b u,H b=some u->¬ Mut (some u)->b ≠ x:=λb u q nm z=>by subst z; rw [q] at mu; exact nm mu
 refine ⟨λb u q n _ _=>k b u (hb b n) q,λb u q n _ _=>⟨u.slots,k b u (hb b n) q⟩,λb u q n _=>by rw [au (hx b n)]; exact n,λb u q _=>?_,
   λb xs q=>by rw [au (hm b _ q λz=>z)]; exact q,λb u xs q=>by rw [au (hm b _ q λz=>z)]; exact q,λb ps q=>⟨#[],by rw [au (hm b _ q λz=>z),q]; simp⟩⟩
 by_cases hbe:b=e
 · subst hbe; exact heo
 · exact ⟨u,k b u hbe q⟩
end
noncomputable def trk (h:Heap) (H:Hp):List Addr:=(List.range h.objs.size).filter λa=>(H a).isSome
noncomputable def l5 (h:Heap) (H:Hp):Heap:=PySem.W.hideAll h (trk h H)
theorem rM (h:Heap) (H:Hp):(l5 h H).objs.size=h.objs.size:=PySem.W.hideAll_size _ _
theorem vc {h:Heap} {H:Hp} {b:Addr} {o:Obj} (e:h.get? b=some o) (n:H b=none):(l5 h H).get? b=some o:=
 PySem.W.hideAll_get _ e λhm=>by
   have q:(H b).isSome=true:=(List.mem_filter.mp hm).2
   rw [n] at q; simp at q
theorem wI {h:Heap} {H:Hp} {b:Addr} {o:Obj} (e:(l5 h H).get? b=some o):h.get? b=some o/\H b=none:=by
 have e':h.get? b=some o:=PySem.W.of_hideAll (trk h H) e
 refine ⟨e',?_⟩
 cases q:H b with
 | none=>rfl
 | some x=>
   have hm:b ∈ trk h H:=List.mem_filter.mpr ⟨List.mem_range.mpr (Heap.lt_size e'),by simp [q]⟩
   have z:(l5 h H).get? b=none:=PySem.W.hideAll_none (trk h H) hm
   rw [z] at e; cases e
noncomputable def vY (g h:Heap) (L:Addr):List (Addr × Obj):=(List.range h.objs.size).filterMap λa=>if a=L\/(g.get? a).isSome=true then none else (h.get? a).map λo=>(a,o)
noncomputable def rest (g h:Heap) (L d:Addr):List (Addr × Obj):=(vY g h L).filter λp=>decide (p.1 ≠ d)
structure Mod (K:PySem.W.Frag) (mg:Str->Option Value) (base:Heap):Prop where
 kin:K.In base
 glob:base.Ns mainGlobals mg
 blt:∃ mb,base.Ns builtinsNs mb/\∀ x:Str,x ≠ "__name__" -> mb x=bootBuiltins x
 nolimit:base.NoLimit
structure Cx where
 prog:Program
 w:World
 K:PySem.W.Frag
 mg:Str->Option Value
 base:Heap
 A:Around
 N:List Str
 s₀:Shared
 H₀:Hp
 env:Env
 outer:List Env
 stack:List Env
 ex:List Addr
 fn:Str->Bool
 calm:Bool
 pn:List (Addr × Obj)
 xe:Value->Shared->Prop
noncomputable def frs (l:List Env):List Addr:=l.filterMap (·.frame)
noncomputable abbrev Cx.fs (X:Cx):List Addr:=frs X.outer
noncomputable def Vis (sc:Scope) (x:Str):Prop:=sc.names.lookup x=some .local\/sc.names.lookup x=some .cell\/sc.names.lookup x=some .free
noncomputable def Loc (sc:Scope) (x:Str):Prop:=sc.names.lookup x=some .local\/sc.names.lookup x=some .cell
noncomputable def Look (env:Env) (h:Heap) (m:Str->Option Value) (x:Str) (u:Value):Prop:=
 (env.kindOf x=some .local/\m x=some u)\/((env.kindOf x=some .cell\/env.kindOf x=some .free)/\∃ c,env.cells.lookup x=some c/\h.IsCell c (some u))
structure Cx.Ok (X:Cx):Prop where
 mod:Mod X.K X.mg X.base
 kind:X.env.scope.kind=.function
 glob:X.env.globals=mainGlobals
 blt:X.env.builtins=builtinsNs
 above:X.s₀.heap.objs.size<=X.env.locals
 inj:∀ x y c,X.env.cells.lookup x=some c->X.env.cells.lookup y=some c->x=y
 has:∀ x,(X.env.kindOf x=some .cell\/X.env.kindOf x=some .free)->∃ c,X.env.cells.lookup x=some c
 cab:∀ x c,X.fn x=true->X.env.cells.lookup x=some c->X.s₀.heap.objs.size<=c
 hd:X.calm=true->X.A.handled=none
 frames:X.A.frames=some X.stack
 stk:X.stack=X.outer\/(X.stack=X.env :: X.outer/\X.env.frame=some X.env.locals)
 exf:∀ b ∈ X.ex,b ≠ X.env.locals/\∀ x c,X.env.cells.lookup x=some c->c ≠ b
 bs:∀ b o,X.base.get? b=some o->X.s₀.heap.get? b=some o/\X.H₀ b=none
 bsz:X.base.objs.size<=X.s₀.heap.objs.size
 noex:∀ b o,X.base.get? b=some o->b ∉ X.ex
 exfs:∀ b ∈ X.ex,b ∉ X.fs
 jl:X.s₀.heap.FunFrames X.base X.outer
 frf:∀ b ∈ X.fs,X.H₀ b=none
structure Inv (X:Cx) (pins:List (Addr × Obj)) (σ:List (Option V)) (H:Hp) (s:Shared):Prop where
 ok:X.Ok
 os:s.os=X.s₀.os
 bare:AllBare s.gens
 base:Un X.fs X.ex X.H₀ H X.s₀.heap s.heap
 loc:∃ m,s.heap.Ns X.env.locals m/\∀ (i:Nat) (x:Str) (v:V),X.N[i]?=some x->σ[i]?=some (some v)->Vis X.env.scope x->∃ u,RelV v u/\Look X.env s.heap m x u
 cell:∀ x c,X.env.cells.lookup x=some c->∃ v,s.heap.IsCell c v
 free:H X.env.locals=none
 freeC:∀ x c,X.env.cells.lookup x=some c->H c=none
 pin:∀ p ∈ X.pn++pins,s.heap.get? p.1=some p.2/\H p.1=none/\p.1 ≠ X.env.locals/\p.1 ∉ X.fs/\∀ v,p.2.data ≠ .cell v
 hok:HOk X.prog X.w H s.heap
 len:σ.length=X.N.length
section
variable {X:Cx} {pins:List (Addr × Obj)} {σ:List (Option V)} {H H':Hp} {s:Shared} {h':Heap}
theorem Cx.Ok.BM (ok:X.Ok) {b:Addr} {o:Obj} (e:X.base.get? b=some o):b ∉ X.fs:=λhb=>by
 have:=(ok.jl.mem hb).1
 rw [e] at this; cases this
theorem Inv.bs (I:Inv X pins σ H s):∀ b o,X.base.get? b=some o->s.heap.get? b=some o/\H b=none:=λb o e=>
 ⟨I.base.keep b o (I.ok.bs b o e).1 (I.ok.bs b o e).2 (I.ok.BM e) (I.ok.noex b o e),I.base.free b o (I.ok.bs b o e).1 (I.ok.bs b o e).2 (I.ok.noex b o e)⟩
theorem Inv.bk (I:Inv X pins σ H s):∀ b o,X.base.get? b=some o->s.heap.get? b=some o:=λb o e=>(I.bs b o e).1
theorem Inv.mod (I:Inv X pins σ H s):Mod X.K X.mg X.base:=I.ok.mod
theorem Inv.kIn (I:Inv X pins σ H s):X.K.In s.heap:=I.ok.mod.kin.keeps I.bk
theorem Inv.lt (I:Inv X pins σ H s):X.env.locals < s.heap.objs.size:=let ⟨_,hn,_⟩:=I.loc; hn.lt
theorem Inv.sz (I:Inv X pins σ H s):X.s₀.heap.objs.size<=s.heap.objs.size:=Nat.le_trans I.ok.above (Nat.le_of_lt I.lt)
theorem Inv.BI (I:Inv X pins σ H s) {a:Addr} (h:s.heap.objs.size<=a):a ∉ X.fs:=λhb=>by
 obtain ⟨_,o,ho,_⟩:=I.ok.jl.mem hb
 exact absurd (Nat.lt_of_lt_of_le (Heap.lt_size ho) (Nat.le_trans I.sz h)) (Nat.lt_irrefl _)
theorem Inv.cne (I:Inv X pins σ H s):∀ x c,X.env.cells.lookup x=some c->c ≠ X.env.locals:=λx c e z=>by
 obtain ⟨v,o,ho,hd⟩:=I.cell x c e
 obtain ⟨m,⟨o',es,ep,ho',hd',_⟩,_⟩:=I.loc
 rw [z,ho'] at ho; cases ho; rw [hd'] at hd; cases hd
theorem Inv.jl (I:Inv X pins σ H s):s.heap.FunFrames X.base X.outer:=by
 have all:∀ (l:List Env),(∀ b ∈ frs l,b ∈ X.fs)->X.s₀.heap.FunFrames X.base l->s.heap.FunFrames X.base l:=by
   intro l
   induction l with
   | nil=>intro _ _; trivial
   | cons env r ih=>
     intro hs hl
     obtain ⟨hk,⟨L,o,hf,hn,ho,hd⟩,hr⟩:=hl
     have hL:L ∈ X.fs:=hs L (by unfold frs; rw [List.filterMap_cons,hf]; exact List.mem_cons_self)
     obtain ⟨sl,e⟩:=I.base.slot L o ho (I.ok.frf L hL) hL λz=>I.ok.exfs L z hL
     exact ⟨hk,⟨L,_,hf,hn,e,hd⟩,ih (λb hb=>hs b (by unfold frs; rw [List.filterMap_cons,hf]; exact List.mem_cons_of_mem _ hb)) hr⟩
 exact all X.outer (λ_ hb=>hb) I.ok.jl
theorem Inv.stack (I:Inv X pins σ H s):s.heap.FunFrames X.base X.stack:=by
 rcases I.ok.stk with e | ⟨e,hf⟩
 · rw [e]; exact I.jl
 · rw [e]
   obtain ⟨m,hn,_⟩:=I.loc
   refine .cons (by rw [I.ok.kind]; decide) hf hn ?_ I.jl
   exact Heap.get?_none_of_le (Nat.le_trans I.ok.bsz I.ok.above)
theorem Inv.oO (I:Inv X pins σ H s):∀ b ∈ frs X.stack,b ∈ X.env.locals :: X.fs:=λb hb=>by
 rcases I.ok.stk with e | ⟨e,hf⟩
 · rw [e] at hb; exact List.mem_cons_of_mem _ hb
 · rw [e] at hb
   unfold frs at hb
   rw [List.filterMap_cons,hf] at hb
   exact hb
theorem Inv.qh (I:Inv X pins σ H s):∀ b ∈ frs X.stack,H b=none:=λb hb=>by
 rcases List.mem_cons.mp (I.oO b hb) with e | hb
 · rw [e]; exact I.free
 · obtain ⟨_,o,ho,_⟩:=I.ok.jl.mem hb
   exact I.base.free b o ho (I.ok.frf b hb) λz=>I.ok.exfs b z hb
theorem Inv.step {g':Array GenState} {t':Nat} {d':Drawn} {ch:List Addr} (I:Inv X pins σ H s)
   (hch:∀ b ∈ ch,(b ∈ X.ex\/X.s₀.heap.objs.size<=b)/\b ≠ X.env.locals/\(∀ x c,X.env.cells.lookup x=some c->c ≠ b)/\∀ p ∈ X.pn++pins,p.1 ≠ b)
   (keep:∀ b o,b ≠ X.env.locals->b ∉ X.fs->b ∉ ch->s.heap.get? b=some o->H b=none->h'.get? b=some o)
   (slot:∀ b o,b ≠ X.env.locals->b ∈ X.fs->b ∉ ch->s.heap.get? b=some o->H b=none->∃ sl,h'.get? b=some { o with slots:=sl }) (free:∀ b o,b ∉ ch->s.heap.get? b=some o->H b=none->H' b=none)
   (there:∀ b o,b ∉ ch->s.heap.get? b=some o->∃ o',h'.get? b=some o')
   (tups:∀ b xs,H b=some (.tup xs)->H' b=some (.tup xs)) (frzs:∀ b o u,H b=some (.frz o u)->H' b=some (.frz o u)) (tbls:∀ b ps,H b=some (.tbl ps)->∃ more,H' b=some (.tbl (ps++more)))
   (ns:∀ m,s.heap.Ns X.env.locals m->h'.Ns X.env.locals m) (hok:HOk X.prog X.w H' h') (hg:AllBare g') :
   Inv X pins σ H' { s with heap:=h',gens:=g',drawn:=d',toks:=t' }:=by
 have neL:∀ b o,X.s₀.heap.get? b=some o->b ≠ X.env.locals:=λb o e=>Nat.ne_of_lt (Nat.lt_of_lt_of_le (Heap.lt_size e) I.ok.above)
 have neC:∀ b o,X.s₀.heap.get? b=some o->b ∉ X.ex->b ∉ ch:=λb o e hx hb=>by
   rcases (hch b hb).1 with z | z
   · exact hx z
   · exact absurd (Nat.lt_of_lt_of_le (Heap.lt_size e) z) (Nat.lt_irrefl _)
 have cellK:∀ x c,X.env.cells.lookup x=some c->∀ v,s.heap.IsCell c v->h'.IsCell c v:=λx c e v ⟨o,ho,hd⟩=>by
   have nch:c ∉ ch:=λz=>(hch c z).2.2.1 x c e rfl
   by_cases hc:c ∈ X.fs
   · obtain ⟨sl,q⟩:=slot c o (I.cne x c e) hc nch ho (I.freeC x c e)
     exact ⟨_,q,hd⟩
   · exact ⟨o,keep c o (I.cne x c e) hc nch ho (I.freeC x c e),hd⟩
 refine ⟨I.ok,I.os,hg,⟨λb o e n hb hx=>?_,λb o e n hb hx=>?_,λb o e n hx=>?_,λb o e hx=>?_,λb xs e=>tups b xs (I.base.tups b xs e),λb o xs e=>frzs b o xs (I.base.frzs b o xs e),λb ps e=>?_⟩,?_,λx c e=>?_,?_,λx c e=>?_,λp hp=>?_,hok,I.len⟩
 · exact keep b o (neL b o e) hb (neC b o e hx) (I.base.keep b o e n hb hx) (I.base.free b o e n hx)
 · obtain ⟨sl,e1⟩:=I.base.slot b o e n hb hx
   obtain ⟨sl',e2⟩:=slot b _ (neL b o e) hb (neC b o e hx) e1 (I.base.free b o e n hx)
   exact ⟨sl',e2⟩
 · obtain ⟨o',e1⟩:=I.base.there b o e hx
   exact free b o' (neC b o e hx) e1 (I.base.free b o e n hx)
 · obtain ⟨o',e1⟩:=I.base.there b o e hx
   exact there b o' (neC b o e hx) e1
 · obtain ⟨m1,e1⟩:=I.base.tbls b ps e
   obtain ⟨m2,e2⟩:=tbls b _ e1
   exact ⟨m1++m2,by rw [e2,Array.append_assoc]⟩
 · obtain ⟨m,hn,hl⟩:=I.loc
   refine ⟨m,ns m hn,λi x v e1 e2 e3=>?_⟩
   obtain ⟨u,r,l⟩:=hl i x v e1 e2 e3
   refine ⟨u,r,?_⟩
   rcases l with l | ⟨k,c,e,z⟩
   · exact .inl l
   · exact .inr ⟨k,c,e,cellK x c e _ z⟩
 · obtain ⟨v,z⟩:=I.cell x c e
   exact ⟨v,cellK x c e v z⟩
 · obtain ⟨m,⟨o,_,_,ho,_⟩,_⟩:=I.loc
   exact free _ o (λz=>(hch _ z).2.1 rfl) ho I.free
 · obtain ⟨v,o,ho,hd⟩:=I.cell x c e
   exact free c o (λz=>(hch c z).2.2.1 x c e rfl) ho (I.freeC x c e)
 · obtain ⟨e,n,ne,nf,d⟩:=I.pin p hp
   have nch:p.1 ∉ ch:=λz=>(hch p.1 z).2.2.2 p hp rfl
   exact ⟨keep p.1 p.2 ne nf nch e n,free p.1 p.2 nch e n,ne,nf,d⟩
theorem Inv.un {t':Nat} (I:Inv X pins σ H s) (u:Un X.fs [] H H' s.heap h') (hok:HOk X.prog X.w H' h'):Inv X pins σ H' { s with heap:=h',toks:=t' }:=by
 obtain ⟨m,⟨o,es,ep,ho,r⟩,_⟩:=id I.loc
 obtain ⟨sl,hL⟩:=u.any ho I.free (by simp)
 exact I.step (g':=s.gens) (d':=s.drawn) (ch:=[]) (λ_ z=>nomatch z) (λb o _ hb _ e n=>u.keep b o e n hb (by simp)) (λb o _ hb _ e n=>u.slot b o e n hb (by simp)) (λb o _ e n=>u.free b o e n (by simp)) (λb o _ e=>u.there b o e (by simp)) u.tups u.frzs u.tbls (λm' hm=>by
   obtain ⟨o',es',ep',ho',r'⟩:=hm
   rw [ho] at ho'; cases ho'
   exact ⟨_,es',ep',hL,r'⟩) hok I.bare
theorem Inv.call {g':Array GenState} {t':Nat} {d':Drawn} {ch:List Addr} (I:Inv X pins σ H s) (u:Un (frs X.stack) ch H H' s.heap h') (hok:HOk X.prog X.w H' h') (hg:AllBare g')
   (hch:∀ b ∈ ch,(b ∈ X.ex\/X.s₀.heap.objs.size<=b)/\b ≠ X.env.locals/\(∀ x c,X.env.cells.lookup x=some c->c ≠ b)/\∀ p ∈ X.pn++pins,p.1 ≠ b) :
   Inv X pins σ H' { s with heap:=h',gens:=g',drawn:=d',toks:=t' }:=by
 obtain ⟨m,⟨o,es,ep,ho,r⟩,_⟩:=id I.loc
 obtain ⟨sl,hL⟩:=u.any ho I.free λz=>(hch _ z).2.1 rfl
 exact I.step (ch:=ch) hch (λb o hL hb hc e n=>u.keep b o e n (λz=>(List.mem_cons.mp (I.oO b z)).elim hL hb) hc) (λb o _ _ hc e n=>u.any e n hc) (λb o hc e n=>u.free b o e n hc) (λb o hc e=>u.there b o e hc) u.tups u.frzs u.tbls (λm' hm=>by
   obtain ⟨o',es',ep',ho',r'⟩:=hm
   rw [ho] at ho'; cases ho'
   exact ⟨_,es',ep',hL,r'⟩) hok hg
theorem Inv.turned {t':Nat} {it:Addr} (I:Inv X pins σ H s) (k:∀ b o,b ≠ it->s.heap.get? b=some o->h'.get? b=some o) (hn:H it=none) (hL:it ≠ X.env.locals)
   (h1:it ∈ X.ex\/X.s₀.heap.objs.size<=it) (h2:∀ x c,X.env.cells.lookup x=some c->c ≠ it) (h3:∀ p ∈ X.pn++pins,p.1 ≠ it):Inv X pins σ H { s with heap:=h',toks:=t' }:=by
 have nit:∀ b u,H b=some u->b ≠ it:=λb u e z=>by rw [z,hn] at e; cases e
 refine I.step (g':=s.gens) (d':=s.drawn) (ch:=[it]) (λb hb=>?_) (λb o _ _ hc e _=>k b o (λz=>hc (by simp [z])) e) (λb o _ _ hc e _=>⟨o.slots,k b o (λz=>hc (by simp [z])) e⟩) (λ_ _ _ _ n=>n)
   (λb o hc e=>⟨o,k b o (λz=>hc (by simp [z])) e⟩) (λ_ _ e=>e) (λ_ _ _ e=>e) (λb ps e=>⟨#[],by rw [e]; simp⟩) (λm hm=>?_) (λb u e=>?_) I.bare
 · have e:b=it:=by simpa using hb
   subst e
   exact ⟨h1,hL,h2,h3⟩
 · obtain ⟨o,es,ep,ho,r⟩:=hm
   exact ⟨o,es,ep,k _ o (Ne.symm hL) ho,r⟩
 · refine (I.hok b u e).jT (λc v hc q=>k c v ?_ q) (λ_ q=>q) λ_ _ q=>q
   rcases hc with z | z
   · rw [z]; exact nit b u e
   · exact nit c _ z
theorem Inv.tok (I:Inv X pins σ H s) (t:Nat):Inv X pins σ H { s with toks:=t }:=I.un (h':=s.heap) (t':=t) Un.refl I.hok
theorem Inv.kept {t':Nat} (I:Inv X pins σ H s) (k:∀ b u,s.heap.get? b=some u->h'.get? b=some u):Inv X pins σ H { s with heap:=h',toks:=t' }:=I.un (Un.kept k) (I.hok.kept k)
theorem Inv.laid {a:Addr} {o:HO} {t':Nat} (I:Inv X pins σ H s) (k:∀ b u,s.heap.get? b=some u->h'.get? b=some u) (hp:s.heap.objs.size<=a) (new:bf X.prog X.w (upd H a o) h' a o) :
   Inv X pins σ (upd H a o) { s with heap:=h',toks:=t' }:=I.un (Un.laid k hp (I.hok.fresh hp)) (I.hok.laid k hp new)
theorem Inv.write {x e:Addr} {o:HO} {t':Nat} (I:Inv X pins σ H s) (mu:Mut (H x)) (he:e=x\/H e=some (.own x)) (k:∀ b u,b ≠ e->s.heap.get? b=some u->h'.get? b=some u) (heo:∃ u,h'.get? e=some u)
   (new:bf X.prog X.w (upd H x o) h' x o):Inv X pins σ (upd H x o) { s with heap:=h',toks:=t' }:=I.un (Un.write mu he k heo) (I.hok.write mu he k heo new)
theorem Inv.qR {pins':List (Addr × Obj)} (I:Inv X pins σ H s) (h:∀ p ∈ pins',s.heap.get? p.1=some p.2/\H p.1=none/\p.1 ≠ X.env.locals/\p.1 ∉ X.fs/\∀ v,p.2.data ≠ .cell v):Inv X pins' σ H s:=
 ⟨I.ok,I.os,I.bare,I.base,I.loc,I.cell,I.free,I.freeC,λp hp=>(List.mem_append.mp hp).elim (λz=>I.pin p (List.mem_append_left _ z)) (h p),I.hok,I.len⟩
theorem m5 {N:List Str} (hN:N.Nodup) {i j:Nat} {x:Str} (a:N[i]?=some x) (b:N[j]?=some x):i=j:=by
 obtain ⟨h1,e1⟩:=List.getElem?_eq_some_iff.mp a
 obtain ⟨h2,e2⟩:=List.getElem?_eq_some_iff.mp b
 exact (List.getElem_inj hN).mp (e1.trans e2.symm)
theorem rO {M:Model} {A:Around} {E:Value->Shared->Prop} {i:Nat} {x:Str} {v:V} {u:Value} {Q:Unit->Shared->Prop} (I:Inv X pins σ H s) (hN:X.N.Nodup) (hi:X.N[i]?=some x) (hx:Loc X.env.scope x) (r:RelV v u)
   (h:∀ s',Inv X pins (σ.set i (some v)) H s'->(∃ a,Heap.SameBut a s.heap s'.heap/\(a=X.env.locals\/X.env.cells.lookup x=some a))->Q () s') (hf:X.fn x=true\/X.env.scope.names.lookup x=some .local:=by first | exact .inl rfl | exact .inr rfl | assumption):wpAny M A (storeName X.env x u) Q E s:=by
 obtain ⟨m,hn,hl⟩:=id I.loc
 have hcls:(X.env.scope.kind == .class || (X.env.scope.kind == .module && X.env.locals != X.env.globals))=false:=by rw [I.ok.kind]; rfl
 have hiσ:i < σ.length:=by rw [I.len]; exact (List.getElem?_eq_some_iff.mp hi).1
 have cne:=I.cne
 have tracked:∀ {a:Addr} {h':Heap},(∃ o,s.heap.get? a=some o/\H a=none)->Heap.SameBut a s.heap h'->HOk X.prog X.w H h':=λ{a h'} ha hs b ob e=>by
   obtain ⟨_,_,hfree⟩:=ha
   refine (I.hok b ob e).jT (λc w' hc q=>(hs.2 c ?_).trans q) (λ_ q=>q) λ_ _ q=>q
   rintro rfl
   rcases hc with rfl | hc
   · rw [hfree] at e; cases e
   · rw [hfree] at hc; cases hc
 rcases hx with hk | hk
 · refine wpAny_storeName_local hk hn (λh' hn' hs=>?_) hcls
   obtain ⟨oL,_,_,hoL,_⟩:=id hn
   refine h _ ⟨I.ok,I.os,I.bare,⟨λb o e n hb hx=>?_,λb o e n hb hx=>?_,I.base.free,λb o e hx=>?_,I.base.tups,I.base.frzs,I.base.tbls⟩,⟨_,hn',λj y v' e1 e2 e3=>?_⟩,λy c e=>?_,I.free,I.freeC,λp hp=>?_,tracked ⟨oL,hoL,I.free⟩ hs,by simpa using I.len⟩ ⟨_,hs,.inl rfl⟩
   · exact (hs.2 b (Nat.ne_of_lt (Nat.lt_of_lt_of_le (Heap.lt_size e) I.ok.above))).trans (I.base.keep b o e n hb hx)
   · obtain ⟨sl,e1⟩:=I.base.slot b o e n hb hx
     exact ⟨sl,(hs.2 b (Nat.ne_of_lt (Nat.lt_of_lt_of_le (Heap.lt_size e) I.ok.above))).trans e1⟩
   · obtain ⟨o',e1⟩:=I.base.there b o e hx
     exact ⟨o',(hs.2 b (Nat.ne_of_lt (Nat.lt_of_lt_of_le (Heap.lt_size e) I.ok.above))).trans e1⟩
   · by_cases hj:j=i
     · subst hj
       rw [hi] at e1; cases e1
       rw [List.getElem?_set_self hiσ] at e2
       cases e2
       exact ⟨u,r,.inl ⟨hk,by simp⟩⟩
     · rw [List.getElem?_set_ne (Ne.symm hj)] at e2
       obtain ⟨u',r',q⟩:=hl j y v' e1 e2 e3
       refine ⟨u',r',?_⟩
       rcases q with ⟨k,e⟩ | ⟨k,c,e,z⟩
       · refine .inl ⟨k,?_⟩
         have:y ≠ x:=λe=>hj (m5 hN e1 (e ▸ hi))
         simp [this,e]
       · exact .inr ⟨k,c,e,z.sameBut hs (cne y c e)⟩
   · obtain ⟨w',z⟩:=I.cell y c e
     exact ⟨w',z.sameBut hs (cne y c e)⟩
   · obtain ⟨e,n,ne,nf,d⟩:=I.pin p hp
     exact ⟨(hs.2 p.1 ne).trans e,n,ne,nf,d⟩
 · have hfn:X.fn x=true:=by
     rcases hf with z | z
     · exact z
     · rw [z] at hk; cases hk
   obtain ⟨c,hc⟩:=I.ok.has x (.inl hk)
   obtain ⟨w',z⟩:=I.cell x c hc
   refine wpAny_storeName_cell I.ok.kind hk hc z (λh' hc' hs=>?_)
   obtain ⟨oc,hoc,hocd⟩:=id z
   refine h { s with heap:=h' } ⟨I.ok,I.os,I.bare,⟨λb o e n hb hx=>?_,λb o e n hb hx=>?_,I.base.free,λb o e hx=>?_,I.base.tups,I.base.frzs,I.base.tbls⟩,⟨m,hn.sameBut hs (Ne.symm (cne x c hc)),λj y v' e1 e2 e3=>?_⟩,λy c' e=>?_,I.free,I.freeC,λp hp=>?_,tracked ⟨oc,hoc,I.freeC x c hc⟩ hs,by simpa using I.len⟩ ⟨c,hs,.inr hc⟩
   · exact (hs.2 b (Nat.ne_of_lt (Nat.lt_of_lt_of_le (Heap.lt_size e) (I.ok.cab x c hfn hc)))).trans (I.base.keep b o e n hb hx)
   · obtain ⟨sl,e1⟩:=I.base.slot b o e n hb hx
     exact ⟨sl,(hs.2 b (Nat.ne_of_lt (Nat.lt_of_lt_of_le (Heap.lt_size e) (I.ok.cab x c hfn hc)))).trans e1⟩
   · obtain ⟨o',e1⟩:=I.base.there b o e hx
     exact ⟨o',(hs.2 b (Nat.ne_of_lt (Nat.lt_of_lt_of_le (Heap.lt_size e) (I.ok.cab x c hfn hc)))).trans e1⟩
   · by_cases hj:j=i
     · subst hj
       rw [hi] at e1; cases e1
       rw [List.getElem?_set_self hiσ] at e2
       cases e2
       exact ⟨u,r,.inr ⟨.inl hk,c,hc,hc'⟩⟩
     · rw [List.getElem?_set_ne (Ne.symm hj)] at e2
       obtain ⟨u',r',q⟩:=hl j y v' e1 e2 e3
       refine ⟨u',r',?_⟩
       rcases q with q | ⟨k,c',e,z'⟩
       · exact .inl q
       · refine .inr ⟨k,c',e,z'.sameBut hs ?_⟩
         rintro rfl
         exact hj (m5 hN e1 (I.ok.inj _ _ _ e hc ▸ hi))
   · by_cases hcc:c'=c
     · subst hcc; exact ⟨_,hc'⟩
     · obtain ⟨w2,z2⟩:=I.cell y c' e
       exact ⟨w2,z2.sameBut hs hcc⟩
   · obtain ⟨e,n,ne,nf,d⟩:=I.pin p hp
     refine ⟨(hs.2 p.1 ?_).trans e,n,ne,nf,d⟩
     intro q
     rw [q,hoc] at e
     have q':oc=p.2:=Option.some.inj e
     exact d w' (by rw [<- q']; exact hocd)
theorem mD {M:Model} {A:Around} {E:Value->Shared->Prop} {i:Nat} {x:Str} {v:V} {u:Value} {Q:Unit->Shared->Prop} (I:Inv X pins σ H s) (hN:X.N.Nodup) (hi:X.N[i]?=some x) (hx:Loc X.env.scope x) (r:RelV v u)
   (h:∀ s',Inv X pins (σ.set i (some v)) H s'->Q () s') (hf:X.fn x=true\/X.env.scope.names.lookup x=some .local:=by first | exact .inl rfl | exact .inr rfl | assumption):wpAny M A (storeName X.env x u) Q E s:=
 rO I hN hi hx r (λs' I' _=>h s' I') hf
theorem Inv.xE {s':Shared} {ch:List Addr} (I:Inv X pins σ H s) (ho:s'.os=s.os) (u:Un (frs X.stack) ch H H' s.heap s'.heap) (hok:HOk X.prog X.w H' s'.heap) (hg:AllBare s'.gens)
   (hch:∀ b ∈ ch,(b ∈ X.ex\/X.s₀.heap.objs.size<=b)/\b ≠ X.env.locals/\(∀ x c,X.env.cells.lookup x=some c->c ≠ b)/\∀ p ∈ X.pn++pins,p.1 ≠ b):Inv X pins σ H' s':=by
 obtain ⟨h',g',d',t',o'⟩:=s'
 have e:o'=s.os:=ho
 subst e
 exact I.call (g':=g') (t':=t') (d':=d') u hok hg hch
end
noncomputable abbrev XK:=Value->Option Addr->Hp->Prop
noncomputable abbrev St:=List (Option V)
noncomputable abbrev VK:=V->Hp->Prop
noncomputable abbrev TE:=St->Hp->VK->Prop
noncomputable abbrev TT:=St->Hp->(Bool->Hp->Prop)->Prop
noncomputable abbrev TA:=St->Hp->(List V->Hp->Prop)->Prop
structure Ends where
 nx:St->Hp->Prop
 rt:VK
 bk:St->Hp->Prop:=λ_ _=>False
 ct:St->Hp->Prop:=λ_ _=>False
noncomputable abbrev TS:=Ends->St->Hp->Prop
noncomputable def EP (X:Cx) (pins:List (Addr × Obj)) (σ:St) (Q:VK) (u:Value) (s':Shared):Prop:=∃ v H',Inv X pins σ H' s'/\RelV v u/\Q v H'
noncomputable def TP (X:Cx) (pins:List (Addr × Obj)) (σ:St) (Q:Bool->Hp->Prop) (b:Bool) (s':Shared):Prop:=∃ H',Inv X pins σ H' s'/\Q b H'
noncomputable def AP (X:Cx) (pins:List (Addr × Obj)) (σ:St) (Q:List V->Hp->Prop) (us:List Value) (s':Shared):Prop:=∃ vs H',Inv X pins σ H' s'/\Vals vs us/\Q vs H'
noncomputable def SP (X:Cx) (pins:List (Addr × Obj)) (D:Ends) (f:Flow) (s':Shared):Prop:=
 match f with
 | .next=>∃ σ' H',Inv X pins σ' H' s'/\D.nx σ' H'
 | .brk=>∃ σ' H',Inv X pins σ' H' s'/\D.bk σ' H'
 | .cont=>∃ σ' H',Inv X pins σ' H' s'/\D.ct σ' H'
 | .ret u=>∃ v σ' H',Inv X pins σ' H' s'/\RelV v u/\D.rt v H'
noncomputable def PE (X:Cx) (e:Expr) (t:TE):Prop:=
 ∀ (pins:List (Addr × Obj)) (s:Shared) (σ:St) (H:Hp) (Q:VK),Inv X pins σ H s->t σ H Q->wpAny (model X.prog X.w) X.A (eval e X.env) (EP X pins σ Q) X.xe s
noncomputable def PT (X:Cx) (e:Expr) (t:TT):Prop:=
 ∀ (pins:List (Addr × Obj)) (s:Shared) (σ:St) (H:Hp) (Q:Bool->Hp->Prop),Inv X pins σ H s->t σ H Q->wpAny (model X.prog X.w) X.A (isTrue e X.env (eval e X.env)) (TP X pins σ Q) X.xe s
noncomputable def PW (X:Cx) (e:Expr) (t:TT):Prop:=
 ∀ (whole:Sem Value) (pins:List (Addr × Obj)) (s:Shared) (σ:St) (H:Hp) (Q:Bool->Hp->Prop),Inv X pins σ H s->t σ H Q->wpAny (model X.prog X.w) X.A (isTrue e X.env whole) (TP X pins σ Q) X.xe s
theorem PW.pt {X:Cx} {e:Expr} {t:TT} (h:PW X e t):PT X e t:=h _
noncomputable def PA (X:Cx) (es:List Expr) (t:TA):Prop:=
 ∀ (pos:Pos) (pins:List (Addr × Obj)) (s:Shared) (σ:St) (H:Hp) (Q:List V->Hp->Prop),Inv X pins σ H s->t σ H Q->wpAny (model X.prog X.w) X.A (spliced (backTo pos (starEach es X.env))) (AP X pins σ Q) X.xe s
noncomputable def PS (X:Cx) (st:Stmt) (t:TS):Prop:=
 ∀ (pins:List (Addr × Obj)) (s:Shared) (σ:St) (H:Hp) (D:Ends),Inv X pins σ H s->t D σ H->wpAny (model X.prog X.w) X.A (exec st X.env) (SP X pins D) X.xe s
noncomputable def PSs (X:Cx) (st:List Stmt) (t:TS):Prop:=
 ∀ (pins:List (Addr × Obj)) (s:Shared) (σ:St) (H:Hp) (D:Ends),Inv X pins σ H s->t D σ H->wpAny (model X.prog X.w) X.A (execs st X.env) (SP X pins D) X.xe s
theorem thn {α:Type} {t:Sem α} {Q Q':α->Shared->Prop} {M:Model} {A:Around} {E:Value->Shared->Prop} {s:Shared} (h:wpAny M A t Q E s) (hQ:∀ a s,Q a s->Q' a s):wpAny M A t Q' E s:=wpAny_mono h hQ λ_ _ x=>x
section
variable {X:Cx}
theorem bin {a b:Expr} {ta tb:TE} (ha:PE X a ta) (hb:PE X b tb) {pins:List (Addr × Obj)} {s:Shared} {σ:St} {H:Hp} {R:V->V->Hp->Prop} (I:Inv X pins σ H s) (h:ta σ H λx H1=>tb σ H1 λy H2=>R x y H2)
   {α:Type} {Q:α->Shared->Prop} {f:Value->Value->Sem α}
   (hf:∀ v u s2 x y H2,Inv X pins σ H2 s2->RelV x v->RelV y u->R x y H2->wpAny (model X.prog X.w) X.A (f v u) Q X.xe s2) :
   wpAny (model X.prog X.w) X.A (eval a X.env) (λv s₁=>wpAny (model X.prog X.w) X.A (eval b X.env) (λu s₂=>wpAny (model X.prog X.w) X.A (f v u) Q X.xe s₂) X.xe s₁) X.xe s:=by
 refine thn (ha pins s σ H _ I h) λv s1 ⟨x,H1,I1,r1,q1⟩=>?_
 refine thn (hb pins s1 σ H1 _ I1 q1) λu s2 ⟨y,H2,I2,r2,q2⟩=>?_
 exact hf v u s2 x y H2 I2 r1 r2 q2
noncomputable def A6 (i:Nat):TE:=λσ H Q=>∃ v,σ[i]?=some (some v)/\Q v H
noncomputable def tC (v:V):TE:=λ_ H Q=>Q v H
theorem bG {i:Nat} {x:Str} {pos:Pos} (hN:X.N[i]?=some x) (hv:Vis X.env.scope x) (hd:(x == ("__debug__" : Str))=false:=by decide) (hcd:(x == ("__classdict__" : Str))=false:=by decide):PE X (.Name x pos) (A6 i):=by
 intro pins s σ H Q I h
 obtain ⟨v,e,h⟩:=h
 obtain ⟨m,hn,hl⟩:=I.loc
 obtain ⟨u,r,l⟩:=hl i x v hN e hv
 have fin:EP X pins σ Q u s:=⟨v,H,I,r,h⟩
 rcases l with ⟨hk,hm⟩ | ⟨hk,c,hc,hcell⟩
 · exact wpAny_Name (wpAny_loadName_local I.ok.kind hk hn hm fin) hd
 · rcases hk with hk | hk
   · exact wpAny_Name (wpAny_loadName_cell I.ok.kind hk hc hcell fin) hd
   · exact wpAny_Name (wpAny_loadName_free I.ok.kind hk hc hcell fin hcd) hd
theorem pq {i j pos}:PE X (.Constant (.int i) j pos) (tC (.int i)):=λ_ _ _ H _ I h=>wpAny_Constant_int ⟨.int i,H,I.tok _,⟨_,rfl⟩,h⟩
theorem AA {b j pos}:PE X (.Constant (.bool b) j pos) (tC (.bl b)):=λ_ _ _ H _ I h=>Constant_bool ⟨.bl b,H,I,rfl,h⟩
theorem xN {j pos}:PE X (.Constant .none j pos) (tC .non):=λ_ _ _ H _ I h=>Constant_none ⟨.non,H,I,rfl,h⟩
noncomputable def Gl (X:Cx) (x:Str):Prop:=X.env.kindOf x=some .globalImplicit
theorem qk {E:Value->Shared->Prop} {pins:List (Addr × Obj)} {s:Shared} {σ:St} {H:Hp} {x:Str} {u:Value} {pos:Pos} {Q:Value->Shared->Prop} (I:Inv X pins σ H s) (hg:Gl X x) (hm:X.mg x=some u) (h:Q u s)
   (hd:(x == ("__debug__" : Str))=false:=by decide):wpAny (model X.prog X.w) X.A (eval (.Name x pos) X.env) Q E s:=
 Calls.Name_function_global I.ok.kind hg (Calls.loadGlobal_global (by rw [I.ok.glob]; exact I.mod.glob.keeps I.bk) hm h) hd
theorem eo {E:Value->Shared->Prop} {pins:List (Addr × Obj)} {s:Shared} {σ:St} {H:Hp} {x:Str} {u:Value} {pos:Pos} {Q:Value->Shared->Prop} (I:Inv X pins σ H s) (hg:Gl X x) (hm:X.mg x=none) (hv:bootBuiltins x=some u) (h:Q u s)
   (hn:x ≠ "__name__":=by decide) (hd:(x == ("__debug__" : Str))=false:=by decide):wpAny (model X.prog X.w) X.A (eval (.Name x pos) X.env) Q E s:=by
 obtain ⟨mb,h1,h2⟩:=I.mod.blt
 exact Calls.Name_function_global I.ok.kind hg (Calls.loadGlobal_builtin (by rw [I.ok.glob]; exact I.mod.glob.keeps I.bk) hm (by rw [I.ok.blt]; exact h1.keeps I.bk) ((h2 x hn).trans hv) h) hd
theorem vX {x:Str} {v:V} {u:Value} {pos:Pos} (hg:Gl X x) (hm:X.mg x=some u) (r:RelV v u) (hd:(x == ("__debug__" : Str))=false:=by decide):PE X (.Name x pos) (tC v):=
 λ_ _ _ H _ I h=>qk I hg hm ⟨v,H,I,r,h⟩ hd
theorem vq {x:Str} {v:V} {u:Value} {pos:Pos} (hg:Gl X x) (hm:X.mg x=none) (hv:bootBuiltins x=some u) (r:RelV v u) (hn:x ≠ "__name__":=by decide) (hd:(x == ("__debug__" : Str))=false:=by decide):PE X (.Name x pos) (tC v):=
 λ_ _ _ H _ I h=>eo I hg hm hv ⟨v,H,I,r,h⟩ hn hd
variable {a b:Expr} {ta tb:TE} {pos:Pos}
noncomputable def PC (X:Cx) (op:CmpOp) (a b:Expr) (t:TE):Prop:=
 ∀ (pins:List (Addr × Obj)) (s:Shared) (σ:St) (H:Hp) (Q:VK),Inv X pins σ H s->t σ H Q ->
   wpAny (model X.prog X.w) X.A (eval a X.env) (λv s₁=>wpAny (model X.prog X.w) X.A (eval b X.env) (λu s₂=>wpAny (model X.prog X.w) X.A (compareOp op v u) (EP X pins σ Q) X.xe s₂) X.xe s₁) X.xe s
theorem tQ (b:Expr) {op:CmpOp} (h:op ≠ .In) (h2:op ≠ .NotIn):behindInMarks op b=false:=by
 have e1:(op == CmpOp.In)=false:=by cases op <;> first | rfl | exact absurd rfl h
 have e2:(op == CmpOp.NotIn)=false:=by cases op <;> first | rfl | exact absurd rfl h2
 cases b <;> simp [behindInMarks,e1,e2]
noncomputable def tB (t:TE):TT:=λσ H Q=>t σ H λx H1=>∃ c,x=.bl c/\Q c H1
theorem Bp {op:CmpOp} {t:TE} (h:PC X op a b t) (h1:behindInMarks op b=false:=by first | exact tQ _ (by decide) (by decide) | rfl):PT X (.Compare a [op] [b] pos) (tB t):=by
 intro pins s σ H Q I hw
 refine wpAny_isTrue_Compare1 (thn (h pins s σ H _ I hw) λv s1 h1=>thn h1 λu s2 h2=>thn h2 λc s3 ⟨x,H1,I1,r1,q1⟩=>?_) h1
 obtain ⟨d,rfl,q⟩:=q1
 cases r1
 exact wpAny_truthy_bool ⟨H1,I1,q⟩
theorem yY {e:Expr} {t:TE} (h:PE X e t) (he:∀ whole,isTrue e X.env whole=(do let v <- whole; standAt e.pos; holding [v] (truthy v)):=by intro _; rfl):PT X e (tB t):=by
 intro pins s σ H Q I hw
 refine isTrue_plain (thn (h pins s σ H _ I hw) λv s1 ⟨x,H1,I1,r1,q1⟩=>?_) (he _)
 obtain ⟨d,rfl,q⟩:=q1
 cases r1
 exact wpAny_truthy_bool ⟨H1,I1,q⟩
variable {tA tB':TT} {rest:List Expr}
noncomputable def tOr (t u:TT):TT:=λσ H Q=>t σ H λc H1=>if c=true then Q true H1 else u σ H1 Q
noncomputable def BC (t:TT):TT:=λσ H Q=>t σ H λc H1=>Q (!c) H1
theorem pw_or1 (ha:PT X a tA):PW X (.BoolOp .Or [a] pos) tA:=by
 intro wh pins s σ H Q I h
 refine isTrue_or (thn (ha pins s σ H Q I h) λc s1 e=>?_)
 cases c with
 | false=>exact isTrue_or_nil e
 | true=>exact e
theorem pw_or (ha:PT X a tA) (hb:PW X (.BoolOp .Or (b :: rest) pos) tB'):PW X (.BoolOp .Or (a :: b :: rest) pos) (tOr tA tB'):=by
 intro wh pins s σ H Q I h
 refine isTrue_or (thn (ha pins s σ H _ I h) λc s1 ⟨H1,I1,q1⟩=>?_)
 cases c with
 | true=>exact ⟨H1,I1,q1⟩
 | false=>exact hb wh pins s1 σ H1 Q I1 q1
theorem yL (ha:PT X a tA):PT X (.UnaryOp .Not a pos) (BC tA):=by
 intro pins s σ H Q I h
 exact isTrue_not (ha pins s σ H (λc H1=>Q (!c) H1) I h)
noncomputable def An (ta tb:TE):TE:=λσ H Q=>ta σ H λx H1=>∃ c,x=.bl c/\if c=true then tb σ H1 Q else Q (.bl false) H1
noncomputable def AB (ta:TE):TE:=λσ H Q=>ta σ H λx H1=>∃ c,x=.bl c/\Q (.bl (!c)) H1
theorem yW {op} {t:TE} (h:PE X a t):PE X (.BoolOp op [a] pos) t:=λpins s σ H Q I hw=>BoolOp_one (h pins s σ H Q I hw)
theorem vb (ha:PE X a ta) (hb:PE X (.BoolOp .And (b :: rest) pos) tb):PE X (.BoolOp .And (a :: b :: rest) pos) (An ta tb):=by
 intro pins s σ H Q I h
 refine BoolOp_and (thn (ha pins s σ H _ I h) λv s1 ⟨x,H1,I1,r1,q1⟩=>?_)
 obtain ⟨c,rfl,q1⟩:=q1
 cases r1
 refine wpAny_truthy_bool ?_
 cases c with
 | true=>exact hb pins s1 σ H1 Q I1 q1
 | false=>exact ⟨.bl false,H1,I1,rfl,q1⟩
theorem yS (ha:PE X a ta):PE X (.UnaryOp .Not a pos) (AB ta):=by
 intro pins s σ H Q I h
 refine UnaryOp_ (thn (ha pins s σ H _ I h) λv s1 ⟨x,H1,I1,r1,q1⟩=>?_)
 obtain ⟨c,rfl,q1⟩:=q1
 cases r1
 exact not_of (wpAny_truthy_bool ⟨.bl (!c),H1,I1,rfl,q1⟩)
noncomputable def tIf (t:TT) (ta tb:TE):TE:=λσ H Q=>t σ H λc H1=>if c=true then ta σ H1 Q else tb σ H1 Q
theorem m8 {c:Expr} (hc:PT X c tA) (ha:PE X a ta) (hb:PE X b tb):PE X (.IfExp c a b pos) (tIf tA ta tb):=by
 intro pins s σ H Q I h
 refine wpAny_IfExp (thn (hc pins s σ H _ I h) λd s1 ⟨H1,I1,q1⟩=>?_)
 cases d with
 | true=>exact ha pins s1 σ H1 Q I1 q1
 | false=>exact hb pins s1 σ H1 Q I1 q1
end
noncomputable def SqL (K:PySem.W.Frag) (H:Hp) (a:Addr) (xs:List V):Prop:=
 Rd H a (.lst xs) \/
   ∃ (o:Obj) (its:Array Value) (n:Nat),K.lookup a=some o/\o.cls=.type "list" /\ o.dict=none/\o.data=.seq its n/\its.size<=sizeLine/\Vals xs its.toList
noncomputable def SqT (K:PySem.W.Frag) (H:Hp) (a:Addr) (xs:List V):Prop:=
 Rd H a (.tup xs) \/
   ∃ (o:Obj) (its:Array Value) (n:Nat),K.lookup a=some o/\o.cls=.type "tuple" /\ o.data=.seq its n/\its.size<=sizeLine/\Vals xs its.toList
noncomputable def Bh:Value->Option V
 | .none=>some .non
 | .bool b=>some (.bl b)
 | .int i _=>some (.int i)
 | .str x _=>some (.str x)
 | .bytes b _=>some (.byt b)
 | .float b _=>some (.flt b)
 | .ref a=>some (.ref a)
 | .type n=>some (.ty n)
 | _=>none
theorem RelV.abs {x:V} {u:Value} (r:RelV x u):Bh u=some x:=by
 cases x with
 | non=>cases r; rfl
 | bl _=>cases r; rfl
 | int _=>obtain ⟨t,rfl⟩:=r; rfl
 | str _=>obtain ⟨t,rfl⟩:=r; rfl
 | byt _=>obtain ⟨t,rfl⟩:=r; rfl
 | flt _=>obtain ⟨t,rfl⟩:=r; rfl
 | ref _=>cases r; rfl
 | ty _=>cases r; rfl
theorem RelV.inj {x y:V} {u:Value} (r:RelV x u) (q:RelV y u):x=y:=Option.some.inj (r.abs.symm.trans q.abs)
theorem Vals.inj:∀ {xs ys:List V} {us:List Value},Vals xs us->Vals ys us->xs=ys
 | _,_,_,.nil,.nil=>rfl
 | _,_,_,.cons r t,.cons r' t'=>by rw [r.inj r',Vals.inj t t']
section
variable {X:Cx} {pins:List (Addr × Obj)} {σ:St} {H:Hp} {s:Shared} {a:Addr} {xs ys:List V}
theorem SqL.of {K:PySem.W.Frag} (h:H a=some (.lst xs)):SqL K H a xs:=.inl (.inl h)
theorem SqT.of {K:PySem.W.Frag} (h:H a=some (.tup xs)):SqT K H a xs:=.inl (.inl h)
theorem Inv.list (I:Inv X pins σ H s) (h:SqL X.K H a xs):∃ its:List Value,Vals xs its/\PlainL s.heap a its.toArray/\xs.length<=sizeLine:=by
 rcases h with h | ⟨o,its,n,hk,hc,hd,hs,hz,r⟩
 · obtain ⟨z,its,n,r,e⟩:=h.ok I.hok
   exact ⟨its,r,⟨_,n,e,rfl,rfl,rfl⟩,z⟩
 · refine ⟨its.toList,r,⟨o,n,I.kIn a o hk,hc,hd,by simpa using hs⟩,?_⟩
   have e:=r.length
   simp only [Array.length_toList] at e
   omega
theorem Inv.tuple (I:Inv X pins σ H s) (h:SqT X.K H a xs):∃ its:List Value,Vals xs its/\IsTup s.heap a its.toArray/\xs.length<=sizeLine:=by
 rcases h with h | ⟨o,its,n,hk,hc,hs,hz,r⟩
 · obtain ⟨z,its,r,p⟩:=h.ok I.hok
   exact ⟨its,r,p,z⟩
 · refine ⟨its.toList,r,⟨o,I.kIn a o hk,hc,n,by simpa using hs⟩,?_⟩
   have e:=r.length
   simp only [Array.length_toList] at e
   omega
theorem Inv.gq (I:Inv X pins σ H s) (h:SqL X.K H a xs) (h':SqL X.K H a ys):xs=ys:=by
 obtain ⟨its,r,⟨o,n,e,_,_,d⟩,_⟩:=I.list h
 obtain ⟨its',r',⟨o',n',e',_,_,d'⟩,_⟩:=I.list h'
 rw [e] at e'; cases e'
 rw [d] at d'
 injection d' with d1 _
 have:its=its':=by simpa using congrArg Array.toList d1
 subst this
 exact r.inj r'
end
noncomputable abbrev Cx.j6 (X:Cx) (E:Value->Shared->Prop):Cx:={ X with xe:=E }
noncomputable abbrev Cx.nox (X:Cx):Cx:=X.j6 λ_ _=>False
theorem Cx.Ok.j6 {X:Cx} (ok:X.Ok) (E:Value->Shared->Prop):(X.j6 E).Ok:=
 ⟨ok.mod,ok.kind,ok.glob,ok.blt,ok.above,ok.inj,ok.has,ok.cab,ok.hd,ok.frames,ok.stk,ok.exf,ok.bs,ok.bsz,ok.noex,ok.exfs,ok.jl,ok.frf⟩
theorem Cx.Ok.e8 {X:Cx} {E:Value->Shared->Prop} (ok:(X.j6 E).Ok):X.Ok:=
 ⟨ok.mod,ok.kind,ok.glob,ok.blt,ok.above,ok.inj,ok.has,ok.cab,ok.hd,ok.frames,ok.stk,ok.exf,ok.bs,ok.bsz,ok.noex,ok.exfs,ok.jl,ok.frf⟩
section
variable {X:Cx} {pins:List (Addr × Obj)} {σ:St} {H:Hp} {s:Shared} {E:Value->Shared->Prop}
theorem Inv.j6 (I:Inv X pins σ H s) (E:Value->Shared->Prop):Inv (X.j6 E) pins σ H s:=⟨I.ok.j6 E,I.os,I.bare,I.base,I.loc,I.cell,I.free,I.freeC,I.pin,I.hok,I.len⟩
theorem Inv.e8 (I:Inv (X.j6 E) pins σ H s):Inv X pins σ H s:=⟨I.ok.e8,I.os,I.bare,I.base,I.loc,I.cell,I.free,I.freeC,I.pin,I.hok,I.len⟩
theorem SP.e8 {D:Ends} {f:Flow} {s':Shared} (h:SP (X.j6 E) pins D f s'):SP X pins D f s':=by
 cases f with
 | next=>obtain ⟨σ',H',I,q⟩:=h; exact ⟨σ',H',I.e8,q⟩
 | brk=>obtain ⟨σ',H',I,q⟩:=h; exact ⟨σ',H',I.e8,q⟩
 | cont=>obtain ⟨σ',H',I,q⟩:=h; exact ⟨σ',H',I.e8,q⟩
 | ret u=>obtain ⟨v,σ',H',I,r,q⟩:=h; exact ⟨v,σ',H',I.e8,r,q⟩
theorem PSs.nox {st:List Stmt} {t:TS} (h:PSs X.nox st t):PSs X st t:=λpins s σ H D I hw=>
 wpAny_mono (h pins s σ H D (I.j6 _) hw) (λ_ _ q=>q.e8) λ_ _ z=>False.elim z
end
section
variable {X:Cx} {st:Stmt} {rest:List Stmt} {t u:TS} {e:Expr} {te:TE} {pos:Pos}
noncomputable def AV:TS:=λD σ H=>D.nx σ H
noncomputable def BB (t u:TS):TS:=λD σ H=>t { D with nx:=u D } σ H
theorem vA:PSs X [] AV:=λ_ _ σ H _ I h=>wpAny_execs_nil ⟨σ,H,I,h⟩
theorem uu (h1:PS X st t) (h2:PSs X rest u):PSs X (st :: rest) (BB t u):=by
 intro pins s σ H D I h
 refine wpAny_execs_cons (thn (h1 pins s σ H { D with nx:=u D } I h) λf s1 q=>?_)
 cases f with
 | next=>
   obtain ⟨σ',H',I',q⟩:=q
   exact h2 pins s1 σ' H' D I' q
 | ret v=>exact q
 | brk=>exact q
 | cont=>exact q
theorem Inv.quiet {pins:List (Addr × Obj)} {σ:St} {H:Hp} {s:Shared} (I:Inv X pins σ H s):interactive X.env=false:=by simp [interactive,I.ok.kind]
noncomputable def AG (te:TE):TS:=λD σ H=>te σ H λ_ H1=>D.nx σ H1
theorem fF (he:PE X e te) (hs:swapsWith e none pos.line X.env=pure false:=by rfl):PS X (.Expr e pos) (AG te):=by
 intro pins s σ H D I h
 exact wpAny_Expr_any (thn (he pins s σ H _ I h) λv s1 ⟨x,H1,I1,r1,q1⟩=>⟨σ,H1,I1,q1⟩) I.quiet hs
noncomputable def BD (te:TE):TS:=λD σ H=>te σ H D.rt
theorem oj (he:PE X e te):PS X (.Return (some e) pos) (BD te):=by
 intro pins s σ H D I h
 exact wpAny_Return_some (thn (he pins s σ H _ I h) λv s1 ⟨x,H1,I1,r1,q1⟩=>⟨x,σ,H1,I1,r1,q1⟩)
noncomputable def BH (c:TT) (t u:TS):TS:=λD σ H=>c σ H λb H1=>if b=true then t D σ H1 else u D σ H1
theorem w9 {c:Expr} {a b:List Stmt} {tc:TT} (hc:PT X c tc) (ha:PSs X a t) (hb:PSs X b u):PS X (.If c a b pos) (BH tc t u):=by
 intro pins s σ H D I h
 refine wpAny_If (thn (hc pins s σ H _ I h) λd s1 ⟨H1,I1,q1⟩=>?_)
 cases d with
 | true=>exact ha pins s1 σ H1 D I1 q1
 | false=>exact hb pins s1 σ H1 D I1 q1
noncomputable def yA:TS:=λ_ _ _=>False
theorem kP {sts:List Stmt}:PSs X sts yA:=λ_ _ _ _ _ _ h=>h.elim
end
noncomputable abbrev TG:=V->St->Hp->(St->Hp->Prop)->Prop
noncomputable abbrev TGs:=List V->St->Hp->(St->Hp->Prop)->Prop
noncomputable def PG (X:Cx) (target:Expr) (t:TG):Prop:=
 ∀ (pins:List (Addr × Obj)) (s:Shared) (σ:St) (H:Hp) (v:V) (u:Value) (Q:St->Hp->Prop),Inv X pins σ H s->RelV v u->t v σ H Q ->
   wpAny (model X.prog X.w) X.A (assign target X.env u) (λ_ s'=>∃ σ' H',Inv X pins σ' H' s'/\Q σ' H') X.xe s
noncomputable def PGs (X:Cx) (ts:List Expr) (t:TGs):Prop:=
 ∀ (pins:List (Addr × Obj)) (s:Shared) (σ:St) (H:Hp) (vs:List V) (us:List Value) (Q:St->Hp->Prop),Inv X pins σ H s->Vals vs us->t vs σ H Q ->
   wpAny (model X.prog X.w) X.A (assignInOrder ((assignEach ts X.env).map (·.2)) us) (λ_ s'=>∃ σ' H',Inv X pins σ' H' s'/\Q σ' H') X.xe s
noncomputable abbrev zu:=V->V->V->Hp->(Hp->Prop)->Prop
noncomputable def Bb (X:Cx) (t:zu):Prop:=
 ∀ (pins:List (Addr × Obj)) (s:Shared) (σ:St) (H:Hp) (o i v:V) (ov iv u:Value) (Q:Hp->Prop),Inv X pins σ H s->RelV o ov->RelV i iv->RelV v u->t o i v H Q ->
   wpAny (model X.prog X.w) X.A (setItem ov iv u) (λ_ s'=>∃ H',Inv X pins σ H' s'/\Q H') X.xe s
section
variable {X:Cx} {pos:Pos}
noncomputable def xK (i:Nat):TG:=λv σ H Q=>Q (σ.set i (some v)) H
theorem ee {i:Nat} {x:Str} (hN:X.N.Nodup) (hi:X.N[i]?=some x) (hx:Loc X.env.scope x) (hf:X.fn x=true\/X.env.scope.names.lookup x=some .local:=by first | exact .inl rfl | exact .inr rfl | assumption):PG X (.Name x pos) (xK i):=by
 intro pins s σ H v u Q I r h
 exact wpAny_assign_Name (mD I hN hi hx r (λs' I'=>⟨_,H,I',h⟩) hf)
noncomputable def Bs:TGs:=λvs σ H Q=>vs=[]/\Q σ H
noncomputable def Ai (t:TG) (u:TGs):TGs:=λvs σ H Q=>∃ v r,vs=v :: r/\t v σ H λσ' H'=>u r σ' H' Q
theorem qI:PGs X [] Bs:=by
 intro pins s σ H vs us Q I r h
 obtain ⟨e,h⟩:=h
 subst e
 cases r
 exact assignInOrder_nil ⟨σ,H,I,h⟩
theorem jS {e:Expr} {es:List Expr} {t:TG} {u:TGs} (h1:PG X e t) (h2:PGs X es u)
   (hs:(assignEach (e :: es) X.env).map (·.2)=assign e X.env :: (assignEach es X.env).map (·.2):=by rfl):PGs X (e :: es) (Ai t u):=by
 intro pins s σ H vs us Q I r h
 obtain ⟨v,vr,e1,h⟩:=h
 subst e1
 cases r with
 | cons r rr=>
   rw [hs]
   refine assignInOrder_cons (thn (h1 pins s σ H _ _ _ I r h) λ_ s1 ⟨σ1,H1,I1,q1⟩=>?_)
   exact h2 pins s1 σ1 H1 _ _ Q I1 rr q1
noncomputable def Bm (K:PySem.W.Frag) (n:Nat) (t:TGs):TG:=λv σ H Q=>∃ a xs,v=.ref a/\SqT K H a xs/\xs.length=n/\t xs σ H Q
theorem uw {es:List Expr} {k:Nat} {t:TGs} {n:Nat} (hc:X.calm=true) (h:PGs X es t)
   (hn:(assignEach es X.env).length=n:=by rfl) (hst:(assignEach es X.env).findIdx? (·.1)=none:=by rfl):PG X (.Tuple es k pos) (Bm X.K n t):=by
 intro pins s σ H v u Q I r hw
 obtain ⟨a,xs,e1,hq,hl,hw⟩:=hw
 subst e1
 cases r
 obtain ⟨its,rv,ht,hz⟩:=I.tuple hq
 refine assign_Tuple_tuple (I.ok.hd hc) ht (by simp [hn,<- hl,rv.length]) hst λh' hx=>?_
 have I1:Inv X pins σ H { s with heap:=h' }:=I.kept (t':=s.toks) λb o e=>hx b o (Nat.ne_of_lt (Heap.lt_size e)) e
 exact h pins _ σ H xs _ Q I1 (by simpa using rv) hw
noncomputable def Bo (to ti:TE) (t:zu):TG:=λv σ H Q=>to σ H λo H1=>ti σ H1 λi H2=>t o i v H2 λH3=>Q σ H3
theorem sk {o i:Expr} {to ti:TE} {t:zu} (ho:PE X o to) (hi:PE X i ti) (hs:Bb X t)
   (ha:∀ v,assign (.Subscript o i pos) X.env v=(do
     let ov <- holding [v] (eval o X.env)
     let iv <- holding [v,ov] (eval i X.env)
     standAt pos
     holding [v,ov,iv] (setItem ov iv v)
     release [v,ov,iv] []):=by intro _; rfl):PG X (.Subscript o i pos) (Bo to ti t):=by
 intro pins s σ H v u Q I r h
 rw [ha]
 refine wpAny_bind (wpAny_holding (thn (ho pins s σ H _ I h) λov s1 ⟨x,H1,I1,r1,q1⟩=>?_))
 refine wpAny_bind (wpAny_holding (thn (hi pins s1 σ H1 _ I1 q1) λiv s2 ⟨y,H2,I2,r2,q2⟩=>?_))
 refine wpAny_bind (wpAny_standAt (wpAny_bind (wpAny_holding (thn (hs pins s2 σ H2 x y v ov iv u _ I2 r1 r2 r q2) λ_ s3 ⟨H3,I3,q3⟩=>?_))))
 exact wpAny_release ⟨σ,H3,I3,q3⟩
noncomputable def zB (te:TE) (g:TG):TS:=λD σ H=>te σ H λx H1=>g x σ H1 D.nx
theorem oK {tg e:Expr} {te:TE} {g:TG} (he:PE X e te) (hg:PG X tg g) (hs:swapsWithSole [tg] e pos.line X.env=pure false:=by rfl) (hw:swappedStores [tg] e X.env=pure none:=by rfl)
   (h1:(assignEach [tg] X.env).map (·.2)=[assign tg X.env]:=by rfl):PS X (.Assign [tg] e pos) (zB te g):=by
 intro pins s σ H D I h
 refine wpAny_Assign_stores (thn (he pins s σ H _ I h) λv s1 ⟨x,H1,I1,r1,q1⟩=>?_) hs hw
 rw [h1]
 exact thn (hg pins s1 σ H1 x v _ I1 r1 q1) λ_ s2 q=>q
theorem zz {i:Nat} {x:Str} {e:Expr} {te:TE} {pos':Pos} (hN:X.N.Nodup) (hi:X.N[i]?=some x) (hx:Loc X.env.scope x) (he:PE X e te) (hs:swapsWith e (some (.Name x pos')) pos.line X.env=pure false:=by rfl) (hf:X.fn x=true\/X.env.scope.names.lookup x=some .local:=by first | exact .inl rfl | exact .inr rfl | assumption) :
   PS X (.Assign [.Name x pos'] e pos) (zB te (xK i)):=by
 intro pins s σ H D I h
 refine wpAny_Assign_Name (thn (he pins s σ H _ I h) λv s1 ⟨y,H1,I1,r1,q1⟩=>?_) hs
 exact mD I1 hN hi hx r1 (λs2 I2=>⟨_,H1,I2,q1⟩) hf
end
section
variable {X:Cx} {pos:Pos}
noncomputable def zd (c:TT) (tb:TS):TS:=λD σ H=>∃ W:Nat->St->Hp->Prop,(∃ m,W m σ H)/\∀ m σ H,W m σ H ->
 c σ H λb H1=>if b=true then ∃ N:St->Hp->Prop,(∀ σ' H',N σ' H'->∃ m',m' < m/\W m' σ' H')/\tb { D with nx:=N,ct:=N,bk:=D.nx } σ H1 else D.nx σ H1
theorem uG {c:Expr} {body:List Stmt} {tc:TT} {tb:TS} (hp:PassesOwn (model X.prog X.w) X.A X.env X.xe) (hc:PT X c tc) (hb:PSs X body tb):PS X (.While c body [] pos) (zd tc tb):=by
 intro pins s σ H D I h
 obtain ⟨W,⟨m0,w0⟩,turn⟩:=h
 refine wpAny_While (codeAny_whileLoop (λn s'=>∃ σ' H',Inv X pins σ' H' s'/\W n σ' H') ?_ m0 ⟨σ,H,I,w0⟩)
 rintro n s1 ⟨σ1,H1,I1,w1⟩
 refine wpAny_passesOwn hp (thn (hc pins s1 σ1 H1 _ I1 (turn n σ1 H1 w1)) λb s2 ⟨H2,I2,q2⟩=>?_)
 cases b with
 | true=>
   obtain ⟨N,hN,q2⟩:=q2
   rw [if_pos rfl]
   refine wpAny_passesOwn hp (thn (hb pins s2 σ1 H2 _ I2 q2) λf s3 q3=>?_)
   cases f with
   | next=>
     obtain ⟨σ3,H3,I3,n3⟩:=q3
     obtain ⟨m',hm,w3⟩:=hN σ3 H3 n3
     exact ⟨m',hm,σ3,H3,I3,w3⟩
   | cont=>
     obtain ⟨σ3,H3,I3,n3⟩:=q3
     obtain ⟨m',hm,w3⟩:=hN σ3 H3 n3
     exact ⟨m',hm,σ3,H3,I3,w3⟩
   | brk=>exact q3
   | ret v=>exact q3
 | false=>
   rw [if_neg Bool.false_ne_true]
   exact wpAny_execs_nil ⟨σ1,H2,I2,q2⟩
end
structure It where
 go:Nat->Hp->Prop
 yld:Nat->Hp->V->Hp->Prop
 stop:Nat->Hp->Prop
noncomputable def j4 (X:Cx) (pins:List (Addr × Obj)) (H:Hp) (b:Addr):Prop:=
 H b=none/\b ≠ X.env.locals/\b ∉ X.fs/\(b ∈ X.ex\/X.s₀.heap.objs.size<=b)/\(∀ x c,X.env.cells.lookup x=some c->c ≠ b)/\∀ p ∈ X.pn++pins,p.1 ≠ b
theorem Inv.ke {X:Cx} {pins:List (Addr × Obj)} {σ:St} {H H':Hp} {s:Shared} {b:Addr} (I:Inv X pins σ H s) (hb:s.heap.objs.size<=b) (hn:H' b=none):j4 X pins H' b:=by
 refine ⟨hn,Nat.ne_of_gt (Nat.lt_of_lt_of_le I.lt hb),I.BI hb,.inr (Nat.le_trans I.sz hb),λx c e z=>?_,λp hp z=>?_⟩
 · obtain ⟨v,q⟩:=I.cell x c e
   exact absurd (Nat.lt_of_lt_of_le q.lt (by rw [z]; exact hb)) (Nat.lt_irrefl _)
 · exact absurd (Nat.lt_of_lt_of_le (Heap.lt_size (I.pin p hp).1) (by rw [z]; exact hb)) (Nat.lt_irrefl _)
noncomputable def Br (X:Cx):Prop:=∃ h o u vs,X.A.handled=some (.ref h)/\X.H₀ h=some (.frz o u)/\o.data=.fields vs/\vs[2]?=some .none
noncomputable def Ck (kd:Bool) (X:Cx):Prop:=X.calm=true\/(kd=true/\Br X)
theorem Ck.calm {X:Cx} (h:Ck false X):X.calm=true:=h.resolve_right λz=>nomatch z.1
structure Turn (P:Program) (w:World) (K:PySem.W.Frag) (kd:Bool) (tg:Expr) (J:It) (fp:List Addr) (it:Addr) (tn:Nat->Heap->Prop):Prop where
 mem:it ∈ fp
 obj:∀ i h,tn i h->∀ b ∈ fp,∃ o,h.get? b=some o/\∀ v,o.data ≠ .cell v
 keep:∀ i h h',tn i h->(∀ b ∈ fp,∀ o,h.get? b=some o->h'.get? b=some o)->tn i h'
 item:∀ (X:Cx),X.prog=P->X.w=w->X.K=K->Ck kd X->∀ (i:Nat) (pins:List (Addr × Obj)) (s:Shared) (σ:St) (H:Hp) (E:Value->Shared->Prop),Inv X pins σ H s->(∀ b ∈ fp,j4 X pins H b)->tn i s.heap->J.go i H ->
   wpAny (model P w) X.A (pyNext (.ref it)) (λr s1=>∃ u,r=some u /\
     wpAny (model P w) X.A (letOwnedTupleGo tg (.ref it) u) (λ_ s2=>∃ x H',Inv X pins σ H' s2/\RelV x u/\J.yld i H x H'/\tn (i + 1) s2.heap/\∀ b ∈ fp,H' b=none) E s1) E s
 done:∀ (X:Cx),X.prog=P->X.w=w->X.K=K->Ck kd X->∀ (i:Nat) (pins:List (Addr × Obj)) (s:Shared) (σ:St) (H:Hp) (E:Value->Shared->Prop),Inv X pins σ H s->(∀ b ∈ fp,j4 X pins H b)->tn i s.heap->J.stop i H ->
   wpAny (model P w) X.A (pyNext (.ref it)) (λr s1=>r=none/\Inv X pins σ H s1) E s
 self:∀ (A:Around) (i:Nat) (s:Shared) (Q:Value->Shared->Prop) (E:Value->Shared->Prop),tn i s.heap->Q (.ref it) s->wpAny (model P w) A (pyIter (.ref it)) Q E s
noncomputable abbrev TI:=St->Hp->(It->Hp->Prop)->Prop
noncomputable def PIE (X:Cx) (pins:List (Addr × Obj)) (σ:St) (tg:Expr) (R:It->Hp->Prop) (itv:Value) (s2:Shared):Prop:=
 ∃ (kd:Bool) (it:Addr) (fp:List Addr) (tn:Nat->Heap->Prop) (J:It) (H':Hp),itv=.ref it/\Inv X pins σ H' s2/\Ck kd X/\Turn X.prog X.w X.K kd tg J fp it tn/\tn 0 s2.heap/\(∀ b ∈ fp,j4 X pins H' b)/\R J H'
noncomputable def PI (X:Cx) (tg iter:Expr) (wi:TI):Prop:=
 ∀ (pins:List (Addr × Obj)) (s:Shared) (σ:St) (H:Hp) (R:It->Hp->Prop),Inv X pins σ H s->wi σ H R ->
   wpAny (model X.prog X.w) X.A (eval iter X.env) (λv s1=>wpAny (model X.prog X.w) X.A (pyIter v) (PIE X pins σ tg R) X.xe s1) X.xe s
theorem k5 {M:Model} {A:Around} {E:Value->Shared->Prop} {s:Shared} {tg:Expr} {it:Addr} {u:Value} {o:Obj} {n:String} {vs:Array Value} {Q:Unit->Shared->Prop} (ho:s.heap.get? it=some o) (hc:o.cls=.type n) (hd:o.data=.fields vs)
   (hn:["enumerate","zip","dict_itemiterator","dict_reverseitemiterator","odict_iterator","itertools.zip_longest","itertools.pairwise"].contains n=false) (hQ:Q () s):wpAny M A (letOwnedTupleGo tg (.ref it) u) Q E s:=by
 unfold letOwnedTupleGo
 cases tg <;> first
   | exact wpAny_pure hQ
   | (cases u <;> first
       | exact wpAny_pure hQ
       | (refine wpAny_bind (wpAny_load ho ?_)
          rw [hc,hd]
          show wpAny M A (if (["enumerate","zip","dict_itemiterator","dict_reverseitemiterator","odict_iterator","itertools.zip_longest","itertools.pairwise"].contains n && vs[0]? == some (rawInt _))=true then _ else _) Q E s
          rw [if_neg (by intro h; rw [hn,Bool.false_and] at h; cases h)]
          exact wpAny_pure hQ))
noncomputable def Itl (K:PySem.W.Frag) (a:Addr):It:=
 ⟨λi H=>∃ xs x,SqL K H a xs/\xs[i]?=some x,λi H x H'=>H'=H/\∀ xs,SqL K H a xs->xs[i]?=some x,λi H=>∃ xs,SqL K H a xs/\xs.length<=i⟩
noncomputable def Itr (lo:Int) (n:Nat):It:=⟨λi _=>i < n,λi H x H'=>H'=H/\x=.int (lo + i),λi _=>n<=i⟩
theorem rQ {P:Program} {w:World} {K:PySem.W.Frag} {tg:Expr} (a it:Addr):Turn P w K false tg (Itl K a) [it] it (λi h=>h.IsListIter it a i) where
 mem:=by simp
 obj:=λi h st b hb=>by
   have e:b=it:=by simpa using hb
   subst e
   obtain ⟨o,e,c,d⟩:=st
   exact ⟨o,e,λv z=>by rw [d] at z; cases z⟩
 keep:=λi h h' st k=>st.at λo e=>k it (by simp) o e
 item:=by
   intro X hP hw hK hc i pins s σ H E I hf st hg
   subst hP hw hK
   obtain ⟨xs,x,hq,hx⟩:=hg
   obtain ⟨its,rv,p,hz⟩:=I.list hq
   obtain ⟨u,hu,ru⟩:=rv.get hx
   obtain ⟨f0,f1,f2,f3,f4,f5⟩:=hf it (by simp)
   refine wpAny_pyNext_list_item st p.isList (x:=u) (by simpa using hu) λh' st' sb=>?_
   have I1:Inv X pins σ H { s with heap:=h' }:=I.turned (t':=s.toks) (λb o hb e=>(sb.2 b hb).trans e) f0 f1 f3 f4 f5
   obtain ⟨o,e,c,d⟩:=id st'
   exact ⟨u,rfl,k5 (s:={ s with heap:=h' }) e c d (by decide) ⟨x,H,I1,ru,⟨rfl,λys hy=>by rw [I.gq hy hq]; exact hx⟩,st',λb hb=>(hf b hb).1⟩⟩
 done:=by
   intro X hP hw hK hc i pins s σ H E I hf st hg
   subst hP hw hK
   obtain ⟨xs,hq,hx⟩:=hg
   obtain ⟨its,rv,p,hz⟩:=I.list hq
   obtain ⟨f0,f1,f2,f3,f4,f5⟩:=hf it (by simp)
   have hl:=rv.length
   exact wpAny_pyNext_list_end (I.ok.hd hc.calm) st p.isList (by simp; omega) λh' eb=>⟨rfl,I.turned (t':=s.toks) (λb o hb e=>eb b o hb e) f0 f1 f3 f4 f5⟩
 self:=λ_ _ _ _ _ st h=>wpAny_pyIter_listiter st h
theorem pk {P:Program} {w:World} {K:PySem.W.Frag} {tg:Expr} (it:Addr) (lo:Int) (n:Nat):Turn P w K true tg (Itr lo n) [it] it (λi h=>IsRangeIter h it (lo + (i:Nat) * 1) ((n:Int) - (i:Nat)) 1) where
 mem:=by simp
 obj:=λi h st b hb=>by
   have e:b=it:=by simpa using hb
   subst e
   exact ⟨_,st,λv z=>by
     have z':Data.fields _=Data.cell v:=z
     cases z'⟩
 keep:=λi h h' st k=>k it (by simp) _ st
 item:=by
   intro X hP hw hK hc i pins s σ H E I hf st hg
   subst hP hw hK
   obtain ⟨f0,f1,f2,f3,f4,f5⟩:=hf it (by simp)
   refine wpAny_pyNext_range_item st (by have:i < n:=hg; omega) λh' st0 sb=>?_
   have st':IsRangeIter h' it (lo + ((i + 1:Nat):Int) * 1) ((n:Int) - ((i + 1:Nat):Int)) 1:=by
     have e1:lo + ((i + 1:Nat):Int) * 1=lo + (i:Nat) * 1 + 1:=by omega
     have e2:(n:Int) - ((i + 1:Nat):Int)=(n:Int) - (i:Nat) - 1:=by omega
     rw [e1,e2]; exact st0
   have I1:Inv X pins σ H { s with heap:=h',toks:=s.toks + 1 }:=I.turned (λb o hb e=>(sb.2 b hb).trans e) f0 f1 f3 f4 f5
   refine ⟨_,rfl,k5 (s:={ s with heap:=h',toks:=s.toks + 1 }) (n:="range_iterator") st' rfl rfl (by decide) ⟨.int (lo + i),H,I1,⟨s.toks,?_⟩,⟨rfl,rfl⟩,st',λb hb=>(hf b hb).1⟩⟩
   rw [Int.mul_one]
 done:=by
   intro X hP hw hK hc i pins s σ H E I hf st hg
   subst hP hw hK
   obtain ⟨f0,f1,f2,f3,f4,f5⟩:=hf it (by simp)
   rcases hc with hc | ⟨_,q,o,u,vs,e1,e2,e3,e4⟩
   · exact wpAny_pyNext_range_end (I.ok.hd hc) st (by have:n<=i:=hg; omega) λh' eb=>⟨rfl,I.turned (t':=s.toks) (λb o hb e=>eb b o hb e) f0 f1 f3 f4 f5⟩
   · have e5:=I.hok q _ (I.base.frzs q o u e2)
     exact Hx.pe e1 e5.1 e3 e4 st (by have:n<=i:=hg; omega) λh' eb=>⟨rfl,I.turned (t':=s.toks) (λb o hb e=>eb b o hb e) f0 f1 f3 f4 f5⟩
 self:=λ_ _ _ _ _ st h=>wpAny_pyIter_rangeiter st h
section
variable {X:Cx} {tg:Expr}
noncomputable def zV (K:PySem.W.Frag) (tl:TE):TI:=λσ H R=>tl σ H λx H1=>∃ a,x=.ref a/\(∃ xs,SqL K H1 a xs)/\R (Itl K a) H1
theorem vC {l:Expr} {tl:TE} (hc:X.calm=true) (hl:PE X l tl):PI X tg l (zV X.K tl):=by
 intro pins s σ H R I h
 refine thn (hl pins s σ H _ I h) λv s1 ⟨x,H1,I1,r1,q1⟩=>?_
 obtain ⟨a,e,⟨xs,hq⟩,q⟩:=q1
 subst e
 cases r1
 obtain ⟨its,rv,p,hz⟩:=I1.list hq
 refine wpAny_pyIter_list p.isList ?_
 refine ⟨false,s1.heap.objs.size,[s1.heap.objs.size],_,_,H1,rfl,I1.kept (t':=s1.toks) λb o e=>Heap.get?_push_of_some _ e,.inl hc,rQ a _,⟨_,Heap.get?_push_size _ rfl,rfl,rfl⟩,λb hb=>?_,q⟩
 have e:b=s1.heap.objs.size:=by simpa using hb
 subst e
 exact I1.ke (Nat.le_refl _) (I1.hok.fresh (Nat.le_refl _))
theorem mN {pins:List (Addr × Obj)} {σ:St} {H:Hp} {s:Shared} {R:It->Hp->Prop} {E:Value->Shared->Prop} {lo hi:Int} {t u v:Tok} {tk:Nat} (hc:Ck true X) (I:Inv X pins σ H s) (h1:-(2 ^ 62)<=lo) (h2:lo < 2 ^ 62) (h3:-(2 ^ 62)<=hi) (h4:hi < 2 ^ 62)
   (q:R (Itr lo (hi - lo).toNat) H):wpAny (model X.prog X.w) X.A (pyIter (.ref s.heap.objs.size)) (PIE X pins σ tg R) E { s with heap:=s.heap.push { cls:=.type "range",data:=.fields #[.int lo t,.int hi u,.int 1 v] },toks:=tk }:=by
 refine wpAny_pyIter_range (IsRange.new ..) (small_one h1 h2 h3 h4) ?_
 have I1:Inv X pins σ H { s with heap:=s.heap.push { cls:=.type "range",data:=.fields #[.int lo t,.int hi u,.int 1 v] },toks:=tk }:=I.kept λb o e=>Heap.get?_push_of_some _ e
 refine ⟨true,(s.heap.push { cls:=.type "range",data:=.fields #[.int lo t,.int hi u,.int 1 v] }).objs.size,[(s.heap.push { cls:=.type "range",data:=.fields #[.int lo t,.int hi u,.int 1 v] }).objs.size],_,_,H,rfl,
   I1.kept (t':=tk) λb o e=>Heap.get?_push_of_some _ e,hc,pk _ lo (hi - lo).toNat,?_,λb hb=>?_,q⟩
 · have e1:lo + ((0:Nat):Int) * 1=lo:=by simp
   have e2:(((hi - lo).toNat:Nat):Int) - ((0:Nat):Int)=Builtin.Range.rangeSize lo hi 1:=by rw [rangeSize_one]; split <;> omega
   show IsRangeIter _ _ (lo + ((0:Nat):Int) * 1) ((((hi - lo).toNat:Nat):Int) - ((0:Nat):Int)) 1
   rw [e1,e2]
   exact Heap.get?_push_size _ rfl
 · have e:b=(s.heap.push { cls:=.type "range",data:=.fields #[.int lo t,.int hi u,.int 1 v] }).objs.size:=by simpa using hb
   subst e
   exact I1.ke (Nat.le_refl _) (I1.hok.fresh (Nat.le_refl _))
noncomputable def zT (ta:TA):TI:=λσ H R=>ta σ H λvs H1=>∃ j:Int,vs=[.int j]/\-(2 ^ 62)<=j/\j < 2 ^ 62/\R (Itr 0 j.toNat) H1
noncomputable def Ae (ta:TA):TI:=λσ H R=>ta σ H λvs H1=>∃ i j:Int,vs=[.int i,.int j]/\(-(2 ^ 62)<=i/\i < 2 ^ 62/\-(2 ^ 62)<=j/\j < 2 ^ 62)/\R (Itr i (j - i).toNat) H1
theorem rE {a:Expr} {ta:TA} {p pos:Pos} (hc:Ck true X) (hg:Gl X "range") (hm:X.mg "range" = none) (ha:PA X [a] ta) (hs:starEach [a] X.env=[(false,eval a X.env)]:=by rfl):PI X tg (.Call (.Name "range" p) [a] [] pos) (zT ta):=by
 intro pins s σ H R I h
 refine Call_ (eo I hg hm boot_range (PyProof.Rows.callWith_type1 (thn (ha pos pins s σ H _ I h) λus s1 ⟨vs,H1,I1,r1,q1⟩=>?_) hs rfl))
 obtain ⟨j,e,q1,q2,q⟩:=q1
 subst e
 cases r1 with
 | cons r rr=>
   cases rr
   obtain ⟨t,rfl⟩:=r
   exact call_range_1 (mN hc I1 (by omega) (by omega) q1 q2 (by simpa using q))
theorem rW {a b:Expr} {ta:TA} {p pos:Pos} (hc:Ck true X) (hg:Gl X "range") (hm:X.mg "range" = none) (ha:PA X [a,b] ta) (hs:starEach [a,b] X.env=[(false,eval a X.env),(false,eval b X.env)]:=by rfl) (hs2:starEach [b] X.env=[(false,eval b X.env)]:=by rfl) :
   PI X tg (.Call (.Name "range" p) [a,b] [] pos) (Ae ta):=by
 intro pins s σ H R I h
 refine Call_ (eo I hg hm boot_range (PyProof.Rows.callWith_type1 (thn (ha pos pins s σ H _ I h) λus s1 ⟨vs,H1,I1,r1,q1⟩=>?_) (by rw [hs,hs2]) (by rw [hs2]; rfl)))
 obtain ⟨i,j,e,⟨q1,q2,q3,q4⟩,q⟩:=q1
 subst e
 cases r1 with
 | cons r rr=>
   cases rr with
   | cons r' rr=>
     cases rr
     obtain ⟨t,rfl⟩:=r
     obtain ⟨t',rfl⟩:=r'
     exact call_range_2 (mN hc I1 q1 q2 q3 q4 q)
noncomputable def BL (wi:TI) (g:TG) (tb:TS):TS:=λD σ H=>wi σ H λJ H1=>∃ W:Nat->Nat->St->Hp->Prop,(∃ m,W 0 m σ H1)/\∀ i m σ H,W i m σ H ->
 (J.stop i H/\D.nx σ H)\/(J.go i H/\∃ N:St->Hp->Prop,(∀ σ' H',N σ' H'->∃ m',m' < m/\W (i + 1) m' σ' H')/\∀ x H',J.yld i H x H'->g x σ H' λσ2 H2=>tb { D with nx:=N,ct:=N,bk:=D.nx } σ2 H2)
noncomputable def fY (fp:List Addr) (h:Heap):List (Addr × Obj):=fp.filterMap λb=>(h.get? b).map λo=>(b,o)
theorem bP {fp:List Addr} {h:Heap} {b:Addr} {o:Obj} (hb:b ∈ fp) (e:h.get? b=some o):(b,o) ∈ fY fp h:=List.mem_filterMap.mpr ⟨b,hb,by rw [e]; rfl⟩
theorem r6 {fp:List Addr} {h:Heap} {p:Addr × Obj} (hp:p ∈ fY fp h):p.1 ∈ fp/\h.get? p.1=some p.2:=by
 obtain ⟨b,hb,e⟩:=List.mem_filterMap.mp hp
 cases q:h.get? b with
 | none=>rw [q] at e; cases e
 | some o=>
   rw [q] at e
   have e':(b,o)=p:=Option.some.inj e
   subst e'
   exact ⟨hb,q⟩
theorem Inv.pinned {pins:List (Addr × Obj)} {σ:St} {H:Hp} {s:Shared} {fp:List Addr} (I:Inv X pins σ H s) (hf:∀ b ∈ fp,j4 X pins H b) (ho:∀ b ∈ fp,∃ o,s.heap.get? b=some o/\∀ v,o.data ≠ .cell v):Inv X (pins++fY fp s.heap) σ H s:=
 I.qR λp hp=>(List.mem_append.mp hp).elim (λz=>I.pin p (List.mem_append_right _ z)) λz=>by
   obtain ⟨hb,e⟩:=r6 z
   obtain ⟨f0,f1,f2,_⟩:=hf p.1 hb
   obtain ⟨o,e',d⟩:=ho p.1 hb
   rw [e] at e'; cases e'
   exact ⟨e,f0,f1,f2,d⟩
theorem Inv.dN {pins pl:List (Addr × Obj)} {σ:St} {H:Hp} {s:Shared} (I:Inv X (pins++pl) σ H s):Inv X pins σ H s:=I.qR λp hp=>I.pin p (List.mem_append_right _ (List.mem_append_left _ hp))
theorem zp {iter:Expr} {body:List Stmt} {wi:TI} {g:TG} {tb:TS} {pos:Pos} (hp:PassesOwn (model X.prog X.w) X.A X.env X.xe) (hi:PI X tg iter wi) (hg:PG X tg g) (hb:PSs X body tb)
   (hs:∀ x,foldedSetIterable iter X.env x=pure x:=by intro _; rfl):PS X (.For tg iter body [] pos) (BL wi g tb):=by
 intro pins s σ H D I h
 refine wpAny_For (thn (hi pins s σ H _ I h) λv s1 h1=>thn h1 λitv s2 h2=>?_) hs
 obtain ⟨kd,it,fp,tn,J,H2,e,I2,hc,T,st2,f2,W,⟨m0,w0⟩,turn⟩:=h2
 subst e
 have stat:∀ {H':Hp},(∀ b ∈ fp,H' b=none)->∀ b ∈ fp,j4 X pins H' b:=λhn b hb=>⟨hn b hb,(f2 b hb).2⟩
 refine codeAny_forLoop_any (λn s'=>∃ i σ' H',Inv X pins σ' H' s'/\tn i s'.heap/\(∀ b ∈ fp,H' b=none)/\W i n σ' H') ?_ m0 ⟨0,σ,H2,I2,st2,λb hb=>(f2 b hb).1,w0⟩
 rintro n s3 ⟨i,σ3,H3,I3,st3,fr3,w3⟩
 rcases turn i n σ3 H3 w3 with ⟨stop,qn⟩ | ⟨go,N,hN,step⟩
 · refine wpAny_passesOwn hp (thn (T.done X rfl rfl rfl hc i pins s3 σ3 H3 X.xe I3 (stat fr3) st3 stop) λr s4 ⟨hr,I4⟩=>?_)
   subst hr
   exact wpAny_execs_nil ⟨σ3,H3,I4,qn⟩
 · refine wpAny_passesOwn hp (thn (T.item X rfl rfl rfl hc i pins s3 σ3 H3 X.xe I3 (stat fr3) st3 go) λr s4 ⟨u,hr,h4⟩=>?_)
   subst hr
   refine wpAny_passesOwn hp (thn h4 λ_ s5 ⟨x,H5,I5,r5,y5,st5,fr5⟩=>?_)
   have I5':=I5.pinned (stat fr5) (T.obj _ _ st5)
   refine wpAny_passesOwn hp (thn (hg _ s5 σ3 H5 x u _ I5' r5 (step x H5 y5)) λ_ s6 ⟨σ6,H6,I6,q6⟩=>?_)
   refine wpAny_passesOwn hp (thn (hb _ s6 σ6 H6 _ I6 q6) λf s7 q7=>?_)
   have again:∀ {σ7:St} {H7:Hp},Inv X (pins++fY fp s5.heap) σ7 H7 s7->N σ7 H7->∃ m,m < n/\∃ i σ' H',Inv X pins σ' H' s7/\tn i s7.heap/\(∀ b ∈ fp,H' b=none)/\W i m σ' H':=λ{σ7 H7} I7 n7=>by
     obtain ⟨m',hm,w7⟩:=hN σ7 H7 n7
     refine ⟨m',hm,i + 1,σ7,H7,I7.dN,T.keep _ _ _ st5 λb hb o e=>(I7.pin (b,o) (List.mem_append_right _ (List.mem_append_right _ (bP hb e)))).1,λb hb=>?_,w7⟩
     obtain ⟨o,e,d⟩:=T.obj _ _ st5 b hb
     exact (I7.pin (b,o) (List.mem_append_right _ (List.mem_append_right _ (bP hb e)))).2.1
   cases f with
   | next=>obtain ⟨σ7,H7,I7,n7⟩:=q7; exact again I7 n7
   | cont=>obtain ⟨σ7,H7,I7,n7⟩:=q7; exact again I7 n7
   | brk=>obtain ⟨σ7,H7,I7,q7⟩:=q7; exact ⟨σ7,H7,I7.dN,q7⟩
   | ret v=>obtain ⟨x7,σ7,H7,I7,r7,q7⟩:=q7; exact ⟨x7,σ7,H7,I7.dN,r7,q7⟩
end
noncomputable abbrev R2:=V->V->Hp->VK->Prop
noncomputable def OpR (X:Cx) (f:Value->Value->Sem Value) (r:R2):Prop:=
 ∀ (pins:List (Addr × Obj)) (s:Shared) (σ:St) (H:Hp) (x y:V) (v u:Value) (Q:VK),Inv X pins σ H s->RelV x v->RelV y u->r x y H Q ->
   wpAny (model X.prog X.w) X.A (f v u) (EP X pins σ Q) X.xe s
noncomputable def UnR (X:Cx) (f:Value->Sem Value) (r:V->Hp->VK->Prop):Prop:=
 ∀ (pins:List (Addr × Obj)) (s:Shared) (σ:St) (H:Hp) (x:V) (v:Value) (Q:VK),Inv X pins σ H s->RelV x v->r x H Q ->
   wpAny (model X.prog X.w) X.A (f v) (EP X pins σ Q) X.xe s
noncomputable def fu (X:Cx) (f:Value) (r:List V->Hp->VK->Prop):Prop:=
 ∀ (pins:List (Addr × Obj)) (s:Shared) (σ:St) (H:Hp) (xs:List V) (us:List Value) (Q:VK),Inv X pins σ H s->Vals xs us->r xs H Q ->
   wpAny (model X.prog X.w) X.A (call f us) (EP X pins σ Q) X.xe s
noncomputable def tOp (r:R2) (ta tb:TE):TE:=λσ H Q=>ta σ H λx H1=>tb σ H1 λy H2=>r x y H2 Q
noncomputable def tUn (r:V->Hp->VK->Prop) (ta:TE):TE:=λσ H Q=>ta σ H λx H1=>r x H1 Q
noncomputable def rI (C:Int->Int->Prop) (g:Int->Int->V):R2:=λx y H Q=>∃ i j,x=.int i/\y=.int j/\C i j/\Q (g i j) H
noncomputable def rI0 (g:Int->Int->V):R2:=λx y H Q=>∃ i j,x=.int i/\y=.int j/\Q (g i j) H
noncomputable def rU (g:Int->V):V->Hp->VK->Prop:=λx H Q=>∃ i,x=.int i/\Q (g i) H
section
variable {X:Cx} {a b c:Expr} {ta tb tc:TE} {pos:Pos}
theorem yr (ha:PE X a ta) (hb:PE X b tb) {pins:List (Addr × Obj)} {s:Shared} {σ:St} {H:Hp} {R:V->V->Hp->Prop} (I:Inv X pins σ H s)
   (h:ta σ H λx H1=>tb σ H1 λy H2=>R x y H2) {Q:Value->Shared->Prop} {f:Value->Value->Sem Value}
   (hf:∀ v u s2 x y H2,Inv X pins σ H2 s2->RelV x v->RelV y u->R x y H2->wpAny (model X.prog X.w) X.A (f v u) Q X.xe s2) :
   wpAny (model X.prog X.w) X.A (eval a X.env) (λv s₁=>wpAny (model X.prog X.w) X.A (eval b X.env) (λu s₂=>wpAny (model X.prog X.w) X.A (f v u) Q X.xe s₂) X.xe s₁) X.xe s:=by
 refine thn (ha pins s σ H _ I h) λv s1 ⟨x,H1,I1,r1,q1⟩=>?_
 refine thn (hb pins s1 σ H1 _ I1 q1) λu s2 ⟨y,H2,I2,r2,q2⟩=>?_
 exact hf v u s2 x y H2 I2 r1 r2 q2
theorem xf {op:Operator} {r:R2} (ho:OpR X (binaryOp op) r) (ha:PE X a ta) (hb:PE X b tb):PE X (.BinOp a op b pos) (tOp r ta tb):=by
 intro pins s σ H Q I h
 exact wpAny_BinOp (yr ha hb I h λv u s2 x y H2 I2 rx ry q=>ho pins s2 σ H2 x y v u Q I2 rx ry q)
theorem AK {op:UnaryOp} {r:V->Hp->VK->Prop} (ho:UnR X (unaryOp op) r) (ha:PE X a ta):PE X (.UnaryOp op a pos) (tUn r ta):=by
 intro pins s σ H Q I h
 exact UnaryOp_ (thn (ha pins s σ H _ I h) λv s1 ⟨x,H1,I1,r1,q1⟩=>ho pins s1 σ H1 x v Q I1 r1 q1)
theorem opI {f:Value->Value->Sem Value} {C:Int->Int->Prop} {g:Int->Int->Int}
   (rule:∀ (i j:Int) (t u:Tok) (s:Shared) (Q:Value->Shared->Prop) (E:Value->Shared->Prop),C i j->Q (.int (g i j) s.toks) { s with toks:=s.toks + 1 }->wpAny (model X.prog X.w) X.A (f (.int i t) (.int j u)) Q E s) :
   OpR X f (rI C λi j=>.int (g i j)):=by
 intro pins s σ H x y v u Q I rx ry h
 obtain ⟨i,j,rfl,rfl,hc,q⟩:=h
 obtain ⟨t,rfl⟩:=rx
 obtain ⟨t',rfl⟩:=ry
 exact rule i j t t' s _ _ hc ⟨.int (g i j),H,I.tok _,⟨_,rfl⟩,q⟩
theorem wM {f:Value->Value->Sem Value} {g:Int->Int->Int}
   (rule:∀ (i j:Int) (t u:Tok) (s:Shared) (Q:Value->Shared->Prop) (E:Value->Shared->Prop),Q (.int (g i j) s.toks) { s with toks:=s.toks + 1 }->wpAny (model X.prog X.w) X.A (f (.int i t) (.int j u)) Q E s) :
   OpR X f (rI0 λi j=>.int (g i j)):=by
 intro pins s σ H x y v u Q I rx ry h
 obtain ⟨i,j,rfl,rfl,q⟩:=h
 obtain ⟨t,rfl⟩:=rx
 obtain ⟨t',rfl⟩:=ry
 exact rule i j t t' s _ _ ⟨.int (g i j),H,I.tok _,⟨_,rfl⟩,q⟩
theorem vG {f:Value->Value->Sem Value} {g:Int->Int->Bool}
   (rule:∀ (i j:Int) (t u:Tok) (s:Shared) (Q:Value->Shared->Prop) (E:Value->Shared->Prop),Q (.bool (g i j)) s->wpAny (model X.prog X.w) X.A (f (.int i t) (.int j u)) Q E s) :
   OpR X f (rI0 λi j=>.bl (g i j)):=by
 intro pins s σ H x y v u Q I rx ry h
 obtain ⟨i,j,rfl,rfl,q⟩:=h
 obtain ⟨t,rfl⟩:=rx
 obtain ⟨t',rfl⟩:=ry
 exact rule i j t t' s _ _ ⟨.bl (g i j),H,I,rfl,q⟩
noncomputable def vV (i j:Int):Prop:=0<=j/\j<=1000000/\i.natAbs < 2 ^ 64
theorem oZ (k:Nat):(0:Int)<=2 ^ k:=by
 rw [two_pow_cast]
 exact Int.natCast_nonneg _
theorem yv:OpR X (binaryOp .Add) (rI0 λi j=>.int (i + j)):=wM λ_ _ _ _ _ _ _ q=>add_int q
theorem zC:OpR X (binaryOp .Sub) (rI0 λi j=>.int (i - j)):=wM λ_ _ _ _ _ _ _ q=>sub_int q
theorem vW:OpR X (binaryOp .Mod) (rI (λ_ j=>j ≠ 0) λi j=>.int (i.fmod j)):=opI λ_ _ _ _ _ _ _ hc q=>mod_int' hc q
theorem yd:OpR X (binaryOp .Pow) (rI vV λi j=>.int (i ^ j.toNat)):=opI λ_ _ _ _ _ _ _ hc q=>pow_int_small hc.1 hc.2.1 hc.2.2 q
theorem yi:OpR X (binaryOp .LShift) (rI vV λi j=>.int (i * 2 ^ j.toNat)):=opI λ_ _ _ _ _ _ _ hc q=>lshift_int_small hc.1 hc.2.1 hc.2.2 q
theorem zG:OpR X (binaryOp .RShift) (rI (λ_ j=>0<=j) λi j=>.int (i / 2 ^ j.toNat)):=opI λi j _ _ _ _ _ hc q=>
 rshift_int hc (by rw [Int.fdiv_eq_ediv_of_nonneg i (oZ _)]; exact q)
theorem yK:OpR X (binaryOp .BitAnd) (rI0 λi j=>.int (Builtin.bitAnd i j)):=wM λ_ _ _ _ _ _ _ q=>and_int q
theorem Af:OpR X (binaryOp .BitOr) (rI0 λi j=>.int (Builtin.bitOr i j)):=wM λ_ _ _ _ _ _ _ q=>or_int q
theorem unI {f:Value->Sem Value} {g:Int->Int}
   (rule:∀ (i:Int) (t:Tok) (s:Shared) (Q:Value->Shared->Prop) (E:Value->Shared->Prop),Q (.int (g i) s.toks) { s with toks:=s.toks + 1 }->wpAny (model X.prog X.w) X.A (f (.int i t)) Q E s) :
   UnR X f (rU λi=>.int (g i)):=by
 intro pins s σ H x v Q I rx h
 obtain ⟨i,rfl,q⟩:=h
 obtain ⟨t,rfl⟩:=rx
 exact rule i t s _ _ ⟨.int (g i),H,I.tok _,⟨_,rfl⟩,q⟩
theorem zc:UnR X (unaryOp .USub) (rU λi=>.int (-i)):=unI λ_ _ _ _ _ q=>neg_int q
end
noncomputable def zJ:V->V->Bool
 | .non,.non=>true | .non,.int _=>true | .int _,.non=>true | .non,.bl _=>true | .bl _,.non=>true | .non,.str _=>true | .str _,.non=>true
 | .int _,.int _=>true | .bl _,.bl _=>true | .str _,.str _=>true | .byt _,.byt _=>true
 | .int _,.str _=>true | .str _,.int _=>true | .bl _,.str _=>true | .str _,.bl _=>true
 | _,_=>false
noncomputable def rEq:R2:=λx y H Q=>zJ x y=true/\Q (.bl (decide (x=y))) H
noncomputable def rNe:R2:=λx y H Q=>zJ x y=true/\Q (.bl (!decide (x=y))) H
theorem p6 {i j:Int}:decide (V.int i=V.int j)=(i == j):=by
 rw [Bool.eq_iff_iff]
 simp
theorem uN {i j:Bool}:decide (V.bl i=V.bl j)=(i == j):=by
 rw [Bool.eq_iff_iff]
 simp
theorem qG {i j:Str}:decide (V.str i=V.str j)=(i == j):=by
 rw [Bool.eq_iff_iff]
 simp
theorem ql {i j:Array UInt8}:decide (V.byt i=V.byt j)=(i.toList == j.toList):=by
 rw [Bool.eq_iff_iff]
 cases i
 cases j
 simp
section
variable {X:Cx} {a b c:Expr} {ta tb tc:TE} {pos:Pos}
theorem aQ {pins:List (Addr × Obj)} {σ:St} {H:Hp} {s:Shared} {Q:VK} {k k':Bool} (I:Inv X pins σ H s) (q:Q (.bl k) H) (e:k=k'):EP X pins σ Q (.bool k') s:=by
 subst e
 exact ⟨.bl k,H,I,rfl,q⟩
theorem Av:OpR X (compareOp .Eq) rEq:=by
 intro pins s σ H x y v u Q I rx ry h
 obtain ⟨hs,q⟩:=h
 cases x with
 | non=>
   cases rx
   cases y with
   | non=>cases ry; exact PySem.EqNone.eq_none_none (aQ I q (by simp))
   | bl j=>cases ry; exact PySem.EqNone.eq_none_bool (aQ I q (by simp))
   | int j=>obtain ⟨t',rfl⟩:=ry; exact PySem.EqNone.eq_none_int (aQ I q (by simp))
   | str j=>obtain ⟨t',rfl⟩:=ry; exact PySem.EqNone.eq_none_str (aQ I q (by simp))
   | _=>exact absurd (show false=true from hs) Bool.false_ne_true
 | bl i=>
   cases rx
   cases y with
   | non=>cases ry; exact PySem.EqNone.eq_bool_none (aQ I q (by simp))
   | bl j=>cases ry; exact eq_bool (aQ I q uN)
   | str j=>obtain ⟨t',rfl⟩:=ry; exact PySem.EqMixed.eq_bool_str (aQ I q (by simp))
   | _=>exact absurd (show false=true from hs) Bool.false_ne_true
 | int i=>
   obtain ⟨t,rfl⟩:=rx
   cases y with
   | non=>cases ry; exact PySem.EqNone.eq_int_none (aQ I q (by simp))
   | int j=>obtain ⟨t',rfl⟩:=ry; exact eq_int (aQ I q p6)
   | str j=>obtain ⟨t',rfl⟩:=ry; exact PySem.EqMixed.eq_int_str (aQ I q (by simp))
   | _=>exact absurd (show false=true from hs) Bool.false_ne_true
 | str i=>
   obtain ⟨t,rfl⟩:=rx
   cases y with
   | non=>cases ry; exact PySem.EqNone.eq_str_none (aQ I q (by simp))
   | bl j=>cases ry; exact PySem.EqMixed.eq_str_bool (aQ I q (by simp))
   | int j=>obtain ⟨t',rfl⟩:=ry; exact PySem.EqMixed.eq_str_int (aQ I q (by simp))
   | str j=>obtain ⟨t',rfl⟩:=ry; exact eq_str (aQ I q qG)
   | _=>exact absurd (show false=true from hs) Bool.false_ne_true
 | byt i=>
   obtain ⟨t,rfl⟩:=rx
   cases y with
   | byt j=>obtain ⟨t',rfl⟩:=ry; exact PySem.W.eq_bytes (aQ I q ql)
   | _=>exact absurd (show false=true from hs) Bool.false_ne_true
 | _=>cases y <;> exact absurd (show false=true from hs) Bool.false_ne_true
theorem Ax:OpR X (compareOp .NotEq) rNe:=by
 intro pins s σ H x y v u Q I rx ry h
 obtain ⟨hs,q⟩:=h
 cases x with
 | non=>
   cases rx
   cases y with
   | non=>cases ry; exact PySem.EqNone.ne_none_none (aQ I q (by simp))
   | bl j=>cases ry; exact PySem.EqNone.ne_none_bool (aQ I q (by simp))
   | int j=>obtain ⟨t',rfl⟩:=ry; exact PySem.EqNone.ne_none_int (aQ I q (by simp))
   | str j=>obtain ⟨t',rfl⟩:=ry; exact PySem.EqNone.ne_none_str (aQ I q (by simp))
   | _=>exact absurd (show false=true from hs) Bool.false_ne_true
 | bl i=>
   cases rx
   cases y with
   | non=>cases ry; exact PySem.EqNone.ne_bool_none (aQ I q (by simp))
   | bl j=>cases ry; exact ne_bool (aQ I q (congrArg not uN))
   | str j=>obtain ⟨t',rfl⟩:=ry; exact PySem.EqMixed.ne_bool_str (aQ I q (by simp))
   | _=>exact absurd (show false=true from hs) Bool.false_ne_true
 | int i=>
   obtain ⟨t,rfl⟩:=rx
   cases y with
   | non=>cases ry; exact PySem.EqNone.ne_int_none (aQ I q (by simp))
   | int j=>obtain ⟨t',rfl⟩:=ry; exact ne_int (aQ I q (congrArg not p6))
   | str j=>obtain ⟨t',rfl⟩:=ry; exact PySem.EqMixed.ne_int_str (aQ I q (by simp))
   | _=>exact absurd (show false=true from hs) Bool.false_ne_true
 | str i=>
   obtain ⟨t,rfl⟩:=rx
   cases y with
   | non=>cases ry; exact PySem.EqNone.ne_str_none (aQ I q (by simp))
   | bl j=>cases ry; exact PySem.EqMixed.ne_str_bool (aQ I q (by simp))
   | int j=>obtain ⟨t',rfl⟩:=ry; exact PySem.EqMixed.ne_str_int (aQ I q (by simp))
   | str j=>obtain ⟨t',rfl⟩:=ry; exact ne_str (aQ I q (congrArg not qG))
   | _=>exact absurd (show false=true from hs) Bool.false_ne_true
 | byt i=>
   obtain ⟨t,rfl⟩:=rx
   cases y with
   | byt j=>obtain ⟨t',rfl⟩:=ry; exact PySem.W.ne_bytes (aQ I q (congrArg not ql))
   | _=>exact absurd (show false=true from hs) Bool.false_ne_true
 | _=>cases y <;> exact absurd (show false=true from hs) Bool.false_ne_true
theorem A1:OpR X (compareOp .Lt) (rI0 λi j=>.bl (decide (i < j))):=vG λ_ _ _ _ _ _ _ q=>lt_int q
theorem Ap:OpR X (compareOp .LtE) (rI0 λi j=>.bl (decide (i<=j))):=vG λ_ _ _ _ _ _ _ q=>le_int q
theorem Ba:OpR X (compareOp .Gt) (rI0 λi j=>.bl (decide (j < i))):=vG λ_ _ _ _ _ _ _ q=>gt_int q
theorem AR:OpR X (compareOp .GtE) (rI0 λi j=>.bl (decide (j<=i))):=vG λ_ _ _ _ _ _ _ q=>ge_int q
theorem tL:OpR X (compareOp .Is) (λx y H Q=>y=.non/\Q (.bl (decide (x=.non))) H):=by
 intro pins s σ H x y v u Q I rx ry h
 obtain ⟨rfl,q⟩:=h
 cases ry
 refine is_none_gen (aQ I q ?_)
 cases x <;> first
   | (cases rx; rfl)
   | (obtain ⟨t,rfl⟩:=rx; rfl)
theorem u4 (b:Expr) {op:CmpOp} (h:op ≠ .In:=by decide) (h2:op ≠ .NotIn:=by decide):behindInMarks op b=false:=by
 have e1:(op == CmpOp.In)=false:=by cases op <;> first | rfl | exact absurd rfl h
 have e2:(op == CmpOp.NotIn)=false:=by cases op <;> first | rfl | exact absurd rfl h2
 cases b <;> simp [behindInMarks,e1,e2]
theorem wj {op:CmpOp} {r:R2} (ho:OpR X (compareOp op) r) (ha:PE X a ta) (hb:PE X b tb) (hm:behindInMarks op b=false):PE X (.Compare a [op] [b] pos) (tOp r ta tb):=by
 intro pins s σ H Q I h
 exact wpAny_Compare1 (yr ha hb I h λv u s2 x y H2 I2 rx ry q=>ho pins s2 σ H2 x y v u Q I2 rx ry q) hm
noncomputable def xn (t:TE):TT:=λσ H Q=>t σ H λx H'=>∃ k,x=.bl k/\Q k H'
theorem w8 {op:CmpOp} {r:R2} (ho:OpR X (compareOp op) r) (ha:PE X a ta) (hb:PE X b tb) (hm:behindInMarks op b=false):PT X (.Compare a [op] [b] pos) (xn (tOp r ta tb)):=by
 intro pins s σ H Q I h
 refine wpAny_isTrue_Compare1 (thn (ha pins s σ H _ I h) λv s1 ⟨x,H1,I1,r1,q1⟩=>thn (hb pins s1 σ H1 _ I1 q1) λu s2 ⟨y,H2,I2,r2,q2⟩=>
   thn (ho pins s2 σ H2 x y v u _ I2 r1 r2 q2) λc s3 ⟨z,H3,I3,r3,k,e,q3⟩=>?_) hm
 subst e
 cases r3
 exact wpAny_truthy_bool ⟨H3,I3,q3⟩
noncomputable def oW (r r':R2) (ta tb tc:TE):TE:=λσ H Q=>ta σ H λx H1=>tb σ H1 λy H2=>r x y H2 λz H3=>∃ k,z=.bl k /\
 (if k=true then tc σ H3 λw' H4=>r' y w' H4 Q else Q (.bl false) H3)
theorem vj {op op':CmpOp} {r r':R2} (ho:OpR X (compareOp op) r) (ho':OpR X (compareOp op') r') (ha:PE X a ta) (hb:PE X b tb) (hc:PE X c tc)
   (hm:lastMarks [op,op'] [b,c]=false:=by with_unfolding_all rfl):PE X (.Compare a [op,op'] [b,c] pos) (oW r r' ta tb tc):=by
 intro pins s σ H Q I h
 refine Compare_chain (thn (ha pins s σ H _ I h) λv s1 ⟨x,H1,I1,r1,q1⟩=>chain_link (thn (hb pins s1 σ H1 _ I1 q1) λu s2 ⟨y,H2,I2,r2,q2⟩=>
   thn (ho pins s2 σ H2 x y v u _ I2 r1 r2 q2) λd s3 ⟨z,H3,I3,r3,k,e,q3⟩=>?_)) hm
 subst e
 cases r3
 refine wpAny_truthy_bool ?_
 cases k with
 | false=>exact ite_ff ⟨.bl false,H3,I3,rfl,q3⟩
 | true=>exact ite_tt (chain_last (thn (hc pins s3 σ H3 _ I3 q3) λw' s4 ⟨z',H4,I4,r4,q4⟩=>ho' pins s4 σ H4 y z' u w' Q I4 r2 r4 q4))
theorem uP {op op':CmpOp} {r r':R2} (ho:OpR X (compareOp op) r) (ho':OpR X (compareOp op') r') (ha:PE X a ta) (hb:PE X b tb) (hc:PE X c tc)
   (hm:lastMarks [op,op'] [b,c]=false:=by with_unfolding_all rfl):PT X (.Compare a [op,op'] [b,c] pos) (xn (oW r r' ta tb tc)):=by
 intro pins s σ H Q I h
 refine isTrue_chain (thn (ha pins s σ H _ I h) λv s1 ⟨x,H1,I1,r1,q1⟩=>test_link (thn (hb pins s1 σ H1 _ I1 q1) λu s2 ⟨y,H2,I2,r2,q2⟩=>
   thn (ho pins s2 σ H2 x y v u _ I2 r1 r2 q2) λd s3 ⟨z,H3,I3,r3,k,e,q3⟩=>?_)) hm
 subst e
 cases r3
 refine wpAny_truthy_bool ?_
 cases k with
 | false=>
   obtain ⟨k',e',q'⟩:=q3
   cases e'
   exact ite_ff ⟨H3,I3,q'⟩
 | true=>
   refine ite_tt (test_last (thn (hc pins s3 σ H3 _ I3 q3) λw' s4 ⟨z',H4,I4,r4,q4⟩=>thn (ho' pins s4 σ H4 y z' u w' _ I4 r2 r4 q4) λd' s5 ⟨z2,H5,I5,r5,k2,e2,q5⟩=>?_))
   subst e2
   cases r5
   exact wpAny_truthy_bool ⟨H5,I5,q5⟩
theorem lO:(sizeLine:Nat) < 2 ^ 63:=by rw [sizeLine_eq]; decide
theorem vals1 {x:V} {us:List Value} (r:Vals [x] us):∃ u,us=[u]/\RelV x u:=by
 cases r with
 | cons r1 r2=>cases r2; exact ⟨_,rfl,r1⟩
theorem vals2 {x y:V} {us:List Value} (r:Vals [x,y] us):∃ u w',us=[u,w']/\RelV x u/\RelV y w':=by
 cases r with
 | cons r1 r2=>
   cases r2 with
   | cons r3 r4=>cases r4; exact ⟨_,_,rfl,r1,r3⟩
theorem tN:fu X (.builtin "abs") (λxs H Q=>∃ i,xs=[.int i]/\Q (.int (if i < 0 then -i else i)) H):=by
 intro pins s σ H xs us Q I r h
 obtain ⟨i,rfl,q⟩:=h
 obtain ⟨u,rfl,t,rfl⟩:=vals1 r
 exact call_abs_int λu tk=>⟨.int (if i < 0 then -i else i),H,I.tok _,⟨_,rfl⟩,q⟩
theorem r9 (hc:X.calm=true):fu X (.builtin "min") (λxs H Q=>∃ i j,xs=[.int i,.int j]/\Q (.int (if j < i then j else i)) H):=by
 intro pins s σ H xs us Q I r h
 obtain ⟨i,j,rfl,q⟩:=h
 obtain ⟨u,w',rfl,⟨t,rfl⟩,⟨t',rfl⟩⟩:=vals2 r
 refine min_two_ints (I.ok.hd hc) λh' tk k=>⟨_,H,I.kept k,?_,q⟩
 by_cases hj:j < i
 · rw [if_pos hj,if_pos hj]; exact ⟨_,rfl⟩
 · rw [if_neg hj,if_neg hj]; exact ⟨_,rfl⟩
theorem qY:fu X (.type "int") (λxs H Q=>(∃ i,xs=[.int i]/\Q (.int i) H)\/∃ k,xs=[.bl k]/\Q (.int (if k then 1 else 0)) H):=by
 intro pins s σ H xs us Q I r h
 rcases h with ⟨i,rfl,q⟩ | ⟨k,rfl,q⟩
 · obtain ⟨u,rfl,t,rfl⟩:=vals1 r
   exact call_int_int ⟨.int i,H,I,⟨_,rfl⟩,q⟩
 · obtain ⟨u,rfl,r1⟩:=vals1 r
   cases r1
   exact call_int_bool ⟨.int (if k then 1 else 0),H,I.tok _,⟨_,rfl⟩,q⟩
end
section
variable {prog:Program} {w:World} {A:Around} {E:Value->Shared->Prop} {s:Shared} {K:PySem.W.Frag} {x dx C f:Addr} {mA:Str->Option Value} {name:Str} {v:Value}
end
theorem nO.some_of {v:V} {o:Option Value} (r:nO (some v) o):∃ u,o=some u/\RelV v u:=by
 cases o with
 | none=>exact (show False from r).elim
 | some u=>exact ⟨u,rfl,r⟩
section
variable {P:Program} {w:World} {H H':Hp} {h h':Heap} {a C dx:Addr} {fs fs':List (Str × V)}
end
section
variable {X:Cx} {pins:List (Addr × Obj)} {σ:St} {H:Hp} {s:Shared} {a C dx:Addr} {fs:List (Str × V)} {f:Str} {v:V} {A:Around} {E:Value->Shared->Prop}
end
section
variable {X:Cx} {o e value:Expr} {f:Str} {pos pos' tpos:Pos} {ta tv:TE}
end
section
variable {X:Cx} {pins:List (Addr × Obj)} {σ:St} {H:Hp} {s:Shared} {A:Around} {E:Value->Shared->Prop} {Q:Value->Shared->Prop} {c:Value} {b:Bool}
end
structure eY (k:Nat) (A:Around):Prop where
 hd:A.handled=none
 dp:A.depth + 3 * k + 5 < recursionLimit
 un:A.units + 16 * k + 200 < cLine
theorem eY.mono {j k:Nat} {A:Around} (r:eY k A) (h:j<=k):eY j A:=⟨r.hd,by have:=r.dp; omega,by have:=r.un; omega⟩
theorem eY.deeper {k:Nat} {A:Around} (r:eY (k + 1) A) (env:Env):eY k (A.deeper env):=
 ⟨r.hd,by have:=r.dp; show A.depth + 1 + 3 * k + 5 < _; omega,by have:=r.un; show A.units + 3 + 16 * k + 200 < _; omega⟩
theorem eY.depth {k:Nat} {A:Around} (r:eY k A):A.depth < recursionLimit:=by have:=r.dp; omega
theorem eY.units {k:Nat} {A:Around} (r:eY k A):A.units + 64 < cLine:=by have:=r.un; omega
noncomputable def BK:TA:=λ_ H Q=>Q [] H
noncomputable def AH (ta:TE) (tr:TA):TA:=λσ H Q=>ta σ H λx H1=>tr σ H1 λxs H2=>Q (x :: xs) H2
section
variable {X:Cx} {e:Expr} {es:List Expr} {te:TE} {t:TA} {pos:Pos}
theorem dh:PA X [] BK:=λ_ _ _ _ H Q I h=>Calls.spliced_nil ⟨[],H,I,.nil,h⟩
theorem bI (ha:PE X e te) (hr:PA X es t) (hs:starEach (e :: es) X.env=(false,eval e X.env) :: starEach es X.env:=by rfl):PA X (e :: es) (AH te t):=by
 intro pos pins s σ H Q I h
 rw [hs]
 show wpAny _ _ (spliced ((false,eval e X.env) :: backTo pos (starEach es X.env))) _ _ s
 refine Calls.spliced_cons (thn (ha pins s σ H _ I h) λu s1 ⟨x,H1,I1,r1,q1⟩=>?_)
 exact thn (hr pos pins s1 σ H1 _ I1 q1) λus s2 ⟨xs,H2,I2,r2,q2⟩=>⟨x :: xs,H2,I2,.cons r1 r2,q2⟩
noncomputable def Bw (t:TA):TE:=λσ H Q=>t σ H λxs H1=>xs.length<=sizeLine/\∀ p,H1 p=none->Q (.ref p) (upd H1 p (.tup xs))
noncomputable def BN (t:TA):TE:=λσ H Q=>t σ H λxs H1=>xs.length<=sizeLine/\∀ p,H1 p=none->Q (.ref p) (upd H1 p (.lst xs))
theorem tS {x1} (h:PA X es t):PE X (.Tuple es x1 pos) (Bw t):=by
 intro pins s σ H Q I hq
 refine wpAny_Tuple_spliced (thn (h pos pins s σ H _ I hq) λus s1 ⟨xs,H1,I1,r,z,q⟩=>⟨by rw [<- r.length]; exact z,?_⟩)
 have hf:H1 s1.heap.objs.size=none:=I1.hok.fresh (Nat.le_refl _)
 refine ⟨.ref s1.heap.objs.size,upd H1 s1.heap.objs.size (.tup xs),I1.laid (t':=s1.toks) (λb u e=>Heap.get?_push_of_some _ e) (Nat.le_refl _) ?_,rfl,q _ hf⟩
 exact ⟨z,us,r,⟨_,Heap.get?_push_size _ rfl,rfl,_,rfl⟩⟩
theorem yF (h:PA X es t):PE X (.List es pos) (BN t):=by
 intro pins s σ H Q I hq
 refine wpAny_List_spliced (thn (h pos pins s σ H _ I hq) λus s1 ⟨xs,H1,I1,r,z,q⟩=>⟨by rw [<- r.length]; exact z,?_⟩)
 have hf:H1 s1.heap.objs.size=none:=I1.hok.fresh (Nat.le_refl _)
 refine ⟨.ref s1.heap.objs.size,upd H1 s1.heap.objs.size (.lst xs),I1.laid (t':=s1.toks) (λb u e=>Heap.get?_push_of_some _ e) (Nat.le_refl _) ?_,rfl,q _ hf⟩
 exact ⟨z,us,0,r,Heap.get?_push_size _ rfl⟩
end
noncomputable abbrev Sp:=List V->Hp->VK->XK->Prop
noncomputable abbrev CXT:=List Env->Hp->Shared->XK->Value->Shared->Prop
structure wA (P:Program) (w:World) (K:PySem.W.Frag) (mg:Str->Option Value) (base:Heap) (A:Around) (outer:List Env) (s:Shared) (H:Hp):Prop where
 frames:A.frames=some outer
 mod:Mod K mg base
 bs:∀ b o,base.get? b=some o->s.heap.get? b=some o/\H b=none
 bsz:base.objs.size<=s.heap.objs.size
 jl:s.heap.FunFrames base outer
 frf:∀ b ∈ frs outer,H b=none
 hok:HOk P w H s.heap
 bare:AllBare s.gens
noncomputable def CE (outer:List Env) (P:Program) (w:World) (H:Hp) (s:Shared) (Q:VK) (u:Value) (s':Shared):Prop:=
 ∃ v H',s'.os=s.os/\AllBare s'.gens/\Un (frs outer) [] H H' s.heap s'.heap/\HOk P w H' s'.heap/\RelV v u/\Q v H'
noncomputable def CR (CX:CXT) (outer:List Env) (P:Program) (w:World) (H:Hp) (s:Shared) (Q:VK) (E:XK) (r:Result) (s':Shared):Prop:=
 match r with
 | .ok (.ret u)=>CE outer P w H s Q u s'
 | .ok _=>False
 | .error e=>CX outer H s E e s'
structure aR (P:Program) (w:World) (K:PySem.W.Frag) (mg:Str->Option Value) (base:Heap) (CX:CXT) (k:Nat) (f:Addr) (fd:FuncData) (ps:List Str) (sp:Sp):Prop where
 len:∀ vs H Q E,sp vs H Q E->vs.length=ps.length
 run:∀ (A:Around) (outer:List Env) (s:Shared) (H:Hp) (args:Args) (us:List Value) (vs:List V) (Q:VK) (E:XK),eY k A->wA P w K mg base A outer s H->BindsTo s fd args (ps.zip us)->Vals vs us->sp vs H Q E ->
   codeAny (model P w) A (.call (.ref f) args) (CR CX outer P w H s Q E) s
theorem aR.mono {P:Program} {w:World} {K:PySem.W.Frag} {mg:Str->Option Value} {base:Heap} {CX:CXT} {j k:Nat} {f:Addr} {fd:FuncData} {ps:List Str} {sp:Sp} (F:aR P w K mg base CX j f fd ps sp) (h:j<=k) :
   aR P w K mg base CX k f fd ps sp:=⟨F.len,λA outer s H args us vs Q E hr=>F.run A outer s H args us vs Q E (hr.mono h)⟩
section
variable {X:Cx} {pins:List (Addr × Obj)} {σ:St} {H:Hp} {s s':Shared}
theorem Inv.Bu (I:Inv X pins σ H s):wA X.prog X.w X.K X.mg X.base X.A X.stack s H:=
 ⟨I.ok.frames,I.ok.mod,I.bs,Nat.le_trans I.ok.bsz I.sz,I.stack,I.qh,I.hok,I.bare⟩
theorem Inv.after {Q:VK} {u:Value} (I:Inv X pins σ H s) (h:CE X.stack X.prog X.w H s Q u s'):EP X pins σ Q u s':=by
 obtain ⟨v,H',os,bare,un,hok,r,q⟩:=h
 obtain ⟨hh,g,d,t,os'⟩:=s'
 obtain rfl:os'=s.os:=os
 exact ⟨v,H',I.call (h':=hh) (g':=g) (d':=d) (t':=t) (ch:=[]) un hok bare (λb z=>absurd z (by simp)),r,q⟩
end
noncomputable def zO (sp:Sp) (dvs:List V) (E:XK) (t:TA):TE:=λσ H Q=>t σ H λvs H1=>sp (vs++dvs) H1 Q E
noncomputable def Binds (K:PySem.W.Frag) (fd:FuncData) (ps:List Str) (ds:List Value):Prop:=
 ∀ (s:Shared) (us:List Value),K.In s.heap->(us++ds).length=ps.length->BindsTo s fd ⟨us,[]⟩ (ps.zip (us++ds))
theorem Binds.all {K:PySem.W.Frag} {fd:FuncData} {ps:List Str} (h:∀ us:List Value,us.length=ps.length->bindArgs fd ⟨us,[]⟩=pure (ps.zip us)):Binds K fd ps []:=λs us _ hl=>by
 rw [List.append_nil] at hl ⊢
 exact .of_eq (h us hl)
noncomputable def Passes (CX:CXT) (X:Cx) (E:XK):Prop:=∀ (pins:List (Addr × Obj)) (σ:St) (H:Hp) (s:Shared) (e:Value) (s':Shared),Inv X pins σ H s->CX X.stack H s E e s'->X.xe e s'
section
variable {X:Cx} {CX:CXT} {k:Nat} {f C:Addr} {fd:FuncData} {ps:List Str} {sp:Sp} {dvs:List V} {ds:List Value} {E:XK} {x m:Str} {p pos apos:Pos} {e o:Expr} {es:List Expr} {ta:TE} {t:TA}
theorem zt {pins:List (Addr × Obj)} {σ:St} {H:Hp} {s:Shared} {Q:VK} {us:List Value} {vs:List V} (F:aR X.prog X.w X.K X.mg X.base CX k f fd ps sp) (hr:eY k X.A) (hb:Binds X.K fd ps ds) (hd:Vals dvs ds) (hx:Passes CX X E)
   (I:Inv X pins σ H s) (r:Vals vs us) (h:sp (vs++dvs) H Q E):wpAny (model X.prog X.w) X.A (call (.ref f) us) (EP X pins σ Q) X.xe s:=by
 have r2:Vals (vs++dvs) (us++ds):=r.append hd
 have hl:(us++ds).length=ps.length:=by rw [<- r2.length]; exact F.len _ _ _ _ h
 refine wpAny_call (codeAny_mono (F.run X.A X.stack s H ⟨us,[]⟩ (us++ds) (vs++dvs) Q E hr I.Bu (hb s us I.kIn hl) r2 h) λr s' hq=>?_)
 cases r with
 | error e=>exact hx pins σ H s e s' I hq
 | ok fl=>
   cases fl with
   | ret u=>exact I.after hq
   | next=>exact False.elim hq
   | brk=>exact False.elim hq
   | cont=>exact False.elim hq
theorem wD (F:aR X.prog X.w X.K X.mg X.base CX k f fd ps sp) (hr:eY k X.A) (hg:Gl X x) (hm:X.mg x=some (.ref f)) (hk:PySem.W.keepIn X.K (.ref f)=true) (hb:Binds X.K fd ps ds) (hd:Vals dvs ds) (hx:Passes CX X E)
   (ha:PA X (e :: es) t) (hdb:(x == ("__debug__" : Str))=false:=by decide) (he:starEach (e :: es) X.env=(false,eval e X.env) :: starEach es X.env:=by rfl) (hpl:(backTo pos (starEach es X.env)).any (·.1)=false:=by rfl) :
   PE X (.Call (.Name x p) (e :: es) [] pos) (zO sp dvs E t):=by
 intro pins s σ H Q I h
 refine wpAny_Call_Name_kw (qk I hg hm ?_ hdb)
 refine PySem.W.callWith_K (h₀:=X.base) I.ok.mod.kin hk (thn (ha pos pins s σ H _ I h) λus s1 ⟨vs,H1,I1,r,q⟩=>⟨I1.kIn,?_⟩) he hpl
 exact zt F hr hb hd hx I1 r q
end
section
variable {X:Cx} {CX:CXT} {k:Nat} {f C:Addr} {fd:FuncData} {ps ks:List Str} {sp:Sp} {E:XK} {x m:Str} {p pos apos kpos:Pos} {e o:Expr} {es:List Expr} {kws:List Keyword} {te ta:TE} {t tk:TA} {nm:Option Str}
variable {g:List Value->List Value->List Value} {gV:List V->List V->List V}
end
structure az (N P:List Str) (sc:Scope):Prop where
 kind:sc.kind=.function
 co:sc.isCoroutine=false
 gen:sc.isGenerator=false
 nd:N.Nodup
 pre:N.take P.length=P
 par:∀ x ∈ P,sc.names.lookup x=some .local\/sc.names.lookup x=some .cell
 nofree:∀ y ∈ sc.names,y.2 ≠ .free
theorem kn {kindOf:Str->Option NameKind} {x:Str}:∀ {binds:List (Str × Value)} {m:Str->Option Value},(∀ v,(x,v) ∉ binds)->bindL kindOf binds m x=m x
 | [],_,_=>rfl
 | (n,v) :: r,m,h=>by
   unfold bindL
   rw [kn λw hw=>h w (List.mem_cons_of_mem _ hw)]
   split
   · have:x ≠ n:=by rintro rfl; exact h v List.mem_cons_self
     simp [this]
   · rfl
theorem kU {kindOf:Str->Option NameKind} {x:Str}:∀ {binds:List (Str × Value)} {m:Str->Option Value},(∀ v,(x,v) ∉ binds)->bindC kindOf binds m x=m x
 | [],_,_=>rfl
 | (n,v) :: r,m,h=>by
   unfold bindC
   rw [kU λw hw=>h w (List.mem_cons_of_mem _ hw)]
   split
   · rfl
   · have:x ≠ n:=by rintro rfl; exact h v List.mem_cons_self
     simp [this]
theorem kA {kindOf:Str->Option NameKind} {x:Str} {v:Value}:∀ {P:List Str} {vs:List Value} {i:Nat} {m:Str->Option Value},P.Nodup->P[i]?=some x->vs[i]?=some v->kindOf x=some .local ->
   bindL kindOf (P.zip vs) m x=some v
 | [],_,_,_,_,h,_,_=>by simp at h
 | _ :: _,[],_,_,_,_,h,_=>by simp at h
 | p :: P,w :: vs,0,m,nd,h1,h2,hk=>by
   simp at h1 h2; subst h1; subst h2
   show bindL kindOf ((p,w) :: P.zip vs) m p=_
   unfold bindL
   rw [kn λv hv=>(List.nodup_cons.mp nd).1 (List.of_mem_zip hv).1,if_pos hk]
   simp
 | p :: P,w :: vs,i + 1,m,nd,h1,h2,hk=>by
   show bindL kindOf ((p,w) :: P.zip vs) m x=_
   unfold bindL
   exact kA (i:=i) (List.nodup_cons.mp nd).2 (by simpa using h1) (by simpa using h2) hk
theorem kL {kindOf:Str->Option NameKind} {x:Str} {v:Value}:∀ {P:List Str} {vs:List Value} {i:Nat} {m:Str->Option Value},P.Nodup->P[i]?=some x->vs[i]?=some v->kindOf x ≠ some .local ->
   bindC kindOf (P.zip vs) m x=some v
 | [],_,_,_,_,h,_,_=>by simp at h
 | _ :: _,[],_,_,_,_,h,_=>by simp at h
 | p :: P,w :: vs,0,m,nd,h1,h2,hk=>by
   simp at h1 h2; subst h1; subst h2
   show bindC kindOf ((p,w) :: P.zip vs) m p=_
   unfold bindC
   rw [kU λv hv=>(List.nodup_cons.mp nd).1 (List.of_mem_zip hv).1,if_neg hk]
   simp
 | p :: P,w :: vs,i + 1,m,nd,h1,h2,hk=>by
   show bindC kindOf ((p,w) :: P.zip vs) m x=_
   unfold bindC
   exact kL (i:=i) (List.nodup_cons.mp nd).2 (by simpa using h1) (by simpa using h2) hk
noncomputable def start (N:List Str) (vs:List V):St:=vs.map some++List.replicate (N.length - vs.length) none
noncomputable def oN (CX:CXT) (P:Program) (w:World) (K:PySem.W.Frag) (mg:Str->Option Value) (base:Heap) (N:List Str) (qual:Str) (scope:Scope) (f:Addr) (cd:Value) (A:Around) (outer:List Env) (s:Shared) (H:Hp) (E:XK):Cx where
 prog:=P
 w:=w
 K:=K
 mg:=mg
 base:=base
 A:=A.deeper (envOfC qual scope s.heap.objs.size f cd)
 N:=N
 s₀:=s
 H₀:=H
 env:=envOfC qual scope s.heap.objs.size f cd
 outer:=outer
 stack:=envOfC qual scope s.heap.objs.size f cd :: outer
 ex:=[]
 calm:=true
 fn:=λ_=>true
 pn:=[]
 xe:=λe s'=>wpAny (model P w) (A.deeper (envOfC qual scope s.heap.objs.size f cd)) (leaving (envOfC qual scope s.heap.objs.size f cd) e) (λ_ s''=>CX outer H s E e s'') (λe' s''=>CX outer H s E e' s'') s'
theorem nq {sc:Scope} {n:Nat} {x:Str} (h:sc.names.lookup x=some .cell):∃ c,(cellsFrom n sc.names []).lookup x=some c:=by
 have q:=PySem.W.cellsFrom_some sc.names n [] (.inl h)
 exact Option.isSome_iff_exists.mp q
theorem rB {CX:CXT} {P:Program} {w:World} {K:PySem.W.Frag} {mg:Str->Option Value} {base:Heap} {N ps:List Str} {qual:Str} {scope:Scope} {f:Addr} {cd:Value} {A:Around} {outer:List Env} {s s1:Shared} {H:Hp} {E:XK} {us:List Value} {vs:List V}
   (S:az N ps scope) {cm:Bool} (hd:cm=true->A.handled=none) (e0:wA P w K mg base A outer s H) (hl:vs.length=ps.length) (r:Vals vs us)
   (x:InCallC s s.heap.objs.size (bindL (envOfC qual scope s.heap.objs.size f cd).kindOf (ps.zip us) λ_=>none) (cellsFrom (s.heap.objs.size + 1) scope.names []) (bindC (envOfC qual scope s.heap.objs.size f cd).kindOf (ps.zip us) λ_=>none) s1) :
   Inv { oN CX P w K mg base N qual scope f cd A outer s H E with calm:=cm } [] (start N vs) H s1:=by
 have hpl:ps.length<=N.length:=by have:=congrArg List.length S.pre; rw [List.length_take] at this; omega
 obtain ⟨h1,tk,rfl,hk⟩:=x.done
 have noA:∀ b:Addr,b ∉ (oN CX P w K mg base N qual scope f cd A outer s H E).ex:=λb z=>absurd (show b ∈ ([]:List Addr) from z) (by simp)
 refine ⟨⟨e0.mod,S.kind,rfl,rfl,Nat.le_refl _,λy z c h1 h2=>?_,λy hy=>?_,λy c _ h=>?_,hd,Around.frames_deeper e0.frames,.inr ⟨rfl,rfl⟩,λb z=>absurd z (noA b),e0.bs,e0.bsz,λb _ _=>noA b,λb z=>absurd z (noA b),e0.jl,e0.frf⟩,
   rfl,e0.bare,Un.kept hk,⟨_,x.toInCall.ns,λi y v h1 h2 h3=>?_⟩,λy c h=>⟨_,x.cell y c h⟩,e0.hok.fresh (Nat.le_refl _),λy c h=>?_,λp hp=>absurd (show p ∈ ([]:List (Addr × Obj)) from hp) (by simp),e0.hok.kept hk,?_⟩
 · exact name_of_addr x.apart (PySem.mem_of_lookup h1) (PySem.mem_of_lookup h2)
 · have hy:scope.names.lookup y=some .cell\/scope.names.lookup y=some .free:=hy
   rcases hy with hy | hy
   · exact nq hy
   · exact absurd rfl (S.nofree _ (PySem.mem_of_lookup hy))
 · exact Nat.le_of_lt (x.above y c (PySem.mem_of_lookup h))
 · have hi:i < vs.length:=by
     unfold start at h2
     by_cases hi:i < vs.length
     · exact hi
     · rw [List.getElem?_append_right (by simpa using hi)] at h2
       rw [List.getElem?_replicate] at h2
       split at h2 <;> cases h2
   have ha:vs[i]?=some v:=by
     unfold start at h2
     rw [List.getElem?_append_left (by simpa using hi),List.getElem?_map] at h2
     cases e:vs[i]? with
     | none=>rw [e] at h2; cases h2
     | some a=>rw [e] at h2; cases h2; rfl
   obtain ⟨u,hu,rv⟩:=r.get ha
   have hp:ps[i]?=some y:=by
     rw [<- S.pre,List.getElem?_take_of_lt (by omega)]; exact h1
   have ndP:ps.Nodup:=by rw [<- S.pre]; exact S.nd.sublist (List.take_sublist _ _)
   refine ⟨u,rv,?_⟩
   rcases S.par y (List.mem_of_getElem? hp) with k | k
   · exact .inl ⟨k,kA ndP hp hu k⟩
   · obtain ⟨c,e⟩:=nq (n:=s.heap.objs.size + 1) k
     refine .inr ⟨.inl k,c,e,?_⟩
     have q:=x.cell y c e
     rw [kL ndP hp hu (by show scope.names.lookup y ≠ _; rw [k]; decide)] at q
     exact q
 · exact e0.hok.fresh (Nat.le_of_lt (x.above y c (PySem.mem_of_lookup h)))
 · unfold start
   show _=N.length
   rw [List.length_append,List.length_map,List.length_replicate]
   omega
theorem AO {CX:CXT} {P:Program} {w:World} {K:PySem.W.Frag} {mg:Str->Option Value} {base:Heap} {k:Nat} {f:Addr} {name qual:Str} {params:Arguments} {body:List Stmt} {scope:Scope} {dV kV doc pm cdv ct oc:Value} {an od:Option Addr}
   {osl:Array (Option Value)} {N ps:List Str} {sp:Sp} (lk:K.lookup f=some ⟨oc,od,.func (PySem.W.fnOf name qual params body scope dV kV doc pm an cdv ct),osl⟩) (hcd:PySem.W.codeIn K cdv qual=true) (S:az N ps scope)
   (len:∀ vs H Q E,sp vs H Q E->vs.length=ps.length)
   (hbody:∀ (A:Around) (outer:List Env) (s:Shared) (H:Hp) (vs:List V) (Q:VK) (E:XK),eY k (A.deeper (envOfC qual scope s.heap.objs.size f cdv))->sp vs H Q E ->
     ∃ t,PSs (oN CX P w K mg base N qual scope f cdv A outer s H E) body t/\t { nx:=λ_ H'=>Q .non H',rt:=Q } (start N vs) H) :
   aR P w K mg base CX (k + 1) f (PySem.W.fnOf name qual params body scope dV kV doc pm an cdv ct) ps sp:=by
 refine ⟨len,λA outer s H args us vs Q E hr e0 hb r hsp=>?_⟩
 have hl:=len _ _ _ _ hsp
 have KX:K.In s.heap:=e0.mod.kin.keeps λb o e=>(e0.bs b o e).1
 have lim:s.heap.NoLimit:=e0.mod.nolimit.keeps λb o e=>(e0.bs b o e).1
 have hkind:∀ y ∈ ps.zip us,scope.names.lookup y.1=some .local\/(scope.names.lookup y.1=some .cell/\((cellsFrom (s.heap.objs.size + 1) scope.names []).lookup y.1).isSome=true):=λ⟨n,v⟩ hy=>by
   rcases S.par n (List.of_mem_zip hy).1 with q | q
   · exact .inl q
   · exact .inr ⟨q,PySem.W.cellsFrom_some _ _ _ (.inl q)⟩
 refine codeAny_call_function hr.depth (KX _ _ lk) rfl S.co S.gen rfl (PySem.W.codeRec_of KX hcd) (hb _ _ _ _ ?_)
 refine wpAny_newFunctionEnv_cells S.kind hkind λenv he s1 x=>?_
 subst he
 refine ⟨lim.keeps x.toInCall.keep,codeAny_func ?_⟩
 obtain ⟨t,ht,hq⟩:=hbody A outer s H vs Q E (hr.deeper _) hsp
 have I:Inv (oN CX P w K mg base N qual scope f cdv A outer s H E) [] (start N vs) H s1:=rB (cm:=true) S (λ_=>hr.hd) e0 hl r x
 refine wpAny_mono (ht [] s1 (start N vs) H _ I hq) (λfl s' hs=>?_) λe s' hs=>hs
 have fin:∀ {σ':St} {H':Hp} {v:V} {u:Value},Inv (oN CX P w K mg base N qual scope f cdv A outer s H E) [] σ' H' s'->RelV v u->Q v H'->CE outer P w H s Q u s':=
   λ{σ' H' v u} J rv q=>⟨v,H',J.os,J.bare,J.base,J.hok,rv,q⟩
 cases fl with
 | ret u=>
   obtain ⟨v,σ',H',J,rv,q⟩:=hs
   exact fin J rv q
 | next=>
   obtain ⟨σ',H',J,q⟩:=hs
   exact fin (v:=V.non) (u:=Value.none) J rfl q
 | brk=>
   obtain ⟨_,_,_,q⟩:=hs
   exact False.elim q
 | cont=>
   obtain ⟨_,_,_,q⟩:=hs
   exact False.elim q
section
variable {X:Cx} {x:Str} {p pos:Pos} {e:Expr} {es:List Expr} {t:TA} {id T:String} {r:List V->Hp->VK->Prop}
noncomputable def tCB (r:List V->Hp->VK->Prop) (t:TA):TE:=λσ H Q=>t σ H λvs H1=>r vs H1 Q
theorem nE (hc:fu X (.builtin id) r) (hg:Gl X x) (hm:X.mg x=none) (hv:bootBuiltins x=some (.builtin id)) (ha:PA X (e :: es) t) (hn:x ≠ "__name__":=by decide) (hdb:(x == ("__debug__" : Str))=false:=by decide)
   (he:starEach (e :: es) X.env=(false,eval e X.env) :: starEach es X.env:=by rfl) (hpl:(backTo pos (starEach es X.env)).any (·.1)=false:=by rfl):PE X (.Call (.Name x p) (e :: es) [] pos) (tCB r t):=by
 intro pins s σ H Q I h
 refine wpAny_Call_Name_kw (eo I hg hm hv ?_ hn hdb)
 exact PyProof.Rows.callWith_builtin1 (thn (ha pos pins s σ H _ I h) λus s1 ⟨vs,H1,I1,r1,q1⟩=>hc pins s1 σ H1 vs us Q I1 r1 q1) he hpl
theorem kW (hc:fu X (.type T) r) (hg:Gl X x) (hm:X.mg x=none) (hv:bootBuiltins x=some (.type T)) (ha:PA X (e :: es) t) (hn:x ≠ "__name__":=by decide) (hdb:(x == ("__debug__" : Str))=false:=by decide)
   (he:starEach (e :: es) X.env=(false,eval e X.env) :: starEach es X.env:=by rfl) (hpl:(backTo pos (starEach es X.env)).any (·.1)=false:=by rfl):PE X (.Call (.Name x p) (e :: es) [] pos) (tCB r t):=by
 intro pins s σ H Q I h
 refine wpAny_Call_Name_kw (eo I hg hm hv ?_ hn hdb)
 exact PyProof.Rows.callWith_type1 (thn (ha pos pins s σ H _ I h) λus s1 ⟨vs,H1,I1,r1,q1⟩=>hc pins s1 σ H1 vs us Q I1 r1 q1) he hpl
end
end L2
namespace HT
open PySem PyProof.Rows
section
open PySem.SeqAt
open PySem.AutoSeq1 (wpAny_loadPart')
open PySem.MeetsSeq PySem.MeetsSeq2 PySem.MeetsSeq3
end
section
variable {prog:Program} {w:World} {A:Around} {E:Value->Shared->Prop} {s:Shared}
theorem vT {t b:Addr} {vs ws:List Value} {Q:Value->Shared->Prop} (ht:IsTup s.heap t vs.toArray) (hb:IsTup s.heap b ws.toArray) (hv:vs ≠ [])
   (h1:ws=[]->Q (.ref t) s) (h2:ws ≠ []->Q (.ref s.heap.objs.size) { s with heap:=s.heap.push { cls:=.type "tuple",data:=.seq (vs++ws).toArray } })
   (hsz:vs.length + ws.length<=sizeLine):wpAny (model prog w) A (binaryOp .Add (.ref t) (.ref b)) Q E s:=by
 obtain ⟨⟨cls,dd,data,sl⟩,ho,hc,n,hd⟩:=id ht
 obtain ⟨⟨cls2,dd2,data2,sl2⟩,ho2,hc2,n2,hd2⟩:=id hb
 simp only at hc hd hc2 hd2
 subst hc hd hc2 hd2
 have e:vs.toArray++ws.toArray=(vs++ws).toArray:=by simp
 by_cases hw:ws=[]
 · exact concat_meets ⟨_,ho,rfl⟩ ⟨_,ho2,rfl⟩ noFill_tuple_add seq_tuple_add PySem.F.slot_tuple_add PySem.F.entry_tuple_add (PySem.F.args_tuple_add_2 _ _)
     (tuple_addW1 t b vs.toArray ws.toArray n n2 dd dd2 sl sl2 (by simpa using hv) (by simp [hw])) ⟨ho,ho2,h1 hw⟩
 · refine concat_meets ⟨_,ho,rfl⟩ ⟨_,ho2,rfl⟩ noFill_tuple_add seq_tuple_add PySem.F.slot_tuple_add PySem.F.entry_tuple_add (PySem.F.args_tuple_add_2 _ _)
     (tuple_addW2 t b vs.toArray ws.toArray n n2 dd dd2 sl sl2 (by simpa using hv) (by simpa using hw) (by rw [List.size_toArray,List.size_toArray]; exact hsz)) ⟨ho,ho2,?_⟩
   rw [e]
   exact h2 hw
noncomputable def sIx (n d:Nat):Option Int->Nat
 | none=>d
 | some v=>if v < 0 then (v + (n:Int)).toNat else min v.toNat n
theorem jd (n d:Nat):sIx n d none=d:=rfl
theorem fJ (n d k:Nat):sIx n d (some (k:Int))=min k n:=by
 show (if (k:Int) < 0 then ((k:Int) + (n:Int)).toNat else min (k:Int).toNat n)=min k n
 rw [if_neg (by omega),Int.toNat_natCast]
theorem y7 (n d:Nat) (hd:d<=n) (o:Option Int):sIx n d o<=n:=by
 cases o with
 | none=>exact hd
 | some v=>
   show (if v < 0 then (v + (n:Int)).toNat else min v.toNat n)<=n
   by_cases hv:v < 0
   · rw [if_pos hv]; omega
   · rw [if_neg hv]; exact Nat.min_le_right _ _
theorem qw (v:Int) (n d:Nat):(if v < 0 then max (v + (n:Int)) 0 else min v (n:Int))=((sIx n d (some v):Nat):Int):=by
 show (if v < 0 then max (v + (n:Int)) 0 else min v (n:Int))=(((if v < 0 then (v + (n:Int)).toNat else min v.toNat n):Nat):Int)
 by_cases hv:v < 0
 · simp only [if_pos hv]; omega
 · simp only [if_neg hv]; omega
theorem n8 (lo hi:Option Int) (n:Nat):Builtin.Slice.sliceAdjust lo hi 1 (n:Int)=(((sIx n 0 lo:Nat):Int),((sIx n n hi:Nat):Int)):=by
 have h1:¬ ((1:Int) < 0):=by omega
 unfold Builtin.Slice.sliceAdjust
 simp only [h1,if_false]
 refine Prod.ext ?_ ?_
 · cases lo with
   | none=>rfl
   | some v=>exact qw v n 0
 · cases hi with
   | none=>rfl
   | some v=>exact qw v n n
theorem nY (i j:Nat):Builtin.Slice.slicePlaces (i:Int) (j:Int) 1=j - i:=by
 unfold Builtin.Slice.slicePlaces
 have h1:(1:Int) > 0:=by omega
 simp only [h1,if_true,Int.ediv_one]
 split <;> omega
theorem jQ {v:Value} {o:Option Int} {Q:Option Int->Shared->Prop} (p:IsPart v o) (h:Q o s):wpAny (model prog w) A (Builtin.Slice.slicePartIndex v) Q E s:=by
 cases p with
 | none=>exact slicePart_none h
 | int i t=>exact slicePart_int h
theorem iw {sl:Addr} {vl vu:Value} {lo hi:Option Int} {n:Nat} {Q:Int × Int × Nat->Shared->Prop} (hs:s.heap.IsSliceOf sl vl vu .none) (pl:IsPart vl lo) (pu:IsPart vu hi)
   (h:Q (((sIx n 0 lo:Nat):Int),1,sIx n n hi - sIx n 0 lo) s):wpAny (model prog w) A (Builtin.Slice.sliceApplied (.ref sl) (pure (n:Int))) Q E s:=by
 obtain ⟨os,hos,hcs,hds⟩:=id hs
 unfold Builtin.Slice.sliceApplied Builtin.Slice.sliceFields
 refine wpAny_bind (wpAny_bind (wpAny_field hos hds (x:=vl) rfl (wpAny_bind (wpAny_field hos hds (x:=vu) rfl (wpAny_bind (wpAny_field hos hds (x:=.none) rfl (wpAny_pure ?_)))))))
 refine wpAny_bind (slicePart_none ?_)
 show wpAny _ _ (if ((1:Int) == 0)=true then _ else _) _ _ s
 rw [if_neg (by decide)]
 refine wpAny_bind (jQ pl (wpAny_bind (jQ pu (wpAny_bind (wpAny_pure ?_)))))
 show wpAny _ _ (match Builtin.Slice.sliceAdjust lo hi 1 (n:Int) with | (lo,hi)=>pure (lo,(1:Int),Builtin.Slice.slicePlaces lo hi 1)) _ _ s
 rw [n8 lo hi n]
 show wpAny _ _ (pure (((sIx n 0 lo:Nat):Int),(1:Int),Builtin.Slice.slicePlaces ((sIx n 0 lo:Nat):Int) ((sIx n n hi:Nat):Int) 1)) _ _ s
 rw [nY]
 exact wpAny_pure h
theorem uk (xs:Array Value) (i k:Nat):((List.range k).filterMap λ(m:Nat)=>xs[((i:Int) + (m:Int) * 1).toNat]?).toArray=((xs.toList.drop i).take k).toArray:=by
 have e:(λ(m:Nat)=>xs[((i:Int) + (m:Int) * 1).toNat]?)=λm=>xs[i + m]?:=by
   funext m
   have:((i:Int) + (m:Int) * 1).toNat=i + m:=by omega
   rw [this]
 rw [e]
 have:=pick_run xs i k
 rw [List.filterMap_map] at this
 have e2:((λx=>xs[x]?) ∘ λx=>i + x)=λm=>xs[i + m]?:=rfl
 rw [e2] at this
 rw [this]
theorem gu {t sl:Addr} {items:Array Value} {vl vu:Value} {lo hi:Option Int} {Q:Value->Shared->Prop} (ht:IsTup s.heap t items) (hs:s.heap.IsSliceOf sl vl vu .none) (pl:IsPart vl lo) (pu:IsPart vu hi)
   (hw:¬ (sIx items.size 0 lo=0/\sIx items.size items.size hi=items.size))
   (h:Q (.ref s.heap.objs.size) { s with heap:=s.heap.push { cls:=.type "tuple",data:=.seq ((items.toList.drop (sIx items.size 0 lo)).take (sIx items.size items.size hi - sIx items.size 0 lo)).toArray } })
   (hsz:items.size<=sizeLine):wpAny (model prog w) A (getItem (.ref t) (.ref sl)) Q E s:=by
 have htake:sizeOk (.seq ((items.toList.drop (sIx items.size 0 lo)).take (sIx items.size items.size hi - sIx items.size 0 lo)).toArray):=by
   show ((items.toList.drop (sIx items.size 0 lo)).take (sIx items.size items.size hi - sIx items.size 0 lo)).toArray.size<=sizeLine
   rw [List.size_toArray,List.length_take,List.length_drop,Array.length_toList]
   omega
 have hj:sIx items.size items.size hi<=items.size:=y7 _ _ (Nat.le_refl _) hi
 obtain ⟨os,hos,hcs,hds⟩:=id hs
 have hTs:s.TypeIs (.ref sl) "slice":=⟨os,hos,hcs⟩
 unfold getItem
 try with_reducible refine wpAny_holding ?_
 first | refine wpAny_bind (wpAny_pure ?_) | skip
 refine wpAny_bind (wpAny_sequenceKey ht.typeIs (by decide) ?_)
 refine wpAny_bind (wpAny_callSpecial?_slot (name:=Str.ofString "__getitem__") ht.typeIs PyProof.Rows.slot_tuple_getitem
   (wpAny_call_entry PyProof.Rows.slot_tuple_getitem ht.typeIs entry_tuple_getitem ?_ (args_tuple_getitem _ _)))
 show wpAny _ _ (Builtin.Tuple.tupleItemsOf (.ref t) >>= _) _ _ s
 refine wpAny_bind (tupleItemsOf_ ht ?_)
 refine wpAny_bind (wpAny_typeOf hTs ?_)
 rw [if_pos (by decide)]
 refine wpAny_bind (iw hs pl pu ?_)
 have hno:¬ ((((sIx items.size 0 lo:Nat):Int) == 0 && (1:Int) == 1 && (sIx items.size items.size hi - sIx items.size 0 lo) == items.size)=true):=by
   intro q
   rw [Bool.and_eq_true,Bool.and_eq_true] at q
   have q1:((sIx items.size 0 lo:Nat):Int)=0:=eq_of_beq q.1.1
   have q2:sIx items.size items.size hi - sIx items.size 0 lo=items.size:=eq_of_beq q.2
   exact hw ⟨by omega,by omega⟩
 show wpAny _ _ (if (((sIx items.size 0 lo:Nat):Int) == 0 && (1:Int) == 1 && (sIx items.size items.size hi - sIx items.size 0 lo) == items.size)=true then _ else _) _ _ s
 rw [if_neg hno,uk]
 first
   | exact wpAny_bind (m:=Builtin.Tuple.tupleExact _) (wpAny_newObj_type (wpAny_pure ⟨_,rfl,wpAny_pure h⟩) htake)
   | exact wpAny_bind (m:=Builtin.Tuple.tupleExact _) (wpAny_newObj_type (wpAny_bind (wpAny_pure (wpAny_pure ⟨_,rfl,wpAny_pure h⟩))) htake)
   | exact wpAny_bind (wpAny_bind (m:=Builtin.Tuple.tupleExact _) (wpAny_newObj_type (wpAny_pure (wpAny_pure ⟨_,rfl,wpAny_pure h⟩)) htake))
   | exact wpAny_bind (wpAny_bind (m:=Builtin.Tuple.tupleExact _) (wpAny_newObj_type (wpAny_pure ⟨_,rfl,wpAny_pure h⟩) htake))
end
end HT
namespace L2
open PySem PySem.Spec PyProof.Rows
noncomputable abbrev TO:=St->Hp->(Option Int->Hp->Prop)->Prop
noncomputable def PO (X:Cx) (e:Option Expr) (t:TO):Prop:=
 ∀ (pins:List (Addr × Obj)) (s:Shared) (σ:St) (H:Hp) (Q:Option Int->Hp->Prop),Inv X pins σ H s->t σ H Q ->
   wpAny (model X.prog X.w) X.A (evalPart e X.env) (λu s'=>∃ o H',Inv X pins σ H' s'/\IsPart u o/\Q o H') X.xe s
noncomputable def wy:TO:=λ_ H Q=>Q none H
noncomputable def AJ (t:TE):TO:=λσ H Q=>t σ H λx H1=>∃ i,x=.int i/\Q (some i) H1
section
variable {X:Cx} {e:Expr} {te:TE} {lo hi:Option Expr} {tl th:TO} {pos p2:Pos}
theorem wa:PO X none wy:=by
 intro pins s σ H Q I h
 rw [evalPart_none]
 exact wpAny_pure ⟨none,H,I,.none,h⟩
theorem vF (h:PE X e te):PO X (some e) (AJ te):=by
 intro pins s σ H Q I hw
 rw [evalPart_some]
 refine thn (h pins s σ H _ I hw) λu s1 ⟨x,H1,I1,r1,q1⟩=>?_
 obtain ⟨i,rfl,q⟩:=q1
 obtain ⟨t,rfl⟩:=r1
 exact ⟨some i,H1,I1,.int i t,q⟩
noncomputable def SlR (X:Cx) (r:V->Option Int->Option Int->Hp->VK->Prop):Prop:=
 ∀ (pins:List (Addr × Obj)) (s:Shared) (σ:St) (H:Hp) (x:V) (v vl vu:Value) (lo hi:Option Int) (sl:Addr) (Q:VK),Inv X pins σ H s->RelV x v->s.heap.IsSliceOf sl vl vu .none->IsPart vl lo->IsPart vu hi->r x lo hi H Q ->
   ∃ T id,typeLookup (.type T) "__getitem__" = pure (some (.builtin id))/\s.TypeIs v T/\wpAny (model X.prog X.w) X.A (getItem v (.ref sl)) (EP X pins σ Q) X.xe s
noncomputable def tSl (r:V->Option Int->Option Int->Hp->VK->Prop) (te:TE) (tl th:TO):TE:=λσ H Q=>te σ H λx H1=>tl σ H1 λl H2=>th σ H2 λu H3=>r x l u H3 Q
theorem mV {r:V->Option Int->Option Int->Hp->VK->Prop} (hr:SlR X r) (he:PE X e te) (hl:PO X lo tl) (hu:PO X hi th):PE X (.Subscript e (.Slice lo hi none p2) pos) (tSl r te tl th):=by
 intro pins s σ H Q I h
 refine Subscript_ (thn (he pins s σ H _ I h) λv s1 ⟨x,H1,I1,r1,q1⟩=>?_)
 refine wpAny_Slice (thn (hl pins s1 σ H1 _ I1 q1) λvl s2 ⟨l,H2,I2,pl,q2⟩=>thn (hu pins s2 σ H2 _ I2 q2) λvu s3 ⟨u,H3,I3,pu,q3⟩=>?_)
 rw [evalPart_none]
 refine wpAny_pure ?_
 have I4:Inv X pins σ H3 { s3 with heap:=s3.heap.push { cls:=.type "slice",data:=.fields #[vl,vu,.none] } }:=I3.kept (t':=s3.toks) λb ob q=>Heap.get?_push_of_some _ q
 obtain ⟨T,id,hT,ht,hg⟩:=hr pins { s3 with heap:=s3.heap.push { cls:=.type "slice",data:=.fields #[vl,vu,.none] } } σ H3 x v vl vu l u s3.heap.objs.size Q I4 r1 (Heap.IsSliceOf.new ..) pl pu q3
 show wpAny (model X.prog X.w) X.A (subscriptTail e (.Slice lo hi none p2) v (.ref s3.heap.objs.size)) (EP X pins σ Q) X.xe { s3 with heap:=s3.heap.push { cls:=.type "slice",data:=.fields #[vl,vu,.none] } }
 exact tail_any (ops:=[.ref s3.heap.objs.size,v]) ht hT hg (by with_unfolding_all rfl)
noncomputable def jt (xs:List V) (lo hi:Option Int):List V:=(xs.drop (HT.sIx xs.length 0 lo)).take (HT.sIx xs.length xs.length hi - HT.sIx xs.length 0 lo)
theorem iH (xs:List V) (lo hi:Option Int):(jt xs lo hi).length<=xs.length:=by
 unfold jt
 rw [List.length_take,List.length_drop]
 omega
noncomputable def BE (K:PySem.W.Frag):V->Option Int->Option Int->Hp->VK->Prop:=λx lo hi H Q=>∃ a xs,x=.ref a/\SqT K H a xs /\
 ¬ (HT.sIx xs.length 0 lo=0/\HT.sIx xs.length xs.length hi=xs.length)/\∀ p,H p=none->Q (.ref p) (upd H p (.tup (jt xs lo hi)))
theorem xR:SlR X (BE X.K):=by
 intro pins s σ H x v vl vu lo hi sl Q I rx hs pl pu h
 obtain ⟨a,xs,rfl,hx,hw,q⟩:=h
 cases rx
 obtain ⟨its,r,ht,hz⟩:=I.tuple hx
 have hlen:its.toArray.size=xs.length:=by rw [List.size_toArray]; exact r.length.symm
 refine ⟨"tuple",_,PyProof.Rows.slot_tuple_getitem.lookup,ht.typeIs,?_⟩
 refine HT.gu ht hs pl pu (by rw [hlen]; exact hw) ?_ (by rw [hlen]; exact hz)
 rw [hlen]
 refine ⟨.ref s.heap.objs.size,_,I.laid (t':=s.toks) (o:=.tup (jt xs lo hi)) (λb ob q=>Heap.get?_push_of_some _ q) (Nat.le_refl _) ?_,rfl,q _ (I.hok.fresh (Nat.le_refl _))⟩
 exact ⟨Nat.le_trans (iH xs lo hi) hz,_,(r.drop (HT.sIx xs.length 0 lo)).take (HT.sIx xs.length xs.length hi - HT.sIx xs.length 0 lo),IsTup.new _ _⟩
noncomputable def Bc (K:PySem.W.Frag):R2:=λx y H Q=>∃ a b xs ys,x=.ref a/\y=.ref b/\SqT K H a xs/\SqT K H b ys/\xs ≠ []/\xs.length + ys.length<=sizeLine /\
 (ys=[]->Q (.ref a) H)/\(ys ≠ []->∀ p,H p=none->Q (.ref p) (upd H p (.tup (xs++ys))))
theorem Vals.lC {xs:List V} {us:List Value} (r:Vals xs us):us=[] ↔ xs=[]:=by
 cases r with
 | nil=>simp
 | cons _ _=>simp
theorem vn:OpR X (binaryOp .Add) (Bc X.K):=by
 intro pins s σ H x y v u Q I rx ry h
 obtain ⟨a,b,xs,ys,rfl,rfl,ha,hb,hx,hz,q1,q2⟩:=h
 cases rx
 cases ry
 obtain ⟨its,r1,p1,_⟩:=I.tuple ha
 obtain ⟨its2,r2,p2,_⟩:=I.tuple hb
 refine HT.vT p1 p2 (λz=>hx (r1.lC.mp z)) (λz=>⟨.ref a,H,I,rfl,q1 (r2.lC.mp z)⟩) (λz=>?_) (by rw [<- r1.length,<- r2.length]; exact hz)
 refine ⟨.ref s.heap.objs.size,_,I.laid (t':=s.toks) (o:=.tup (xs++ys)) (λb ob q=>Heap.get?_push_of_some _ q) (Nat.le_refl _) ?_,rfl,q2 (λw=>z (r2.lC.mpr w)) _ (I.hok.fresh (Nat.le_refl _))⟩
 exact ⟨by rw [List.length_append]; exact hz,_,r1.append r2,IsTup.new _ _⟩
end
noncomputable def ixN (n:Nat) (i:Int):Option Nat:=if 0<=i then (if i < n then some i.toNat else none) else if -(n:Int)<=i then some (i + n).toNat else none
noncomputable def atI {α:Type} (xs:List α) (i:Int):Option α:=(ixN xs.length i).bind λj=>xs[j]?
theorem pK {n:Nat} {i:Int} {j:Nat} (h:ixN n i=some j):seqIndex? i n=some j/\j < n/\-(n:Int)<=i/\i < n:=by
 unfold ixN at h
 by_cases h0:0<=i
 · rw [if_pos h0] at h
   by_cases h1:i < n
   · rw [if_pos h1] at h
     have e:i.toNat=j:=Option.some.inj h
     exact ⟨by rw [seqIndex_of h0 h1,e],by omega,by omega,h1⟩
   · rw [if_neg h1] at h; cases h
 · rw [if_neg h0] at h
   by_cases h1:-(n:Int)<=i
   · rw [if_pos h1] at h
     have e:(i + n).toNat=j:=Option.some.inj h
     exact ⟨by rw [seqIndex_neg (by omega) h1,e],by omega,h1,by omega⟩
   · rw [if_neg h1] at h; cases h
theorem qA {α:Type} {xs:List α} {i:Int} {v:α} (h:atI xs i=some v):∃ j,seqIndex? i xs.length=some j/\xs[j]?=some v/\j < xs.length/\-(xs.length:Int)<=i/\i < xs.length:=by
 unfold atI at h
 cases e:ixN xs.length i with
 | none=>rw [e] at h; cases h
 | some j=>
   rw [e] at h
   obtain ⟨h1,h2,h3,h4⟩:=pK e
   exact ⟨j,h1,h,h2,h3,h4⟩
noncomputable def lK (b:Expr):Prop:=∀ o i,subscripted b false o i=operate [o,i] (getItem o i)
noncomputable def IxR (X:Cx) (r:R2):Prop:=
 ∀ (value slice:Expr) (pins:List (Addr × Obj)) (s:Shared) (σ:St) (H:Hp) (x y:V) (v u:Value) (Q:VK),Inv X pins σ H s->RelV x v->RelV y u->r x y H Q ->
   subscripted slice false v u=operate [v,u] (getItem v u)->wpAny (model X.prog X.w) X.A (subscriptTail value slice v u) (EP X pins σ Q) X.xe s
noncomputable def MtR (X:Cx) (id:String) (r:V->List V->Hp->VK->Prop):Prop:=
 ∀ (pins:List (Addr × Obj)) (s:Shared) (σ:St) (H:Hp) (x:V) (xs:List V) (v:Value) (us:List Value) (Q:VK),Inv X pins σ H s->RelV x v->Vals xs us->r x xs H Q ->
   wpAny (model X.prog X.w) X.A (call (.builtin id) (v :: us)) (EP X pins σ Q) X.xe s
section
variable {X:Cx} {a b:Expr} {ta tb:TE} {pos:Pos}
theorem xB {r:R2} (hr:IxR X r) (ha:PE X a ta) (hb:PE X b tb) (hs:lK b):PE X (.Subscript a b pos) (tOp r ta tb):=by
 intro pins s σ H Q I h
 exact Subscript_ (yr ha hb I h λv u s2 x y H2 I2 rx ry q=>hr a b pins s2 σ H2 x y v u Q I2 rx ry q (hs _ _))
noncomputable def Bl (K:PySem.W.Frag):R2:=λx y H Q=>∃ p xs i v,x=.ref p/\y=.int i/\SqL K H p xs/\atI xs i=some v/\Q v H
noncomputable def Bt (K:PySem.W.Frag):R2:=λx y H Q=>∃ p xs i v,x=.ref p/\y=.int i/\SqT K H p xs/\atI xs i=some v/\Q v H
theorem p9:IxR X (Bl X.K):=by
 intro value slice pins s σ H x y v u Q I rx ry h hs
 obtain ⟨p,xs,i,z,rfl,rfl,hq,he,q⟩:=h
 cases rx
 obtain ⟨t,rfl⟩:=ry
 obtain ⟨its,r,pl,hz⟩:=I.list hq
 obtain ⟨j,h1,h2,h3,h4,h5⟩:=qA he
 obtain ⟨w,ew,rw'⟩:=r.get h2
 have hl:=r.length
 have hn:=lO
 have fin:EP X pins σ Q w s:=⟨z,H,I,rw',q⟩
 by_cases h0:0<=i
 · have hj:i.toNat=j:=by
     rw [seqIndex_of h0 h5] at h1
     exact Option.some.inj h1
   exact item_listR pl.isList h0 (by omega) (by rw [hj]; simpa using ew) fin hs
 · have hj:(i + (its.toArray.size:Int)).toNat=j:=by
     rw [seqIndex_neg (by omega) h4] at h1
     rw [List.size_toArray,<- hl]
     exact Option.some.inj h1
   exact subscriptTail_builtinR (x:=w) pl.isList.typeIs slot_list_getitem.lookup
     (wpAny_getItem_list_neg (Q:=λr s'=>r=w/\EP X pins σ Q r s') pl.isList (by omega) (by rw [List.size_toArray] <;> omega) (by omega) (by rw [hj]; simpa using ew) ⟨rfl,fin⟩) hs
theorem xZ:IxR X (Bt X.K):=by
 intro value slice pins s σ H x y v u Q I rx ry h hs
 obtain ⟨p,xs,i,z,rfl,rfl,hq,he,q⟩:=h
 cases rx
 obtain ⟨t,rfl⟩:=ry
 obtain ⟨its,r,pl,hz⟩:=I.tuple hq
 obtain ⟨j,h1,h2,h3,h4,h5⟩:=qA he
 obtain ⟨w,ew,rw'⟩:=r.get h2
 have hl:=r.length
 have hn:=lO
 have fin:EP X pins σ Q w s:=⟨z,H,I,rw',q⟩
 exact subscriptTail_builtinR (x:=w) pl.typeIs slot_tuple_getitem.lookup
   (getItem_tuple (j:=j) (Q:=λr s'=>r=w/\EP X pins σ Q r s') pl (by omega) (by omega) (by rw [List.size_toArray,<- hl]; exact h1) (by simpa using ew) ⟨rfl,fin⟩) hs
theorem oS (its:List Value) (n j:Nat) (u:Value):Obj.mapSeq (·.setIfInBounds j u) { cls:=.type "list",data:=.seq its.toArray n }={ cls:=.type "list",data:=.seq (its.set j u).toArray n }:=by
 simp [Obj.mapSeq]
theorem Inv.lst {pins:List (Addr × Obj)} {σ:St} {H:Hp} {s:Shared} {p:Addr} {xs:List V} (I:Inv X pins σ H s) (h:H p=some (.lst xs)) :
   ∃ (its:List Value) (n:Nat),Vals xs its/\s.heap.get? p=some { cls:=.type "list",data:=.seq its.toArray n }/\xs.length<=sizeLine:=by
 obtain ⟨z,its,n,r,e⟩:=I.hok p _ h
 exact ⟨its,n,r,e,z⟩
theorem Inv.yn {pins:List (Addr × Obj)} {σ:St} {H:Hp} {s:Shared} {p:Addr} {xs ys:List V} {its its':List Value} {n n':Nat} {f:Obj->Obj} (I:Inv X pins σ H s) (h:H p=some (.lst xs))
   (ho:s.heap.get? p=some { cls:=.type "list",data:=.seq its.toArray n }) (hf:f { cls:=.type "list",data:=.seq its.toArray n }={ cls:=.type "list",data:=.seq its'.toArray n' }) (r:Vals ys its') (hz:ys.length<=sizeLine) (t:Nat) :
   Inv X pins σ (upd H p (.lst ys)) { s with heap:=s.heap.update p f,toks:=t }:=by
 have e:(s.heap.update p f).get? p=some { cls:=.type "list",data:=.seq its'.toArray n' }:=by
   rw [Heap.get?_update_self f ho (by rw [hf] <;> rfl),hf]
 refine I.write (x:=p) (e:=p) (by rw [h]; trivial) (.inl rfl) (λb u hb q=>(Heap.get?_update_other _ _ (Ne.symm hb)).trans q) ⟨_,e⟩ ?_
 exact ⟨hz,its',n',r,e⟩
noncomputable def AE:V->V->V->Hp->(Hp->Prop)->Prop:=λo i v H Q=>∃ p xs k j,o=.ref p/\i=.int k/\H p=some (.lst xs)/\ixN xs.length k=some j/\Q (upd H p (.lst (xs.set j v)))
theorem set_list:Bb X AE:=by
 intro pins s σ H o i v ov iv u Q I ro ri rv h
 obtain ⟨p,xs,k,j,rfl,rfl,hp,hj,q⟩:=h
 cases ro
 obtain ⟨t,rfl⟩:=ri
 obtain ⟨its,n,r,ho,hz⟩:=I.lst hp
 obtain ⟨h1,h2,h3,h4⟩:=pK hj
 have hl:=r.length
 have hn:=lO
 have I':Inv X pins σ (upd H p (.lst (xs.set j v))) { s with heap:=s.heap.update p (Obj.mapSeq (·.setIfInBounds j u)) }:=
   I.yn hp ho (oS its n j u) (r.set rv j) (by rw [List.length_set]; exact hz) s.toks
 by_cases h0:0<=k
 · have hk:k.toNat=j:=by
     rw [seqIndex_of h0 h4] at h1
     exact Option.some.inj h1
   exact PySem.W.ki_setAt ho h0 (by omega) (by rw [List.size_toArray,<- hl]; exact h4) (by rw [hk]; exact ⟨_,I',q⟩)
 · have hk:(k + (its.toArray.size:Int)).toNat=j:=by
     rw [seqIndex_neg (by omega) h3] at h1
     rw [List.size_toArray,<- hl]
     exact Option.some.inj h1
   exact PySem.W.ki_setBack ho (by omega) (by rw [List.size_toArray,<- hl]; exact h3) (by omega) (by rw [hk]; exact ⟨_,I',q⟩)
theorem ly (lo hi:Option Int) (n:Nat):(sliceBounds lo hi none n).1=((HT.sIx n 0 lo:Nat):Int)/\(sliceBounds lo hi none n).2.1=((HT.sIx n n hi:Nat):Int)/\(sliceBounds lo hi none n).2.2=1:=by
 refine ⟨?_,?_,rfl⟩
 · cases lo with
   | none=>simp [sliceBounds,HT.sIx]
   | some i=>
     simp only [sliceBounds,HT.sIx,Option.getD_none,show (1:Int) > 0 by decide,if_true]
     by_cases h:i < 0
     · simp only [h,if_true] <;> omega
     · simp only [h,if_false] <;> omega
 · cases hi with
   | none=>simp [sliceBounds,HT.sIx]
   | some i=>
     simp only [sliceBounds,HT.sIx,Option.getD_none,show (1:Int) > 0 by decide,if_true]
     by_cases h:i < 0
     · simp only [h,if_true] <;> omega
     · simp only [h,if_false] <;> omega
theorem j3 (its:List Value) (lo hi:Option Int):slicePick its.toArray lo hi none=((its.drop (HT.sIx its.length 0 lo)).take (HT.sIx its.length its.length hi - HT.sIx its.length 0 lo)).toArray:=by
 obtain ⟨h1,h2,h3⟩:=ly lo hi its.toArray.size
 unfold slicePick
 rw [h1,h2,h3]
 simp only [sliceRange_one,pick_run,List.size_toArray] <;> rfl
noncomputable def Bq (K:PySem.W.Frag):V->Option Int->Option Int->Hp->VK->Prop:=λx lo hi H Q=>∃ a xs,x=.ref a/\SqL K H a xs/\∀ p,H p=none->Q (.ref p) (upd H p (.lst (jt xs lo hi)))
theorem vK:SlR X (Bq X.K):=by
 intro pins s σ H x v vl vu lo hi sl Q I rx hs pl pu h
 obtain ⟨a,xs,rfl,hx,q⟩:=h
 cases rx
 obtain ⟨its,r,ht,hz⟩:=I.list hx
 have hlen:=r.length
 refine ⟨"list",_,slot_list_getitem.lookup,ht.isList.typeIs,?_⟩
 refine wpAny_getItem_list_slice ht.isList hs pl pu .none (by simp) ?_ (by rw [List.size_toArray] <;> omega)
 rw [j3,<- hlen]
 refine ⟨.ref s.heap.objs.size,_,I.laid (t':=s.toks) (o:=.lst (jt xs lo hi)) (λb ob q=>Heap.get?_push_of_some _ q) (Nat.le_refl _) ?_,rfl,q _ (I.hok.fresh (Nat.le_refl _))⟩
 exact ⟨Nat.le_trans (iH xs lo hi) hz,_,0,(r.drop (HT.sIx xs.length 0 lo)).take (HT.sIx xs.length xs.length hi - HT.sIx xs.length 0 lo),Heap.get?_push_size _ rfl⟩
theorem gN:fu X (.builtin "len") (λxs H Q=>∃ p ys,xs=[.ref p]/\(SqL X.K H p ys\/SqT X.K H p ys)/\Q (.int ys.length) H):=by
 intro pins s σ H xs us Q I r h
 obtain ⟨p,ys,rfl,hq,q⟩:=h
 obtain ⟨u,rfl,rx⟩:=vals1 r
 cases rx
 have hn:=lO
 rcases hq with hq | hq
 · obtain ⟨its,r',pl,hz⟩:=I.list hq
   have hlen:=r'.length
   exact Calls.call_len_list pl.isList (by simp only [List.size_toArray] <;> omega) ⟨.int ys.length,H,I.tok _,⟨s.toks + 1,by rw [List.size_toArray,hlen]⟩,q⟩
 · obtain ⟨its,r',pl,hz⟩:=I.tuple hq
   have hlen:=r'.length
   exact len_tuple pl (by simp only [List.size_toArray] <;> omega) ⟨.int ys.length,H,I.tok _,⟨s.toks + 1,by rw [List.size_toArray,hlen]⟩,q⟩
theorem gm:fu X (.type "list") (λxs H Q=>∃ p ys,xs=[.ref p]/\(SqL X.K H p ys\/SqT X.K H p ys)/\∀ l,H l=none->Q (.ref l) (upd H l (.lst ys))):=by
 intro pins s σ H xs us Q I r h
 obtain ⟨p,ys,rfl,hq,q⟩:=h
 obtain ⟨u,rfl,rx⟩:=vals1 r
 cases rx
 have fin:∀ (its:List Value),Vals ys its->ys.length<=sizeLine->∀ (h':Heap) (c':Nat),(∀ b o',s.heap.get? b=some o'->h'.get? b=some o') ->
     h'.get? s.heap.objs.size=some { cls:=.type "list",dict:=none,data:=.seq its.toArray c',slots:=#[] }->EP X pins σ Q (.ref s.heap.objs.size) { s with heap:=h' }:=λits r' hz h' c' kp e=>
   ⟨.ref s.heap.objs.size,_,I.laid (t':=s.toks) kp (Nat.le_refl _) (show bf X.prog X.w _ h' _ (.lst ys) from ⟨hz,its,c',r',e⟩),rfl,q _ (I.hok.fresh (Nat.le_refl _))⟩
 rcases hq with hq | hq
 · obtain ⟨its,r',pl,hz⟩:=I.list hq
   have hlen:=r'.length
   obtain ⟨o,ho,hc,n,hd⟩:=pl.isList
   exact call_list_seq p (.inl rfl) ho hc hd (λh' c' kp e=>fin its r' hz h' c' kp e) (by simp only [List.size_toArray] <;> omega)
 · obtain ⟨its,r',pl,hz⟩:=I.tuple hq
   have hlen:=r'.length
   obtain ⟨o,ho,hc,n,hd⟩:=pl
   exact call_list_seq p (.inr rfl) ho hc hd (λh' c' kp e=>fin its r' hz h' c' kp e) (by simp only [List.size_toArray] <;> omega)
noncomputable def tyV (K:PySem.W.Frag) (T:String) (x:V) (H:Hp):Prop:=match x with
 | .str _=>T = "str"
 | .int _=>T = "int"
 | .ref p=>(T = "list" /\ ∃ xs,SqL K H p xs)\/(T = "tuple" /\ ∃ o,K.lookup p=some o/\o.cls=.type "tuple" /\ o.dict=none) \/
     (T = "dict" /\ ((∃ kvs,H p=some (.dK kvs))\/∃ kvs,H p=some (.dT kvs)))\/(T = "set" /\ ∃ S n,H p=some (.set S n))
 | _=>False
theorem zv {pins:List (Addr × Obj)} {σ:St} {H:Hp} {s:Shared} {T:String} {x:V} {v:Value} (I:Inv X pins σ H s) (r:RelV x v) (ty:tyV X.K T x H) :
   s.TypeIs v T/\∀ a,v=.ref a->∃ ob,s.heap.get? a=some ob/\ob.dict=none:=by
 cases x with
 | str z=>
   obtain ⟨t,rfl⟩:=r
   cases (show T = "str" from ty)
   exact ⟨typeIs_str s z t,λ_ e=>nomatch e⟩
 | int i=>
   obtain ⟨t,rfl⟩:=r
   cases (show T = "int" from ty)
   exact ⟨typeIs_int s i t,λ_ e=>nomatch e⟩
 | ref p=>
   cases r
   rcases ty with ⟨rfl,xs,hq⟩ | ⟨rfl,o,hk,hc,hd⟩ | ⟨rfl,hk⟩ | ⟨rfl,S,n,hk⟩
   · obtain ⟨its,_,pl,_⟩:=I.list hq
     refine ⟨pl.isList.typeIs,λa e=>?_⟩
     cases e
     obtain ⟨o,n,e,c,hd,_⟩:=pl
     exact ⟨o,e,hd⟩
   · refine ⟨⟨o,I.kIn p o hk,hc⟩,λa e=>?_⟩
     cases e
     exact ⟨o,I.kIn _ o hk,hd⟩
   · have z:∃ o,s.heap.get? p=some o/\o.ExactDict:=by
       rcases hk with ⟨kvs,hk⟩ | ⟨kvs,hk⟩
       · obtain ⟨_,_,_,_,o,_,_,e,ex,_⟩:=I.hok p _ hk
         exact ⟨o,e,ex⟩
       · obtain ⟨_,_,_,_,o,_,_,e,ex,_⟩:=I.hok p _ hk
         exact ⟨o,e,ex⟩
     obtain ⟨o,e,ex⟩:=z
     refine ⟨⟨o,e,ex.1⟩,λa e2=>?_⟩
     cases e2
     exact ⟨o,e,ex.2.1⟩
   · obtain ⟨o,_,_,_,e,ex,_⟩:=I.hok p _ hk
     refine ⟨⟨o,e,ex.1⟩,λa e2=>?_⟩
     cases e2
     exact ⟨o,e,ex.2.1⟩
 | _=>exact False.elim ty
noncomputable def tBM (K:PySem.W.Frag) (T:String) (r:V->List V->Hp->VK->Prop) (to:TE) (t:TA):TE:=λσ H Q=>to σ H λx H1=>tyV K T x H1/\t σ H1 λxs H2=>r x xs H2 Q
variable {o e:Expr} {es:List Expr} {to:TE} {t:TA} {name:Str} {apos cpos:Pos} {T id:String} {r:V->List V->Hp->VK->Prop}
theorem kG (pa:PlainAttrs T) (slot:Slot T name id) (hty:typeOf (.builtin id)=pure (.type "method_descriptor")) (hm:MtR X id r) (ho:PE X o to) (ha:PA X (e :: es) t)
   (hbase:attributeBase o name X.env (eval o X.env)=eval o X.env:=by rfl)
   (hfew:((backTo cpos (starEach (e :: es) X.env)).all (λx=>!x.1) && (backToKw cpos (keywordEach [] X.env)).all (λx=>x.1.isSome)
     && decide ((e :: es).length + ([]:List Keyword).length + (if ([]:List Keyword).isEmpty then 0 else 1) < 30))=true:=by rfl)
   (hline:(apos.endLine == cpos.line)=true:=by rfl) (hs:starEach (e :: es) X.env=(false,eval e X.env) :: starEach es X.env:=by rfl) (hplain:(backTo cpos (starEach es X.env)).any (·.1)=false:=by rfl) :
   PE X (.Call (.Attribute o name apos) (e :: es) [] cpos) (tBM X.K T r to t):=by
 intro pins s σ H Q I h
 refine wpAny_Call_method_late hbase hfew hline rfl (thn (ho pins s σ H _ I h) λv s1 ⟨x,H1,I1,r1,ty,q1⟩=>?_)
 obtain ⟨h1,h2⟩:=zv I1 r1 ty
 refine ⟨T,id,pa,slot,hty,h1,h2,?_⟩
 have hA:=ha cpos pins s1 σ H1 _ I1 q1
 rw [hs] at hA ⊢
 refine Calls.callWith_builtin (by show (false || (backTo cpos (starEach es X.env)).any (·.1))=false; rw [hplain] <;> rfl) (Calls.evalArgs_plain ?_)
 exact thn hA λus s2 ⟨vs,H2,I2,r2,q2⟩=>hm pins s2 σ H2 x vs v us Q I2 r1 r2 q2
end
noncomputable def MtM (X:Cx) (id:String) (r:V->List V->Hp->VK->Prop):Prop:=
 ∀ (pins:List (Addr × Obj)) (s:Shared) (σ:St) (H:Hp) (x:V) (xs:List V) (v:Value) (us:List Value) (Q:VK),Inv X pins σ H s->RelV x v->Vals xs us->r x xs H Q ->
   wpAny (model X.prog X.w) X.A (call (.builtin id) (v :: us)) (EP X pins σ Q) X.xe s
theorem Vals.one:∀ {x:V} {us:List Value},Vals [x] us->∃ u,us=[u]/\RelV x u
 | _,_,.cons r .nil=>⟨_,rfl,r⟩
theorem Vals.two:∀ {x y:V} {us:List Value},Vals [x,y] us->∃ u v,us=[u,v]/\RelV x u/\RelV y v
 | _,_,_,.cons r (.cons q .nil)=>⟨_,_,rfl,r,q⟩
theorem Vals.eraseIdx:∀ {xs:List V} {us:List Value} (i:Nat),Vals xs us->Vals (xs.eraseIdx i) (us.eraseIdx i)
 | _,_,_,.nil=>.nil
 | _,_,0,.cons _ t=>t
 | _,_,i + 1,.cons r t=>.cons r (Vals.eraseIdx i t)
theorem ko {α:Type}:∀ (l:List α) (i:Nat),(l.eraseIdx i).length<=l.length
 | [],_=>Nat.le_refl _
 | _ :: _,0=>Nat.le_succ _
 | _ :: r,i + 1=>Nat.succ_le_succ (ko r i)
section
variable {X:Cx} {pins:List (Addr × Obj)} {σ:St} {H:Hp} {s:Shared} {l b:Addr} {xs ys zs:List V}
theorem Inv.w4 {its its':List Value} {n:Nat} {f:Array Value->Array Value} {t':Nat} (I:Inv X pins σ H s) (hH:H l=some (.lst xs))
   (e:s.heap.get? l=some { cls:=.type "list",data:=.seq its.toArray n }) (hf:f its.toArray=its'.toArray) (hv:Vals ys its') (hz:ys.length<=sizeLine) :
   Inv X pins σ (upd H l (.lst ys)) { s with heap:=s.heap.update l (Obj.mapSeq f),toks:=t' }:=by
 have q:=PySem.IsL.update e f
 rw [hf] at q
 refine I.write (x:=l) (e:=l) (by rw [hH]; exact trivial) (.inl rfl) (λb' u hb hu=>(Heap.get?_update_other s.heap (Obj.mapSeq f) (Ne.symm hb)).trans hu) ⟨_,q⟩ ?_
 exact ⟨hz,its',_,hv,q⟩
theorem Inv.Bf {its:List Value} {t':Nat} (I:Inv X pins σ H s) (hv:Vals ys its) (hz:ys.length<=sizeLine) :
   Inv X pins σ (upd H s.heap.objs.size (.lst ys)) { s with heap:=s.heap.push { cls:=.type "list",data:=.seq its.toArray },toks:=t' }:=
 I.laid (λ_ _ q=>Heap.get?_push_of_some _ q) (Nat.le_refl _) ⟨hz,its,0,hv,Heap.get?_push_size _ rfl⟩
theorem Inv.fresh (I:Inv X pins σ H s):H s.heap.objs.size=none:=I.hok.fresh (Nat.le_refl _)
theorem Inv.tF (I:Inv X pins σ H s) (hH:H l=some (.lst xs)):xs.length<=sizeLine/\∃ (its:List Value) (n:Nat),Vals xs its/\xs.length=its.length/\s.heap.get? l=some { cls:=.type "list",data:=.seq its.toArray n }:=by
 obtain ⟨z,its,n,r,e⟩:=I.hok l _ hH
 exact ⟨z,its,n,r,r.length,e⟩
theorem si {n:Nat} (h:n<=sizeLine):Builtin.List.listTooLong n=false:=by
 unfold Builtin.List.listTooLong
 exact decide_eq_false (by omega)
end
section
variable {X:Cx}
noncomputable def wb:V->List V->Hp->VK->Prop:=λx vs H Q=>∃ l xs y,x=.ref l/\vs=[y]/\H l=some (.lst xs)/\xs.length < sizeLine/\Q .non (upd H l (.lst (xs++[y])))
theorem dD:MtM X "list.append" wb:=by
 intro pins s σ H x vs v us Q I rx rv h
 obtain ⟨l,xs,y,rfl,rfl,hH,hz,q⟩:=h
 cases rx
 obtain ⟨u,rfl,ru⟩:=rv.one
 obtain ⟨z,its,n,r,hl,e⟩:=I.tF hH
 refine call_meets F.slot_list_append ⟨_,e,rfl⟩ F.entry_list_append (F.args_list_append_2 _ _) (PySem.list_append l its.toArray n u (by rw [List.size_toArray]; omega)) ⟨e,?_⟩
 refine ⟨.non,_,I.w4 (its':=its++[u]) hH e (by simp) (r.append (.cons ru .nil)) ?_,rfl,q⟩
 rw [List.length_append,List.length_singleton]
 omega
noncomputable def wL:V->List V->Hp->VK->Prop:=λx vs H Q=>∃ l b xs zs,x=.ref l/\vs=[.ref b]/\H l=some (.lst xs)/\H b=some (.lst zs)/\xs.length + zs.length<=sizeLine/\Q .non (upd H l (.lst (xs++zs)))
theorem rK:MtM X "list.extend" wL:=by
 intro pins s σ H x vs v us Q I rx rv h
 obtain ⟨l,b,xs,zs,rfl,rfl,hH,hB,hz,q⟩:=h
 cases rx
 obtain ⟨u,rfl,ru⟩:=rv.one
 cases ru
 obtain ⟨z,its,n,r,hl,e⟩:=I.tF hH
 obtain ⟨z2,its2,n2,r2,hl2,e2⟩:=I.tF hB
 have hsz:its.toArray.size + its2.toArray.size<=sizeLine:=by rw [List.size_toArray,List.size_toArray]; omega
 have hlong:¬ (!its.toArray.isEmpty && Builtin.List.listTooLong (its.toArray.size + its2.toArray.size))=true:=by
   rw [si hsz,Bool.and_false]
   exact Bool.false_ne_true
 refine call_meets F.slot_list_extend ⟨_,e,rfl⟩ F.entry_list_extend (F.args_list_extend_2 _ _)
   (AutoSeq1.list_extend_list_list_0 l its.toArray n b its2.toArray n2 hlong (by rw [List.size_toArray]; omega) (by omega)) ⟨e,e2,?_⟩
 refine ⟨.non,_,I.w4 (its':=its++its2) hH e (by simp) (r.append r2) ?_,rfl,q⟩
 rw [List.length_append]
 omega
noncomputable def yH:V->List V->Hp->VK->Prop:=λx vs H Q=>∃ l xs i k y,x=.ref l/\vs=[.int i]/\H l=some (.lst xs)/\-(2 ^ 63)<=i/\i < 2 ^ 63/\seqIndex? i xs.length=some k/\xs[k]?=some y/\Q y (upd H l (.lst (xs.eraseIdx k)))
theorem sD:MtM X "list.pop" yH:=by
 intro pins s σ H x vs v us Q I rx rv h
 obtain ⟨l,xs,i,k,y,rfl,rfl,hH,h1,h2,hk,hy,q⟩:=h
 cases rx
 obtain ⟨u,rfl,ru⟩:=rv.one
 obtain ⟨t,rfl⟩:=ru
 obtain ⟨z,its,n,r,hl,e⟩:=I.tF hH
 obtain ⟨w,hw,rw'⟩:=r.get hy
 refine call_meets F.slot_list_pop ⟨_,e,rfl⟩ F.entry_list_pop (F.args_list_pop_2 _ _)
   (MeetsSeq.list_pop_at l its.toArray n i t k w (fitsIndex_both h1 h2) (by rw [List.size_toArray,<- hl]; exact hk) (by rw [<- Array.getElem?_toList]; exact hw) (by rw [List.size_toArray]; omega)) ⟨e,?_⟩
 refine ⟨y,_,I.w4 (its':=its.eraseIdx k) hH e ?_ (r.eraseIdx k) ?_,rw',q⟩
 · show its.toArray.eraseIdxIfInBounds k=(its.eraseIdx k).toArray
   rw [List.eraseIdxIfInBounds_toArray]
 · have:=ko xs k
   omega
end
section
variable {prog:Program} {w:World} {A:Around} {E:Value->Shared->Prop} {s:Shared}
end
section
variable {X:Cx}
end
end L2
namespace Att
open PySem PySem.W PySem.Calls PyProof.Rows
theorem iO {P:Params} {h:Heap}:∀ (ns:List Int) (vs:List Value),WellAll P h vs (ns.map WData.int)->IntsAre vs ns:=by
 intro ns
 induction ns with
 | nil=>
   intro vs w
   rw [List.map_nil] at w
   cases w
   exact .nil
 | cons n ns ih=>
   intro vs w
   rw [List.map_cons] at w
   cases w with
   | cons a b=>
     cases a
     exact .cons _ _ (ih _ b)
theorem sh {l:OpenLaw} {n:Nat} (hn:l.most=some n) {P:Params} {h:Heap} {args:List WData} {vals:List Value}
   (hpre:l.row.toRowW.claim.pre args=true) (hwl:WellAll P h vals args) :
   ∃ a vs ns,vals=[Value.ref a]/\args=[WData.list (ns.map WData.int)]/\h.get? a=some { cls:=.type "list",data:=.seq vs.toArray }/\IntsAre vs ns/\ns.length<=n:=by
 have hsh:WShape.hasAll [] args [.list .int]=true:=(pre_splitW hpre).1
 have hc:l.pre.holds [] { args:=args }=true:=(pre_splitW hpre).2
 obtain ⟨d,r,rfl,h1,h2⟩:=hasAllW_cons hsh
 obtain rfl:=hasAllW_nil h2
 obtain ⟨xs,rfl,h3⟩:=hasW_list h1
 obtain ⟨ns,rfl⟩:=items_int h3
 have hlen:ns.length<=n:=by
   unfold OpenLaw.pre at hc
   have h4:(WTm.not (.lt (.lit (.int (n:Int))) (.len (.arg 0)))).holds [] { args:=[.list (ns.map .int)] }=true:=by
     have h4:=(holds_andW hc).1
     rw [hn] at h4
     exact h4
   have h5:=condW_of h4 (w_not (w_lt w_lit (w_len_list (w_arg rfl))))
   rw [List.length_map] at h5
   refine Nat.le_of_not_lt λq=>?_
   have q':(n:Int) < ((ns.length:Nat):Int):=by omega
   first
     | (rw [decide_eq_true q'] at h5; exact absurd h5 (by decide))
     | (simp at h5; omega)
 cases hwl with
 | cons w1 w2=>
   cases w2
   cases w1 with
   | list ho hall=>exact ⟨_,_,ns,rfl,rfl,ho,iO ns _ hall,hlen⟩
theorem q0 (l:OpenLaw) (args:List WData):l.row.toRowW.claim.post args (.bool true) args=true:=
 postW_of (r:=l.row.toRowW) (X:=(true == true))
   (show WShape.has [] (.bool true) .bool=true by first | rfl | decide | simp [WShape.has,WShape.arms,WShape.armsAll])
   (show (WTm.eq .res (.lit (.bool true))).value [] { args:=args,res:=some (.bool true),after:=args }=some (.bool (true == true)) from w_eq_bool (w_res rfl) w_lit) rfl
theorem mT {l:OpenLaw} {n:Nat} {q:Program} {loose:List Str} {XP:(Str->Option Value)->Heap->Prop} {YP:World->Heap->Prop} {d:DefRec}
   (hn:l.most=some n) (hdf:d.params.defaults=[])
   (call:∀ (w:World) (s₀ s₁:Shared) (mg mb:Str->Option Value) (fa:Addr) (o:Obj) (pm cd doc:Value) (a:Addr) (vs:List Value) (ns:List Int),
     Ground q loose [] XP w s₀ mg mb s₁.heap->YP w s₁.heap ->
     s₁.heap.get? fa=some o->o.data=.func (docDef d.name d.params d.body d.scope pm cd doc)->s₁.heap.CodeRec cd d.name->mg d.name=some (.ref fa) ->
     s₁.heap.get? a=some { cls:=.type "list",data:=.seq vs.toArray }->IntsAre vs ns->ns.length<=n->s₁.gens=#[] ->
     codeAny (model l.prog w) callerA (.call (.ref fa) ⟨[.ref a],[]⟩) (λr s'=>r=.ok (.ret (.bool true))/\OldK s₁.heap s'.heap/\s'.os=s₁.os/\AllBare s'.gens) s₁) :
   WalkO q loose XP YP l.row.toRowW d [] (λf vs=>PySem.call f vs):=by
 intro w s₀ s₁ mg mb G Y fa o pm cd doc dV kV ho hd hcd hD hmg hg args vals as hpre hlay hrd hwl hlo
 obtain rfl:dV=.none:=Dflts.none hD hdf
 obtain rfl:kV=.none:=Dflts.noKw hD
 obtain ⟨a,vs,ns,rfl,rfl,hobj,hints,hlen⟩:=sh hn hpre hwl
 refine enter_call (codeAny_mono (call w s₀ s₁ mg mb fa o pm cd doc a vs ns G Y ho (fd_plain hd) hcd hmg hobj hints hlen hg) λr s' hq=>?_)
 obtain ⟨rfl,h2,h3,h4⟩:=hq
 exact ⟨.inl ⟨.bool true,.bool true,[],rfl,λ_=>rfl,.bool true,q0 l _,λ_=>⟨List.Pairwise.nil,λ_ hm=>(nomatch hm)⟩⟩,h2,h3,h4⟩
section
variable {prog:Program} {w:World} {A:Around} {E:Value->Shared->Prop} {s:Shared} {K:Frag}
end
end Att
namespace L2
open PySem PySem.Spec PyProof.Rows
theorem kR:∀ {vs:List Value} {ns:List Int},IntsAre vs ns->Vals (ns.map V.int) vs
 | _,_,.nil=>.nil
 | _,_,.cons n t h=>.cons ⟨t,rfl⟩ (kR h)
noncomputable def yE (H:Hp):Prop:=∀ b,H b=none\/∃ o xs,H b=some (.frz o (.lst xs))
theorem uT {P:Program} {w:World} {K:PySem.W.Frag} {mg mb:Str->Option Value} {CX:CXT} {k:Nat} {fa a:Addr} {fd:FuncData} {x:Str} {sp:Sp} {s₁:Shared} {vs:List Value} {ns:List Int}
   (KX:K.In s₁.heap) (hns:s₁.heap.Ns mainGlobals mg) (hb:s₁.heap.Ns builtinsNs mb) (hbb:∀ x:Str,x ≠ "__name__" -> mb x=bootBuiltins x) (hlim:s₁.heap.NoLimit) (hg:s₁.gens=#[])
   (ha:s₁.heap.get? a=some { cls:=.type "list",data:=.seq vs.toArray }) (hi:IntsAre vs ns) (hl:ns.length<=sizeLine) (hr:eY k callerA)
   (F:∀ base:Heap,K.In base->base.Ns mainGlobals mg->aR P w K mg base CX k fa fd [x] sp) (hbind:∀ (s:Shared) (u:Value),BindsTo s fd ⟨[u],[]⟩ [(x,u)])
   (hsp:∀ H:Hp,yE H->SqL K H a (ns.map V.int)->sp [.ref a] H (λv _=>v=.bl true) λ_ _ _=>False)
   (hCX:∀ H e s',CX [] H s₁ (λ_ _ _=>False) e s'->False) :
   codeAny (model P w) callerA (.call (.ref fa) ⟨[.ref a],[]⟩) (λr s'=>r=.ok (.ret (.bool true))/\OldK s₁.heap s'.heap/\s'.os=s₁.os/\AllBare s'.gens) s₁:=by
 have rv:=kR hi
 have lenV:=hi.length
 have core:∀ H:Hp,yE H->SqL K H a (ns.map V.int)->HOk P w H s₁.heap->(∀ b,H b ≠ none->b=a)->(H a ≠ none->K.lookup a=none) ->
     codeAny (model P w) callerA (.call (.ref fa) ⟨[.ref a],[]⟩) (λr s'=>r=.ok (.ret (.bool true))/\OldK s₁.heap s'.heap/\s'.os=s₁.os/\AllBare s'.gens) s₁:=by
   intro H hO hS hok hA hK
   have base_of:∀ {b:Addr} {o:Obj},s₁.heap.get? b=some o->H b=none->(l5 s₁.heap H).get? b=some o:=λe n=>vc e n
   have noA:∀ {b:Addr} {o:Obj} {es:Array DictEntry} {ep:Nat},s₁.heap.get? b=some o->o.data=.dict es ep->H b=none:=λ{b o es ep} e d=>by
     cases q:H b with
     | none=>rfl
     | some u=>
       have e':b=a:=hA b (by rw [q]; simp)
       subst e'
       rw [ha] at e; cases e
       have d':Data.seq vs.toArray _=Data.dict es ep:=d
       cases d'
   have nsK:∀ {b:Addr} {m:Str->Option Value},s₁.heap.Ns b m->(l5 s₁.heap H).Ns b m:=λ{b m} ⟨o,es,ep,e,d,r⟩=>⟨o,es,ep,base_of e (noA e d),d,r⟩
   have hKb:K.In (l5 s₁.heap H):=λb o e=>base_of (KX b o e) (by
     cases q:H b with
     | none=>rfl
     | some u=>
       have e':b=a:=hA b (by rw [q]; simp)
       subst e'
       rw [hK (by rw [q]; simp)] at e; cases e)
   have hM:Mod K mg (l5 s₁.heap H):=⟨hKb,nsK hns,⟨mb,nsK hb,hbb⟩,let ⟨mc,h1,h2⟩:=hlim; ⟨mc,nsK h1,h2⟩⟩
   have e0:wA P w K mg (l5 s₁.heap H) callerA [] s₁ H:=⟨rfl,hM,λb o e=>wI e,Nat.le_of_eq (rM _ _),trivial,λb hb=>absurd (show b ∈ ([]:List Addr) from hb) (by simp),hok,.of_eq hg⟩
   refine codeAny_mono ((F _ hKb (nsK hns)).run callerA [] s₁ H ⟨[.ref a],[]⟩ [.ref a] [.ref a] _ _ hr e0 (hbind s₁ (.ref a)) (.cons rfl .nil) (hsp H hO hS)) λr s' h=>?_
   cases r with
   | error e=>exact (hCX H e s' h).elim
   | ok fl=>
     cases fl with
     | next=>exact False.elim h
     | brk=>exact False.elim h
     | cont=>exact False.elim h
     | ret u=>
       obtain ⟨v,H',os,bare,un,hok',r',q⟩:=h
       have q':v=.bl true:=q
       subst q'
       obtain rfl:u=Value.bool true:=r'
       refine ⟨rfl,OldK.of_keep λb o e=>?_,os,bare⟩
       cases q:H b with
       | none=>exact un.keep b o e q (by intro z; exact absurd (show b ∈ ([]:List Addr) from z) (by simp)) (by simp)
       | some u=>
         rcases hO b with z | ⟨ob,xs,z⟩
         · rw [q] at z; cases z
         · have z2:=un.frzs b ob _ z
           obtain ⟨e1,_⟩:=hok b _ z
           obtain ⟨e2,_⟩:=hok' b _ z2
           rw [e] at e1; cases e1
           exact e2
 cases hk:K.lookup a with
 | some o=>
   have e:=KX a o hk
   rw [ha] at e
   cases e
   refine core (λ_=>none) (λ_=>.inl rfl) (.inr ⟨_,vs.toArray,_,hk,rfl,rfl,rfl,by rw [List.size_toArray,lenV]; exact hl,by simpa using rv⟩) (λb u z=>by have z':(none:Option HO)=some u:=z; cases z') (λb z=>absurd rfl z) λz=>absurd rfl z
 | none=>
   refine core (λb=>if b=a then some (.frz { cls:=.type "list",data:=.seq vs.toArray } (.lst (ns.map V.int))) else none) (λb=>?_) (.inl (.inr ⟨{ cls:=.type "list",data:=.seq vs.toArray },if_pos rfl⟩)) (λb u z=>?_) (λb z=>?_) λ_=>hk
   · by_cases hb:b=a
     · exact .inr ⟨_,_,if_pos hb⟩
     · exact .inl (if_neg hb)
   · by_cases hb:b=a
     · have z':=(if_pos hb).symm.trans z
       cases z'
       subst hb
       exact ⟨ha,by rw [List.length_map]; exact hl,vs,_,rv,ha⟩
     · have z':=(if_neg hb).symm.trans z
       cases z'
   · by_cases hb:b=a
     · exact hb
     · exact absurd (if_neg hb) z
theorem v8 {l:PySem.W.OpenLaw} {n k:Nat} {q:Program} {loose:List Str} {XP:(Str->Option Value)->Heap->Prop} {YP:World->Heap->Prop} {d:DefRec} {K:Params->PySem.W.Frag} {CX:World->CXT} {sp:World->Sp} {x:Str}
   (hn:l.most=some n) (hn2:n<=sizeLine) (hdf:d.params.defaults=[]) (hr:eY k callerA)
   (hY:∀ (w:World) (h:Heap),YP w h->(K w.params).In h)
   (F:∀ (w:World) (mg:Str->Option Value) (fa:Addr) (h:Heap),(K w.params).In h->h.Ns mainGlobals mg->mg d.name=some (.ref fa) ->
     ∃ fd:FuncData,(∀ (s:Shared) (u:Value),BindsTo s fd ⟨[u],[]⟩ [(x,u)]) /\
       ∀ base:Heap,(K w.params).In base->base.Ns mainGlobals mg->aR l.prog w (K w.params) mg base (CX w) k fa fd [x] (sp w))
   (hsp:∀ (w:World) (H:Hp) (a:Addr) (ns:List Int),ns.length<=n->yE H->SqL (K w.params) H a (ns.map V.int)->sp w [.ref a] H (λv _=>v=.bl true) λ_ _ _=>False)
   (hCX:∀ (w:World) (H:Hp) (s:Shared) (e:Value) (s':Shared),CX w [] H s (λ_ _ _=>False) e s'->False) :
   PySem.W.WalkO q loose XP YP l.row.toRowW d [] (λf vs=>PySem.call f vs):=by
 refine Att.mT hn hdf λw s₀ s₁ mg mb fa o pm cd doc a vs ns G Y ho hd hcd hmg hobj hints hlen hg=>?_
 have KX:=hY w _ Y
 obtain ⟨fd,hb,hF⟩:=F w mg fa _ KX G.T.g hmg
 exact uT KX G.T.g G.T.b G.T.builtins G.T.nolimit hg hobj hints (Nat.le_trans hlen hn2) hr hF hb (λH hO hS=>hsp w H a ns hlen hO hS) λH e s'=>hCX w H s₁ e s'
noncomputable def cc (s:Stmt):Arguments:=match s with
 | .FunctionDef _ a _ _ _ _ _ _ _ _=>a
 | _=>{ posonlyargs:=[],args:=[],vararg:=none,kwonlyargs:=[],kw_defaults:=[],kwarg:=none,defaults:=[] }
noncomputable def bL (s:Stmt):List Stmt:=match s with
 | .FunctionDef _ _ b _ _ _ _ _ _ _=>b
 | _=>[]
noncomputable def ag (s:Stmt):Scope:=match s with
 | .FunctionDef _ _ _ _ _ _ sc _ _ _=>sc
 | _=>{ kind:=.function,names:=[],isGenerator:=false,isCoroutine:=false }
noncomputable abbrev CX0:CXT:=λ_ _ _ _ _ _=>False
noncomputable abbrev E0:XK:=λ_ _ _=>False
theorem zK {X:Cx}:Passes CX0 X E0:=λ_ _ _ _ _ _ _ h=>h.elim
structure Fun (K:PySem.W.Frag) (x qual:Str) (st:Stmt) (f:Addr) (fd:FuncData):Prop where
 ex:∃ (oc:Value) (od:Option Addr) (dV kV doc pm:Value) (an:Option Addr) (cdv ct:Value) (osl:Array (Option Value)),
   fd=PySem.W.fnOf x qual (cc st) (bL st) (ag st) dV kV doc pm an cdv ct/\K.lookup f=some ⟨oc,od,.func fd,osl⟩/\PySem.W.codeIn K cdv qual=true
 kp:PySem.W.keepIn K (.ref f)=true
section
variable {P:Program} {w:World} {K:PySem.W.Frag} {mg:Str->Option Value} {base:Heap}
theorem Fun.ok {x qual:Str} {st:Stmt} {f:Addr} {fd:FuncData} {N ps:List Str} {k:Nat} {sp:Sp} (F:Fun K x qual st f fd) (S:az N ps (ag st)) (len:∀ vs H Q E,sp vs H Q E->vs.length=ps.length)
   (hbody:∀ (cdv:Value) (A:Around) (outer:List Env) (s:Shared) (H:Hp) (vs:List V) (Q:VK) (E:XK),eY k (A.deeper (envOfC qual (ag st) s.heap.objs.size f cdv))->sp vs H Q E ->
     ∃ t,PSs (oN CX0 P w K mg base N qual (ag st) f cdv A outer s H E).nox (bL st) t/\t { nx:=λ_ H'=>Q .non H',rt:=Q } (start N vs) H):aR P w K mg base CX0 (k + 1) f fd ps sp:=by
 obtain ⟨oc,od,dV,kV,doc,pm,an,cdv,ct,osl,rfl,lk,hcd⟩:=F.ex
 refine AO lk hcd S len λA outer s H vs Q E hr hsp=>?_
 obtain ⟨t,h,q⟩:=hbody cdv A outer s H vs Q E hr hsp
 exact ⟨t,h.nox,q⟩
theorem Fun.binds {x qual:Str} {st:Stmt} {f:Addr} {fd:FuncData} {ps:List Str} (_:Fun K x qual st f fd) (h:∀ us:List Value,us.length=ps.length->bindArgs fd ⟨us,[]⟩=pure (ps.zip us)):Binds K fd ps []:=.all h
theorem pw {x qual:Str} {st:Stmt} {f:Addr} {oc:Value} {od an:Option Addr} {osl:Array (Option Value)} {dV kV doc pm cdv ct:Value} (l:K.lookup f=some ⟨oc,od,.func (PySem.W.fnOf x qual (cc st) (bL st) (ag st) dV kV doc pm an cdv ct),osl⟩)
   (c:PySem.W.codeIn K cdv qual=true) (k:PySem.W.keepIn K (.ref f)=true):Fun K x qual st f (PySem.W.fnOf x qual (cc st) (bL st) (ag st) dV kV doc pm an cdv ct):=⟨⟨oc,od,dV,kV,doc,pm,an,cdv,ct,osl,rfl,l,c⟩,k⟩
end
theorem kq {n:Nat} (h:n<=1000):n < sizeLine:=Nat.lt_of_le_of_lt h (by decide)
section
variable {X:Cx}
theorem pv (i:Nat) {x:Str} {pos:Pos} (hN:X.N[i]?=some x:=by rfl) (hv:Vis X.env.scope x:=by first | exact Or.inl rfl | exact Or.inr (Or.inl rfl) | exact Or.inr (Or.inr rfl)) (hd:(x == ("__debug__" : Str))=false:=by decide)
   (hcd:(x == ("__classdict__" : Str))=false:=by decide):PE X (.Name x pos) (A6 i):=bG hN hv hd hcd
end
theorem uD {A B:Prop} (h:B):if false=true then A else B:=by
 rw [if_neg Bool.false_ne_true]
 exact h
theorem rA {A B:Prop} (h:A):if true=true then A else B:=by
 rw [if_pos rfl]
 exact h
noncomputable def ah (H H':Hp):Prop:=∀ b o,H b=some o->H' b=some o
theorem ah.refl (H:Hp):ah H H:=λ_ _ h=>h
theorem ah.trans {H H1 H2:Hp} (a:ah H H1) (b:ah H1 H2):ah H H2:=λc o h=>b c o (a c o h)
theorem ah.free {H H':Hp} (e:ah H H') {l:Addr} (h:H' l=Option.none):H l=Option.none:=by
 cases q:H l with
 | none=>rfl
 | some o=>
   rw [e l o q] at h
   cases h
theorem ah.seq {K:PySem.W.Frag} {H H':Hp} {a:Addr} {xs:List V} (e:ah H H') (h:SqL K H a xs):SqL K H' a xs:=by
 rcases h with (h | ⟨o,h⟩) | h
 · exact .inl (.inl (e _ _ h))
 · exact .inl (.inr ⟨o,e _ _ h⟩)
 · exact .inr h
end L2
set_option linter.all false
set_option maxRecDepth 100000
namespace Hx
open PySem PySem.Spec PyProof.Rows
section
variable {M:Model} {A:Around} {E:Value->Shared->Prop} {s:Shared}
end
end Hx
namespace Hx
open PySem PySem.Spec PySem.Calls PyProof.Rows PySem.W
section
variable {prog:Program} {w:World} {A:Around} {E:Value->Shared->Prop} {s:Shared} {K:Frag} {x D:Addr} {ox:Obj}
end
end Hx
namespace Hx
open PySem PySem.Spec PySem.Calls PyProof.Rows PySem.W L2
section
variable {X:Cx} {x:Str} {C S:Addr} {np cpos pos:Pos} {e:Expr} {es:List Expr} {t:TA}
end
section
variable {fs fs' ch:List Addr} {H H1:Hp} {h h1 h2:Heap} {old:Addr->Prop} {P:Program} {w:World} {a:Addr}
end
theorem there {P:Program} {w:World} {H:Hp} {h:Heap} {a:Addr} {o:HO} (x:bf P w H h a o):∃ u,h.get? a=some u:=by
 cases o with
 | lst xs=>obtain ⟨_,_,_,_,e⟩:=x; exact ⟨_,e⟩
 | tup xs=>obtain ⟨_,_,_,o,e,_⟩:=x; exact ⟨_,e⟩
 | dK kvs=>obtain ⟨_,_,_,_,o,_,_,e,_⟩:=x; exact ⟨_,e⟩
 | dT kvs=>obtain ⟨_,_,_,_,o,_,_,e,_⟩:=x; exact ⟨_,e⟩
 | set S n=>obtain ⟨o,_,_,_,e,_⟩:=x; exact ⟨_,e⟩
 | ins C dx fs=>obtain ⟨_,_,_,e,_⟩:=x; exact ⟨_,e⟩
 | own y=>exact x
 | xd fs=>obtain ⟨_,⟨o,_,_,e,_⟩,_⟩:=x; exact ⟨_,e⟩
 | met f y=>exact ⟨_,x⟩
 | rng lo hi=>obtain ⟨_,_,_,e⟩:=x; exact ⟨_,e⟩
 | frz o u=>exact ⟨_,x.1⟩
 | tbl ps=>exact ⟨_,x⟩
 | ext φ=>exact x.2.1
section
variable {P:Program} {w:World} {K:Frag} {mg:Str->Option Value} {base:Heap} {N:List Str} {qual:Str} {scope:Scope} {f:Addr} {cd:Value} {A:Around} {outer:List Env} {s0:Shared} {H0:Hp} {E:XK} {cl:Nat->Addr}
end
section
variable {X:Cx} {pins:List (Addr × Obj)} {σ:L2.St} {H:Hp} {s:Shared} {a:Addr}
noncomputable abbrev XP (X:Cx) (pins:List (Addr × Obj)) (E:Value->Shared->Prop):Cx:={ X with pn:=X.pn++pins,xe:=E }
end
section
variable {X:Cx} {cl:Nat->Addr} {ks:List Nat} {n sm:Str} {i:Nat} {S:Addr} {ret:Expr} {psm pr ph pos:Pos} {body:List Stmt} {tb:(Nat->Hp->Prop)->TS} {tr:Addr->Obj->TE}
end
end Hx
namespace Ev
open PySem PySem.Spec PyProof.Rows L2
structure Bx where
 p:PySem.W.Frag->Hp->Addr->Prop
 mono:∀ {K:PySem.W.Frag} {H H':Hp} {a:Addr},ah H H'->p K H a->p K H' a
 isd:∀ {K:PySem.W.Frag} {H:Hp} {a:Addr},p K H a->∃ o:HO,H a=some o/\∀ (P:Program) (w:World) (H':Hp) (h:Heap),bf P w H' h a o->∃ ob,h.get? a=some ob/\ob.cls=.type "dict"
inductive D where
 | non | bl (b:Bool) | int (i:Int) | str (x:Str) | tup (xs:List D) | lst (xs:List D) | box (x:Bx)
noncomputable instance:Inhabited D:=⟨.non⟩
mutual
inductive Den (K:PySem.W.Frag) (H:Hp):V->D->Prop where
 | non:Den K H .non .non
 | bl {b:Bool}:Den K H (.bl b) (.bl b)
 | int {i:Int}:Den K H (.int i) (.int i)
 | str {x:Str}:Den K H (.str x) (.str x)
 | tup {a:Addr} {vs:List V} {ds:List D} (h:SqT K H a vs) (r:av K H vs ds):Den K H (.ref a) (.tup ds)
 | lst {a:Addr} {vs:List V} {ds:List D} (h:SqL K H a vs) (r:av K H vs ds):Den K H (.ref a) (.lst ds)
 | box {a:Addr} {x:Bx} (h:x.p K H a):Den K H (.ref a) (.box x)
inductive av (K:PySem.W.Frag) (H:Hp):List V->List D->Prop where
 | nil:av K H [] []
 | cons {v:V} {d:D} {vs:List V} {ds:List D} (h:Den K H v d) (r:av K H vs ds):av K H (v :: vs) (d :: ds)
end
section
variable {K:PySem.W.Frag} {H H':Hp}
theorem aX (e:ah H H') {a:Addr} {xs:List V} (h:SqT K H a xs):SqT K H' a xs:=by
 rcases h with (h | ⟨o,h⟩) | h
 · exact .inl (.inl (e _ _ h))
 · exact .inl (.inr ⟨o,e _ _ h⟩)
 · exact .inr h
theorem aN (e:ah H H') {a:Addr} {xs:List V} (h:SqL K H a xs):SqL K H' a xs:=e.seq h
mutual
theorem Den.mono (e:ah H H'):∀ {v:V} {d:D},Den K H v d->Den K H' v d
 | _,_,.non=>.non
 | _,_,.bl=>.bl
 | _,_,.int=>.int
 | _,_,.str=>.str
 | _,_,.tup h r=>.tup (aX e h) (av.mono e r)
 | _,_,.lst h r=>.lst (aN e h) (av.mono e r)
 | _,_,.box (x:=x) h=>.box (x.mono e h)
theorem av.mono (e:ah H H'):∀ {vs:List V} {ds:List D},av K H vs ds->av K H' vs ds
 | _,_,.nil=>.nil
 | _,_,.cons h r=>.cons (Den.mono e h) (av.mono e r)
end
theorem av.length:∀ {vs:List V} {ds:List D},av K H vs ds->vs.length=ds.length
 | _,_,.nil=>rfl
 | _,_,.cons _ r=>congrArg (· + 1) r.length
theorem av.get:∀ {vs:List V} {ds:List D} {i:Nat} {d:D},av K H vs ds->ds[i]?=some d->∃ v,vs[i]?=some v/\Den K H v d
 | _,_,_,_,.nil,e=>by simp at e
 | _,_,0,_,.cons h _,e=>by simp at e; subst e; exact ⟨_,rfl,h⟩
 | _,_,i + 1,d,.cons _ r,e=>by
   obtain ⟨v,h1,h2⟩:=av.get (i:=i) (d:=d) r (by simpa using e)
   exact ⟨v,by simpa using h1,h2⟩
theorem av.append:∀ {xs ys:List V} {ds es:List D},av K H xs ds->av K H ys es->av K H (xs++ys) (ds++es)
 | _,_,_,_,.nil,s=>s
 | _,_,_,_,.cons h r,s=>.cons h (av.append r s)
theorem av.take:∀ {xs:List V} {ds:List D} (n:Nat),av K H xs ds->av K H (xs.take n) (ds.take n)
 | _,_,0,_=>.nil
 | _,_,_ + 1,.nil=>.nil
 | _,_,n + 1,.cons h r=>.cons h (av.take n r)
theorem av.drop:∀ {xs:List V} {ds:List D} (n:Nat),av K H xs ds->av K H (xs.drop n) (ds.drop n)
 | _,_,0,r=>r
 | _,_,_ + 1,.nil=>.nil
 | _,_,n + 1,.cons _ r=>av.drop n r
end
noncomputable def aB (i j:Int):Prop:=i.natAbs.log2 < 64\/j.natAbs.log2 < 64\/(i.natAbs.log2 < 1000000/\j.natAbs.log2 < 1000000)
noncomputable def aE (j:Int):Prop:=j ≠ 0/\j.natAbs.log2 < 9000
theorem aj {H:Hp} {p:Addr} (h:H p=none) (o:HO):ah H (upd H p o):=λb u q=>by rw [au (aL q h)]; exact q
noncomputable def Ite (K:PySem.W.Frag) (a:Addr):L2.It:=
 ⟨λi H=>∃ xs x,SqL K H a xs/\xs[i]?=some x,λi H v H'=>∃ p x,H p=none/\v=.ref p/\H'=upd H p (.tup [.int (i:Nat),x])/\∀ xs,SqL K H a xs->xs[i]?=some x,λi H=>∃ xs,SqL K H a xs/\xs.length<=i⟩
theorem rT {P:Program} {w:World} {K:PySem.W.Frag} {ts:List Expr} {q:Nat} {tp:Pos} (a e it:Addr) (hne:e ≠ it) :
   Turn P w K false (.Tuple ts q tp) (Ite K a) [e,it] e (λi h=>(∃ old,IsEnum h e it (i:Nat) old)/\h.IsListIter it a i) where
 mem:=by simp
 obj:=λi h st b hb=>by
   obtain ⟨⟨old,h1⟩,o,h2,h3,h4⟩:=st
   rcases List.mem_cons.mp hb with rfl | hb
   · exact ⟨_,h1,λv z=>nomatch z⟩
   · have z:b=it:=by simpa using hb
     subst z
     exact ⟨o,h2,λv z=>by rw [h4] at z; cases z⟩
 keep:=λi h h' st k=>by
   obtain ⟨⟨old,h1⟩,o,h2,h3,h4⟩:=st
   exact ⟨⟨old,k e (by simp) _ h1⟩,o,k it (by simp) o h2,h3,h4⟩
 item:=by
   intro X hP hw hK hc i pins s σ H E I hf st hg
   subst hP hw hK
   obtain ⟨xs,x,hq,hx⟩:=hg
   obtain ⟨its,rv,p,hz⟩:=I.list hq
   obtain ⟨u,hu,ru⟩:=rv.get hx
   obtain ⟨⟨old,h1⟩,h2⟩:=st
   have fe:=hf e (by simp)
   have fi:=hf it (by simp)
   refine wpAny_pyNext_enum_item h1 h2 p.isList (x:=u) (by simpa using hu) hne λh' g1 g2 g3 g4 g5=>⟨_,rfl,?_⟩
   refine wpAny_letOwnedTupleGo_enum (s:={ s with heap:=h',toks:=s.toks + 1 }) g1 λh2' k1 k2=>?_
   have hn:H s.heap.objs.size=none:=I.hok.fresh (Nat.le_refl _)
   have le1:e < s.heap.objs.size:=Heap.lt_size h1
   have le2:it < s.heap.objs.size:=by obtain ⟨o,z,_⟩:=h2; exact Heap.lt_size z
   have kp:∀ b o,b ≠ e->b ≠ it->s.heap.get? b=some o->h2'.get? b=some o:=λb o b1 b2 z=>(k2.2 b b1).trans (g5 b o b1 b2 z)
   have nt:h2'.get? s.heap.objs.size=some { cls:=.type "tuple",data:=.seq #[.int (i:Nat) s.toks,u] }:=(k2.2 _ (Nat.ne_of_gt le1)).trans g3
   have ne1:∀ b v,H b=some v->b ≠ e:=λb v z q=>by rw [q,fe.1] at z; cases z
   have ne2:∀ b v,H b=some v->b ≠ it:=λb v z q=>by rw [q,fi.1] at z; cases z
   have hok0:HOk X.prog X.w H h2':=λb v z=>(I.hok b v z).jT (λc v' hc' q=>kp c v' (by
       rcases hc' with hc' | hc'
       · rw [hc']; exact ne1 b v z
       · exact ne1 c _ hc') (by
       rcases hc' with hc' | hc'
       · rw [hc']; exact ne2 b v z
       · exact ne2 c _ hc') q) (λ_ q=>q) λ_ _ q=>q
   have hok1:HOk X.prog X.w (upd H s.heap.objs.size (.tup [.int (i:Nat),x])) h2':=λb v z=>by
     by_cases hb:b=s.heap.objs.size
     · subst hb
       rw [aA] at z; cases z
       exact ⟨(by show 2<=sizeLine; decide),[.int (i:Nat) s.toks,u],.cons ⟨_,rfl⟩ (.cons ru .nil),_,nt,rfl,_,rfl⟩
     · rw [au hb] at z
       exact (hok0 b v z).jT (λc v' _ q=>q) (λc q=>by rw [au (aL q hn)]; exact q) λc ys q=>by rw [au (aL q hn)]; exact q
   have I1:Inv X pins σ (upd H s.heap.objs.size (.tup [.int (i:Nat),x])) { s with heap:=h2',toks:=s.toks + 1 }:=by
     refine I.step (g':=s.gens) (d':=s.drawn) (ch:=[e,it]) (λb hb=>?_) (λb o _ _ hc' z _=>kp b o (λq=>hc' (by simp [q])) (λq=>hc' (by simp [q])) z)
       (λb o _ _ hc' z _=>⟨o.slots,kp b o (λq=>hc' (by simp [q])) (λq=>hc' (by simp [q])) z⟩)
       (λb o hc' z n=>by rw [au (Nat.ne_of_lt (Heap.lt_size z))]; exact n) (λb o hc' z=>⟨o,kp b o (λq=>hc' (by simp [q])) (λq=>hc' (by simp [q])) z⟩)
       (λb ys z=>by rw [au (aL z hn)]; exact z) (λb o u z=>by rw [au (aL z hn)]; exact z) (λb ps z=>⟨#[],by rw [au (aL z hn),z]; simp⟩) (λm hm=>?_) hok1 I.bare
     · rcases List.mem_cons.mp hb with rfl | hb
       · exact ⟨fe.2.2.2.1,fe.2.1,fe.2.2.2.2.1,fe.2.2.2.2.2⟩
       · have z:b=it:=by simpa using hb
         subst z
         exact ⟨fi.2.2.2.1,fi.2.1,fi.2.2.2.2.1,fi.2.2.2.2.2⟩
     · obtain ⟨o,es,ep,ho,r⟩:=hm
       exact ⟨o,es,ep,kp _ o (Ne.symm fe.2.1) (Ne.symm fi.2.1) ho,r⟩
   refine ⟨.ref s.heap.objs.size,_,I1,rfl,⟨s.heap.objs.size,x,hn,rfl,rfl,λys hy=>by rw [I.gq hy hq]; exact hx⟩,⟨⟨_,k1⟩,?_⟩,λb hb=>?_⟩
   · obtain ⟨o,z1,z2,z3⟩:=g2
     exact ⟨o,(k2.2 it (Ne.symm hne)).trans z1,z2,z3⟩
   · rcases List.mem_cons.mp hb with rfl | hb
     · rw [au (Nat.ne_of_lt le1)]; exact fe.1
     · have z:b=it:=by simpa using hb
       subst z
       rw [au (Nat.ne_of_lt le2)]; exact fi.1
 done:=by
   intro X hP hw hK hc i pins s σ H E I hf st hg
   subst hP hw hK
   obtain ⟨xs,hq,hx⟩:=hg
   obtain ⟨its,rv,p,hz⟩:=I.list hq
   obtain ⟨⟨old,h1⟩,h2⟩:=st
   obtain ⟨f0,f1,f2,f3,f4,f5⟩:=hf it (by simp)
   have hl:=rv.length
   exact wpAny_pyNext_enum_end (I.ok.hd hc.calm) h1 h2 p.isList (by simp; omega) λh' eb=>⟨rfl,I.turned (t':=s.toks) (λb o hb z=>eb b o hb z) f0 f1 f3 f4 f5⟩
 self:=λ_ _ _ _ _ st h=>by
   obtain ⟨⟨old,h1⟩,_⟩:=st
   exact wpAny_pyIter_enum h1 h
section
variable {X:Cx}
noncomputable def zN (K:PySem.W.Frag) (ta:TA):TI:=λσ H R=>ta σ H λvs H1=>∃ a,vs=[.ref a]/\(∃ xs,SqL K H1 a xs)/\R (Ite K a) H1
theorem rS:bootBuiltins "enumerate" = some (.type "enumerate"):=by decide +kernel
theorem qJ {ts:List Expr} {q:Nat} {tp:Pos} {a:Expr} {ta:TA} {p pos:Pos} (hc:X.calm=true) (hg:Gl X "enumerate") (hm:X.mg "enumerate" = none) (ha:PA X [a] ta) (hs:starEach [a] X.env=[(false,eval a X.env)]) :
   PI X (.Tuple ts q tp) (.Call (.Name "enumerate" p) [a] [] pos) (zN X.K ta):=by
 intro pins s σ H R I h
 refine Call_ (eo I hg hm rS (PyProof.Rows.callWith_type1 (thn (ha pos pins s σ H _ I h) λus s1 ⟨vs,H1,I1,r1,q1⟩=>?_) hs rfl))
 obtain ⟨l,e,⟨xs,hq⟩,q⟩:=q1
 subst e
 obtain ⟨u,rfl,ru⟩:=vals1 r1
 cases ru
 obtain ⟨its,rv,pl,hz⟩:=I1.list hq
 refine call_enumerate_list pl.isList λh' g1 g2 g3 g4=>?_
 refine wpAny_pyIter_enum (s:={ s1 with heap:=h' }) g1 ?_
 have I2:Inv X pins σ H1 { s1 with heap:=h' }:=I1.kept (t':=s1.toks) g4
 have n1:H1 (s1.heap.objs.size + 1)=none:=I1.hok.fresh (by omega)
 have n2:H1 s1.heap.objs.size=none:=I1.hok.fresh (Nat.le_refl _)
 refine ⟨false,s1.heap.objs.size + 1,[s1.heap.objs.size + 1,s1.heap.objs.size],_,_,H1,rfl,I2,.inl hc,rT l (s1.heap.objs.size + 1) s1.heap.objs.size (Nat.succ_ne_self _),⟨⟨_,g1⟩,g2⟩,λb hb=>?_,q⟩
 rcases List.mem_cons.mp hb with rfl | hb
 · exact I1.ke (by omega) n1
 · have z:b=s1.heap.objs.size:=by simpa using hb
   subst z
   exact I1.ke (Nat.le_refl _) n2
end
noncomputable def Itz (K:PySem.W.Frag) (a b:Addr):L2.It:=
 ⟨λi H=>∃ xs ys x y,SqL K H a xs/\SqL K H b ys/\xs[i]?=some x/\ys[i]?=some y,
  λi H v H'=>∃ p x y,H p=none/\v=.ref p/\H'=upd H p (.tup [x,y])/\(∀ xs,SqL K H a xs->xs[i]?=some x)/\∀ ys,SqL K H b ys->ys[i]?=some y,
  λi H=>∃ xs ys,SqL K H a xs/\SqL K H b ys/\(xs.length<=i\/ys.length<=i)⟩
noncomputable def zSt (a b z TI TO i1 i2:Addr) (i:Nat) (h:Heap):Prop:=
 IsZip h z TI TO .none/\IsPair h TI (.ref i1) (.ref i2)/\(∃ u v,IsPair h TO u v)/\h.IsListIter i1 a i/\h.IsListIter i2 b i
theorem kO {h:Heap} {a b z TI TO i1 i2:Addr} {i:Nat} {xs ys:Array Value} (n:TI ≠ TO) (m:i1 ≠ i2) (s:zSt a b z TI TO i1 i2 i h) (l1:h.IsList a xs) (l2:h.IsList b ys):ZipApart z TI TO i1 i2 a b:=by
 obtain ⟨h1,h2,⟨u,v,h3⟩,⟨o4,h4,c4,d4⟩,⟨o5,h5,c5,d5⟩⟩:=s
 obtain ⟨o6,h6,c6,n6,d6⟩:=l1
 obtain ⟨o7,h7,c7,n7,d7⟩:=l2
 have kk:∀ {x y:Addr} {o p:Obj},h.get? x=some o->h.get? y=some p->o.cls ≠ p.cls->x ≠ y:=λe1 e2 c q=>by subst q; rw [e1] at e2; cases e2; exact c rfl
 have cz:∀ {s t:String},s ≠ t->Value.type s ≠ Value.type t:=λn q=>n (by cases q; rfl)
 refine ⟨kk h2 h1 (cz (by decide)),kk h3 h1 (cz (by decide)),kk h4 h1 ?_,kk h5 h1 ?_,n,kk h2 h4 ?_,kk h2 h5 ?_,kk h3 h4 ?_,kk h3 h5 ?_,m,kk h6 h1 ?_,kk h6 h3 ?_,kk h6 h4 ?_,kk h6 h5 ?_,kk h7 h1 ?_,kk h7 h3 ?_,kk h7 h4 ?_,kk h7 h5 ?_⟩
 all_goals first | (rw [c4]; exact cz (by decide)) | (rw [c5]; exact cz (by decide)) | (rw [c6]; exact cz (by decide)) | (rw [c7]; exact cz (by decide)) | (rw [c6,c4]; exact cz (by decide)) | (rw [c6,c5]; exact cz (by decide)) | (rw [c7,c4]; exact cz (by decide)) | (rw [c7,c5]; exact cz (by decide))
theorem uo {P:Program} {w:World} {K:PySem.W.Frag} {ts:List Expr} {q:Nat} {tp:Pos} (a b z TI TO i1 i2:Addr) (nT:TI ≠ TO) (nI:i1 ≠ i2) :
   Turn P w K false (.Tuple ts q tp) (Itz K a b) [z,TI,TO,i1,i2] z (zSt a b z TI TO i1 i2) where
 mem:=by simp
 obj:=λi h st c hb=>by
   obtain ⟨h1,h2,⟨u,v,h3⟩,⟨o4,h4,c4,d4⟩,⟨o5,h5,c5,d5⟩⟩:=st
   simp only [List.mem_cons,List.not_mem_nil,or_false] at hb
   rcases hb with rfl | rfl | rfl | rfl | rfl
   · exact ⟨_,h1,λv z=>nomatch z⟩
   · exact ⟨_,h2,λv z=>nomatch z⟩
   · exact ⟨_,h3,λv z=>nomatch z⟩
   · exact ⟨_,h4,λv z=>by rw [d4] at z; cases z⟩
   · exact ⟨_,h5,λv z=>by rw [d5] at z; cases z⟩
 keep:=λi h h' st k=>by
   obtain ⟨h1,h2,⟨u,v,h3⟩,⟨o4,h4,c4,d4⟩,⟨o5,h5,c5,d5⟩⟩:=st
   exact ⟨k z (by simp) _ h1,k TI (by simp) _ h2,⟨u,v,k TO (by simp) _ h3⟩,⟨o4,k i1 (by simp) _ h4,c4,d4⟩,⟨o5,k i2 (by simp) _ h5,c5,d5⟩⟩
 item:=by
   intro X hP hw hK hc i pins s σ H E I hf st hg
   subst hP hw hK
   obtain ⟨xs,ys,x,y,hq1,hq2,hx,hy⟩:=hg
   obtain ⟨its1,rv1,p1,hz1⟩:=I.list hq1
   obtain ⟨its2,rv2,p2,hz2⟩:=I.list hq2
   obtain ⟨u1,hu1,ru1⟩:=rv1.get hx
   obtain ⟨u2,hu2,ru2⟩:=rv2.get hy
   have D:=kO nT nI st p1.isList p2.isList
   obtain ⟨h1,h2,⟨u,v,h3⟩,h4,h5⟩:=st
   refine wpAny_pyNext_zip_item D h1 h2 h3 h4 h5 p1.isList p2.isList (x:=u1) (y:=u2) (by simpa using hu1) (by simpa using hu2) λh' g1 g2 g3 g4 g5 g6 g7=>⟨_,rfl,?_⟩
   refine wpAny_letOwnedTupleGo_zip (s:={ s with heap:=h' }) g1 λh2' k1 k2=>?_
   have hn:H s.heap.objs.size=none:=I.hok.fresh (Nat.le_refl _)
   have le1:z < s.heap.objs.size:=Heap.lt_size h1
   have lt2:TI < s.heap.objs.size:=Heap.lt_size h2
   have lt3:TO < s.heap.objs.size:=Heap.lt_size h3
   have lt4:i1 < s.heap.objs.size:=by obtain ⟨o,z,_⟩:=h4; exact Heap.lt_size z
   have lt5:i2 < s.heap.objs.size:=by obtain ⟨o,z,_⟩:=h5; exact Heap.lt_size z
   have kp:∀ c o,c ≠ z->c ≠ TO->c ≠ i1->c ≠ i2->s.heap.get? c=some o->h2'.get? c=some o:=λc o b1 b2 b3 b4 e=>(k2.2 c b1).trans (g7 c o b1 b2 b3 b4 e)
   have nt:IsPair h2' s.heap.objs.size u1 u2:=(k2.2 _ (Nat.ne_of_gt le1)).trans g5
   have ne:∀ c,c ∈ [z,TI,TO,i1,i2]->∀ d v,H d=some v->d ≠ c:=λc hc d v e q=>by
     have:=(hf c hc).1
     rw [q,this] at e; cases e
   have hok0:HOk X.prog X.w H h2':=λd v e=>(I.hok d v e).jT (λc v' hc' q=>kp c v'
       (by rcases hc' with hc' | hc'
           · rw [hc']; exact ne z (by simp) d v e
           · exact ne z (by simp) c _ hc')
       (by rcases hc' with hc' | hc'
           · rw [hc']; exact ne TO (by simp) d v e
           · exact ne TO (by simp) c _ hc')
       (by rcases hc' with hc' | hc'
           · rw [hc']; exact ne i1 (by simp) d v e
           · exact ne i1 (by simp) c _ hc')
       (by rcases hc' with hc' | hc'
           · rw [hc']; exact ne i2 (by simp) d v e
           · exact ne i2 (by simp) c _ hc') q) (λ_ q=>q) λ_ _ q=>q
   have hok1:HOk X.prog X.w (upd H s.heap.objs.size (.tup [x,y])) h2':=λd v e=>by
     by_cases hb:d=s.heap.objs.size
     · subst hb
       rw [aA] at e; cases e
       exact ⟨(by show 2<=sizeLine; decide),[u1,u2],.cons ru1 (.cons ru2 .nil),_,nt,rfl,_,rfl⟩
     · rw [au hb] at e
       exact (hok0 d v e).jT (λc v' _ q=>q) (λc q=>by rw [au (aL q hn)]; exact q) λc ys q=>by rw [au (aL q hn)]; exact q
   have I1:Inv X pins σ (upd H s.heap.objs.size (.tup [x,y])) { s with heap:=h2' }:=by
     refine I.step (t':=s.toks) (g':=s.gens) (d':=s.drawn) (ch:=[z,TO,i1,i2]) (λc hb=>?_) (λc o _ _ hc' e _=>kp c o (λq=>hc' (by simp [q])) (λq=>hc' (by simp [q])) (λq=>hc' (by simp [q])) (λq=>hc' (by simp [q])) e)
       (λc o _ _ hc' e _=>⟨o.slots,kp c o (λq=>hc' (by simp [q])) (λq=>hc' (by simp [q])) (λq=>hc' (by simp [q])) (λq=>hc' (by simp [q])) e⟩)
       (λc o hc' e n=>by rw [au (Nat.ne_of_lt (Heap.lt_size e))]; exact n) (λc o hc' e=>⟨o,kp c o (λq=>hc' (by simp [q])) (λq=>hc' (by simp [q])) (λq=>hc' (by simp [q])) (λq=>hc' (by simp [q])) e⟩)
       (λc ys e=>by rw [au (aL e hn)]; exact e) (λc o u e=>by rw [au (aL e hn)]; exact e) (λc ps e=>⟨#[],by rw [au (aL e hn),e]; simp⟩) (λm hm=>?_) hok1 I.bare
     · have hb':c ∈ [z,TI,TO,i1,i2]:=by
         simp only [List.mem_cons,List.not_mem_nil,or_false] at hb ⊢
         rcases hb with h | h | h | h <;> simp [h]
       have fe:=hf c hb'
       exact ⟨fe.2.2.2.1,fe.2.1,fe.2.2.2.2.1,fe.2.2.2.2.2⟩
     · obtain ⟨o,es,ep,ho,r⟩:=hm
       exact ⟨o,es,ep,kp _ o (Ne.symm (hf z (by simp)).2.1) (Ne.symm (hf TO (by simp)).2.1) (Ne.symm (hf i1 (by simp)).2.1) (Ne.symm (hf i2 (by simp)).2.1) ho,r⟩
   refine ⟨.ref s.heap.objs.size,_,I1,rfl,⟨s.heap.objs.size,x,y,hn,rfl,rfl,λzs hy'=>by rw [I.gq hy' hq1]; exact hx,λzs hy'=>by rw [I.gq hy' hq2]; exact hy⟩,⟨k1,?_,⟨u1,u2,(k2.2 TO D.TOz).trans g2⟩,?_,?_⟩,λc hb=>?_⟩
   · exact kp TI _ D.TIz D.TITO D.TIi1 D.TIi2 h2
   · obtain ⟨o,z1,z2,z3⟩:=g3
     exact ⟨o,(k2.2 i1 D.i1z).trans z1,z2,z3⟩
   · obtain ⟨o,z1,z2,z3⟩:=g4
     exact ⟨o,(k2.2 i2 D.i2z).trans z1,z2,z3⟩
   · have fc:=(hf c hb).1
     have lt:c < s.heap.objs.size:=by
       simp only [List.mem_cons,List.not_mem_nil,or_false] at hb
       rcases hb with rfl | rfl | rfl | rfl | rfl <;> assumption
     rw [au (Nat.ne_of_lt lt)]
     exact fc
 done:=by
   intro X hP hw hK hc i pins s σ H E I hf st hg
   subst hP hw hK
   obtain ⟨xs,ys,hq1,hq2,hx⟩:=hg
   obtain ⟨its1,rv1,p1,hz1⟩:=I.list hq1
   obtain ⟨its2,rv2,p2,hz2⟩:=I.list hq2
   have D:=kO nT nI st p1.isList p2.isList
   obtain ⟨h1,h2,⟨u,v,h3⟩,h4,h5⟩:=st
   have hl1:=rv1.length
   have hl2:=rv2.length
   refine wpAny_pyNext_zip_end (I.ok.hd hc.calm) D h1 h2 h3 h4 h5 p1.isList p2.isList (by
     rcases hx with hx | hx
     · left; simp; omega
     · right; simp; omega) λh' eb=>⟨rfl,?_⟩
   have ne:∀ c,c ∈ [z,TI,TO,i1,i2]->∀ d v,H d=some v->d ≠ c:=λc hc d v e q=>by
     have:=(hf c hc).1
     rw [q,this] at e; cases e
   have hok0:HOk X.prog X.w H h':=λd v e=>(I.hok d v e).jT (λc v' hc' q=>eb c v'
       (by rcases hc' with hc' | hc'
           · rw [hc']; exact ne z (by simp) d v e
           · exact ne z (by simp) c _ hc')
       (by rcases hc' with hc' | hc'
           · rw [hc']; exact ne TO (by simp) d v e
           · exact ne TO (by simp) c _ hc')
       (by rcases hc' with hc' | hc'
           · rw [hc']; exact ne i1 (by simp) d v e
           · exact ne i1 (by simp) c _ hc')
       (by rcases hc' with hc' | hc'
           · rw [hc']; exact ne i2 (by simp) d v e
           · exact ne i2 (by simp) c _ hc') q) (λ_ q=>q) λ_ _ q=>q
   refine I.step (t':=s.toks) (g':=s.gens) (d':=s.drawn) (ch:=[z,TO,i1,i2]) (λc hb=>?_) (λc o _ _ hc' e _=>eb c o (λq=>hc' (by simp [q])) (λq=>hc' (by simp [q])) (λq=>hc' (by simp [q])) (λq=>hc' (by simp [q])) e)
       (λc o _ _ hc' e _=>⟨o.slots,eb c o (λq=>hc' (by simp [q])) (λq=>hc' (by simp [q])) (λq=>hc' (by simp [q])) (λq=>hc' (by simp [q])) e⟩)
       (λc o hc' e n=>n) (λc o hc' e=>⟨o,eb c o (λq=>hc' (by simp [q])) (λq=>hc' (by simp [q])) (λq=>hc' (by simp [q])) (λq=>hc' (by simp [q])) e⟩)
       (λc ys e=>e) (λc o u e=>e) (λc ps e=>⟨#[],by rw [e]; simp⟩) (λm hm=>?_) hok0 I.bare
   · have hb':c ∈ [z,TI,TO,i1,i2]:=by
       simp only [List.mem_cons,List.not_mem_nil,or_false] at hb ⊢
       rcases hb with h | h | h | h <;> simp [h]
     have fe:=hf c hb'
     exact ⟨fe.2.2.2.1,fe.2.1,fe.2.2.2.2.1,fe.2.2.2.2.2⟩
   · obtain ⟨o,es,ep,ho,r⟩:=hm
     exact ⟨o,es,ep,eb _ o (Ne.symm (hf z (by simp)).2.1) (Ne.symm (hf TO (by simp)).2.1) (Ne.symm (hf i1 (by simp)).2.1) (Ne.symm (hf i2 (by simp)).2.1) ho,r⟩
 self:=λ_ _ _ _ _ st h=>wpAny_pyIter_zip st.1 h
section
variable {X:Cx}
noncomputable def yJ (K:PySem.W.Frag) (ta:TA):TI:=λσ H R=>ta σ H λvs H1=>∃ a b,vs=[.ref a,.ref b]/\(∃ xs,SqL K H1 a xs)/\(∃ ys,SqL K H1 b ys)/\R (Itz K a b) H1
theorem o8 {ts:List Expr} {q:Nat} {tp:Pos} {a b:Expr} {ta:TA} {p pos:Pos} (hc:X.calm=true) (hg:Gl X "zip") (hm:X.mg "zip" = none) (ha:PA X [a,b] ta) (hs:starEach [a,b] X.env=(false,eval a X.env) :: starEach [b] X.env) (hs2:starEach [b] X.env=[(false,eval b X.env)]) :
   PI X (.Tuple ts q tp) (.Call (.Name "zip" p) [a,b] [] pos) (yJ X.K ta):=by
 intro pins s σ H R I h
 refine Call_ (eo I hg hm boot_zip (PyProof.Rows.callWith_type1 (thn (ha pos pins s σ H _ I h) λus s1 ⟨vs,H1,I1,r1,q1⟩=>?_) hs (by rw [hs2]; rfl)))
 obtain ⟨l,l',e,⟨xs,hq1⟩,⟨ys,hq2⟩,q⟩:=q1
 subst e
 obtain ⟨u,u',rfl,ru,ru'⟩:=vals2 r1
 cases ru
 cases ru'
 obtain ⟨its1,rv1,pl1,hz1⟩:=I1.list hq1
 obtain ⟨its2,rv2,pl2,hz2⟩:=I1.list hq2
 refine call_zip_2 pl1.isList pl2.isList λh' g1 g2 g3 g4 g5 g6 g7=>?_
 refine wpAny_pyIter_zip (s:={ s1 with heap:=h' }) g1 ?_
 have I2:Inv X pins σ H1 { s1 with heap:=h' }:=I1.kept (t':=s1.toks) g7
 have nn:∀ j,H1 (s1.heap.objs.size + j)=none:=λj=>I1.hok.fresh (by omega)
 refine ⟨false,s1.heap.objs.size + 4,[s1.heap.objs.size + 4,s1.heap.objs.size + 2,s1.heap.objs.size + 3,s1.heap.objs.size,s1.heap.objs.size + 1],_,_,H1,rfl,I2,.inl hc,uo l l' (s1.heap.objs.size + 4) (s1.heap.objs.size + 2) (s1.heap.objs.size + 3) s1.heap.objs.size (s1.heap.objs.size + 1) (by simp) (Ne.symm (Nat.succ_ne_self _)),⟨g1,g2,⟨_,_,g3⟩,g4,g5⟩,λc hb=>?_,q⟩
 have hb':∃ j,c=s1.heap.objs.size + j:=by
   simp only [List.mem_cons,List.not_mem_nil,or_false] at hb
   rcases hb with h | h | h | h | h
   · exact ⟨_,h⟩
   · exact ⟨_,h⟩
   · exact ⟨_,h⟩
   · exact ⟨0,h⟩
   · exact ⟨_,h⟩
 obtain ⟨j,rfl⟩:=hb'
 exact I1.ke (Nat.le_add_right _ _) (nn j)
end
section
variable {X:Cx} {tg:Expr}
theorem t4:bootBuiltins "reversed" = some (.type "reversed"):=by decide +kernel
end
theorem u5:∀ (names:List (Str × NameKind)) (n:Nat) (acc:List (Str × Addr)) (x:Str) (c:Addr),(cellsFrom n names acc).lookup x=some c->n<=c\/acc.lookup x=some c
 | [],_,_,_,_,h=>.inr h
 | (y,k) :: r,n,acc,x,c,h=>by
   unfold cellsFrom at h
   split at h
   · rcases u5 r (n + 1) _ x c h with q | q
     · exact .inl (by omega)
     · rw [List.lookup_cons] at q
       split at q
       · cases q; exact .inl (Nat.le_refl _)
       · exact .inr q
   · exact u5 r n acc x c h
theorem jq:∀ (names:List (Str × NameKind)) (n:Nat) (acc:List (Str × Addr)) (x:Str),(x,NameKind.cell) ∉ names->(cellsFrom n names acc).lookup x=acc.lookup x
 | [],_,_,_,_=>rfl
 | (y,k) :: r,n,acc,x,h=>by
   have h1:(x,NameKind.cell) ∉ r:=λz=>h (List.mem_cons_of_mem _ z)
   unfold cellsFrom
   split
   · rename_i hk
     rw [jq r _ _ x h1,List.lookup_cons]
     have:(x == y)=false:=by
       rw [beq_eq_false_iff_ne]
       rintro rfl
       exact h (by rw [eq_of_beq hk]; exact List.mem_cons_self)
     rw [this]
   · exact jq r n acc x h1
theorem lG:∀ (names:List (Str × NameKind)) (n:Nat) (acc:List (Str × Addr)) (x:Str),(x,NameKind.cell) ∈ names->∃ c,(cellsFrom n names acc).lookup x=some c/\n<=c
 | (y,k) :: r,n,acc,x,h=>by
   unfold cellsFrom
   by_cases hr:(x,NameKind.cell) ∈ r
   · split
     · obtain ⟨c,e,l⟩:=lG r (n + 1) ((y,n) :: acc) x hr
       exact ⟨c,e,by omega⟩
     · exact lG r n acc x hr
   · rcases List.mem_cons.mp h with q | q
     · cases q
       rw [if_pos (by rfl),jq r _ _ _ hr]
       exact ⟨n,by simp [List.lookup_cons],Nat.le_refl _⟩
     · exact absurd q hr
theorem oo:∀ (names:List (Str × NameKind)) (n:Nat) (acc:List (Str × Addr)),(∀ x c,acc.lookup x=some c->c < n)->(∀ x y c,acc.lookup x=some c->acc.lookup y=some c->x=y) ->
   ∀ x y c,(cellsFrom n names acc).lookup x=some c->(cellsFrom n names acc).lookup y=some c->x=y
 | [],_,_,_,h=>h
 | (z,k) :: r,n,acc,hl,h=>by
   unfold cellsFrom
   split
   · refine oo r (n + 1) _ (λx c e=>?_) (λx y c e1 e2=>?_)
     · rw [List.lookup_cons] at e
       split at e
       · cases e; exact Nat.lt_succ_self _
       · exact Nat.lt_succ_of_lt (hl x c e)
     · rw [List.lookup_cons] at e1 e2
       split at e1
       · rename_i q1
         cases e1
         split at e2
         · rename_i q2
           exact (eq_of_beq q1).trans (eq_of_beq q2).symm
         · exact absurd (hl y _ e2) (Nat.lt_irrefl _)
       · split at e2
         · cases e2
           exact absurd (hl x _ e1) (Nat.lt_irrefl _)
         · exact h x y c e1 e2
   · exact oo r n acc hl h
theorem lb:∀ (names:List (Str × NameKind)) (h:Heap) (acc:List (Str × Addr)),(∀ x c,acc.lookup x=some c->∃ v,h.IsCell c v)->∀ x c,(cellsFrom h.objs.size names acc).lookup x=some c->∃ v,(pushCells h names).IsCell c v
 | [],_,_,ha,x,c,e=>ha x c e
 | (z,k) :: r,h,acc,ha,x,c,e=>by
   unfold cellsFrom at e
   unfold pushCells
   split at e
   · rename_i hk
     rw [if_pos hk]
     refine lb r _ ((z,h.objs.size) :: acc) (λy d q=>?_) x c (by rw [Heap.size_push]; exact e)
     rw [List.lookup_cons] at q
     split at q
     · cases q
       exact ⟨none,_,Heap.get?_push_size _ rfl,rfl⟩
     · obtain ⟨v,o,ho,hd⟩:=ha y d q
       exact ⟨v,o,Heap.get?_push_of_some _ ho,hd⟩
   · rename_i hk
     rw [if_neg hk]
     exact lb r h acc ha x c e
noncomputable def cx (env:PySem.Env):List (Str × NameKind)->List (Str × Addr)->List (Str × Addr)
 | [],acc=>acc
 | (n,k) :: r,acc=>if k == .free then (match env.cells.lookup n with | some c=>cx env r ((n,c) :: acc) | none=>cx env r acc) else cx env r acc
theorem jW (env:PySem.Env):∀ (names:List (Str × NameKind)) (acc:List (Str × Addr)),(∀ x ∈ names,x.2=.free->∃ c,env.cells.lookup x.1=some c) ->
   (forIn (m:=Sem) names acc λx cs=>do
     let (name,kind):=x
     if kind == .free then do
       let c <- cellOf env name
       pure (ForInStep.yield ((name,c) :: cs))
     else pure (ForInStep.yield cs))=pure (cx env names acc)
 | [],acc,_=>rfl
 | (n,k) :: r,acc,h=>by
   rw [List.forIn_cons]
   unfold cx
   by_cases hk:(k == .free)=true
   · obtain ⟨c,hc⟩:=h (n,k) List.mem_cons_self (eq_of_beq hk)
     simp only [hk,if_true,cellOf,hc,pure_bind]
     exact jW env r _ λx hx=>h x (List.mem_cons_of_mem _ hx)
   · simp only [hk,Bool.false_eq_true,if_false,pure_bind]
     exact jW env r _ λx hx=>h x (List.mem_cons_of_mem _ hx)
theorem qo {env:PySem.Env} {scope:Scope} (h:∀ x ∈ scope.names,x.2=.free->∃ c,env.cells.lookup x.1=some c):closureFor scope env=pure (cx env scope.names []):=by
 unfold closureFor
 have:=jW env scope.names [] h
 simp only [bind_pure]
 exact this
theorem dU (env:PySem.Env):∀ (names:List (Str × NameKind)) (acc:List (Str × Addr)) (x:Str) (c:Addr),(∀ y d,acc.lookup y=some d->env.cells.lookup y=some d)->(cx env names acc).lookup x=some c->env.cells.lookup x=some c
 | [],_,x,c,ha,h=>ha x c h
 | (n,k) :: r,acc,x,c,ha,h=>by
   unfold cx at h
   split at h
   · split at h
     · rename_i c' hc
       refine dU env r _ x c (λy d q=>?_) h
       rw [List.lookup_cons] at q
       split at q
       · rename_i qq
         cases q
         rw [eq_of_beq qq]; exact hc
       · exact ha y d q
     · exact dU env r acc x c ha h
   · exact dU env r acc x c ha h
theorem cM (env:PySem.Env):∀ (names:List (Str × NameKind)) (acc:List (Str × Addr)) (x:Str) (c:Addr),(∀ y d,acc.lookup y=some d->env.cells.lookup y=some d)->env.cells.lookup x=some c->((x,NameKind.free) ∈ names\/acc.lookup x=some c)->(cx env names acc).lookup x=some c
 | [],_,x,c,_,_,h=>h.elim (λz=>absurd z (by simp)) id
 | (n,k) :: r,acc,x,c,ha,hc,h=>by
   unfold cx
   split
   · split
     · rename_i c' hc'
       refine cM env r _ x c (λy d q=>?_) hc ?_
       · rw [List.lookup_cons] at q
         split at q
         · rename_i qq
           cases q
           rw [eq_of_beq qq]; exact hc'
         · exact ha y d q
       · by_cases q:x=n
         · subst q
           rw [hc] at hc'; cases hc'
           exact .inr (by simp [List.lookup_cons])
         · rcases h with h | h
           · rcases List.mem_cons.mp h with z | z
             · cases z; exact absurd rfl q
             · exact .inl z
           · refine .inr ?_
             rw [List.lookup_cons,beq_eq_false_iff_ne.mpr q]
             exact h
     · rename_i hc'
       refine cM env r acc x c ha hc ?_
       rcases h with h | h
       · rcases List.mem_cons.mp h with z | z
         · cases z; rw [hc] at hc'; cases hc'
         · exact .inl z
       · exact .inr h
   · rename_i hk
     refine cM env r acc x c ha hc ?_
     rcases h with h | h
     · rcases List.mem_cons.mp h with z | z
       · cases z; exact absurd rfl hk
       · exact .inl z
     · exact .inr h
theorem kr {M:Model} {A:Around} {E:Value->Shared->Prop} {s:Shared} {scope:Scope} {cl:List (Str × Addr)} {env:PySem.Env} {Q:PySem.Env->Shared->Prop}
   (h:Q (newEnv scope s.heap.objs.size env.globals (cellsFrom (s.heap.objs.size + 1) scope.names cl) env.qual none .none (some env) builtinsNs) { s with heap:=pushCells (s.heap.push { cls:=.type "dict",data:=.dict #[] }) scope.names }) :
   wpAny M A (newFunctionEnv scope env.globals cl [] env.qual none .none (some env)) Q E s:=by
 simp only [newFunctionEnv,Option.isSome_some,if_true]
 refine wpAny_bind (wpAny_alloc ?_)
 refine wpAny_bind (wpAny_layCells _ (λname kind cells=>by cases hkc:kind == NameKind.cell <;> simp [hkc]) _ _ _ _ ?_)
 rw [show ({ s with heap:=s.heap.push { cls:=.type "dict",data:=.dict #[] } }:Shared).heap.objs.size=s.heap.objs.size + 1 from Heap.size_push ..]
 exact wpAny_bind (wpAny_pure (wpAny_pure h))
noncomputable def aF (X:Cx) (s:Shared) (H:Hp) (scope:Scope) (N:List Str) (fp:List Addr):Cx:=
 { prog:=X.prog,w:=X.w,K:=X.K,mg:=X.mg,base:=X.base,A:=X.A,N:=N,s₀:=s,H₀:=H
   env:=compEnvC scope (cellsFrom (s.heap.objs.size + 1 + 1) scope.names (cx X.env scope.names [])) (s.heap.objs.size + 1) X.env
   outer:=X.stack,stack:=X.stack,ex:=fp,fn:=λx=>decide ((x,NameKind.cell) ∈ scope.names),calm:=X.calm,pn:=[],xe:=λ_ _=>False }
noncomputable def fo (σ:L2.St) (caps:List (Option Nat)):L2.St:=caps.map λo=>o.bind λi=>(σ[i]?).join
structure dF (X:Cx) (scope:Scope) (N:List Str) (caps:List (Option Nat)):Prop where
 kind:scope.kind=.function
 loc:∀ x ∈ scope.names,x.2=.local->scope.names.lookup x.1=some .local
 fre:∀ x ∈ scope.names,x.2=.free->X.env.kindOf x.1=some .cell
 one:∀ x,(x,NameKind.free) ∈ scope.names->(x,NameKind.cell) ∉ scope.names
 noboth:∀ x,(x,NameKind.free) ∈ scope.names->(x,NameKind.local) ∉ scope.names
 len:N.length=caps.length + 1
 cap:∀ (j i:Nat),caps[j]?=some (some i)->∃ x,N[j]?=some x/\X.N[i]?=some x/\(x,NameKind.free) ∈ scope.names
 acc:∃ z,N[caps.length]?=some z/\¬ Vis (relabel scope X.env) z
section
variable {X:Cx} {pins:List (Addr × Obj)} {σ:L2.St} {H:Hp} {s:Shared} {scope:Scope} {N:List Str} {caps:List (Option Nat)} {fp:List Addr}
theorem eO {env:PySem.Env} {x:Str} {names:List (Str × NameKind)} (h:∀ y,(y,NameKind.free) ∈ names->env.kindOf y=some .cell) (hk:env.scope.kind=.function) {k:NameKind}
   (e:(names.map λ(n,k)=>if (k == NameKind.free && env.scope.kind == .function && env.kindOf n == some .cell) then (n,NameKind.cell) else (n,k)).lookup x=some k) :
   (x,k) ∈ names\/((x,NameKind.free) ∈ names/\k=.cell):=by
 induction names with
 | nil=>cases e
 | cons p r ih=>
   obtain ⟨n,q⟩:=p
   rw [List.map_cons] at e
   have hr:∀ y,(y,NameKind.free) ∈ r->env.kindOf y=some .cell:=λy hy=>h y (List.mem_cons_of_mem _ hy)
   have sub:((x,k) ∈ r\/((x,NameKind.free) ∈ r/\k=.cell))->(x,k) ∈ (n,q) :: r\/((x,NameKind.free) ∈ (n,q) :: r/\k=.cell):=λz=>
     z.elim (λy=>.inl (List.mem_cons_of_mem _ y)) λy=>.inr ⟨List.mem_cons_of_mem _ y.1,y.2⟩
   dsimp only at e
   split at e
   · rename_i c
     rw [List.lookup_cons] at e
     split at e
     · rename_i qq
       cases e
       rw [Bool.and_eq_true,Bool.and_eq_true] at c
       rw [eq_of_beq qq,eq_of_beq c.1.1]
       exact .inr ⟨List.mem_cons_self,rfl⟩
     · exact sub (ih hr e)
   · rename_i c
     rw [List.lookup_cons] at e
     split at e
     · rename_i qq
       cases e
       rw [eq_of_beq qq]
       exact .inl List.mem_cons_self
     · exact sub (ih hr e)
theorem gd (I:Inv X pins σ H s) (c:dF X scope N caps):∀ x ∈ scope.names,x.2=.free->∃ d,X.env.cells.lookup x.1=some d:=λx hx hf=>I.ok.has x.1 (.inl (c.fre x hx hf))
theorem nG (I:Inv X pins σ H s) (hf:∀ b ∈ fp,j4 X pins H b) (ho:∀ b ∈ fp,∃ o,s.heap.get? b=some o) (c:dF X scope N caps) :
   Inv (aF X s H scope N fp) [] (fo σ caps++[some (.ref s.heap.objs.size)]) (upd H s.heap.objs.size (.lst []))
     { s with heap:=pushCells ((s.heap.push { cls:=.type "list",data:=.seq ([]:List Value).toArray }).push { cls:=.type "dict",data:=.dict #[] }) scope.names }:=by
 have hcl:∀ x d,(cx X.env scope.names []).lookup x=some d->X.env.cells.lookup x=some d:=λx d=>dU X.env scope.names [] x d (λy d z=>by simp at z)
 have kp:∀ b o,s.heap.get? b=some o->(pushCells ((s.heap.push { cls:=.type "list",data:=.seq ([]:List Value).toArray }).push { cls:=.type "dict",data:=.dict #[] }) scope.names).get? b=some o:=λb o e=>
   pushCells_keeps _ _ b o (Heap.get?_push_of_some _ (Heap.get?_push_of_some _ e))
 have sz2:((s.heap.push { cls:=.type "list",data:=.seq ([]:List Value).toArray }).push { cls:=.type "dict",data:=.dict #[] }).objs.size=s.heap.objs.size + 1 + 1:=by rw [Heap.size_push,Heap.size_push]
 have oldc:∀ x d,X.env.cells.lookup x=some d->d < s.heap.objs.size:=λx d e=>by
   obtain ⟨v,o,q,_⟩:=I.cell x d e
   exact Heap.lt_size q
 have cel:∀ x d,(aF X s H scope N fp).env.cells.lookup x=some d->s.heap.objs.size + 1 + 1<=d\/X.env.cells.lookup x=some d:=λx d e=>by
   rcases u5 _ _ _ x d e with q | q
   · exact .inl q
   · exact .inr (hcl x d q)
 have ok:(aF X s H scope N fp).Ok:=by
   refine ⟨I.ok.mod,c.kind,I.ok.glob,I.ok.blt,Nat.le_succ _,?_,?_,?_,I.ok.hd,I.ok.frames,.inl rfl,?_,I.bs,Nat.le_trans I.ok.bsz I.sz,?_,?_,I.stack,I.qh⟩
   · exact oo _ _ _ (λx d e=>Nat.lt_of_lt_of_le (oldc x d (hcl x d e)) (by omega)) λx y d e1 e2=>I.ok.inj x y d (hcl x d e1) (hcl y d e2)
   · intro x hx
     have hfk:∀ y,(y,NameKind.free) ∈ scope.names->X.env.kindOf y=some .cell:=λy hy=>c.fre _ hy rfl
     have fre:(x,NameKind.free) ∈ scope.names->∃ d,(aF X s H scope N fp).env.cells.lookup x=some d:=λhm=>by
       obtain ⟨d,hd⟩:=gd I c _ hm rfl
       exact ⟨d,by
         show (cellsFrom _ scope.names _).lookup x=_
         rw [jq _ _ _ x (c.one x hm)]
         exact cM X.env scope.names [] x d (λy e z=>by simp at z) hd (.inl hm)⟩
     have own:(x,NameKind.cell) ∈ scope.names->∃ d,(aF X s H scope N fp).env.cells.lookup x=some d:=λhm=>by
       obtain ⟨d,e,_⟩:=lG scope.names (s.heap.objs.size + 1 + 1) (cx X.env scope.names []) x hm
       exact ⟨d,e⟩
     rcases hx with hx | hx
     · rcases eO hfk I.ok.kind (show (scope.names.map _).lookup x=some .cell from hx) with q | q
       · exact own q
       · exact fre q.1
     · rcases eO hfk I.ok.kind (show (scope.names.map _).lookup x=some .free from hx) with q | q
       · exact fre q
       · exact fre q.1
   · intro x d hfn e
     have hm:(x,NameKind.cell) ∈ scope.names:=of_decide_eq_true hfn
     obtain ⟨d',e',l⟩:=lG scope.names (s.heap.objs.size + 1 + 1) (cx X.env scope.names []) x hm
     have e2:(cellsFrom (s.heap.objs.size + 1 + 1) scope.names (cx X.env scope.names [])).lookup x=some d:=e
     rw [e'] at e2; cases e2
     exact Nat.le_trans (Nat.le_trans (Nat.le_succ _) (Nat.le_succ _)) l
   · intro b hb
     obtain ⟨o,q⟩:=ho b hb
     have bl:=Heap.lt_size q
     refine ⟨λz=>?_,λx d e z=>?_⟩
     · have z':b=s.heap.objs.size + 1:=z
       rw [z'] at bl
       exact absurd bl (Nat.not_lt.mpr (Nat.le_succ _))
     · subst z
       rcases cel x d e with q | q
       · exact absurd (Nat.lt_of_lt_of_le bl (Nat.le_trans (Nat.le_trans (Nat.le_succ _) (Nat.le_succ _)) q)) (Nat.lt_irrefl _)
       · exact (hf d hb).2.2.2.2.1 x d q rfl
   · intro b o e hb
     rcases (hf b hb).2.2.2.1 with q | q
     · exact I.ok.noex b o e q
     · have:=Nat.lt_of_lt_of_le (Heap.lt_size e) I.ok.bsz
       exact absurd (Nat.lt_of_lt_of_le this q) (Nat.lt_irrefl _)
   · intro b hb hm
     rcases List.mem_cons.mp (I.oO b hm) with q | q
     · exact (hf b hb).2.1 q
     · exact (hf b hb).2.2.1 q
 have hD:(pushCells ((s.heap.push { cls:=.type "list",data:=.seq ([]:List Value).toArray }).push { cls:=.type "dict",data:=.dict #[] }) scope.names).get? s.heap.objs.size=some { cls:=.type "list",data:=.seq ([]:List Value).toArray }:=
   pushCells_keeps _ _ _ _ (Heap.get?_push_of_some _ (Heap.get?_push_size _ rfl))
 have fr:∀ a,s.heap.objs.size<=a->a ≠ s.heap.objs.size->(upd H s.heap.objs.size (.lst [])) a=none:=λa h1 h2=>by rw [au h2]; exact I.hok.fresh h1
 refine ⟨ok,rfl,I.bare,Un.laid kp (Nat.le_refl _) (I.hok.fresh (Nat.le_refl _)),⟨λ_=>none,?_,λi x v e1 e2 e3=>?_⟩,λx d e=>?_,?_,λx d e=>?_,λp hp=>absurd (show p ∈ ([]:List (Addr × Obj)) from hp) (by simp),?_,?_⟩
 · have:=Heap.Ns.new (s.heap.push { cls:=.type "list",data:=.seq ([]:List Value).toArray }) (.type "dict")
   rw [Heap.size_push] at this
   exact this.keeps (pushCells_keeps _ _)
 · by_cases hi:i < caps.length
   · rw [List.getElem?_append_left (by unfold fo; rw [List.length_map]; exact hi)] at e2
     unfold fo at e2
     rw [List.getElem?_map] at e2
     cases hc:caps[i]? with
     | none=>rw [hc] at e2; cases e2
     | some o=>
       rw [hc] at e2
       cases o with
       | none=>cases e2
       | some j=>
         have e2':(σ[j]?).join=some v:=Option.some.inj e2
         have e4:σ[j]?=some (some v):=by
           cases q:σ[j]? with
           | none=>rw [q] at e2'; cases e2'
           | some y=>rw [q] at e2'; exact congrArg some e2'
         obtain ⟨x',g1,g2,g3⟩:=c.cap i j hc
         rw [show (aF X s H scope N fp).N=N from rfl,g1] at e1
         cases e1
         have hkc:=c.fre _ g3 rfl
         obtain ⟨m,_,hl⟩:=I.loc
         obtain ⟨u,ru,look⟩:=hl j x v g2 e4 (.inr (.inl hkc))
         refine ⟨u,ru,?_⟩
         rcases look with ⟨k,_⟩ | ⟨k,d,hd,hcell⟩
         · rw [hkc] at k; cases k
         · have e5:(aF X s H scope N fp).env.cells.lookup x=some d:=by
             show (cellsFrom _ scope.names _).lookup x=_
             rw [jq _ _ _ x (c.one x g3)]
             exact cM X.env scope.names [] x d (λy e z=>by simp at z) hd (.inl g3)
           have hcell':Heap.IsCell (pushCells ((s.heap.push { cls:=.type "list",data:=.seq ([]:List Value).toArray }).push { cls:=.type "dict",data:=.dict #[] }) scope.names) d (some u):=by
             obtain ⟨o,q1,q2⟩:=hcell
             exact ⟨o,kp _ _ q1,q2⟩
           refine .inr ⟨?_,d,e5,hcell'⟩
           rcases e3 with e3 | e3 | e3
           · exfalso
             rcases eO (λy hy=>c.fre _ hy rfl) I.ok.kind (show (scope.names.map _).lookup x=some .local from e3) with q | q
             · have q1:=c.loc _ q rfl
               exact c.noboth x g3 q
             · cases q.2
           · exact .inl e3
           · exact .inr e3
   · exfalso
     obtain ⟨z,z1,z2⟩:=c.acc
     have hl:i < N.length:=(List.getElem?_eq_some_iff.mp e1).1
     have:i=caps.length:=by have:=c.len; omega
     subst this
     rw [show (aF X s H scope N fp).N=N from rfl,z1] at e1
     cases e1
     exact z2 e3
 · rw [show (aF X s H scope N fp).env.cells=cellsFrom (s.heap.objs.size + 1 + 1) scope.names (cx X.env scope.names []) from rfl,<- sz2] at e
   refine lb scope.names _ _ (λy d' q=>?_) x d e
   obtain ⟨v,o,q1,q2⟩:=I.cell y d' (hcl y d' q)
   exact ⟨v,o,Heap.get?_push_of_some _ (Heap.get?_push_of_some _ q1),q2⟩
 · exact fr _ (Nat.le_succ _) (Nat.succ_ne_self _)
 · rcases cel x d e with q | q
   · exact fr d (by omega) (by intro z; omega)
   · rw [au (Nat.ne_of_lt (oldc x d q))]; exact I.freeC x d q
 · exact I.hok.laid kp (Nat.le_refl _) ⟨Nat.zero_le _,[],0,.nil,hD⟩
 · rw [List.length_append]
   unfold fo
   rw [List.length_map,show (aF X s H scope N fp).N=N from rfl,c.len]
   rfl
end
noncomputable def PTs (X:Cx) (ifs:List Expr) (t:TT):Prop:=
 ∀ (pins:List (Addr × Obj)) (s:Shared) (σ:L2.St) (H:Hp) (Q:Bool->Hp->Prop),Inv X pins σ H s->t σ H Q ->
   wpAny (model X.prog X.w) X.A (forIn ifs true λc r=>if r=true then do let ok <- isTrue c X.env (eval c X.env); pure (ForInStep.yield ok) else pure (ForInStep.yield r)) (TP X pins σ Q) X.xe s
section
variable {prog:Program} {w:World} {A:Around} {R:Result->Shared->Prop} {s:Shared}
theorem jm {elt target iter:Expr} {ifs:List Expr} {scope:Scope} {pos:Pos} {it acc:Value} {env:PySem.Env} (Iv:Nat->Shared->Prop)
   (step:∀ n s,Iv n s->wpAny (model prog w) A (pyNext it) (λr s₁=>match r with
     | none=>R (.ok .next) s₁
     | some v=>wpAny (model prog w) A (letOwnedTupleGo target it v) (λ_ s₀=>wpAny (model prog w) A (assign target env v) (λ_ s₂=>
         wpAny (model prog w) A (forIn ifs true λc r=>if r=true then do let ok <- isTrue c env (eval c env); pure (ForInStep.yield ok) else pure (ForInStep.yield r)) (λok s₃=>
           if ok=true then wpAny (model prog w) A (eval elt env) (λx s₄=>
             wpAny (model prog w) A (call (.builtin "list.append") [acc,x]) (λ_ s₅=>∃ m,m < n/\Iv m s₅) (λ_ _=>False) s₄) (λ_ _=>False) s₃
           else ∃ m,m < n/\Iv m s₃) (λ_ _=>False) s₂) (λ_ _=>False) s₀) (λ_ _=>False) s₁) (λ_ _=>False) s)
   (n:Nat) (h:Iv n s):codeAny (model prog w) A (.compLoop (.ListComp elt [⟨target,iter,ifs,0⟩] scope pos) 0 it acc env) R s:=by
 have no:∀ {α:Type} {t:Sem α} {Q:α->Shared->Prop} {s:Shared} {E:Value->Shared->Prop},wpAny (model prog w) A t Q (λ_ _=>False) s->wpAny (model prog w) A t Q E s:=λh=>wpAny_mono h (λ_ _ q=>q) λ_ _ q=>q.elim
 refine codeAny_loop rfl Iv (λn s hI=>?_) n h
 show wpAny _ A (Sem.onRaise (compTurn (.ListComp elt [⟨target,iter,ifs,0⟩] scope pos) 0 it acc env) (λx=>do noteFrame x env; theTreesLotGoes x)) _ _ s
 refine wpAny_noted ?_
 rw [compTurn_list]
 refine wpAny_bind (wpAny_standAt (wpAny_bind (thn (no (step n s hI)) λr s₁ h₁=>?_)))
 cases r with
 | none=>exact wpAny_pure h₁
 | some v=>
   refine wpAny_bind (thn (no h₁) λ_ s₀ h₀=>wpAny_bind (thn (no h₀) λ_ s₂ h₂=>wpAny_bind (thn (no h₂) λok s₃ h₃=>?_)))
   cases ok with
   | false=>exact wpAny_pure ⟨rfl,h₃⟩
   | true=>exact wpAny_bind (wpAny_bind (thn (no h₃) λx s₄ h₄=>wpAny_bind (thn (no h₄) λ_ s₅ h₅=>wpAny_pure (wpAny_pure ⟨rfl,h₅⟩))))
end
theorem qg {X:Cx} {kd:Bool} {pins:List (Addr × Obj)} {σ:L2.St} {H:Hp} {s:Shared} {scope:Scope} {N:List Str} {fp:List Addr} (h:Ck kd X) (I:Inv X pins σ H s):Ck kd (aF X s H scope N fp):=by
 rcases h with h | ⟨hk,q,o,u,vs,e1,e2,e3,e4⟩
 · exact .inl h
 · exact .inr ⟨hk,q,o,u,vs,e1,I.base.frzs q o u e2,e3,e4⟩
noncomputable def eU (In:TG->TT->TE->Prop) (caps:List (Option Nat)) (wi:TI):TE:=λσ H Q=>wi σ H λJ H1=>∃ g tt te,In g tt te/\∀ D,H1 D=none ->
 ∃ Z:Nat->Nat->L2.St->Hp->Prop,(∃ m,Z 0 m (fo σ caps++[some (.ref D)]) (upd H1 D (.lst [])))/\∀ i m σ' H',Z i m σ' H' ->
   (J.stop i H'/\Q (.ref D) H')\/(J.go i H'/\∀ x H2,J.yld i H' x H2->g x σ' H2 λσ2 H3=>tt σ2 H3 λb H4=>
     if b=true then te σ2 H4 λv H5=>∃ vs m',H5 D=some (.lst vs)/\vs.length < sizeLine/\m' < m/\Z (i + 1) m' σ2 (upd H5 D (.lst (vs++[v]))) else ∃ m',m' < m/\Z (i + 1) m' σ2 H4)
theorem cE {X:Cx} {elt tg iter:Expr} {ifs:List Expr} {scope:Scope} {N:List Str} {caps:List (Option Nat)} {pos:Pos} {wi:TI} {In:TG->TT->TE->Prop} (c:dF X scope N caps) (hi:PI X tg iter wi)
   (hs:∀ x,foldedSetIterable iter X.env x=pure x)
   (hin:∀ g tt te,In g tt te->∀ s H fp,PG (aF X s H scope N fp) tg g/\PTs (aF X s H scope N fp) ifs tt/\PE (aF X s H scope N fp) elt te) :
   PE X (.ListComp elt [⟨tg,iter,ifs,0⟩] scope pos) (eU In caps wi):=by
 intro pins s σ H Q I h
 rw [eval_ListComp]
 have hcl:=qo (gd I c)
 refine wpAny_comprehension_free (use:=none) (g:=⟨tg,iter,ifs,0⟩) (gs:=[]) rfl hs hcl c.kind c.loc ?_
 show wpAny _ _ (eval iter X.env) _ _ s
 refine thn (hi pins s σ H _ I h) λv s1 h1=>thn h1 λitv s2 h2=>?_
 obtain ⟨kd,it,fp,tn,J,H2,e,I2,hck,T,st2,f2,g,tt,te,hI,q⟩:=h2
 have hc:=qg (scope:=scope) (N:=N) (fp:=fp) hck I2
 subst e
 obtain ⟨Z,⟨m0,z0⟩,turn⟩:=q s2.heap.objs.size (I2.hok.fresh (Nat.le_refl _))
 have ho:∀ b ∈ fp,∃ o,s2.heap.get? b=some o:=λb hb=>let ⟨o,e,_⟩:=T.obj _ _ st2 b hb; ⟨o,e⟩
 have I4:=nG (scope:=scope) (N:=N) (caps:=caps) I2 f2 ho c
 obtain ⟨hg,ht,he⟩:=hin g tt te hI s2 H2 fp
 refine wpAny_newObj_type (kr ?_) (by show 0<=sizeLine; decide)
 have hC:(s2.heap.push { cls:=.type "list",dict:=none,data:=.seq ([]:List Value).toArray }).objs.size=s2.heap.objs.size + 1:=Heap.size_push ..
 dsimp only
 rw [hC]
 have kp:∀ b o,s2.heap.get? b=some o->(pushCells ((s2.heap.push { cls:=.type "list",data:=.seq ([]:List Value).toArray }).push { cls:=.type "dict",data:=.dict #[] }) scope.names).get? b=some o:=λb o e=>
   pushCells_keeps _ _ b o (Heap.get?_push_of_some _ (Heap.get?_push_of_some _ e))
 have st4:tn 0 (pushCells ((s2.heap.push { cls:=.type "list",data:=.seq ([]:List Value).toArray }).push { cls:=.type "dict",data:=.dict #[] }) scope.names):=T.keep _ _ _ st2 λb _ o e=>kp b o e
 have stat:∀ {H':Hp},(∀ b ∈ fp,H' b=none)->∀ b ∈ fp,j4 (aF X s2 H2 scope N fp) [] H' b:=λhn b hb=>
   ⟨hn b hb,(I4.ok.exf b hb).1,I4.ok.exfs b hb,.inl hb,(I4.ok.exf b hb).2,λp hp=>absurd (show p ∈ ([]:List (Addr × Obj)) from hp) (by simp)⟩
 have fr4:∀ b ∈ fp,(upd H2 s2.heap.objs.size (.lst [])) b=none:=λb hb=>by
   obtain ⟨o,e⟩:=ho b hb
   rw [au (Nat.ne_of_lt (Heap.lt_size e))]; exact (f2 b hb).1
 have loop:codeAny (model X.prog X.w) X.A (.compLoop (.ListComp elt [⟨tg,iter,ifs,0⟩] scope pos) 0 (.ref it) (.ref s2.heap.objs.size) (aF X s2 H2 scope N fp).env)
     (compPost (model X.prog X.w) X.A X.xe none (EP X pins σ Q) (.ref s2.heap.objs.size) (s2.heap.objs.size + 1))
     { s2 with heap:=pushCells ((s2.heap.push { cls:=.type "list",data:=.seq ([]:List Value).toArray }).push { cls:=.type "dict",data:=.dict #[] }) scope.names }:=by
   refine jm (λn s'=>∃ i σ' H',Inv (aF X s2 H2 scope N fp) [] σ' H' s'/\tn i s'.heap/\(∀ b ∈ fp,H' b=none)/\Z i n σ' H') ?_ m0 ⟨0,_,_,I4,st4,fr4,z0⟩
   rintro n s3 ⟨i,σ3,H3,I3,st3,fr3,w3⟩
   rcases turn i n σ3 H3 w3 with ⟨stop,qn⟩ | ⟨go,step⟩
   · refine thn (T.done (aF X s2 H2 scope N fp) rfl rfl rfl hc i [] s3 σ3 H3 _ I3 (stat fr3) st3 stop) λr s5 ⟨hr,I5⟩=>?_
     subst hr
     obtain ⟨m,hn,_⟩:=id I5.loc
     refine ⟨m,hn,λh' sb=>⟨.ref s2.heap.objs.size,H3,?_,rfl,qn⟩⟩
     have lt:∀ b o,s2.heap.get? b=some o->b ≠ s2.heap.objs.size + 1:=λb o e=>Nat.ne_of_lt (Nat.lt_succ_of_lt (Heap.lt_size e))
     have u:=I5.base
     have u':Un (frs X.stack) fp H2 H3 s2.heap h':=⟨λb o e n1 n2 n3=>(sb.2 b (lt b o e)).trans (u.keep b o e n1 n2 n3),λb o e n1 n2 n3=>let ⟨sl,z⟩:=u.slot b o e n1 n2 n3; ⟨sl,(sb.2 b (lt b o e)).trans z⟩,
       u.free,λb o e n1=>let ⟨o',z⟩:=u.there b o e n1; ⟨o',(sb.2 b (lt b o e)).trans z⟩,u.tups,u.frzs,u.tbls⟩
     have fC:H3 (s2.heap.objs.size + 1)=none:=I5.free
     refine I2.xE (s':={ s5 with heap:=h' }) I5.os u' (λb o e=>(I5.hok b o e).jT (λd v hd z=>(sb.2 d ?_).trans z) (λ_ z=>z) λ_ _ z=>z) I5.bare λb hb=>⟨(f2 b hb).2.2.2.1,(f2 b hb).2.1,(f2 b hb).2.2.2.2.1,(f2 b hb).2.2.2.2.2⟩
     rcases hd with hd | hd
     · rw [hd]; exact aL e fC
     · exact aL hd fC
   · refine thn (T.item (aF X s2 H2 scope N fp) rfl rfl rfl hc i [] s3 σ3 H3 _ I3 (stat fr3) st3 go) λr s4 ⟨u,hr,h4⟩=>?_
     subst hr
     refine thn h4 λ_ s5 ⟨x,H5,I5,r5,y5,st5,fr5⟩=>?_
     have I5':=I5.pinned (stat fr5) (T.obj _ _ st5)
     refine thn (hg _ s5 σ3 H5 x u _ I5' r5 (step x H5 y5)) λ_ s6 ⟨σ6,H6,I6,q6⟩=>?_
     have again:∀ {s7:Shared} {σ7:L2.St} {H7:Hp} {m':Nat},Inv (aF X s2 H2 scope N fp) ([]++fY fp s5.heap) σ7 H7 s7->m' < n->Z (i + 1) m' σ7 H7 ->
         ∃ m,m < n/\∃ i σ' H',Inv (aF X s2 H2 scope N fp) [] σ' H' s7/\tn i s7.heap/\(∀ b ∈ fp,H' b=none)/\Z i m σ' H':=λ{s7 σ7 H7 m'} I7 hm z7=>by
       refine ⟨m',hm,i + 1,σ7,H7,I7.dN,T.keep _ _ _ st5 λb hb o e=>(I7.pin (b,o) (List.mem_append_right _ (List.mem_append_right _ (bP hb e)))).1,λb hb=>?_,z7⟩
       obtain ⟨o,e,d⟩:=T.obj _ _ st5 b hb
       exact (I7.pin (b,o) (List.mem_append_right _ (List.mem_append_right _ (bP hb e)))).2.1
     refine thn (ht _ s6 σ6 H6 _ I6 q6) λok s7 ⟨H7,I7,q7⟩=>?_
     cases ok with
     | false=>
       rw [if_neg (by decide)] at q7
       obtain ⟨m',hm,z7⟩:=q7
       exact again I7 hm z7
     | true=>
       rw [if_pos rfl] at q7
       refine thn (he _ s7 σ6 H7 _ I7 q7) λv' s8 ⟨v,H8,I8,r8,vs,m',q8,l8,hm,z8⟩=>?_
       refine thn (dD (X:=aF X s2 H2 scope N fp) _ s8 σ6 H8 (.ref s2.heap.objs.size) [v] (.ref s2.heap.objs.size) [v'] (λ_ H9=>H9=upd H8 s2.heap.objs.size (.lst (vs++[v]))) I8 rfl (.cons r8 .nil) ⟨_,vs,v,rfl,rfl,q8,l8,rfl⟩) λ_ s9 ⟨_,H9,I9,_,e9⟩=>?_
       subst e9
       exact again I9 hm z8
 exact codeAny_compStart_list loop (T.self _ 0 _ _ _ st4 loop)
theorem gQ {X:Cx} {gT:TG} {y:Str} {py spos:Pos} {elt tg iter:Expr} {ifs:List Expr} {scope:Scope} {N:List Str} {caps:List (Option Nat)} {pos:Pos} {wi:TI} {In:TG->TT->TE->Prop} (hT:PG X (.Name y py) gT) (c:dF X scope N caps) (hi:PI X tg iter wi)
   (hs:∀ x,foldedSetIterable iter X.env x=pure x)
   (hin:∀ g tt te,In g tt te->∀ s H fp,PG (aF X s H scope N fp) tg g/\PTs (aF X s H scope N fp) ifs tt/\PE (aF X s H scope N fp) elt te)
   (hsw:swapsWith (.ListComp elt [⟨tg,iter,ifs,0⟩] scope pos) (some (.Name y py)) spos.line X.env=pure true) :
   PS X (.Assign [.Name y py] (.ListComp elt [⟨tg,iter,ifs,0⟩] scope pos) spos) (zB (eU In caps wi) gT):=by
 intro pins s σ H D I h
 rw [exec_Assign_Name_used _ _ _ _ hsw]
 refine wpAny_bind (wpAny_standAt (wpAny_bind ?_))
 show wpAny _ _ (do let _ <- comprehension (.ListComp elt [⟨tg,iter,ifs,0⟩] scope pos) scope X.env _ (newList []) false _ (some (assign (.Name y py) X.env))) _ _ s
 refine wpAny_bind ?_
 have hcl:=qo (gd I c)
 refine wpAny_comprehension_free (use:=some (assign (.Name y py) X.env)) (Q:=λ_ s'=>wpAny (model X.prog X.w) X.A (pure ()) (λ_ s''=>wpAny (model X.prog X.w) X.A (pure Flow.next) (SP X pins D) X.xe s'') X.xe s') (g:=⟨tg,iter,ifs,0⟩) (gs:=[]) rfl hs hcl c.kind c.loc ?_
 show wpAny _ _ (eval iter X.env) _ _ s
 refine thn (hi pins s σ H _ I h) λv s1 h1=>thn h1 λitv s2 h2=>?_
 obtain ⟨kd,it,fp,tn,J,H2,e,I2,hck,T,st2,f2,g,tt,te,hI,q⟩:=h2
 have hc:=qg (scope:=scope) (N:=N) (fp:=fp) hck I2
 subst e
 obtain ⟨Z,⟨m0,z0⟩,turn⟩:=q s2.heap.objs.size (I2.hok.fresh (Nat.le_refl _))
 have ho:∀ b ∈ fp,∃ o,s2.heap.get? b=some o:=λb hb=>let ⟨o,e,_⟩:=T.obj _ _ st2 b hb; ⟨o,e⟩
 have I4:=nG (scope:=scope) (N:=N) (caps:=caps) I2 f2 ho c
 obtain ⟨hg,ht,he⟩:=hin g tt te hI s2 H2 fp
 refine wpAny_newObj_type (kr ?_) (by show 0<=sizeLine; decide)
 have hC:(s2.heap.push { cls:=.type "list",dict:=none,data:=.seq ([]:List Value).toArray }).objs.size=s2.heap.objs.size + 1:=Heap.size_push ..
 dsimp only
 rw [hC]
 have kp:∀ b o,s2.heap.get? b=some o->(pushCells ((s2.heap.push { cls:=.type "list",data:=.seq ([]:List Value).toArray }).push { cls:=.type "dict",data:=.dict #[] }) scope.names).get? b=some o:=λb o e=>
   pushCells_keeps _ _ b o (Heap.get?_push_of_some _ (Heap.get?_push_of_some _ e))
 have st4:tn 0 (pushCells ((s2.heap.push { cls:=.type "list",data:=.seq ([]:List Value).toArray }).push { cls:=.type "dict",data:=.dict #[] }) scope.names):=T.keep _ _ _ st2 λb _ o e=>kp b o e
 have stat:∀ {H':Hp},(∀ b ∈ fp,H' b=none)->∀ b ∈ fp,j4 (aF X s2 H2 scope N fp) [] H' b:=λhn b hb=>
   ⟨hn b hb,(I4.ok.exf b hb).1,I4.ok.exfs b hb,.inl hb,(I4.ok.exf b hb).2,λp hp=>absurd (show p ∈ ([]:List (Addr × Obj)) from hp) (by simp)⟩
 have fr4:∀ b ∈ fp,(upd H2 s2.heap.objs.size (.lst [])) b=none:=λb hb=>by
   obtain ⟨o,e⟩:=ho b hb
   rw [au (Nat.ne_of_lt (Heap.lt_size e))]; exact (f2 b hb).1
 have loop:codeAny (model X.prog X.w) X.A (.compLoop (.ListComp elt [⟨tg,iter,ifs,0⟩] scope pos) 0 (.ref it) (.ref s2.heap.objs.size) (aF X s2 H2 scope N fp).env)
     (compPost (model X.prog X.w) X.A X.xe (some (assign (.Name y py) X.env)) (λ_ s'=>wpAny (model X.prog X.w) X.A (pure ()) (λ_ s''=>wpAny (model X.prog X.w) X.A (pure Flow.next) (SP X pins D) X.xe s'') X.xe s') (.ref s2.heap.objs.size) (s2.heap.objs.size + 1))
     { s2 with heap:=pushCells ((s2.heap.push { cls:=.type "list",data:=.seq ([]:List Value).toArray }).push { cls:=.type "dict",data:=.dict #[] }) scope.names }:=by
   refine jm (λn s'=>∃ i σ' H',Inv (aF X s2 H2 scope N fp) [] σ' H' s'/\tn i s'.heap/\(∀ b ∈ fp,H' b=none)/\Z i n σ' H') ?_ m0 ⟨0,_,_,I4,st4,fr4,z0⟩
   rintro n s3 ⟨i,σ3,H3,I3,st3,fr3,w3⟩
   rcases turn i n σ3 H3 w3 with ⟨stop,qn⟩ | ⟨go,step⟩
   · refine thn (T.done (aF X s2 H2 scope N fp) rfl rfl rfl hc i [] s3 σ3 H3 _ I3 (stat fr3) st3 stop) λr s5 ⟨hr,I5⟩=>?_
     subst hr
     obtain ⟨m,hn,_⟩:=id I5.loc
     have I6:Inv X pins σ H3 s5:=by
       have lt:∀ b o,s2.heap.get? b=some o->b ≠ s2.heap.objs.size + 1:=λb o e=>Nat.ne_of_lt (Nat.lt_succ_of_lt (Heap.lt_size e))
       have u:=I5.base
       have u':Un (frs X.stack) fp H2 H3 s2.heap s5.heap:=⟨λb o e n1 n2 n3=>u.keep b o e n1 n2 n3,λb o e n1 n2 n3=>u.slot b o e n1 n2 n3,u.free,λb o e n1=>u.there b o e n1,u.tups,u.frzs,u.tbls⟩
       exact I2.xE (s':=s5) I5.os u' I5.hok I5.bare λb hb=>⟨(f2 b hb).2.2.2.1,(f2 b hb).2.1,(f2 b hb).2.2.2.2.1,(f2 b hb).2.2.2.2.2⟩
     have fC:H3 (s2.heap.objs.size + 1)=none:=I5.free
     have fk:j4 X pins H3 (s2.heap.objs.size + 1):=I2.ke (Nat.le_succ _) fC
     obtain ⟨oC,es,ep,hoC,hdC,rC⟩:=id hn
     have hpin:=I6.pinned (fp:=[s2.heap.objs.size + 1]) (λb hb=>by rw [List.mem_singleton.mp hb]; exact fk) (λb hb=>by rw [List.mem_singleton.mp hb]; exact ⟨oC,hoC,λv z=>by rw [hdC] at z; cases z⟩)
     have hmem:(s2.heap.objs.size + 1,oC) ∈ fY [s2.heap.objs.size + 1] s5.heap:=bP (List.mem_singleton_self _) hoC
     refine thn (hT _ s5 σ H3 (.ref s2.heap.objs.size) (.ref s2.heap.objs.size) _ hpin rfl qn) λ_ s6 ⟨σ6,H6,I7,q7⟩=>?_
     obtain ⟨p1,p2,p3,p4,p5⟩:=I7.pin _ (List.mem_append_right _ (List.mem_append_right _ hmem))
     refine ⟨m,⟨oC,es,ep,p1,hdC,rC⟩,λh' sb=>wpAny_pure (wpAny_pure ?_)⟩
     refine ⟨σ6,H6,?_,q7⟩
     exact (I7.dN).turned (t':=s6.toks) (it:=s2.heap.objs.size + 1) (λb o hb e=>(sb.2 b hb).trans e) p2 p3 fk.2.2.2.1 fk.2.2.2.2.1 fk.2.2.2.2.2
   · refine thn (T.item (aF X s2 H2 scope N fp) rfl rfl rfl hc i [] s3 σ3 H3 _ I3 (stat fr3) st3 go) λr s4 ⟨u,hr,h4⟩=>?_
     subst hr
     refine thn h4 λ_ s5 ⟨x,H5,I5,r5,y5,st5,fr5⟩=>?_
     have I5':=I5.pinned (stat fr5) (T.obj _ _ st5)
     refine thn (hg _ s5 σ3 H5 x u _ I5' r5 (step x H5 y5)) λ_ s6 ⟨σ6,H6,I6,q6⟩=>?_
     have again:∀ {s7:Shared} {σ7:L2.St} {H7:Hp} {m':Nat},Inv (aF X s2 H2 scope N fp) ([]++fY fp s5.heap) σ7 H7 s7->m' < n->Z (i + 1) m' σ7 H7 ->
         ∃ m,m < n/\∃ i σ' H',Inv (aF X s2 H2 scope N fp) [] σ' H' s7/\tn i s7.heap/\(∀ b ∈ fp,H' b=none)/\Z i m σ' H':=λ{s7 σ7 H7 m'} I7 hm z7=>by
       refine ⟨m',hm,i + 1,σ7,H7,I7.dN,T.keep _ _ _ st5 λb hb o e=>(I7.pin (b,o) (List.mem_append_right _ (List.mem_append_right _ (bP hb e)))).1,λb hb=>?_,z7⟩
       obtain ⟨o,e,d⟩:=T.obj _ _ st5 b hb
       exact (I7.pin (b,o) (List.mem_append_right _ (List.mem_append_right _ (bP hb e)))).2.1
     refine thn (ht _ s6 σ6 H6 _ I6 q6) λok s7 ⟨H7,I7,q7⟩=>?_
     cases ok with
     | false=>
       rw [if_neg (by decide)] at q7
       obtain ⟨m',hm,z7⟩:=q7
       exact again I7 hm z7
     | true=>
       rw [if_pos rfl] at q7
       refine thn (he _ s7 σ6 H7 _ I7 q7) λv' s8 ⟨v,H8,I8,r8,vs,m',q8,l8,hm,z8⟩=>?_
       refine thn (dD (X:=aF X s2 H2 scope N fp) _ s8 σ6 H8 (.ref s2.heap.objs.size) [v] (.ref s2.heap.objs.size) [v'] (λ_ H9=>H9=upd H8 s2.heap.objs.size (.lst (vs++[v]))) I8 rfl (.cons r8 .nil) ⟨_,vs,v,rfl,rfl,q8,l8,rfl⟩) λ_ s9 ⟨_,H9,I9,_,e9⟩=>?_
       subst e9
       exact again I9 hm z8
 exact codeAny_compStart_list loop (T.self _ 0 _ _ _ st4 loop)
end Ev
namespace Hy
open PySem PySem.Spec PyProof.Rows L2
open Ev (D Den av)
open Classical in
noncomputable def hd (H:Hp) (M:Addr->Prop):Hp:=λb=>if M b then none else H b
theorem ao {H:Hp} {M:Addr->Prop} {b:Addr} {o:HO}:hd H M b=some o ↔ ¬ M b/\H b=some o:=by
 unfold hd
 by_cases h:M b
 · rw [if_pos h]; exact ⟨λz=>(nomatch z),λz=>absurd h z.1⟩
 · rw [if_neg h]; exact ⟨λz=>⟨h,z⟩,λz=>z.2⟩
theorem ay {H H':Hp} {M M':Addr->Prop} (e:ah H H') (m:∀ b,M' b->M b):ah (hd H M) (hd H' M'):=λb _ h=>ao.mpr ⟨λz=>(ao.mp h).1 (m b z),e b _ (ao.mp h).2⟩
theorem aG {H:Hp} {M:Addr->Prop}:ah (hd H M) H:=λ_ _ h=>(ao.mp h).2
inductive Nd where
 | d (x:D) | l (xs:List Nd) | t (xs:List Nd)
structure Ex where
 p:PySem.W.Frag->Hp->HO->Addr->Prop
 mono:∀ {K:PySem.W.Frag} {G G':Hp} {o:HO} {a:Addr},ah G G'->p K G o a->p K G' o a
 ext:∀ {K:PySem.W.Frag} {G:Hp} {o:HO} {a:Addr},p K G o a->(∃ φ,o=.ext φ)\/(∃ ob φ,o=.frz ob (.ext φ))\/∃ kvs,o=.dK kvs\/∃ ob,o=.frz ob (.dK kvs)
inductive Sl where
 | un | d (x:D) | o (xs:List D) | n (t:Nd) | x (E:Ex)
mutual
inductive bB (K:PySem.W.Frag) (G H:Hp):V->List Addr->Nd->Prop where
 | d {u:V} {x:D} (h:Den K G u x):bB K G H u [] (.d x)
 | l {a:Addr} {vs:List V} {bs:List Addr} {xs:List Nd} (h:H a=some (.lst vs)) (r:aK K G H vs bs xs):bB K G H (.ref a) (a :: bs) (.l xs)
 | t {a:Addr} {vs:List V} {bs:List Addr} {xs:List Nd} (h:H a=some (.tup vs)) (r:aK K G H vs bs xs):bB K G H (.ref a) (a :: bs) (.t xs)
inductive aK (K:PySem.W.Frag) (G H:Hp):List V->List Addr->List Nd->Prop where
 | nil:aK K G H [] [] []
 | cons {v:V} {vs:List V} {b1 b2:List Addr} {s:Nd} {ss:List Nd} (h:bB K G H v b1 s) (r:aK K G H vs b2 ss):aK K G H (v :: vs) (b1++b2) (s :: ss)
end
noncomputable def bU (K:PySem.W.Frag) (G H:Hp) (v:Option V) (bs:List Addr):Sl->Prop
 | .un=>bs=[]
 | .d x=>bs=[]/\∃ u,v=some u/\Den K G u x
 | .o xs=>∃ a vs,bs=[a]/\v=some (.ref a)/\H a=some (.lst vs)/\av K G vs xs
 | .n t=>bs.Nodup/\∃ u,v=some u/\bB K G H u bs t
 | .x E=>∃ a o,bs=[a]/\v=some (.ref a)/\H a=some o/\E.p K G o a
section
variable {K:PySem.W.Frag} {G G' H H':Hp}
mutual
theorem bB.frame (g:ah G G'):∀ {u:V} {bs:List Addr} {t:Nd},(∀ b ∈ bs,H' b=H b)->bB K G H u bs t->bB K G' H' u bs t
 | _,_,_,_,.d h=>.d (h.mono g)
 | _,_,_,e,.l h r=>.l (by rw [e _ (List.mem_cons_self ..)]; exact h) (aK.frame g (λb hb=>e b (List.mem_cons_of_mem _ hb)) r)
 | _,_,_,e,.t h r=>.t (by rw [e _ (List.mem_cons_self ..)]; exact h) (aK.frame g (λb hb=>e b (List.mem_cons_of_mem _ hb)) r)
theorem aK.frame (g:ah G G'):∀ {vs:List V} {bs:List Addr} {xs:List Nd},(∀ b ∈ bs,H' b=H b)->aK K G H vs bs xs->aK K G' H' vs bs xs
 | _,_,_,_,.nil=>.nil
 | _,_,_,e,.cons h r=>.cons (bB.frame g (λb hb=>e b (List.mem_append_left _ hb)) h) (aK.frame g (λb hb=>e b (List.mem_append_right _ hb)) r)
end
mutual
theorem bB.some_of:∀ {u:V} {bs:List Addr} {t:Nd},bB K G H u bs t->∀ b ∈ bs,∃ o,H b=some o
 | _,_,_,.d _,_,z=>nomatch z
 | _,_,_,.l h r,b,z=>(List.mem_cons.mp z).elim (λe=>e ▸ ⟨_,h⟩) λz=>aK.some_of r b z
 | _,_,_,.t h r,b,z=>(List.mem_cons.mp z).elim (λe=>e ▸ ⟨_,h⟩) λz=>aK.some_of r b z
theorem aK.some_of:∀ {vs:List V} {bs:List Addr} {xs:List Nd},aK K G H vs bs xs->∀ b ∈ bs,∃ o,H b=some o
 | _,_,_,.nil,_,z=>nomatch z
 | _,_,_,.cons h r,b,z=>(List.mem_append.mp z).elim (λz=>bB.some_of h b z) λz=>aK.some_of r b z
end
theorem bB.mono (g:ah G G') (e:ah H H') {u:V} {bs:List Addr} {t:Nd} (h:bB K G H u bs t):bB K G' H' u bs t:=h.frame g λb hb=>by
 obtain ⟨o,q⟩:=h.some_of b hb
 rw [q,e b o q]
theorem bU.mono (g:ah G G') (e:ah H H') {v:Option V} {bs:List Addr}:∀ {s:Sl},bU K G H v bs s->bU K G' H' v bs s
 | .un,h=>h
 | .d _,⟨h,u,e1,h2⟩=>⟨h,u,e1,h2.mono g⟩
 | .o _,⟨a,vs,h1,h2,h3,h4⟩=>⟨a,vs,h1,h2,e _ _ h3,h4.mono g⟩
 | .n _,⟨h0,u,h1,h2⟩=>⟨h0,u,h1,h2.mono g e⟩
 | .x E,⟨a,o,h1,h2,h3,h4⟩=>⟨a,o,h1,h2,e _ _ h3,E.mono g h4⟩
end
noncomputable def own (A:Addr->Prop) (B:Nat->List Addr) (b:Addr):Prop:=A b\/∃ i,b ∈ B i
noncomputable def vw (C:Bool) (A:Addr->Prop) (B:Nat->List Addr):Addr->Prop:=match C with
 | true=>own A B
 | false=>A
structure Sta (K:PySem.W.Frag) (A:Addr->Prop) (H₀:Hp) (τ:List Sl) (B:Nat->List Addr) (σ:L2.St) (H:Hp):Prop where
 same:ah H₀ H
 len:σ.length=τ.length
 sl:∀ i s,τ[i]?=some s->bU K (hd H (own A B)) H (σ[i]?).join (B i) s
 fr:∀ i b,b ∈ B i->H₀ b=none
 uq:∀ i j b,b ∈ B i->b ∈ B j->i=j
 ad:∀ b,A b->∃ o,H₀ b=some o
 bd:∀ i b,b ∈ B i->∃ o,H b=some o
noncomputable def upB (B:Nat->List Addr) (i:Nat) (bs:List Addr):Nat->List Addr:=λj=>if j=i then bs else B j
section
variable {K:PySem.W.Frag} {A:Addr->Prop} {H₀ H H':Hp} {τ:List Sl} {B:Nat->List Addr} {σ:L2.St}
theorem Sta.dm (S:Sta K A H₀ τ B σ H) (b:Addr) (h:own A B b):∃ o,H b=some o:=h.elim (λz=>let ⟨o,q⟩:=S.ad b z; ⟨o,S.same _ _ q⟩) λ⟨i,z⟩=>S.bd i b z
theorem Sta.mono (S:Sta K A H₀ τ B σ H) (e:ah H H'):Sta K A H₀ τ B σ H' where
 same:=S.same.trans e
 len:=S.len
 sl:=λi s h=>(S.sl i s h).mono (ay e λ_ z=>z) e
 fr:=S.fr
 uq:=S.uq
 ad:=S.ad
 bd:=λi b h=>let ⟨o,q⟩:=S.bd i b h; ⟨o,e _ _ q⟩
theorem aY {i j:Nat} {bs:List Addr} {b:Addr} (h:b ∈ upB B i bs j):(j=i/\b ∈ bs)\/(j ≠ i/\b ∈ B j):=by
 unfold upB at h
 by_cases e:j=i
 · rw [if_pos e] at h; exact .inl ⟨e,h⟩
 · rw [if_neg e] at h; exact .inr ⟨e,h⟩
theorem Sta.set (S:Sta K A H₀ τ B σ H) (e:ah H H') {i:Nat} {v:V} {s:Sl} {bs:List Addr} (hf:∀ b ∈ bs,H b=none/\∃ o,H' b=some o) (h:bU K (hd H' λb=>own A B b\/b ∈ bs) H' (some v) bs s) :
   Sta K A H₀ (τ.set i s) (upB B i bs) (σ.set i (some v)) H':=by
 have sub:∀ b,own A (upB B i bs) b->own A B b\/b ∈ bs:=λb z=>z.elim (λz=>.inl (.inl z)) λ⟨j,z⟩=>(aY z).elim (λz=>.inr z.2) λz=>.inl (.inr ⟨j,z.2⟩)
 have some_of:∀ b j,b ∈ B j->∃ o,H b=some o:=λb j z=>S.dm b (.inr ⟨j,z⟩)
 refine ⟨S.same.trans e,by rw [List.length_set,List.length_set,S.len],λj t hj=>?_,λj b hb=>?_,λj k b h1 h2=>?_,S.ad,λj b hb=>?_⟩
 · by_cases ej:j=i
   · subst ej
     have hl:j < τ.length:=by
       have:=(List.getElem?_eq_some_iff.mp hj).1
       rwa [List.length_set] at this
     rw [List.getElem?_set_self hl] at hj
     cases hj
     rw [List.getElem?_set_self (by rw [S.len]; exact hl)]
     unfold upB
     rw [if_pos rfl]
     exact h.mono (ay (ah.refl _) sub) (ah.refl _)
   · rw [List.getElem?_set_ne (λz=>ej z.symm)] at hj
     rw [List.getElem?_set_ne (λz=>ej z.symm)]
     unfold upB
     rw [if_neg ej]
     have q:=S.sl j t hj
     refine q.mono (λb o z=>?_) e
     obtain ⟨z1,z2⟩:=ao.mp z
     refine ao.mpr ⟨λy=>?_,e _ _ z2⟩
     rcases sub b y with y | y
     · exact z1 y
     · rw [(hf b y).1] at z2; cases z2
 · rcases aY hb with ⟨_,z⟩ | ⟨_,z⟩
   · exact S.same.free (hf b z).1
   · exact S.fr j b z
 · rcases aY h1 with ⟨e1,z1⟩ | ⟨e1,z1⟩ <;> rcases aY h2 with ⟨e2,z2⟩ | ⟨e2,z2⟩
   · exact e1.trans e2.symm
   · obtain ⟨o,q⟩:=some_of b k z2; rw [(hf b z1).1] at q; cases q
   · obtain ⟨o,q⟩:=some_of b j z1; rw [(hf b z2).1] at q; cases q
   · exact S.uq j k b z1 z2
 · rcases aY hb with ⟨_,z⟩ | ⟨_,z⟩
   · exact (hf b z).2
   · obtain ⟨o,q⟩:=S.bd j b z; exact ⟨o,e _ _ q⟩
theorem Sta.less (S:Sta K A H₀ τ B σ H) {i:Nat} {s:Sl} {bs:List Addr} (hb:∀ b ∈ bs,b ∈ B i) (h:∀ G:Hp,ah (hd H (own A B)) G->(∀ b o,b ∈ B i->b ∉ bs->H b=some o->G b=some o)->bU K G H (σ[i]?).join bs s):Sta K A H₀ (τ.set i s) (upB B i bs) σ H:=by
 have sub:∀ b,own A (upB B i bs) b->own A B b:=λb z=>z.elim .inl λ⟨j,z⟩=>(aY z).elim (λz=>.inr ⟨i,hb b z.2⟩) λz=>.inr ⟨j,z.2⟩
 refine ⟨S.same,by rw [List.length_set,S.len],λj t hj=>?_,λj b h=>?_,λj k b h1 h2=>?_,S.ad,λj b h=>(aY h).elim (λz=>S.bd i b (hb b z.2)) λz=>S.bd j b z.2⟩
 · by_cases ej:j=i
   · subst ej
     have hl:j < τ.length:=by
       have:=(List.getElem?_eq_some_iff.mp hj).1
       rwa [List.length_set] at this
     rw [List.getElem?_set_self hl] at hj
     cases hj
     unfold upB
     rw [if_pos rfl]
     refine h _ (ay (ah.refl _) sub) λb o z1 z2 z3=>ao.mpr ⟨λy=>?_,z3⟩
     rcases y with y | ⟨m,y⟩
     · obtain ⟨_,q⟩:=S.ad b y
       rw [S.fr j b z1] at q; cases q
     · rcases aY y with ⟨e,y⟩ | ⟨e,y⟩
       · exact z2 y
       · exact e (S.uq m j b y z1)
   · rw [List.getElem?_set_ne (λz=>ej z.symm)] at hj
     unfold upB
     rw [if_neg ej]
     exact (S.sl j t hj).mono (ay (ah.refl _) sub) (ah.refl _)
 · rcases aY h with ⟨e,z⟩ | ⟨_,z⟩
   · exact S.fr i b (hb b z)
   · exact S.fr j b z
 · rcases aY h1 with ⟨e1,z1⟩ | ⟨e1,z1⟩ <;> rcases aY h2 with ⟨e2,z2⟩ | ⟨e2,z2⟩
   · exact e1.trans e2.symm
   · exact absurd (S.uq k i b z2 (hb b z1)) e2
   · exact absurd (S.uq j i b z1 (hb b z2)) e1
   · exact S.uq j k b z1 z2
end
end Hy
namespace Hy
open PySem PySem.Spec PyProof.Rows L2
open Ev (D Den av aB aE aj aX aN)
noncomputable def Fr (H H':Hp) (bs:List Addr):Prop:=∀ b ∈ bs,H b=none/\∃ o,H' b=some o
noncomputable def dE (K:PySem.W.Frag) (C:Bool) (τ:List Sl) (s:Sl):TE:=λσ H Q=>∃ A H₀ B,Sta K A H₀ τ B σ H /\
 ∀ v H' bs,ah H H'->Fr H H' bs->bU K (hd H' λb=>vw C A B b\/b ∈ bs) H' (some v) bs s->Q v H'
noncomputable def dA (K:PySem.W.Frag) (C:Bool) (τ:List Sl) (ds:List D):TA:=λσ H Q=>∃ A H₀ B,Sta K A H₀ τ B σ H /\
 ∀ vs H',ah H H'->av K (hd H' (vw C A B)) vs ds->Q vs H'
noncomputable def dT (K:PySem.W.Frag) (τ:List Sl) (c:Bool):TT:=λσ H Q=>∃ A H₀ B,Sta K A H₀ τ B σ H/\∀ H',ah H H'->Q c H'
structure Po where
 nx:List Sl->Prop
 rt:Sl->Prop
 bk:List Sl->Prop:=λ_=>False
 ct:List Sl->Prop:=λ_=>False
 xc:Hp->Prop:=λ_=>True
structure Meets (K:PySem.W.Frag) (A:Addr->Prop) (H₀:Hp) (N:Po) (D:Ends):Prop where
 nx:∀ τ B σ H,N.nx τ->Sta K A H₀ τ B σ H->D.nx σ H
 bk:∀ τ B σ H,N.bk τ->Sta K A H₀ τ B σ H->D.bk σ H
 ct:∀ τ B σ H,N.ct τ->Sta K A H₀ τ B σ H->D.ct σ H
 rt:∀ v H bs s,N.rt s->ah H₀ H->Fr H₀ H bs->bU K (hd H λb=>A b\/b ∈ bs) H (some v) bs s->D.rt v H
 xc:∀ H,ah H₀ H->N.xc H
noncomputable def dS (K:PySem.W.Frag) (τ:List Sl) (N:Po):TS:=λD σ H=>∃ A H₀ B,Sta K A H₀ τ B σ H/\Meets K A H₀ N D
theorem peW {X:Cx} {e:Expr} {t t':TE} (h:PE X e t) (f:∀ σ H Q,t' σ H Q->t σ H Q):PE X e t':=λpins s σ H Q I q=>h pins s σ H Q I (f σ H Q q)
theorem ptW {X:Cx} {e:Expr} {t t':TT} (h:PT X e t) (f:∀ σ H Q,t' σ H Q->t σ H Q):PT X e t':=λpins s σ H Q I q=>h pins s σ H Q I (f σ H Q q)
theorem pwW {X:Cx} {e:Expr} {t t':TT} (h:PW X e t) (f:∀ σ H Q,t' σ H Q->t σ H Q):PW X e t':=λwh pins s σ H Q I q=>h wh pins s σ H Q I (f σ H Q q)
theorem paW {X:Cx} {e:List Expr} {t t':TA} (h:PA X e t) (f:∀ σ H Q,t' σ H Q->t σ H Q):PA X e t':=λp pins s σ H Q I q=>h p pins s σ H Q I (f σ H Q q)
theorem psW {X:Cx} {e:Stmt} {t t':TS} (h:PS X e t) (f:∀ D σ H,t' D σ H->t D σ H):PS X e t':=λpins s σ H D I q=>h pins s σ H D I (f D σ H q)
theorem oY {X:Cx} {e:List Stmt} {t t':TS} (h:PSs X e t) (f:∀ D σ H,t' D σ H->t D σ H):PSs X e t':=λpins s σ H D I q=>h pins s σ H D I (f D σ H q)
section
variable {K:PySem.W.Frag} {C:Bool} {τ:List Sl} {A:Addr->Prop} {H₀ H H':Hp} {B:Nat->List Addr} {σ:L2.St} {x y z:D} {Q:VK}
theorem ic {b:Addr} (h:vw C A B b):own A B b:=by
 cases C with
 | true=>exact h
 | false=>exact .inl h
theorem Sta.vd (S:Sta K A H₀ τ B σ H) (b:Addr) (h:vw C A B b):∃ o,H b=some o:=S.dm b (ic h)
theorem aM (S:Sta K A H₀ τ B σ H) (k:∀ v H',ah H H'->Den K (hd H' (vw C A B)) v x->Q v H'):dE K C τ (.d x) σ H Q:=
 ⟨A,H₀,B,S,λv H' bs e _ ⟨hb,u,eu,h⟩=>by
   cases eu
   exact k v H' e (h.mono (ay (ah.refl _) λ_ z=>.inl z))⟩
theorem df (h:dE K C τ (.d x) σ H Q):∃ A H₀ B,Sta K A H₀ τ B σ H/\∀ v H',ah H H'->Den K (hd H' (vw C A B)) v x->Q v H':=by
 obtain ⟨A,H₀,B,S,k⟩:=h
 exact ⟨A,H₀,B,S,λv H' e d=>k v H' [] e (λ_ z=>nomatch z) ⟨rfl,v,rfl,d.mono (ay (ah.refl _) λ_ z=>z.elim id λz=>nomatch z)⟩⟩
theorem fQ {ds:List D} {Q:List V->Hp->Prop} (S:Sta K A H₀ τ B σ H) (k:∀ vs H',ah H H'->av K (hd H' (vw C A B)) vs ds->Q vs H'):dA K C τ ds σ H Q:=⟨A,H₀,B,S,k⟩
theorem jM {M:Addr->Prop} {p:Addr} {o:HO} (hM:∀ b,M b->∃ o,H b=some o) (hp:H p=none):hd (upd H p o) M p=some o:=
 ao.mpr ⟨λz=>(by obtain ⟨o,q⟩:=hM p z; rw [hp] at q; cases q),aA⟩
mutual
noncomputable def ndD:Nd->D
 | .d x=>x
 | .l xs=>.lst (lH xs)
 | .t xs=>.tup (lH xs)
noncomputable def lH:List Nd->List D
 | []=>[]
 | x :: xs=>ndD x :: lH xs
end
noncomputable def fzD:Sl->Option D
 | .un=>none
 | .d x=>some x
 | .o xs=>some (.lst xs)
 | .n t=>some (ndD t)
 | .x _=>none
mutual
theorem bB.den {G G':Hp} (g:ah G G'):∀ {u:V} {bs:List Addr} {t:Nd},(∀ b ∈ bs,∀ o,H b=some o->G' b=some o)->bB K G H u bs t->Den K G' u (ndD t)
 | _,_,_,_,.d h=>h.mono g
 | _,_,_,e,.l h r=>.lst (SqL.of (e _ (List.mem_cons_self ..) _ h)) (aK.den g (λb hb=>e b (List.mem_cons_of_mem _ hb)) r)
 | _,_,_,e,.t h r=>.tup (SqT.of (e _ (List.mem_cons_self ..) _ h)) (aK.den g (λb hb=>e b (List.mem_cons_of_mem _ hb)) r)
theorem aK.den {G G':Hp} (g:ah G G'):∀ {vs:List V} {bs:List Addr} {xs:List Nd},(∀ b ∈ bs,∀ o,H b=some o->G' b=some o)->aK K G H vs bs xs->av K G' vs (lH xs)
 | _,_,_,_,.nil=>.nil
 | _,_,_,e,.cons h r=>.cons (bB.den g (λb hb=>e b (List.mem_append_left _ hb)) h) (aK.den g (λb hb=>e b (List.mem_append_right _ hb)) r)
end
theorem bU.den {G G':Hp} {v:Option V} {bs:List Addr} {s:Sl} (h:bU K G H v bs s) (g:ah G G') (hv:∀ b ∈ bs,∀ o,H b=some o->G' b=some o) (e:fzD s=some x):∃ u,v=some u/\Den K G' u x:=by
 cases s with
 | un=>cases e
 | d y=>cases e; obtain ⟨_,u,e,q⟩:=h; exact ⟨u,e,q.mono g⟩
 | o xs=>
   cases e
   obtain ⟨a,vs,rfl,h2,h3,h4⟩:=h
   exact ⟨_,h2,.lst (SqL.of (hv a (List.mem_cons_self ..) _ h3)) (h4.mono g)⟩
 | n t=>
   cases e
   obtain ⟨_,u,e,q⟩:=h
   exact ⟨u,e,q.den g hv⟩
 | x E=>cases e
theorem slot_of {i:Nat} {u:V} (h:(σ[i]?).join=some u):σ[i]?=some (some u):=by
 cases e:σ[i]? with
 | none=>rw [e] at h; cases h
 | some o=>rw [e] at h; exact congrArg some h
end
section
variable {X:Cx} {C:Bool} {τ:List Sl} {x y z:D} {a b e:Expr} {es:List Expr} {pos:Pos}
theorem aa (i:Nat) {n:Str} {x:D} (h:τ[i]?=some (.d x):=by rfl) (hN:X.N[i]?=some n:=by rfl) (hv:Vis X.env.scope n:=by first | exact Or.inl rfl | exact Or.inr (Or.inl rfl) | exact Or.inr (Or.inr rfl))
   (hd:(n == ("__debug__" : Str))=false:=by decide) (hcd:(n == ("__classdict__" : Str))=false:=by decide):PE X (.Name n pos) (dE X.K C τ (.d x)):=peW (bG hN hv hd hcd) λσ H Q q=>by
 obtain ⟨A,H₀,B,S,k⟩:=df q
 obtain ⟨_,u,e,d⟩:=S.sl i _ h
 exact ⟨u,slot_of e,k u H (ah.refl _) (d.mono (ay (ah.refl _) λ_ z=>ic z))⟩
theorem qU {v:V} (h:PE X e (tC v)) (d:∀ H,Den X.K H v x):PE X e (dE X.K C τ (.d x)):=peW h λσ H Q q=>by
 obtain ⟨A,H₀,B,S,k⟩:=df q
 exact k v H (ah.refl _) (d _)
theorem ae {i j}:PE X (.Constant (.int i) j pos) (dE X.K C τ (.d (.int i))):=qU pq λ_=>.int
theorem yD {b j}:PE X (.Constant (.bool b) j pos) (dE X.K C τ (.d (.bl b))):=qU AA λ_=>.bl
theorem nX {j}:PE X (.Constant .none j pos) (dE X.K C τ (.d .non)):=qU xN λ_=>.non
theorem ym {n:Str} {i:Int} (hm:∃ t,X.mg n=some (.int i t)) (hg:Gl X n:=by rfl) (hd:(n == ("__debug__" : Str))=false:=by decide):PE X (.Name n pos) (dE X.K C τ (.d (.int i))):=by
 obtain ⟨t,hm⟩:=hm
 exact qU (vX (v:=.int i) hg hm ⟨t,rfl⟩ hd) λ_=>.int
theorem bh {s:Sl} (h:PE X e (dE X.K C τ s)) (hx:fzD s=some x:=by rfl):PE X e (dE X.K C τ (.d x)):=peW h λσ H Q q=>by
 obtain ⟨A,H₀,B,S,k⟩:=df q
 refine ⟨A,H₀,B,S,λv H' bs e hf q=>?_⟩
 have vd:=S.vd (C:=C)
 obtain ⟨u,e1,d⟩:=q.den (G':=Hy.hd H' (vw C A B)) (ay (ah.refl _) λ_ z=>.inl z) (λb hb o ho=>ao.mpr ⟨λz=>(by obtain ⟨_,q⟩:=vd b z; rw [(hf b hb).1] at q; cases q),ho⟩) hx
 cases e1
 exact k v H' e d
noncomputable def flat:D->Bool
 | .tup _=>false
 | .lst _=>false
 | .box _=>false
 | _=>true
theorem jx {K:PySem.W.Frag} {G G':Hp} {v:V} (h:Den K G v x) (f:flat x=true):Den K G' v x:=by
 cases h with
 | non=>exact .non
 | bl=>exact .bl
 | int=>exact .int
 | str=>exact .str
 | tup _ _=>cases f
 | lst _ _=>cases f
 | box _=>cases f
noncomputable def ck (X:Cx) (f:Value->Value->Sem Value) (x y z:D):Prop:=∃ r:R2,OpR X f r /\
 ∀ (M:Addr->Prop) (v w:V) (H:Hp) (Q:VK),(∀ b,M b->∃ o,H b=some o)->Den X.K (hd H M) v x->Den X.K (hd H M) w y->(∀ u H',ah H H'->Den X.K (hd H' M) u z->Q u H')->r v w H Q
theorem two {r:R2} (hr:∀ (M:Addr->Prop) (v w:V) (H:Hp) (Q:VK),(∀ b,M b->∃ o,H b=some o)->Den X.K (hd H M) v x->Den X.K (hd H M) w y->(∀ u H',ah H H'->Den X.K (hd H' M) u z->Q u H')->r v w H Q) :
   ∀ σ H Q,dE X.K C τ (.d z) σ H Q->tOp r (dE X.K C τ (.d x)) (dE X.K C τ (.d y)) σ H Q:=by
 intro σ H Q h
 obtain ⟨A,H₀,B,S,k⟩:=df h
 refine aM S λv H1 e1 d1=>aM (S.mono e1) λw H2 e2 d2=>hr (vw C A B) v w H2 Q ((S.mono e1).mono e2).vd (d1.mono (ay e2 λ_ z=>z)) d2 λu H' e3 d3=>k u H' (e1.trans (e2.trans e3)) d3
theorem ak {op:Operator} (ha:PE X a (dE X.K C τ (.d x))) (hb:PE X b (dE X.K C τ (.d y))) (ho:ck X (binaryOp op) x y z):PE X (.BinOp a op b pos) (dE X.K C τ (.d z)):=by
 obtain ⟨r,h1,h2⟩:=ho
 exact peW (xf h1 ha hb) (two h2)
theorem dR {op:CmpOp} (ha:PE X a (dE X.K C τ (.d x))) (hb:PE X b (dE X.K C τ (.d y))) (ho:ck X (compareOp op) x y z) (hm:behindInMarks op b=false:=by first | exact u4 _ | rfl):PE X (.Compare a [op] [b] pos) (dE X.K C τ (.d z)):=by
 obtain ⟨r,h1,h2⟩:=ho
 exact peW (wj h1 ha hb hm) (two h2)
theorem uJ {t:TE} {c:Bool} (h:∀ σ H Q,dE X.K false τ (.d (.bl c)) σ H Q->t σ H Q):∀ σ H Q,dT X.K τ c σ H Q->t σ H λx H'=>∃ k,x=.bl k/\Q k H':=λσ H Q ⟨A,H₀,B,S,k⟩=>
 h σ H _ (aM S λv H' e d=>by cases d; exact ⟨c,rfl,k H' e⟩)
theorem aZ {op:CmpOp} {c:Bool} (ha:PE X a (dE X.K false τ (.d x))) (hb:PE X b (dE X.K false τ (.d y))) (ho:ck X (compareOp op) x y (.bl c)) (hm:behindInMarks op b=false:=by first | exact u4 _ | rfl):PT X (.Compare a [op] [b] pos) (dT X.K τ c):=by
 obtain ⟨r,h1,h2⟩:=ho
 exact ptW (w8 h1 ha hb hm) (uJ (two h2))
theorem fT {c:Bool} (h:PE X e (dE X.K false τ (.d (.bl c)))) (he:∀ whole,isTrue e X.env whole=(do let v <- whole; standAt e.pos; holding [v] (truthy v)):=by intro _; rfl):PT X e (dT X.K τ c):=
 ptW (yY h he) (uJ λ_ _ _ q=>q)
theorem kJ {g:Int->Int->V} {P:Int->Int->Prop} {i j:Int} (hc:P i j) (hz:∀ K H,Den K H (g i j) z):∀ (M:Addr->Prop) (v w:V) (H:Hp) (Q:VK),(∀ b,M b->∃ o,H b=some o)->Den X.K (hd H M) v (.int i)->Den X.K (hd H M) w (.int j) ->
   (∀ u H',ah H H'->Den X.K (hd H' M) u z->Q u H')->rI P g v w H Q:=λ_ v w H Q _ d1 d2 k=>by
 cases d1
 cases d2
 exact ⟨i,j,rfl,rfl,hc,k _ H (ah.refl _) (hz _ _)⟩
theorem iE {g:Int->Int->V} {i j:Int} (hz:∀ K H,Den K H (g i j) z):∀ (M:Addr->Prop) (v w:V) (H:Hp) (Q:VK),(∀ b,M b->∃ o,H b=some o)->Den X.K (hd H M) v (.int i)->Den X.K (hd H M) w (.int j) ->
   (∀ u H',ah H H'->Den X.K (hd H' M) u z->Q u H')->rI0 g v w H Q:=λ_ v w H Q _ d1 d2 k=>by
 cases d1
 cases d2
 exact ⟨i,j,rfl,rfl,k _ H (ah.refl _) (hz _ _)⟩
variable {i j:Int}
theorem aT:ck X (binaryOp .Add) (.int i) (.int j) (.int (i + j)):=⟨_,yv,iE λ_ _=>.int⟩
theorem b5:ck X (binaryOp .Sub) (.int i) (.int j) (.int (i - j)):=⟨_,zC,iE λ_ _=>.int⟩
theorem xl:ck X (binaryOp .BitAnd) (.int i) (.int j) (.int (Builtin.bitAnd i j)):=⟨_,yK,iE λ_ _=>.int⟩
theorem AS:ck X (binaryOp .BitOr) (.int i) (.int j) (.int (Builtin.bitOr i j)):=⟨_,Af,iE λ_ _=>.int⟩
theorem aB.ok' {i j:Int} (h:aB i j):IntMulOk i j:=by
 have b:∀ {k:Int} {n:Nat},k.natAbs.log2 < n->Builtin.Int.intBits k<=n:=λ{k n} q=>by
   unfold Builtin.Int.intBits
   split
   · exact Nat.zero_le _
   · exact q
 rcases h with h | h | ⟨h1,h2⟩
 · exact .of_left (b h)
 · exact .of_right (b h)
 · exact .of_bits (Nat.le_trans (b h1) (by decide)) (Nat.le_trans (b h2) (by decide))
theorem aO (h:aB i j):ck X (binaryOp .Mult) (.int i) (.int j) (.int (i * j)):=⟨rI aB λi j=>.int (i * j),opI λ_ _ _ _ _ _ _ hc q=>mul_int q (aB.ok' hc),kJ h λ_ _=>.int⟩
theorem bF (h:aE j):ck X (binaryOp .FloorDiv) (.int i) (.int j) (.int (i.fdiv j)):=⟨rI (λ_ j=>aE j) λi j=>.int (i.fdiv j),opI λ_ _ _ _ _ _ _ hc q=>floordiv_int hc.1 q (.inl (PyProof.noPylong_of_log2 hc.2)),kJ h λ_ _=>.int⟩
theorem bK (h:j ≠ 0):ck X (binaryOp .Mod) (.int i) (.int j) (.int (i.fmod j)):=⟨_,vW,kJ h λ_ _=>.int⟩
theorem kz (h:vV i j):ck X (binaryOp .Pow) (.int i) (.int j) (.int (i ^ j.toNat)):=⟨_,yd,kJ h λ_ _=>.int⟩
theorem um (h:vV i j):ck X (binaryOp .LShift) (.int i) (.int j) (.int (i * 2 ^ j.toNat)):=⟨_,yi,kJ h λ_ _=>.int⟩
theorem xG (h:0<=j):ck X (binaryOp .RShift) (.int i) (.int j) (.int (i / 2 ^ j.toNat)):=⟨_,zG,kJ h λ_ _=>.int⟩
theorem rG:ck X (compareOp .Lt) (.int i) (.int j) (.bl (decide (i < j))):=⟨_,A1,iE λ_ _=>.bl⟩
theorem zR:ck X (compareOp .LtE) (.int i) (.int j) (.bl (decide (i<=j))):=⟨_,Ap,iE λ_ _=>.bl⟩
theorem mQ:ck X (compareOp .Gt) (.int i) (.int j) (.bl (decide (j < i))):=⟨_,Ba,iE λ_ _=>.bl⟩
theorem AD:ck X (compareOp .GtE) (.int i) (.int j) (.bl (decide (j<=i))):=⟨_,AR,iE λ_ _=>.bl⟩
theorem gf:ck X (compareOp .Eq) (.int i) (.int j) (.bl (decide (i=j))):=⟨_,Av,λ_ v w H Q _ d1 d2 k=>by
 cases d1
 cases d2
 exact ⟨rfl,by rw [show decide (V.int i=V.int j)=decide (i=j) by simp]; exact k _ H (ah.refl _) .bl⟩⟩
theorem vh:ck X (compareOp .NotEq) (.int i) (.int j) (.bl (!decide (i=j))):=⟨_,Ax,λ_ v w H Q _ d1 d2 k=>by
 cases d1
 cases d2
 exact ⟨rfl,by rw [show decide (V.int i=V.int j)=decide (i=j) by simp]; exact k _ H (ah.refl _) .bl⟩⟩
theorem ng (h:PE X a (dE X.K C τ (.d (.int i)))):PE X (.UnaryOp .USub a pos) (dE X.K C τ (.d (.int (-i)))):=peW (AK zc h) λσ H Q q=>by
 obtain ⟨A,H₀,B,S,k⟩:=df q
 refine aM S λv H1 e1 d1=>?_
 cases d1
 exact ⟨i,rfl,k _ H1 e1 .int⟩
theorem ud {e:Expr}:PE X e λ_ _ _=>False:=λ_ _ _ _ _ _ h=>h.elim
theorem pw_no {e:Expr}:PW X e λ_ _ _=>False:=λ_ _ _ _ _ _ _ h=>h.elim
variable {p q:Bool} {c:Expr} {rest:List Expr}
theorem mK {op} {s:Sl} (h:PE X a (dE X.K C τ s)):PE X (.BoolOp op [a] pos) (dE X.K C τ s):=yW h
theorem i9 (ha:PE X a (dE X.K C τ (.d (.bl p)))) (hb:p=true->PE X (.BoolOp .And (b :: rest) pos) (dE X.K C τ (.d (.bl q)))):PE X (.BoolOp .And (a :: b :: rest) pos) (dE X.K C τ (.d (.bl (p && q)))):=by
 cases p with
 | false=>
   refine peW (vb ha ud) λσ H Q z=>?_
   obtain ⟨A,H₀,B,S,k⟩:=df z
   exact aM S λv H' e d=>by cases d; exact ⟨_,rfl,k _ H' e .bl⟩
 | true=>
   refine peW (vb ha (hb rfl)) λσ H Q z=>?_
   obtain ⟨A,H₀,B,S,k⟩:=df z
   exact aM S λv H' e d=>by cases d; exact ⟨_,rfl,aM (S.mono e) λv H2 e2 d2=>k v H2 (e.trans e2) d2⟩
theorem AX (ha:PE X a (dE X.K C τ (.d (.bl p)))):PE X (.UnaryOp .Not a pos) (dE X.K C τ (.d (.bl (!p)))):=peW (yS ha) λσ H Q z=>by
 obtain ⟨A,H₀,B,S,k⟩:=df z
 exact aM S λv H' e d=>by cases d; exact ⟨_,rfl,k _ H' e .bl⟩
theorem nr (ha:PT X a (dT X.K τ p)):PW X (.BoolOp .Or [a] pos) (dT X.K τ p):=pw_or1 ha
theorem rq (ha:PT X a (dT X.K τ p)) (hb:p=false->PW X (.BoolOp .Or (b :: rest) pos) (dT X.K τ q)):PW X (.BoolOp .Or (a :: b :: rest) pos) (dT X.K τ (p || q)):=by
 cases p with
 | true=>exact pwW (pw_or ha pw_no) λσ H Q ⟨A,H₀,B,S,k⟩=>⟨A,H₀,B,S,λH' e=>rA (k H' e)⟩
 | false=>exact pwW (pw_or ha (hb rfl)) λσ H Q ⟨A,H₀,B,S,k⟩=>⟨A,H₀,B,S,λH' e=>uD (⟨A,H₀,B,S.mono e,λH2 e2=>k H2 (e.trans e2)⟩)⟩
theorem fU (ha:PT X a (dT X.K τ p)):PT X (.UnaryOp .Not a pos) (dT X.K τ (!p)):=ptW (yL ha) λσ H Q ⟨A,H₀,B,S,k⟩=>⟨A,H₀,B,S,λH' e=>k H' e⟩
theorem xp {s:Sl} (hc:PT X c (dT X.K τ p)) (ha:p=true->PE X a (dE X.K C τ s)) (hb:p=false->PE X b (dE X.K C τ s)):PE X (.IfExp c a b pos) (dE X.K C τ s):=by
 have fin:∀ {σ H H' Q} {A:Addr->Prop} {H₀ B},Sta X.K A H₀ τ B σ H->(∀ v H' bs,ah H H'->Fr H H' bs->bU X.K (hd H' λb=>vw C A B b\/b ∈ bs) H' (some v) bs s->Q v H')->ah H H'->dE X.K C τ s σ H' Q:=λS k e=>
   ⟨_,_,_,S.mono e,λv H2 bs e2 hf h=>k v H2 bs (e.trans e2) (λb hb=>⟨e.free (hf b hb).1,(hf b hb).2⟩) h⟩
 cases p with
 | true=>exact peW (m8 hc (ha rfl) ud) λσ H Q ⟨A,H₀,B,S,k⟩=>⟨A,H₀,B,S,λH' e=>rA (fin S k e)⟩
 | false=>exact peW (m8 hc ud (hb rfl)) λσ H Q ⟨A,H₀,B,S,k⟩=>⟨A,H₀,B,S,λH' e=>uD (fin S k e)⟩
theorem vQ {op op':CmpOp} (ha:PE X a (dE X.K C τ (.d x))) (hb:PE X b (dE X.K C τ (.d y))) (hc:PE X c (dE X.K C τ (.d z))) (h1:ck X (compareOp op) x y (.bl p)) (h2:ck X (compareOp op') y z (.bl q))
   (hm:lastMarks [op,op'] [b,c]=false:=by with_unfolding_all rfl):PE X (.Compare a [op,op'] [b,c] pos) (dE X.K C τ (.d (.bl (p && q))))/\(C=false->PT X (.Compare a [op,op'] [b,c] pos) (dT X.K τ (p && q))):=by
 obtain ⟨r,o1,k1⟩:=h1
 obtain ⟨r',o2,k2⟩:=h2
 have key:∀ σ H Q,dE X.K C τ (.d (.bl (p && q))) σ H Q->oW r r' (dE X.K C τ (.d x)) (dE X.K C τ (.d y)) (dE X.K C τ (.d z)) σ H Q:=λσ H Q h=>by
   obtain ⟨A,H₀,B,S,k⟩:=df h
   refine aM S λv H1 e1 d1=>aM (S.mono e1) λw H2 e2 d2=>k1 (vw C A B) v w H2 _ ((S.mono e1).mono e2).vd (d1.mono (ay e2 λ_ z=>z)) d2 λu H3 e3 d3=>?_
   cases d3
   refine ⟨p,rfl,?_⟩
   cases p with
   | false=>exact uD (k _ H3 (e1.trans (e2.trans e3)) .bl)
   | true=>exact rA (aM (((S.mono e1).mono e2).mono e3) λw' H4 e4 d4=>k2 (vw C A B) w w' H4 Q ((((S.mono e1).mono e2).mono e3).mono e4).vd (d2.mono (ay (e3.trans e4) λ_ z=>z)) d4 λu H5 e5 d5=>k u H5 (e1.trans (e2.trans (e3.trans (e4.trans e5)))) d5)
 exact ⟨peW (vj o1 o2 ha hb hc hm) key,λhC=>by subst hC; exact ptW (uP o1 o2 ha hb hc hm) (uJ key)⟩
theorem af:PA X [] (dA X.K C τ []):=paW dh λσ H Q ⟨A,H₀,B,S,k⟩=>k [] H (ah.refl _) .nil
theorem ab {ds:List D} (ha:PE X e (dE X.K C τ (.d x))) (hr:PA X es (dA X.K C τ ds)) (hs:starEach (e :: es) X.env=(false,eval e X.env) :: starEach es X.env:=by rfl):PA X (e :: es) (dA X.K C τ (x :: ds)):=paW (bI ha hr hs) λσ H Q ⟨A,H₀,B,S,k⟩=>
 aM S λv H1 e1 d1=>fQ (S.mono e1) λvs H2 e2 d2=>k _ H2 (e1.trans e2) (.cons (d1.mono (ay e2 λ_ z=>z)) d2)
theorem cf {ds:List D} {m} (h:PA X es (dA X.K C τ ds)) (hl:Nat.ble ds.length 1000=true:=by rfl):PE X (.Tuple es m pos) (dE X.K C τ (.d (.tup ds))):=peW (tS h) λσ H Q q=>by
 obtain ⟨A,H₀,B,S,k⟩:=df q
 refine fQ S λvs H1 e1 d1=>⟨by rw [d1.length]; exact Nat.le_of_lt (kq (Nat.le_of_ble_eq_true hl)),λp hp=>k _ _ (e1.trans (aj hp _)) ?_⟩
 exact .tup (SqT.of (jM (S.mono e1).vd hp)) (d1.mono (ay (aj hp _) λ_ z=>z))
theorem fq {ds:List D} (h:PA X es (dA X.K C τ ds)) (hl:Nat.ble ds.length 1000=true:=by rfl):PE X (.List es pos) (dE X.K C τ (.o ds)):=peW (yF h) λσ H Q ⟨A,H₀,B,S,k⟩=>
 fQ S λvs H1 e1 d1=>⟨by rw [d1.length]; exact Nat.le_of_lt (kq (Nat.le_of_ble_eq_true hl)),λp hp=>k _ _ [p] (e1.trans (aj hp _)) (λb hb=>by
   obtain rfl:=List.mem_singleton.mp hb
   exact ⟨e1.free hp,_,aA⟩) ⟨p,vs,rfl,rfl,aA,d1.mono λb o z=>by
     obtain ⟨z1,z2⟩:=ao.mp z
     refine ao.mpr ⟨λy=>?_,aj hp _ _ _ z2⟩
     rcases y with y | y
     · exact z1 y
     · rw [List.mem_singleton.mp y] at z2; rw [hp] at z2; cases z2⟩⟩
end
noncomputable def spD (K:PySem.W.Frag) (Φ:List D->Sl->Prop):Sp:=λvs H Q _=>∃ A ds s,(∀ b,A b->∃ o,H b=some o)/\av K (hd H A) vs ds/\Φ ds s /\
 ∀ v H' bs,ah H H'->Fr H H' bs->bU K (hd H' λb=>A b\/b ∈ bs) H' (some v) bs s->Q v H'
noncomputable def Cal (P:Program) (w:World) (K:PySem.W.Frag) (mg:Str->Option Value) (base:Heap) (k:Nat) (n:Str) (Φ:List D->Sl->Prop):Prop:=
 ∃ f fd ps,aR P w K mg base CX0 k f fd ps (spD K Φ)/\mg n=some (.ref f)/\PySem.W.keepIn K (.ref f)=true/\Binds K fd ps []
theorem Cal.mono {P:Program} {w:World} {K:PySem.W.Frag} {mg:Str->Option Value} {base:Heap} {j k:Nat} {n:Str} {Φ:List D->Sl->Prop} (c:Cal P w K mg base j n Φ) (h:j<=k):Cal P w K mg base k n Φ:=
 let ⟨f,fd,ps,F,r⟩:=c; ⟨f,fd,ps,F.mono h,r⟩
noncomputable def ai:List Str:=["len","abs","max","min","int","bool","list","tuple","str","isinstance","range","enumerate","all","zip","sorted","sum","any","reversed"]
structure Bk (X:Cx) (k:Nat):Prop where
 room:eY k X.A
 calm:X.calm=true
 blt:∀ x ∈ ai,X.mg x=none
 po:PassesOwn (model X.prog X.w) X.A X.env X.xe
section
variable {X:Cx} {C:Bool} {τ:List Sl} {x y z:D} {a b e:Expr} {es:List Expr} {pos p:Pos} {k:Nat} {s:Sl} {ds:List D} {i j:Int}
theorem x_call {n:Str} {Φ:List D->Sl->Prop} (B:Bk X k) (c:Cal X.prog X.w X.K X.mg X.base k n Φ) (ha:PA X (e :: es) (dA X.K C τ ds)) (h:Φ ds s) (hg:Gl X n:=by rfl) (hdb:(n == ("__debug__" : Str))=false:=by decide)
   (he:starEach (e :: es) X.env=(false,eval e X.env) :: starEach es X.env:=by rfl) (hpl:(backTo pos (starEach es X.env)).any (·.1)=false:=by rfl):PE X (.Call (.Name n p) (e :: es) [] pos) (dE X.K C τ s):=by
 obtain ⟨f,fd,ps,F,hm,hk,hb⟩:=c
 refine peW (wD F B.room hg hm hk hb .nil zK ha hdb he hpl) λσ H Q ⟨A,H₀,B,S,q⟩=>fQ S λvs H1 e1 d1=>?_
 rw [List.append_nil]
 exact ⟨vw C A B,ds,s,(S.mono e1).vd,d1,h,λv H' bs e2 hf h2=>q v H' bs (e1.trans e2) (λb hb=>⟨e1.free (hf b hb).1,(hf b hb).2⟩) h2⟩
noncomputable def iS (X:Cx) (f:Value) (ds:List D) (s:Sl):Prop:=∃ r:List V->Hp->VK->Prop,fu X f r /\
 ∀ (M:Addr->Prop) (vs:List V) (H:Hp) (Q:VK),(∀ b,M b->∃ o,H b=some o)->av X.K (hd H M) vs ds->(∀ u H' bs,ah H H'->Fr H H' bs->bU X.K (hd H' λb=>M b\/b ∈ bs) H' (some u) bs s->Q u H')->r vs H Q
theorem tE {r:List V->Hp->VK->Prop} (hr:∀ (M:Addr->Prop) (vs:List V) (H:Hp) (Q:VK),(∀ b,M b->∃ o,H b=some o)->av X.K (hd H M) vs ds->(∀ u H' bs,ah H H'->Fr H H' bs->bU X.K (hd H' λb=>M b\/b ∈ bs) H' (some u) bs s->Q u H')->r vs H Q) :
   ∀ σ H Q,dE X.K C τ s σ H Q->tCB r (dA X.K C τ ds) σ H Q:=λσ H Q ⟨A,H₀,B,S,q⟩=>
 fQ S λvs H1 e1 d1=>hr (vw C A B) vs H1 Q (S.mono e1).vd d1 λv H' bs e2 hf h2=>q v H' bs (e1.trans e2) (λb hb=>⟨e1.free (hf b hb).1,(hf b hb).2⟩) h2
theorem bo {n:Str} {id:String} (B:Bk X k) (ha:PA X (e :: es) (dA X.K C τ ds)) (c:iS X (.builtin id) ds s) (hn:n ∈ ai:=by decide) (hg:Gl X n:=by rfl) (hv:bootBuiltins n=some (.builtin id):=by decide +kernel) (h1:n ≠ "__name__":=by decide) (hdb:(n == ("__debug__" : Str))=false:=by decide)
   (he:starEach (e :: es) X.env=(false,eval e X.env) :: starEach es X.env:=by rfl) (hpl:(backTo pos (starEach es X.env)).any (·.1)=false:=by rfl):PE X (.Call (.Name n p) (e :: es) [] pos) (dE X.K C τ s):=by
 obtain ⟨r,h1,h2⟩:=c
 exact peW (nE h1 hg (B.blt _ hn) hv ha (by assumption) hdb he hpl) (tE h2)
theorem o9 {n:Str} {T:String} (B:Bk X k) (ha:PA X (e :: es) (dA X.K C τ ds)) (c:iS X (.type T) ds s) (hn:n ∈ ai:=by decide) (hg:Gl X n:=by rfl) (hv:bootBuiltins n=some (.type T):=by decide +kernel) (h1:n ≠ "__name__":=by decide) (hdb:(n == ("__debug__" : Str))=false:=by decide)
   (he:starEach (e :: es) X.env=(false,eval e X.env) :: starEach es X.env:=by rfl) (hpl:(backTo pos (starEach es X.env)).any (·.1)=false:=by rfl):PE X (.Call (.Name n p) (e :: es) [] pos) (dE X.K C τ s):=by
 obtain ⟨r,h1,h2⟩:=c
 exact peW (kW h1 hg (B.blt _ hn) hv ha (by assumption) hdb he hpl) (tE h2)
theorem jj {K:PySem.W.Frag} {H:Hp} {M:Addr->Prop} {v:V} (h:Den K (hd H M) v x):bU K (hd H λb=>M b\/b ∈ ([]:List Addr)) H (some v) [] (.d x):=⟨rfl,v,rfl,h.mono (ay (ah.refl _) λ_ z=>z.elim id λz=>nomatch z)⟩
theorem gi {H H':Hp}:Fr H H' []:=λ_ z=>nomatch z
theorem iA {xs:List D}:iS X (.builtin "len") [.lst xs] (.d (.int xs.length)):=⟨_,gN,λM vs H Q _ d q=>by
 cases d with
 | cons d r=>
   cases r
   cases d with
   | lst h r=>
     refine ⟨_,_,rfl,.inl (aN aG h),?_⟩
     rw [r.length]
     exact q _ H [] (ah.refl _) gi (jj .int)⟩
theorem lr {xs:List D}:iS X (.builtin "len") [.tup xs] (.d (.int xs.length)):=⟨_,gN,λM vs H Q _ d q=>by
 cases d with
 | cons d r=>
   cases r
   cases d with
   | tup h r=>
     refine ⟨_,_,rfl,.inr (aX aG h),?_⟩
     rw [r.length]
     exact q _ H [] (ah.refl _) gi (jj .int)⟩
noncomputable def vE (i:Int):Int:=if i < 0 then -i else i
theorem ny:iS X (.builtin "abs") [.int i] (.d (.int (vE i))):=⟨_,tN,λM vs H Q _ d q=>by
 cases d with
 | cons d r=>
   cases r
   cases d
   exact ⟨_,rfl,q _ H [] (ah.refl _) gi (jj .int)⟩⟩
theorem pO (hc:X.calm=true):iS X (.builtin "min") [.int i,.int j] (.d (.int (if j < i then j else i))):=⟨_,r9 hc,λM vs H Q _ d q=>by
 cases d with
 | cons d r=>
   cases r with
   | cons d' r=>
     cases r
     cases d
     cases d'
     exact ⟨_,_,rfl,q _ H [] (ah.refl _) gi (jj .int)⟩⟩
theorem xq {c:Bool}:iS X (.type "int") [.bl c] (.d (.int (if c then 1 else 0))):=⟨_,qY,λM vs H Q _ d q=>by
 cases d with
 | cons d r=>
   cases r
   cases d
   exact .inr ⟨_,rfl,q _ H [] (ah.refl _) gi (jj .int)⟩⟩
theorem jw {K:PySem.W.Frag} {H:Hp} {M:Addr->Prop} {p:Addr} {vs:List V} {xs:List D} (hp:H p=none) (d:av K (hd H M) vs xs) :
   ah H (upd H p (.lst vs))/\Fr H (upd H p (.lst vs)) [p]/\bU K (hd (upd H p (.lst vs)) λb=>M b\/b ∈ [p]) (upd H p (.lst vs)) (some (.ref p)) [p] (.o xs):=
 ⟨aj hp _,λb hb=>by
   obtain rfl:=List.mem_singleton.mp hb
   exact ⟨hp,_,aA⟩,p,vs,rfl,rfl,aA,d.mono λb o z=>by
     obtain ⟨z1,z2⟩:=ao.mp z
     refine ao.mpr ⟨λy=>?_,aj hp _ _ _ z2⟩
     rcases y with y | y
     · exact z1 y
     · rw [List.mem_singleton.mp y] at z2; rw [hp] at z2; cases z2⟩
theorem oF {xs:List D}:iS X (.type "list") [.lst xs] (.o xs):=⟨_,gm,λM vs H Q _ d q=>by
 cases d with
 | cons d r=>
   cases r
   cases d with
   | lst h r=>
     refine ⟨_,_,rfl,.inl (aN aG h),λp hp=>?_⟩
     obtain ⟨z1,z2,z3⟩:=jw (K:=X.K) (M:=M) hp r
     exact q _ _ [p] z1 z2 z3⟩
theorem pI {xs:List D}:iS X (.type "list") [.tup xs] (.o xs):=⟨_,gm,λM vs H Q _ d q=>by
 cases d with
 | cons d r=>
   cases r
   cases d with
   | tup h r=>
     refine ⟨_,_,rfl,.inr (aX aG h),λp hp=>?_⟩
     obtain ⟨z1,z2,z3⟩:=jw (K:=X.K) (M:=M) hp r
     exact q _ _ [p] z1 z2 z3⟩
theorem tX {K:PySem.W.Frag} {H:Hp} {vs:List V} {ds:List D} {i:Int} {d:D} (r:av K H vs ds) (h:atI ds i=some d):∃ v,atI vs i=some v/\Den K H v d:=by
 unfold atI at h ⊢
 rw [r.length]
 cases e:ixN ds.length i with
 | none=>rw [e] at h; cases h
 | some j=>rw [e] at h; exact r.get h
noncomputable def yg (X:Cx) (x y z:D):Prop:=∃ r:R2,IxR X r /\
 ∀ (M:Addr->Prop) (v w:V) (H:Hp) (Q:VK),(∀ b,M b->∃ o,H b=some o)->Den X.K (hd H M) v x->Den X.K (hd H M) w y->(∀ u H',ah H H'->Den X.K (hd H' M) u z->Q u H')->r v w H Q
theorem aJ (ha:PE X a (dE X.K C τ (.d x))) (hb:PE X b (dE X.K C τ (.d y))) (ho:yg X x y z) (hs:lK b:=by exact λ_ _=>rfl):PE X (.Subscript a b pos) (dE X.K C τ (.d z)):=by
 obtain ⟨r,h1,h2⟩:=ho
 exact peW (xB h1 ha hb hs) (two h2)
theorem aS {xs:List D} (h:atI xs i=some z):yg X (.lst xs) (.int i) z:=⟨_,p9,λM v w H Q _ d1 d2 q=>by
 cases d2
 cases d1 with
 | lst hs r=>
   obtain ⟨v,e,d⟩:=tX r h
   exact ⟨_,_,_,_,rfl,rfl,aN aG hs,e,q _ H (ah.refl _) d⟩⟩
theorem aU {xs:List D} (h:atI xs i=some z):yg X (.tup xs) (.int i) z:=⟨_,xZ,λM v w H Q _ d1 d2 q=>by
 cases d2
 cases d1 with
 | tup hs r=>
   obtain ⟨v,e,d⟩:=tX r h
   exact ⟨_,_,_,_,rfl,rfl,aX aG hs,e,q _ H (ah.refl _) d⟩⟩
noncomputable def dO (K:PySem.W.Frag) (τ:List Sl) (c:Option Int):TO:=λσ H Q=>∃ A H₀ B,Sta K A H₀ τ B σ H/\∀ H',ah H H'->Q c H'
theorem zI {e:Option Expr} {t t':TO} (h:PO X e t) (f:∀ σ H Q,t' σ H Q->t σ H Q):PO X e t':=λpins s σ H Q I q=>h pins s σ H Q I (f σ H Q q)
theorem oE:PO X none (dO X.K τ none):=zI wa λσ H Q ⟨A,H₀,B,S,k⟩=>k H (ah.refl _)
theorem bN (h:PE X e (dE X.K false τ (.d (.int i)))):PO X (some e) (dO X.K τ (some i)):=zI (vF h) λσ H Q ⟨A,H₀,B,S,k⟩=>aM S λv H1 e1 d1=>by
 cases d1
 exact ⟨_,rfl,k H1 e1⟩
noncomputable def cutD (xs:List D) (lo hi:Option Int):List D:=(xs.drop (HT.sIx xs.length 0 lo)).take (HT.sIx xs.length xs.length hi - HT.sIx xs.length 0 lo)
theorem rm {lo hi:Option Expr} {l u:Option Int} {xs:List D} {p2:Pos} (ha:PE X a (dE X.K C τ (.d (.lst xs)))) (hl:PO X lo (dO X.K τ l)) (hu:PO X hi (dO X.K τ u)):PE X (.Subscript a (.Slice lo hi none p2) pos) (dE X.K C τ (.o (cutD xs l u))):=
 peW (mV vK ha hl hu) λσ H Q ⟨A,H₀,B,S,k⟩=>aM S λv H1 e1 d1=>⟨A,H₀,B,S.mono e1,λH2 e2=>⟨A,H₀,B,(S.mono e1).mono e2,λH3 e3=>by
   cases d1 with
   | @lst _ ws _ h r=>
     have h:=aN (e2.trans e3) (aN aG h)
     refine ⟨_,_,rfl,h,λp hp=>?_⟩
     have r:=r.mono (ay (e2.trans e3) λ_ z=>z)
     have r':av X.K (hd H3 (vw C A B)) (jt ws l u) (cutD xs l u):=by
       unfold jt cutD
       rw [r.length]
       exact (r.drop _).take _
     obtain ⟨z1,z2,z3⟩:=jw (K:=X.K) hp r'
     exact k _ _ [p] (e1.trans (e2.trans (e3.trans z1))) (λb hb=>⟨(e1.trans (e2.trans e3)).free (z2 b hb).1,(z2 b hb).2⟩) z3⟩⟩
inductive Ty where
 | int | bool | str | list | tuple
noncomputable def tyN:Ty->String
 | .int=>"int" | .bool=>"bool" | .str=>"str" | .list=>"list" | .tuple=>"tuple"
noncomputable def Aa:D->String
 | .non=>"NoneType" | .bl _=>"bool" | .int _=>"int" | .str _=>"str" | .tup _=>"tuple" | .lst _=>"list" | .box _=>"dict"
noncomputable def nQ:Ty->D->Bool
 | .int,.int _=>true
 | .int,.bl _=>true
 | .bool,.bl _=>true
 | .str,.str _=>true
 | .list,.lst _=>true
 | .tuple,.tup _=>true
 | _,_=>false
theorem xW (K:PySem.W.Frag) (d:D) (t:Ty):PySem.W.kitOne K (.type (Aa d)) (.type (tyN t))=some (nQ t d):=by
 cases d <;> cases t <;> (show PySem.W.kitOne K (.type _) (.type _)=some _) <;> with_unfolding_all rfl
theorem yZ (t:Ty):fu X (.builtin "isinstance") (λxs H Q=>∃ G x d,ah G H/\xs=[x,.ty (tyN t)]/\Den X.K G x d/\Q (.bl (nQ t d)) H):=by
 intro pins s σ H xs us Q I r q
 obtain ⟨G,x,d,sg,rfl,dx,q⟩:=q
 obtain ⟨u,w,rfl,rx,rt⟩:∃ u w,us=[u,w]/\RelV x u/\RelV (.ty (tyN t)) w:=by
   cases r with
   | cons r1 r=>cases r with
     | cons r2 r=>cases r; exact ⟨_,_,rfl,r1,r2⟩
 cases (show w=Value.type (tyN t) from rt)
 have kt:=xW X.K d t
 have fin:∀ tk,EP X pins σ Q (.bool (nQ t d)) { s with toks:=tk }:=λtk=>⟨.bl _,H,I.tok _,rfl,q⟩
 cases dx with
 | non=>cases (show u=Value.none from rx); exact PySem.W.kia_one PySem.W.kitx_none I.kIn True.intro kt (λz=>nomatch z) fin
 | bl=>cases (show u=Value.bool _ from rx); exact PySem.W.kia_one PySem.W.kitx_bool I.kIn True.intro kt (λz=>nomatch z) fin
 | int=>obtain ⟨t',z⟩:=(show ∃ t,u=Value.int _ t from rx); cases z; exact PySem.W.kia_one PySem.W.kitx_int I.kIn True.intro kt (λz=>nomatch z) fin
 | str=>obtain ⟨t',z⟩:=(show ∃ t,u=Value.str _ t from rx); cases z; exact PySem.W.kia_one PySem.W.kitx_str I.kIn True.intro kt (λz=>nomatch z) fin
 | tup h r1=>
   cases (show u=Value.ref _ from rx)
   obtain ⟨its,_,⟨o,h1,h2,_⟩,_⟩:=I.tuple (aX sg h)
   exact PySem.W.kia_one PySem.W.kitx_tuple I.kIn ⟨o,h1,h2⟩ kt (λz=>nomatch z) fin
 | lst h r1=>
   cases (show u=Value.ref _ from rx)
   obtain ⟨its,_,⟨o,n,h1,h2,_⟩,_⟩:=I.list (aN sg h)
   exact PySem.W.kia_one PySem.W.kitx_list I.kIn ⟨o,h1,h2⟩ kt (λz=>nomatch z) fin
 | @box a x h=>
   cases (show u=Value.ref _ from rx)
   obtain ⟨o',h1,h2⟩:=x.isd h
   obtain ⟨o,h3,h4⟩:=h2 _ _ _ _ (I.hok a _ (sg _ _ h1))
   exact PySem.W.kia_one PySem.W.kitx_dict I.kIn ⟨o,h3,h4⟩ kt (λz=>nomatch z) fin
theorem kI {n:Str} {q:Pos} (t:Ty) (B:Bk X k) (ha:PE X a (dE X.K false τ (.d x))) (hn:n ∈ ai:=by decide) (ht:bootBuiltins n=some (.type (tyN t)):=by decide +kernel) (hg:Gl X "isinstance":=by rfl) (hg':Gl X n:=by rfl) (h1:n ≠ "__name__":=by decide) (hdb:(n == ("__debug__" : Str))=false:=by decide)
   (he:starEach [a,.Name n q] X.env=(false,eval a X.env) :: starEach [.Name n q] X.env:=by rfl) (hpl:(backTo pos (starEach [.Name n q] X.env)).any (·.1)=false:=by rfl):PE X (.Call (.Name "isinstance" p) [a,.Name n q] [] pos) (dE X.K C τ (.d (.bl (nQ t x)))):=by
 refine peW (nE (yZ t) hg (B.blt _ (by decide)) (by decide +kernel) (bI ha (bI (vq (v:=.ty (tyN t)) hg' (B.blt _ hn) ht rfl h1 hdb) dh) he) (by decide) (by decide) he hpl) λσ H Q q=>?_
 obtain ⟨A,H₀,B,S,k⟩:=df q
 exact aM S λv H1 e1 d1=>⟨_,v,x,aG,rfl,d1,k _ H1 e1 .bl⟩
end
section
variable {K:PySem.W.Frag} {A:Addr->Prop} {H₀ H H':Hp} {τ:List Sl} {B:Nat->List Addr} {σ:L2.St}
theorem Sta.put (S:Sta K A H₀ τ B σ H) {i:Nat} {a:Addr} {xs ys:List D} {vs:List V} (hi:τ[i]?=some (.o xs)) (hB:B i=[a]) (d:av K (hd H (own A B)) vs ys):Sta K A H₀ (τ.set i (.o ys)) B σ (upd H a (.lst vs)):=by
 have ha:own A B a:=.inr ⟨i,by rw [hB]; exact List.mem_singleton.mpr rfl⟩
 have ne:∀ b,b ≠ a->upd H a (.lst vs) b=H b:=λb h=>au h
 have sm:ah (hd H (own A B)) (hd (upd H a (.lst vs)) (own A B)):=λb o z=>by
   obtain ⟨z1,z2⟩:=ao.mp z
   exact ao.mpr ⟨z1,by rw [ne b (λe=>z1 (e ▸ ha))]; exact z2⟩
 have f0:H₀ a=none:=S.fr i a (by rw [hB]; exact List.mem_singleton.mpr rfl)
 have hs:ah H₀ (upd H a (.lst vs)):=λb o z=>by rw [ne b (λe=>by rw [e,f0] at z; cases z)]; exact S.same b o z
 refine ⟨hs,by rw [List.length_set,S.len],λj t hj=>?_,S.fr,S.uq,S.ad,λj b hb=>?_⟩
 · by_cases ej:j=i
   · subst ej
     have hl:=(List.getElem?_eq_some_iff.mp hi).1
     rw [List.getElem?_set_self hl] at hj
     cases hj
     obtain ⟨a',vs',e1,e2,_,_⟩:=S.sl j _ hi
     rw [hB] at e1
     cases e1
     exact ⟨a,vs,hB,e2,aA,d.mono sm⟩
   · rw [List.getElem?_set_ne (λz=>ej z.symm)] at hj
     have q:=S.sl j t hj
     have off:∀ b ∈ B j,b ≠ a:=λb hb e=>ej (S.uq j i a (e ▸ hb) (by rw [hB]; exact List.mem_singleton.mpr rfl))
     cases t with
     | un=>exact q
     | d x=>obtain ⟨z,u,e,d⟩:=q; exact ⟨z,u,e,d.mono sm⟩
     | o zs=>
       obtain ⟨c,ws,z1,z2,z3,z4⟩:=q
       exact ⟨c,ws,z1,z2,by rw [ne c (off c (by rw [z1]; exact List.mem_singleton.mpr rfl))]; exact z3,z4.mono sm⟩
     | n t=>
       obtain ⟨z0,u,z1,z2⟩:=q
       exact ⟨z0,u,z1,z2.frame sm λb hb=>ne b (off b hb)⟩
     | x E=>
       obtain ⟨c,o,z1,z2,z3,z4⟩:=q
       exact ⟨c,o,z1,z2,by rw [ne c (off c (by rw [z1]; exact List.mem_singleton.mpr rfl))]; exact z3,E.mono sm z4⟩
 · by_cases e:b=a
   · subst e; exact ⟨_,aA⟩
   · rw [ne b e]; exact S.bd j b hb
theorem Sta.fz (S:Sta K A H₀ τ B σ H) {i:Nat} {s:Sl} {x:D} (hi:τ[i]?=some s) (hx:fzD s=some x):Sta K A H₀ (τ.set i (.d x)) (upB B i []) σ H:=
 S.less (λ_ z=>nomatch z) λG g hv=>by
   obtain ⟨u,e,d⟩:=(S.sl i s hi).den (G':=G) g (λb hb o ho=>hv b o hb (λz=>nomatch z) ho) hx
   exact ⟨rfl,u,e,d⟩
end
section
variable {X:Cx} {C:Bool} {τ:List Sl} {x y z:D} {a b e c:Expr} {es:List Expr} {pos p:Pos} {k:Nat} {s:Sl} {ds:List D} {N:Po} {st:Stmt} {rest body els:List Stmt}
theorem aH (h:N.nx τ):PSs X [] (dS X.K τ N):=oY vA λD σ H ⟨A,H₀,B,S,M⟩=>M.nx τ B σ H h S
theorem a4 {M:List Sl->Prop} (h1:PS X st (dS X.K τ { N with nx:=M })) (h2:∀ τ',M τ'->PSs X rest (dS X.K τ' N)):PSs X (st :: rest) (dS X.K τ N):=by
 have h:PSs X rest λD σ H=>∃ τ',M τ'/\dS X.K τ' N D σ H:=λpins s σ H D I ⟨τ',m,q⟩=>h2 τ' m pins s σ H D I q
 exact oY (uu h1 h) λD σ H ⟨A,H₀,B,S,Me⟩=>⟨A,H₀,B,S,λτ' B' σ' H' m S'=>⟨τ',m,A,H₀,B',S',Me⟩,Me.bk,Me.ct,Me.rt,Me.xc⟩
theorem zh (i:Nat) {s:Sl} {x:D} (h:PSs X rest (dS X.K (τ.set i (.d x)) N)) (hi:τ[i]?=some s:=by rfl) (hx:fzD s=some x:=by rfl):PSs X rest (dS X.K τ N):=oY h λD σ H ⟨A,H₀,B,S,Me⟩=>⟨A,H₀,_,S.fz hi hx,Me⟩
theorem aw (i:Nat) {n:Str} {p:Pos} (hN:X.N.Nodup) (he:PE X e (dE X.K true τ s)) (hr:PSs X rest (dS X.K (τ.set i s) N)) (hi:X.N[i]?=some n:=by rfl) (hx:Loc X.env.scope n:=by first | exact .inl rfl | exact .inr rfl) (hs:swapsWith e (some (.Name n p)) pos.line X.env=pure false:=by rfl)
   (hf:X.fn n=true\/X.env.scope.names.lookup n=some .local:=by first | exact .inl rfl | exact .inr rfl | assumption):PSs X (.Assign [.Name n p] e pos :: rest) (dS X.K τ N):=
 a4 (M:=(·=τ.set i s)) (psW (zz hN hi hx he hs hf) λD σ H ⟨A,H₀,B,S,Me⟩=>⟨A,H₀,B,S,λv H' bs e hf h=>Me.nx _ _ _ _ rfl (S.set e hf h)⟩) λ_ e=>e ▸ hr
theorem ow (he:PE X e (dE X.K true τ s)) (hr:PSs X rest (dS X.K τ N)) (hs:swapsWith e none pos.line X.env=pure false:=by rfl):PSs X (.Expr e pos :: rest) (dS X.K τ N):=
 a4 (M:=(·=τ)) (psW (fF he hs) λD σ H ⟨A,H₀,B,S,Me⟩=>⟨A,H₀,B,S,λv H' bs e hf h=>Me.nx _ _ _ _ rfl (S.mono e)⟩) λ_ e=>e ▸ hr
theorem aI (he:PE X e (dE X.K false τ s)) (h:N.rt s):PSs X (.Return (some e) pos :: rest) (dS X.K τ N):=
 a4 (M:=λ_=>False) (psW (oj he) λD σ H ⟨A,H₀,B,S,Me⟩=>⟨A,H₀,B,S,λv H' bs e hf q=>Me.rt v H' bs s h (S.same.trans e) (λb hb=>⟨S.same.free (hf b hb).1,(hf b hb).2⟩) q⟩) λ_ e=>e.elim
theorem l9 (i:Nat) {n:Str} (h:N.rt s) (hi:τ[i]?=some s:=by rfl) (h0:s ≠ .un:=by exact nofun) (hN:X.N[i]?=some n:=by rfl) (hv:Vis X.env.scope n:=by first | exact Or.inl rfl | exact Or.inr (Or.inl rfl) | exact Or.inr (Or.inr rfl))
   (hd:(n == ("__debug__" : Str))=false:=by decide) (hcd:(n == ("__classdict__" : Str))=false:=by decide):PSs X (.Return (some (.Name n p)) pos :: rest) (dS X.K τ N):=
 a4 (M:=λ_=>False) (psW (oj (bG hN hv hd hcd)) λD σ H ⟨A,H₀,B,S,Me⟩=>by
   have q:=S.sl i s hi
   obtain ⟨u,e⟩:∃ u,(σ[i]?).join=some u:=by
     cases s with
     | un=>exact absurd rfl h0
     | d x=>obtain ⟨_,u,e,_⟩:=q; exact ⟨u,e⟩
     | o xs=>obtain ⟨_,_,_,e,_⟩:=q; exact ⟨_,e⟩
     | n t=>obtain ⟨_,u,e,_⟩:=q; exact ⟨u,e⟩
     | x E=>obtain ⟨_,_,_,e,_⟩:=q; exact ⟨_,e⟩
   rw [e] at q
   exact ⟨u,slot_of e,Me.rt u H (B i) s h S.same (λb hb=>⟨S.fr i b hb,S.bd i b hb⟩) (q.mono (ay (ah.refl _) λb z=>z.elim .inl λz=>.inr ⟨i,z⟩) (ah.refl _))⟩) λ_ e=>e.elim
theorem xF {H H':Hp} {σ:L2.St} {D:Ends} {A:Addr->Prop} {H₀:Hp} {B:Nat->List Addr} (S:Sta X.K A H₀ τ B σ H) (Me:Meets X.K A H₀ N D) (e:ah H H'):dS X.K τ N D σ H':=⟨A,H₀,B,S.mono e,Me⟩
theorem Bv {t:Bool} (hc:PT X c (dT X.K τ t)) (ha:t=true->PSs X body (dS X.K τ N)) (hb:t=false->PSs X els (dS X.K τ N)):PS X (.If c body els pos) (dS X.K τ N):=by
 cases t with
 | true=>exact psW (w9 hc (ha rfl) kP) λD σ H ⟨A,H₀,B,S,Me⟩=>⟨A,H₀,B,S,λH' e=>rA (xF S Me e)⟩
 | false=>exact psW (w9 hc kP (hb rfl)) λD σ H ⟨A,H₀,B,S,Me⟩=>⟨A,H₀,B,S,λH' e=>uD (xF S Me e)⟩
theorem iR {t:Bool} {M:List Sl->Prop} (hc:PT X c (dT X.K τ t)) (ha:t=true->PSs X body (dS X.K τ { N with nx:=M })) (hb:t=false->PSs X els (dS X.K τ { N with nx:=M })) (hr:∀ τ',M τ'->PSs X rest (dS X.K τ' N)):PSs X (.If c body els pos :: rest) (dS X.K τ N):=
 a4 (Bv hc ha hb) hr
theorem cK {t:Bool} (hc:PT X c (dT X.K τ t)) (ha:t=true->PSs X body (dS X.K τ { N with nx:=λ_=>False })) (hr:t=false->PSs X rest (dS X.K τ N)):PSs X (.If c body [] pos :: rest) (dS X.K τ N):=by
 cases t with
 | true=>exact iR (M:=λ_=>False) hc ha (λz=>nomatch z) λ_ z=>z.elim
 | false=>exact iR (M:=(·=τ)) hc (λz=>nomatch z) (λ_=>aH rfl) λ_ e=>e ▸ hr rfl
theorem iB {t:Bool} (hc:PT X c (dT X.K τ t)) (ht:t=false) (hr:PSs X rest (dS X.K τ N)):PSs X (.If c body [] pos :: rest) (dS X.K τ N):=cK hc (λz=>by rw [ht] at z; cases z) λ_=>hr
theorem xi (i:Nat) {n:Str} {xs:List D} {ap cp:Pos} (he:PE X e (dE X.K true τ (.d x))) (hl:xs.length < 1000000) (hr:PSs X rest (dS X.K (τ.set i (.o (xs++[x]))) N)) (hi:τ[i]?=some (.o xs):=by rfl) (hN:X.N[i]?=some n:=by rfl)
   (hv:Vis X.env.scope n:=by first | exact Or.inl rfl | exact Or.inr (Or.inl rfl) | exact Or.inr (Or.inr rfl)) (hd:(n == ("__debug__" : Str))=false:=by decide) (hcd:(n == ("__classdict__" : Str))=false:=by decide)
   (hfew:((backTo cp (starEach [e] X.env)).all (λx=>!x.1) && (backToKw cp (keywordEach [] X.env)).all (λx=>x.1.isSome) && decide (([e]:List Expr).length + ([]:List Keyword).length + (if ([]:List Keyword).isEmpty then 0 else 1) < 30))=true:=by rfl)
   (hline:(ap.endLine == cp.line)=true:=by rfl) (hst:starEach [e] X.env=(false,eval e X.env) :: starEach [] X.env:=by rfl) (hpl:(backTo cp (starEach [] X.env)).any (·.1)=false:=by rfl)
   (hs:swapsWith (.Call (.Attribute (.Name n p) "append" ap) [e] [] cp) none pos.line X.env=pure false:=by rfl) (hbase:attributeBase (.Name n p) "append" X.env (eval (.Name n p) X.env)=eval (.Name n p) X.env:=by rfl) :
   PSs X (.Expr (.Call (.Attribute (.Name n p) "append" ap) [e] [] cp) pos :: rest) (dS X.K τ N):=
 a4 (M:=(·=τ.set i (.o (xs++[x])))) (psW (fF (kG PySem.F.plainAttrs_list PySem.F.slot_list_append PySem.F.type_list_append dD (bG hN hv hd hcd) (bI he dh hst) hbase hfew hline hst hpl) hs) λD σ H ⟨A,H₀,B,S,Me⟩=>by
   obtain ⟨l,vs,hb,e1,e2,d⟩:=S.sl i _ hi
   refine ⟨_,slot_of e1,.inl ⟨rfl,_,SqL.of e2⟩,aM S λv H1 e3 d1=>⟨l,vs,v,rfl,rfl,e3 _ _ e2,by rw [d.length]; exact Nat.lt_trans hl (by decide),?_⟩⟩
   exact Me.nx _ _ _ _ rfl ((S.mono e3).put hi hb ((d.mono (ay e3 λ_ z=>z)).append (.cons d1 .nil)))) λ_ e=>e ▸ hr
theorem l6 {K:PySem.W.Frag} {H:Hp}:∀ {vs:List V} {ds:List D} {v:V} {d:D} (j:Nat),av K H vs ds->Den K H v d->av K H (vs.set j v) (ds.set j d)
 | _,_,_,_,_,.nil,_=>.nil
 | _,_,_,_,0,.cons _ r,h=>.cons h r
 | _,_,_,_,j + 1,.cons h' r,h=>.cons h' (l6 j r h)
theorem AW (i:Nat) {n:Str} {xs:List D} {m:Int} {j:Nat} {ix:Expr} {sp:Pos} (hx:PE X ix (dE X.K false τ (.d (.int m)))) (he:PE X e (dE X.K true τ (.d x))) (hj:ixN xs.length m=some j) (hr:PSs X rest (dS X.K (τ.set i (.o (xs.set j x))) N)) (hi:τ[i]?=some (.o xs):=by rfl) (hN:X.N[i]?=some n:=by rfl)
   (hv:Vis X.env.scope n:=by first | exact Or.inl rfl | exact Or.inr (Or.inl rfl) | exact Or.inr (Or.inr rfl)) (hd:(n == ("__debug__" : Str))=false:=by decide) (hcd:(n == ("__classdict__" : Str))=false:=by decide)
   (hs:swapsWithSole [.Subscript (.Name n p) ix sp] e pos.line X.env=pure false:=by rfl) (hw:swappedStores [.Subscript (.Name n p) ix sp] e X.env=pure none:=by rfl) (h1:(assignEach [.Subscript (.Name n p) ix sp] X.env).map (·.2)=[assign (.Subscript (.Name n p) ix sp) X.env]:=by rfl)
   (ha:∀ v,assign (.Subscript (.Name n p) ix sp) X.env v=(do
     let ov <- holding [v] (eval (.Name n p) X.env)
     let iv <- holding [v,ov] (eval ix X.env)
     standAt sp
     holding [v,ov,iv] (setItem ov iv v)
     release [v,ov,iv] []):=by intro _; rfl) :
   PSs X (.Assign [.Subscript (.Name n p) ix sp] e pos :: rest) (dS X.K τ N):=
 a4 (M:=(·=τ.set i (.o (xs.set j x)))) (psW (oK he (sk (bG hN hv hd hcd) hx set_list ha) hs hw h1) λD σ H ⟨A,H₀,B,S,Me⟩=>aM S λv H1 e1 d1=>by
   obtain ⟨l,vs,hb,f1,f2,d⟩:=(S.mono e1).sl i _ hi
   refine ⟨_,slot_of f1,aM (S.mono e1) λw H2 e2 d2=>?_⟩
   cases d2
   refine ⟨l,vs,m,j,rfl,rfl,e2 _ _ f2,by rw [d.length]; exact hj,?_⟩
   exact Me.nx _ _ _ _ rfl (((S.mono e1).mono e2).put hi hb (l6 j (d.mono (ay e2 λ_ z=>z)) (d1.mono (ay e2 λ_ z=>z))))) λ_ e=>e ▸ hr
end
end Hy
namespace Hy
open PySem PySem.Spec PyProof.Rows L2
open Ev (D Den av aj aX aN Ite Itz zN yJ qJ o8 aF fo dF PTs cE eU)
noncomputable def Yl (K:PySem.W.Frag) (J:L2.It) (xs:List D) (G:Hp):Prop:=∀ H,ah G H->(∀ i,xs.length<=i->J.stop i H)/\∀ (i:Nat) (h:i < xs.length),J.go i H /\
 ∀ x H',J.yld i H x H'->ah H H'/\∀ M:Addr->Prop,(∀ b,M b->∃ o,H b=some o)->ah G (hd H M)->Den K (hd H' M) x xs[i]
noncomputable def dI (K:PySem.W.Frag) (τ:List Sl) (xs:List D):TI:=λσ H R=>∃ A H₀ B,Sta K A H₀ τ B σ H/\∀ J H',ah H H'->Yl K J xs (hd H' (own A B))->R J H'
noncomputable def dG (K:PySem.W.Frag) (τ:List Sl) (x:D) (τ':List Sl):TG:=λv σ H Q=>∃ A H₀ B,Sta K A H₀ τ B σ H/\Den K (hd H (own A B)) v x/\∀ σ' B',Sta K A H₀ τ' B' σ' H->Q σ' H
theorem piW {X:Cx} {tg e:Expr} {t t':TI} (h:PI X tg e t) (f:∀ σ H Q,t' σ H Q->t σ H Q):PI X tg e t':=λpins s σ H Q I q=>h pins s σ H Q I (f σ H Q q)
theorem pgW {X:Cx} {e:Expr} {t t':TG} (h:PG X e t) (f:∀ v σ H Q,t' v σ H Q->t v σ H Q):PG X e t':=λpins s σ H v u Q I r q=>h pins s σ H v u Q I r (f v σ H Q q)
section
variable {K:PySem.W.Frag} {G:Hp} {a:Addr} {vs:List V} {xs:List D}
theorem vP (h:SqL K G a vs) (r:av K G vs xs):Yl K (Itl K a) xs G:=by
 intro H sg
 have hl:=r.length
 refine ⟨λi hi=>⟨vs,aN sg h,by omega⟩,λi hi=>?_⟩
 obtain ⟨v,hv,dv⟩:=r.get (List.getElem?_eq_getElem hi)
 refine ⟨⟨vs,v,aN sg h,hv⟩,λx H' ⟨e1,e2⟩=>?_⟩
 subst e1
 have ex:x=v:=by have:=e2 vs (aN sg h); rw [hv] at this; exact (Option.some.inj this).symm
 subst ex
 exact ⟨ah.refl _,λM _ sv=>dv.mono sv⟩
noncomputable def iT (lo:Int) (n:Nat):List D:=(List.range n).map λk=>D.int (lo + (k:Nat))
theorem aq (lo:Int) (n:Nat):(iT lo n).length=n:=by simp [iT]
theorem gp (lo:Int) (n i:Nat) (h:i < (iT lo n).length):(iT lo n)[i]=.int (lo + (i:Nat)):=by simp [iT]
theorem sS (lo:Int) (n:Nat):Yl K (Itr lo n) (iT lo n) G:=by
 intro H sg
 refine ⟨λi hi=>by rw [aq] at hi; exact hi,λi hi=>?_⟩
 have hi':i < n:=by rw [aq] at hi; exact hi
 refine ⟨hi',λx H' ⟨e1,e2⟩=>?_⟩
 subst e1 e2
 refine ⟨ah.refl _,λM _ sv=>?_⟩
 rw [gp]
 exact .int
noncomputable def lB (xs:List D):List D:=(List.range xs.length).map λi=>D.tup [.int (i:Nat),xs.getD i .non]
theorem gk (xs:List D):(lB xs).length=xs.length:=by simp [lB]
theorem qi (xs:List D) (i:Nat) (h:i < (lB xs).length):(lB xs)[i]=.tup [.int (i:Nat),xs.getD i .non]:=by simp [lB]
theorem yy (h:SqL K G a vs) (r:av K G vs xs):Yl K (Ite K a) (lB xs) G:=by
 intro H sg
 have hl:=r.length
 have el:=gk xs
 refine ⟨λi hi=>⟨vs,aN sg h,by omega⟩,λi hi=>?_⟩
 have hi':i < xs.length:=by omega
 obtain ⟨v,hv,dv⟩:=r.get (List.getElem?_eq_getElem hi')
 refine ⟨⟨vs,v,aN sg h,hv⟩,λy H' ⟨p,x,hp,e0,e1,e2⟩=>?_⟩
 subst e0 e1
 have ex:x=v:=by have:=e2 vs (aN sg h); rw [hv] at this; exact (Option.some.inj this).symm
 subst ex
 refine ⟨aj hp _,λM hM sv=>?_⟩
 rw [qi,show xs.getD i .non=xs[i] by simp [List.getD,hi']]
 exact .tup (SqT.of (jM hM hp)) (.cons .int (.cons (dv.mono (sv.trans (ay (aj hp _) λ_ z=>z))) .nil))
end
section
variable {X:Cx} {C:Bool} {τ:List Sl} {x y z:D} {a b e c tg it:Expr} {es:List Expr} {pos p q:Pos} {k:Nat} {s:Sl} {xs:List D} {N:Po} {st:Stmt} {rest body els:List Stmt}
theorem aW (h:PE X it (dE X.K true τ (.d (.lst xs)))) (hc:X.calm=true:=by first | rfl | assumption):PI X tg it (dI X.K τ xs):=piW (vC hc h) λσ H R ⟨A,H₀,B,S,k⟩=>aM S λv H1 e1 d1=>by
 cases d1 with
 | lst h r=>exact ⟨_,rfl,⟨_,aN aG h⟩,k _ H1 e1 (vP h r)⟩
theorem cy {n:Int} (B:Bk X k) (h:PE X a (dE X.K false τ (.d (.int n)))) (h1:-(2 ^ 62)<=n) (h2:n < 2 ^ 62) (hg:Gl X "range":=by rfl) (hs:starEach [a] X.env=[(false,eval a X.env)]:=by rfl):PI X tg (.Call (.Name "range" p) [a] [] pos) (dI X.K τ (iT 0 n.toNat)):=
 piW (rE (.inl B.calm) hg (B.blt _ (by decide)) (ab h af hs) hs) λσ H R ⟨A,H₀,B,S,k⟩=>fQ S λvs H1 e1 d1=>by
   cases d1 with
   | cons d r=>
     cases r
     cases d
     exact ⟨n,rfl,h1,h2,k _ H1 e1 (sS 0 _)⟩
theorem mf {m n:Int} (B:Bk X k) (h:PE X a (dE X.K false τ (.d (.int m)))) (h':PE X b (dE X.K false τ (.d (.int n)))) (h1:-(2 ^ 62)<=m/\m < 2 ^ 62/\-(2 ^ 62)<=n/\n < 2 ^ 62) (hg:Gl X "range":=by rfl) (hs:starEach [a,b] X.env=[(false,eval a X.env),(false,eval b X.env)]:=by rfl)
   (hs2:starEach [b] X.env=[(false,eval b X.env)]:=by rfl):PI X tg (.Call (.Name "range" p) [a,b] [] pos) (dI X.K τ (iT m (n - m).toNat)):=
 piW (rW (.inl B.calm) hg (B.blt _ (by decide)) (ab h (ab h' af hs2) (by rw [hs,hs2])) hs hs2) λσ H R ⟨A,H₀,B,S,k⟩=>fQ S λvs H1 e1 d1=>by
   cases d1 with
   | cons d r=>
     cases r with
     | cons d' r=>
       cases r
       cases d
       cases d'
       exact ⟨m,n,rfl,h1,k _ H1 e1 (sS m _)⟩
theorem z9 {ts:List Expr} {m:Nat} {tp:Pos} (B:Bk X k) (h:PE X a (dE X.K true τ (.d (.lst xs)))) (hg:Gl X "enumerate":=by rfl) (hs:starEach [a] X.env=[(false,eval a X.env)]:=by rfl):PI X (.Tuple ts m tp) (.Call (.Name "enumerate" p) [a] [] pos) (dI X.K τ (lB xs)):=
 piW (qJ B.calm hg (B.blt _ (by decide)) (ab h af hs) hs) λσ H R ⟨A,H₀,B,S,k⟩=>fQ S λvs H1 e1 d1=>by
   cases d1 with
   | cons d r=>
     cases r
     cases d with
     | lst h r=>exact ⟨_,rfl,⟨_,aN aG h⟩,k _ H1 e1 (yy h r)⟩
theorem zg (i:Nat) {n:Str} (hN:X.N.Nodup) (hi:X.N[i]?=some n:=by rfl) (hx:Loc X.env.scope n:=by first | exact .inl rfl | exact .inr rfl) (hf:X.fn n=true\/X.env.scope.names.lookup n=some .local:=by first | exact .inl rfl | exact .inr rfl | assumption):PG X (.Name n p) (dG X.K τ x (τ.set i (.d x))):=
 pgW (ee (i:=i) hN hi hx hf) λv σ H Q ⟨A,H₀,B,S,d,k⟩=>k _ _ (S.set (ah.refl _) (bs:=[]) (λ_ z=>nomatch z) (jj d))
theorem xx (i j:Nat) {n m:Str} {p2 pt:Pos} {md:Nat} (hc:X.calm=true) (hN:X.N.Nodup) (hi:X.N[i]?=some n:=by rfl) (hj:X.N[j]?=some m:=by rfl) (hx:Loc X.env.scope n:=by first | exact .inl rfl | exact .inr rfl) (hy:Loc X.env.scope m:=by first | exact .inl rfl | exact .inr rfl)
   (hf:X.fn n=true\/X.env.scope.names.lookup n=some .local:=by first | exact .inl rfl | exact .inr rfl | assumption) (hf':X.fn m=true\/X.env.scope.names.lookup m=some .local:=by first | exact .inl rfl | exact .inr rfl | assumption) :
   PG X (.Tuple [.Name n p,.Name m p2] md pt) (dG X.K τ (.tup [x,y]) ((τ.set i (.d x)).set j (.d y))):=by
 refine pgW (uw hc (jS (ee (i:=i) hN hi hx hf) (jS (ee (i:=j) hN hj hy hf') qI))) λv σ H Q ⟨A,H₀,B,S,d,k⟩=>?_
 cases d with
 | tup h r=>
   cases r with
   | cons d1 r=>
     cases r with
     | cons d2 r=>
       cases r
       have S1:=S.set (i:=i) (ah.refl _) (bs:=[]) (λ_ z=>nomatch z) (jj d1)
       have sub:∀ b,own A (upB B i []) b->own A B b:=λb z=>z.elim .inl λ⟨j,z⟩=>(aY z).elim (λz=>nomatch z.2) λz=>.inr ⟨j,z.2⟩
       exact ⟨_,_,rfl,aX aG h,rfl,_,_,rfl,_,_,rfl,rfl,k _ _ (S1.set (i:=j) (ah.refl _) (bs:=[]) (λ_ z=>nomatch z) (jj (d2.mono (ay (ah.refl _) sub))))⟩
theorem Sta.base {K:PySem.W.Frag} {A:Addr->Prop} {H₀ H:Hp} {τ:List Sl} {B:Nat->List Addr} {σ:L2.St} (S:Sta K A H₀ τ B σ H):ah H₀ (hd H λb=>∃ i,b ∈ B i)/\Sta K A (hd H λb=>∃ i,b ∈ B i) τ B σ H:=by
 have s0:ah H₀ (hd H λb=>∃ i,b ∈ B i):=λb o h=>ao.mpr ⟨λ⟨i,z⟩=>(by rw [S.fr i b z] at h; cases h),S.same _ _ h⟩
 exact ⟨s0,aG,S.len,S.sl,λi b hb=>by
   cases e:hd H (λb=>∃ i,b ∈ B i) b with
   | none=>rfl
   | some o=>exact absurd ⟨i,hb⟩ (ao.mp e).1,S.uq,λb hb=>let ⟨o,q⟩:=S.ad b hb; ⟨o,s0 _ _ q⟩,S.bd⟩
theorem Sta.back {K:PySem.W.Frag} {A:Addr->Prop} {H₀ G H:Hp} {τ:List Sl} {B:Nat->List Addr} {σ:L2.St} (S:Sta K A G τ B σ H) (s:ah H₀ G) (ad:∀ b,A b->∃ o,H₀ b=some o):Sta K A H₀ τ B σ H:=
 ⟨s.trans S.same,S.len,S.sl,λi b hb=>s.free (S.fr i b hb),S.uq,ad,S.bd⟩
theorem xu {M:Nat->List Sl->Prop} {T:Nat->List Sl->List Sl} (B:Bk X k) (hi:PI X tg it (dI X.K τ xs)) (h0:M 0 τ) (hg:∀ i (h:i < xs.length) τ',M i τ'->PG X tg (dG X.K τ' xs[i] (T i τ')))
   (hb:∀ i,i < xs.length->∀ τ',M i τ'->PSs X body (dS X.K (T i τ') { N with nx:=M (i + 1),ct:=M (i + 1),bk:=N.nx })) (hn:∀ τ',M xs.length τ'->N.nx τ')
   (hs:∀ x,foldedSetIterable it X.env x=pure x:=by intro _; rfl):PS X (.For tg it body [] pos) (dS X.K τ N):=by
 have hg':PG X tg λv σ H Q=>∃ (i:Nat) (h:i < xs.length) (τ':List Sl),M i τ'/\dG X.K τ' xs[i] (T i τ') v σ H Q:=λpins s σ H v u Q I r ⟨i,h,τ',m,q⟩=>hg i h τ' m pins s σ H v u Q I r q
 have hb':PSs X body λD σ H=>∃ i τ',i < xs.length/\M i τ'/\dS X.K (T i τ') { N with nx:=M (i + 1),ct:=M (i + 1),bk:=N.nx } D σ H:=λpins s σ H D I ⟨i,τ',h,m,q⟩=>hb i h τ' m pins s σ H D I q
 refine psW (zp B.po hi hg' hb' hs) λD σ H ⟨A,H₀,B,S,Me⟩=>⟨A,H₀,B,S,λJ H1 e1 yl=>?_⟩
 obtain ⟨s0,S1⟩:=(S.mono e1).base
 have sub:∀ {H'},ah (hd H1 λb=>∃ i,b ∈ B i) H'->ah (hd H1 (own A B)) H':=λe=>(ay (ah.refl _) λ_ z=>.inr z).trans e
 refine ⟨λi m σ' H'=>m=xs.length - i/\i<=xs.length/\∃ τ' B',M i τ'/\Sta X.K A (hd H1 λb=>∃ i,b ∈ B i) τ' B' σ' H',⟨xs.length,rfl,Nat.zero_le _,τ,B,h0,S1⟩,?_⟩
 rintro i m σ' H' ⟨rfl,hi,τ',B',hM,S'⟩
 obtain ⟨y1,y2⟩:=yl H' (sub S'.same)
 by_cases hlt:i < xs.length
 · obtain ⟨g,y⟩:=y2 i hlt
   refine .inr ⟨g,λσ2 H2=>∃ τ2 B2,M (i + 1) τ2/\Sta X.K A (hd H1 λb=>∃ i,b ∈ B i) τ2 B2 σ2 H2,λσ2 H2 q=>⟨xs.length - (i + 1),by omega,rfl,hlt,q⟩,λx H2 hy=>?_⟩
   obtain ⟨e2,dx⟩:=y x H2 hy
   have S2:=S'.mono e2
   refine ⟨i,hlt,τ',hM,A,_,B',S2,dx (own A B') S'.dm ?_,λσ3 B3 S3=>⟨i,τ',hlt,hM,A,_,B3,S3,?_⟩⟩
   · intro b o z
     obtain ⟨z1,z2⟩:=ao.mp z
     have z3:hd H1 (λb=>∃ i,b ∈ B i) b=some o:=ao.mpr ⟨λy=>z1 (.inr y),z2⟩
     refine ao.mpr ⟨λy=>?_,S'.same _ _ z3⟩
     rcases y with y | ⟨l,y⟩
     · exact z1 (.inl y)
     · rw [S'.fr l b y] at z3; cases z3
   · exact ⟨λτ3 B3 σ3 H3 m S3=>⟨τ3,B3,m,S3⟩,λτ3 B3 σ3 H3 m S3=>Me.nx τ3 B3 σ3 H3 m (S3.back s0 S.ad),λτ3 B3 σ3 H3 m S3=>⟨τ3,B3,m,S3⟩,
       λv H3 bs s3 hr e3 hf q=>Me.rt v H3 bs s3 hr (s0.trans e3) (λb hb=>⟨s0.free (hf b hb).1,(hf b hb).2⟩) q,λH3 e3=>Me.xc H3 (s0.trans e3)⟩
 · have e:i=xs.length:=by omega
   subst e
   exact .inl ⟨y1 _ (Nat.le_refl _),Me.nx τ' B' σ' H' (hn τ' hM) (S'.back s0 S.ad)⟩
theorem a6 (j:Nat) {n:Str} (M:Nat->List Sl->Prop) {g:Nat->D} (B:Bk X k) (hN:X.N.Nodup) (hi:PI X (.Name n p) it (dI X.K τ xs)) (hx:∀ i (h:i < xs.length),xs[i]=g i) (h0:M 0 τ)
   (hb:∀ i,i < xs.length->∀ τ',M i τ'->PSs X body (dS X.K (τ'.set j (.d (g i))) { N with nx:=M (i + 1),ct:=M (i + 1),bk:=λ_=>False }))
   (hr:∀ τ',M xs.length τ'->PSs X rest (dS X.K τ' N)) (hs:∀ x,foldedSetIterable it X.env x=pure x:=by intro _; rfl) (hi':X.N[j]?=some n:=by rfl) (hl:Loc X.env.scope n:=by first | exact .inl rfl | exact .inr rfl)
   (hf:X.fn n=true\/X.env.scope.names.lookup n=some .local:=by first | exact .inl rfl | exact .inr rfl | assumption):PSs X (.For (.Name n p) it body [] pos :: rest) (dS X.K τ N):=
 a4 (M:=M xs.length) (xu (M:=M) (T:=λi τ'=>τ'.set j (.d (g i))) B hi h0 (λi h τ' m=>by rw [hx i h]; exact zg j hN hi' hl hf)
   (λi h τ' m=>oY (hb i h τ' m) λD σ H ⟨A,H₀,B,S,Me⟩=>⟨A,H₀,B,S,Me.nx,λ_ _ _ _ z=>z.elim,Me.ct,Me.rt,Me.xc⟩) (λ_ m=>m) hs) hr
theorem tY (j l:Nat) {n m:Str} {p2 pt:Pos} {md:Nat} (M:Nat->List Sl->Prop) {g g':Nat->D} (B:Bk X k) (hN:X.N.Nodup) (hi:PI X (.Tuple [.Name n p,.Name m p2] md pt) it (dI X.K τ xs)) (hx:∀ i (h:i < xs.length),xs[i]=.tup [g i,g' i]) (h0:M 0 τ)
   (hb:∀ i,i < xs.length->∀ τ',M i τ'->PSs X body (dS X.K ((τ'.set j (.d (g i))).set l (.d (g' i))) { N with nx:=M (i + 1),ct:=M (i + 1),bk:=λ_=>False }))
   (hr:∀ τ',M xs.length τ'->PSs X rest (dS X.K τ' N)) (hs:∀ x,foldedSetIterable it X.env x=pure x:=by intro _; rfl) (hi':X.N[j]?=some n:=by rfl) (hj':X.N[l]?=some m:=by rfl) (hl:Loc X.env.scope n:=by first | exact .inl rfl | exact .inr rfl) (hl':Loc X.env.scope m:=by first | exact .inl rfl | exact .inr rfl)
   (hf:X.fn n=true\/X.env.scope.names.lookup n=some .local:=by first | exact .inl rfl | exact .inr rfl | assumption) (hf':X.fn m=true\/X.env.scope.names.lookup m=some .local:=by first | exact .inl rfl | exact .inr rfl | assumption):PSs X (.For (.Tuple [.Name n p,.Name m p2] md pt) it body [] pos :: rest) (dS X.K τ N):=
 a4 (M:=M xs.length) (xu (M:=M) (T:=λi τ'=>(τ'.set j (.d (g i))).set l (.d (g' i))) B hi h0 (λi h τ' m=>by rw [hx i h]; exact xx j l B.calm hN hi' hj' hl hl' hf hf')
   (λi h τ' m=>oY (hb i h τ' m) λD σ H ⟨A,H₀,B,S,Me⟩=>⟨A,H₀,B,S,Me.nx,λ_ _ _ _ z=>z.elim,Me.ct,Me.rt,Me.xc⟩) (λ_ m=>m) hs) hr
theorem cv {n:Nat} (i:Nat) (h:i < (iT 0 n).length):(iT 0 n)[i]=.int (i:Nat):=by rw [gp,Int.zero_add]
theorem Ah {bs:List Int} (i:Nat) (h:i < (bs.map D.int).length):(bs.map D.int)[i]=.int (bs.getD i 0):=by
 have:i < bs.length:=by simpa using h
 simp [this]
theorem Aj {bs:List Int} (i:Nat) (h:i < (lB (bs.map D.int)).length):(lB (bs.map D.int))[i]=.tup [.int (i:Nat),.int (bs.getD i 0)]:=by
 have:i < bs.length:=by rw [gk] at h; simpa using h
 rw [qi]
 simp [this]
end
end Hy
namespace Hy
open PySem PySem.Spec PyProof.Rows L2
open Ev (D Den av aj aX aN aF fo dF PTs cE eU gQ)
noncomputable def slot:List Str->Str->Option Nat
 | [],_=>none
 | y :: r,x=>if x=y then some 0 else (slot r x).map (· + 1)
theorem slot_get:∀ {N:List Str} {x:Str} {i:Nat},slot N x=some i->N[i]?=some x
 | [],_,_,h=>by cases h
 | y :: r,x,i,h=>by
   unfold slot at h
   split at h
   · cases h; rename_i e; rw [e]; rfl
   · cases e:slot r x with
     | none=>rw [e] at h; cases h
     | some j=>rw [e] at h; cases h; simpa using slot_get e
noncomputable def vg (scope sc:Scope):Scope:={ scope with names:=scope.names.map λ(n,k)=>if (k == .free && sc.kind == .function && sc.names.lookup n == some .cell) then (n,.cell) else (n,k) }
noncomputable def bNm (scope:Scope):List Str:=(scope.names.filter λp=>(p.2 == .local || p.2 == .cell || p.2 == .free) && p.1 != (".0" : Str)).map (·.1)
noncomputable def bCp (No:List Str) (scope:Scope):List (Option Nat):=(bNm scope).map λx=>if (x,NameKind.free) ∈ scope.names then slot No x else none
noncomputable def bOk (sc scope:Scope):Bool:=
 scope.kind == .function && scope.names.all (λp=>p.2 != .local || scope.names.lookup p.1 == some .local) && scope.names.all (λp=>p.2 != .free || sc.names.lookup p.1 == some .cell)
   && scope.names.all (λp=>p.2 != .free || (!decide ((p.1,NameKind.cell) ∈ scope.names) && !decide ((p.1,NameKind.local) ∈ scope.names))) && decide (bNm scope++[("#" : Str)]).Nodup
   && (vg scope sc).names.all (λp=>p.1 != ("#" : Str))
theorem u0 {a b:Bool} (h:(a && b)=true):a=true/\b=true:=by rw [Bool.and_eq_true] at h; exact h
theorem tV {x:Str} {q:NameKind}:∀ {names:List (Str × NameKind)},names.lookup x=some q->(x,q) ∈ names
 | (y,k) :: r,h=>by
   rw [List.lookup_cons] at h
   split at h
   · rename_i e; cases h; rw [eq_of_beq e]; exact List.mem_cons_self ..
   · exact List.mem_cons_of_mem _ (tV h)
theorem gM {X:Cx} {scope:Scope} (h:bOk X.env.scope scope=true):dF X scope (bNm scope++[("#" : Str)]) (bCp X.N scope)/\(bNm scope++[("#" : Str)]).Nodup:=by
 unfold bOk at h
 obtain ⟨h,h6⟩:=u0 h
 obtain ⟨h,h5⟩:=u0 h
 obtain ⟨h,h4⟩:=u0 h
 obtain ⟨h,h3⟩:=u0 h
 obtain ⟨h1,h2⟩:=u0 h
 rw [List.all_eq_true] at h2 h3 h4 h6
 refine ⟨⟨eq_of_beq h1,λx hx hk=>?_,λx hx hk=>?_,λx hx hm=>?_,λx hx hm=>?_,?_,λj i hj=>?_,?_⟩,of_decide_eq_true h5⟩
 · have:=h2 x hx; rw [hk] at this; simpa using this
 · have:=h3 x hx; rw [hk] at this; show X.env.scope.names.lookup x.1=_; simpa using this
 · have:=h4 _ hx; simp [hm] at this
 · have:=h4 _ hx; simp [hm] at this
 · unfold bCp; rw [List.length_append,List.length_map]; rfl
 · unfold bCp at hj
   rw [List.getElem?_map] at hj
   cases e:(bNm scope)[j]? with
   | none=>rw [e] at hj; cases hj
   | some x=>
     rw [e] at hj
     simp only [Option.map_some,Option.some.injEq] at hj
     split at hj
     · exact ⟨x,by rw [List.getElem?_append_left (List.getElem?_eq_some_iff.mp e).1]; exact e,slot_get hj,by assumption⟩
     · cases hj
 · refine ⟨("#" : Str),?_,λhv=>?_⟩
   · unfold bCp; rw [List.length_map,List.getElem?_append_right (Nat.le_refl _),Nat.sub_self]; rfl
   · have key:∀ q,(vg scope X.env.scope).names.lookup ("#" : Str) ≠ some q:=λq hq=>by
       have:=h6 _ (tV hq)
       simp at this
     rcases hv with hv | hv | hv <;> exact key _ hv
noncomputable abbrev cpX (X:Cx) (s:Shared) (H:Hp) (scope:Scope) (fp:List Addr):Cx:=aF X s H scope (bNm scope++[("#" : Str)]) fp
theorem Bk.comp {X:Cx} {k:Nat} (B:Bk X k) (s:Shared) (H:Hp) (scope:Scope) (fp:List Addr):Bk (cpX X s H scope fp) k:=⟨B.room,B.calm,B.blt,PassesOwn.never⟩
noncomputable def bA (τ:List Sl) (caps:List (Option Nat)):List Sl:=caps.map λo=>match o with
 | some i=>match τ[i]? with
   | some (.d x)=>.d x
   | _=>.un
 | none=>.un
theorem lZ {X:Cx}:PTs X [] λ_ H Q=>Q true H:=λpins s σ H Q I q=>by
 show wpAny _ _ (pure true) _ _ _
 exact wpAny_pure ⟨H,I,q⟩
section
variable {X:Cx} {C:Bool} {τ:List Sl} {x y z:D} {a b e c tg it elt:Expr} {es ifs:List Expr} {pos p q:Pos} {k:Nat} {xs:List D} {scope:Scope}
structure Cmp (X:Cx) (elt tg it:Expr) (ifs:List Expr) (scope:Scope) (τ:List Sl) (ys:List D):Prop where
 ex:∃ (In:TG->TT->TE->Prop) (caps:List (Option Nat)) (N:List Str) (wi:TI),dF X scope N caps/\PI X tg it wi/\(∀ g tt te,In g tt te->∀ s H fp,PG (aF X s H scope N fp) tg g/\PTs (aF X s H scope N fp) ifs tt/\PE (aF X s H scope N fp) elt te) /\
   ∀ C σ H Q,dE X.K C τ (.o ys) σ H Q->eU In caps wi σ H Q
 hs:∀ x,foldedSetIterable it X.env x=pure x
theorem eg {ys:List D} (h:Cmp X elt tg it ifs scope τ ys):PE X (.ListComp elt [⟨tg,it,ifs,0⟩] scope pos) (dE X.K C τ (.o ys)):=by
 obtain ⟨In,caps,N,wi,h1,h2,h3,h4⟩:=h.ex
 exact peW (cE h1 h2 h.hs h3) (h4 C)
theorem jA (i:Nat) {n:Str} {p spos:Pos} {rest:List Stmt} {N:Po} {ys:List D} {s:Sl} (hN:X.N.Nodup) (h:Cmp X elt tg it ifs scope τ ys) (hz:s=.o ys\/s=.d (.lst ys)) (hr:PSs X rest (dS X.K (τ.set i s) N)) (hi:X.N[i]?=some n:=by rfl) (hx:Loc X.env.scope n:=by first | exact .inl rfl | exact .inr rfl)
   (hsw:swapsWith (.ListComp elt [⟨tg,it,ifs,0⟩] scope pos) (some (.Name n p)) spos.line X.env=pure true:=by rfl) (hf:X.fn n=true\/X.env.scope.names.lookup n=some .local:=by first | exact .inl rfl | exact .inr rfl | assumption) :
   PSs X (.Assign [.Name n p] (.ListComp elt [⟨tg,it,ifs,0⟩] scope pos) spos :: rest) (dS X.K τ N):=by
 obtain ⟨In,caps,N',wi,h1,h2,h3,h4⟩:=h.ex
 have h5:∀ σ H Q,dE X.K true τ s σ H Q->eU In caps wi σ H Q:=by
   rcases hz with rfl | rfl
   · exact h4 true
   · intro σ H Q q
     obtain ⟨A,H₀,B,S,k⟩:=df q
     refine h4 true σ H Q ⟨A,H₀,B,S,λv H' bs e hf q=>?_⟩
     obtain ⟨u,e1,d⟩:=q.den (G':=Hy.hd H' (vw true A B)) (ay (ah.refl _) λ_ z=>.inl z) (λb hb o ho=>ao.mpr ⟨λz=>(by obtain ⟨_,q⟩:=S.vd (C:=true) b z; rw [(hf b hb).1] at q; cases q),ho⟩) rfl
     cases e1
     exact k v H' e d
 exact a4 (M:=(·=τ.set i s)) (psW (gQ (ee (i:=i) hN hi hx hf) h1 h2 h.hs h3 hsw) λD σ H ⟨A,H₀,B,S,Me⟩=>h5 _ _ _ ⟨A,H₀,B,S,λv H' bs e hf h=>Me.nx _ _ _ _ rfl (S.set e hf h)⟩) λ_ e=>e ▸ hr
theorem uB {T:Nat->List Sl} {t:Nat->Bool} {f:Nat->D} (hc:bOk X.env.scope scope=true) (hi:PI X tg it (dI X.K τ xs)) (hT:∀ i,(T i).length=(bA τ (bCp X.N scope)++[Sl.un]).length/\∀ (l:Nat) (x:D),(bA τ (bCp X.N scope)++[Sl.un])[l]?=some (.d x)->(T i)[l]?=some (.d x))
   (hg:∀ i (h:i < xs.length) s H fp,PG (cpX X s H scope fp) tg (dG X.K (bA τ (bCp X.N scope)++[Sl.un]) xs[i] (T i)))
   (ht:∀ i,i < xs.length->∀ s H fp,PTs (cpX X s H scope fp) ifs (dT X.K (T i) (t i)))
   (he:∀ i,i < xs.length->t i=true->∀ s H fp,PE (cpX X s H scope fp) elt (dE X.K true (T i) (.d (f i)))) (hl:xs.length < 1000000) (hs:∀ x,foldedSetIterable it X.env x=pure x:=by intro _; rfl) :
   Cmp X elt tg it ifs scope τ (((List.range xs.length).filter t).map f):=by
 obtain ⟨cap,_⟩:=gM hc
 generalize hτ:bA τ (bCp X.N scope)++[Sl.un]=τb at *
 refine ⟨⟨λg tt te=>g=(λv σ H Q=>∃ (i:Nat) (h:i < xs.length),dG X.K τb xs[i] (T i) v σ H Q)/\tt=(λσ H Q=>∃ i,i < xs.length/\dT X.K (T i) (t i) σ H Q)/\te=(λσ H Q=>∃ i,i < xs.length/\t i=true/\dE X.K true (T i) (.d (f i)) σ H Q),_,_,_,cap,hi,?_,?_⟩,hs⟩
 · rintro g tt te ⟨rfl,rfl,rfl⟩ s H fp
   exact ⟨λpins s' σ H' v u Q I r ⟨i,h,q⟩=>hg i h s H fp pins s' σ H' v u Q I r q,λpins s' σ H' Q I ⟨i,h,q⟩=>ht i h s H fp pins s' σ H' Q I q,λpins s' σ H' Q I ⟨i,h,h',q⟩=>he i h h' s H fp pins s' σ H' Q I q⟩
 rintro C σ H Q ⟨A,H₀,B,S,kk⟩
 refine ⟨A,H₀,B,S,λJ H1 e1 yl=>⟨_,_,_,⟨rfl,rfl,rfl⟩,λD hD=>?_⟩⟩
 have S1:=S.mono e1
 have nD:¬ own A B D:=λz=>by obtain ⟨o,q⟩:=S1.dm D z; rw [hD] at q; cases q
 have noN:∀ (l:Nat) (t:Nd),τb[l]?=some (.n t)->0 ≠ 0:=λl t h=>by
   exfalso
   rw [<- hτ] at h
   have:=List.mem_of_getElem? h
   rcases List.mem_append.mp this with z | z
   · unfold bA at z
     obtain ⟨o,_,ho⟩:=List.mem_map.mp z
     split at ho
     · split at ho <;> cases ho
     · cases ho
   · cases List.mem_singleton.mp z
 have slots:∀ {σ':L2.St} {H':Hp},ah H1 H'->(∃ o,H' D=some o)->σ'.length=τb.length->(∀ (l:Nat) (s:Sl),τb[l]?=some s->bU X.K (hd H' λb=>own A B b\/b=D) H' (σ'[l]?).join [] s)->Sta X.K (λb=>own A B b\/b=D) H' τb (λ_=>[]) σ' H':=λ{σ' H'} e1 e2 e3 e4=>
   ⟨ah.refl _,e3,λl s h=>(e4 l s h).mono (ay (ah.refl _) λ_ z=>z.elim id λ⟨_,z⟩=>(nomatch z)) (ah.refl _),λ_ _ z=>(nomatch z),λ_ _ _ z=>(nomatch z),λb z=>z.elim (λz=>let ⟨o,q⟩:=S1.dm b z; ⟨o,e1 _ _ q⟩) λz=>z ▸ e2,λ_ _ z=>(nomatch z)⟩
 refine ⟨λi m σ' H'=>m=xs.length - i/\i<=xs.length/\ah H1 H'/\(∃ vs,H' D=some (.lst vs)/\vs.length<=i/\av X.K (hd H' λb=>own A B b\/b=D) vs (((List.range i).filter t).map f)) /\
   σ'.length=τb.length/\∀ (l:Nat) (s:Sl),τb[l]?=some s->bU X.K (hd H' λb=>own A B b\/b=D) H' (σ'[l]?).join [] s,⟨xs.length,rfl,Nat.zero_le _,aj hD _,⟨[],aA,Nat.le_refl _,.nil⟩,?_,λl s h=>?_⟩,?_⟩
 · rw [<- hτ]; unfold fo bA; rw [List.length_append,List.length_append,List.length_map,List.length_map]; rfl
 · have hv:ah (hd H (own A B)) (hd (upd H1 D (.lst [])) λb=>own A B b\/b=D):=λb o z=>by
     obtain ⟨z1,z2⟩:=ao.mp z
     have z2:=e1 _ _ z2
     have ne:b ≠ D:=λz=>by rw [z,hD] at z2; cases z2
     exact ao.mpr ⟨λy=>y.elim z1 ne,by rw [au ne]; exact z2⟩
   cases s with
   | un=>rfl
   | d x=>
     rw [<- hτ] at h
     have hlt:l < (bCp X.N scope).length:=by
       rcases Nat.lt_or_ge l (bCp X.N scope).length with h' | h'
       · exact h'
       · exfalso
         rw [List.getElem?_append_right (by unfold bA; rw [List.length_map]; exact h')] at h
         cases e:l - (bA τ (bCp X.N scope)).length with
         | zero=>rw [e] at h; cases h
         | succ n=>rw [e] at h; cases h
     rw [List.getElem?_append_left (by unfold bA; rw [List.length_map]; exact hlt)] at h
     rw [List.getElem?_append_left (by unfold fo; rw [List.length_map]; exact hlt)]
     unfold bA at h
     unfold fo
     rw [List.getElem?_map] at h ⊢
     cases e:(bCp X.N scope)[l]? with
     | none=>rw [e] at h; cases h
     | some o=>
       rw [e] at h
       cases o with
       | none=>cases h
       | some i=>
         simp only [Option.map_some,Option.some.injEq] at h
         split at h
         · rename_i x' hx'
           cases h
           obtain ⟨_,u,eu,d⟩:=S.sl i _ hx'
           exact ⟨rfl,u,by simpa using eu,d.mono hv⟩
         · cases h
   | o xs'=>
     exfalso
     rw [<- hτ] at h
     have:=List.mem_of_getElem? h
     rcases List.mem_append.mp this with z | z
     · unfold bA at z
       obtain ⟨o,_,ho⟩:=List.mem_map.mp z
       split at ho
       · split at ho <;> cases ho
       · cases ho
     · cases List.mem_singleton.mp z
   | n t'=>
     exfalso
     rw [<- hτ] at h
     have:=List.mem_of_getElem? h
     rcases List.mem_append.mp this with z | z
     · unfold bA at z
       obtain ⟨o,_,ho⟩:=List.mem_map.mp z
       split at ho
       · split at ho <;> cases ho
       · cases ho
     · cases List.mem_singleton.mp z
   | x E'=>
     exfalso
     rw [<- hτ] at h
     have:=List.mem_of_getElem? h
     rcases List.mem_append.mp this with z | z
     · unfold bA at z
       obtain ⟨o,_,ho⟩:=List.mem_map.mp z
       split at ho
       · split at ho <;> cases ho
       · cases ho
     · cases List.mem_singleton.mp z
 rintro i m σ' H' ⟨rfl,hi,e2,⟨vs,hv1,hv2,hv3⟩,hlen,hsl⟩
 obtain ⟨y1,y2⟩:=yl H' (aG.trans e2)
 by_cases hlt:i < xs.length
 · obtain ⟨g,y⟩:=y2 i hlt
   refine .inr ⟨g,λx H2 hy=>?_⟩
   obtain ⟨e3,dx⟩:=y x H2 hy
   have S2:Sta X.K (λb=>own A B b\/b=D) H' τb (λ_=>[]) σ' H':=slots e2 ⟨_,hv1⟩ hlen hsl
   have o0:∀ b,own (λb=>own A B b\/b=D) (λ_=>([]:List Addr)) b->own A B b\/b=D:=λb z=>z.elim id λ⟨_,z⟩=>(nomatch z)
   have dx':=dx _ S2.dm (λb o z=>by
     obtain ⟨z1,z2⟩:=ao.mp z
     exact ao.mpr ⟨λy=>(o0 b y).elim z1 λy=>(by rw [y,hD] at z2; cases z2),e2 _ _ z2⟩)
   refine ⟨i,hlt,_,_,_,S2.mono e3,dx',λσ2 B2 S3=>?_⟩
   have hB2:∀ j b,b ∈ B2 j->b ≠ D:=λj b hb z=>by
     have:=S3.fr j b hb
     rw [z,hv1] at this
     cases this
   have back:∀ {H5:Hp},ah H2 H5->σ2.length=τb.length/\∀ (l:Nat) (s:Sl),τb[l]?=some s->bU X.K (hd H5 λb=>own A B b\/b=D) H5 (σ2[l]?).join [] s:=λ{H5} e5=>by
     refine ⟨S3.len.trans (hT i).1,λl s h=>?_⟩
     cases s with
     | un=>rfl
     | d x=>
       obtain ⟨_,u,eu,d⟩:=S3.sl l _ ((hT i).2 l x h)
       exact ⟨rfl,u,eu,d.mono (ay e5 λ_ z=>.inl z)⟩
     | o xs'=>exact absurd (hsl l _ h) (λ⟨_,_,z,_⟩=>(nomatch z))
     | n t'=>exact absurd rfl (noN l t' h)
     | x E'=>exact absurd (hsl l _ h) (λ⟨_,_,z,_⟩=>(nomatch z))
   refine ⟨i,hlt,_,_,_,S3,λH4 e4=>?_⟩
   cases ht:t i with
   | false=>
     rw [if_neg Bool.false_ne_true]
     obtain ⟨b1,b2⟩:=back e4
     refine ⟨xs.length - (i + 1),by omega,rfl,hlt,e2.trans (e3.trans e4),⟨vs,e4 _ _ (e3 _ _ hv1),by omega,?_⟩,b1,b2⟩
     rw [List.range_succ,List.filter_append,List.map_append,List.filter_cons,ht]
     simpa using hv3.mono (ay (e3.trans e4) λ_ z=>z)
   | true=>
     rw [if_pos rfl]
     refine ⟨i,hlt,ht,aM (S3.mono e4) λv H5 e5 d5=>?_⟩
     have e6:=e3.trans (e4.trans e5)
     have hv5:=e6 _ _ hv1
     refine ⟨vs,xs.length - (i + 1),hv5,Nat.lt_trans (Nat.lt_of_le_of_lt hv2 (Nat.lt_trans hlt hl)) (by decide),by omega,rfl,hlt,?_,?_⟩
     · intro b o z
       have ne:b ≠ D:=λy=>by rw [y,hD] at z; cases z
       rw [au ne]
       exact e6 _ _ (e2 _ _ z)
     have sm:ah (hd H5 λb=>own A B b\/b=D) (hd (upd H5 D (.lst (vs++[v]))) λb=>own A B b\/b=D):=λb o z=>by
       obtain ⟨z1,z2⟩:=ao.mp z
       exact ao.mpr ⟨z1,by rw [au λy=>z1 (.inr y)]; exact z2⟩
     obtain ⟨b1,b2⟩:=back (e4.trans e5)
     refine ⟨⟨vs++[v],aA,by rw [List.length_append]; exact Nat.succ_le_succ hv2,?_⟩,b1,λl s h=>?_⟩
     · rw [List.range_succ,List.filter_append,List.map_append,List.filter_cons,ht,if_pos rfl]
       refine av.append (hv3.mono ((ay e6 λ_ z=>z).trans sm)) (.cons (d5.mono ((ay (ah.refl _) λ_ z=>.inl z).trans sm)) .nil)
     · cases s with
       | un=>rfl
       | d x=>obtain ⟨z1,u,eu,d⟩:=b2 l _ h; exact ⟨z1,u,eu,d.mono sm⟩
       | o xs'=>exact absurd (hsl l _ h) (λ⟨_,_,z,_⟩=>(nomatch z))
       | n t'=>exact absurd rfl (noN l t' h)
       | x E'=>exact absurd (hsl l _ h) (λ⟨_,_,z,_⟩=>(nomatch z))
 · have e:i=xs.length:=by omega
   subst e
   refine .inl ⟨y1 _ (Nat.le_refl _),kk _ _ [D] (e1.trans e2) (λb hb=>?_) ⟨D,vs,rfl,rfl,hv1,hv3.mono (ay (ah.refl _) λb z=>z.elim (λz=>.inl (ic z)) λz=>.inr (List.mem_singleton.mp z))⟩⟩
   obtain rfl:=List.mem_singleton.mp hb
   exact ⟨e1.free hD,_,hv1⟩
theorem cmp (j:Nat) {n:Str} {g f:Nat->D} (B:Bk X k) (hi:PI X (.Name n p) it (dI X.K τ xs)) (hx:∀ i (h:i < xs.length),xs[i]=g i) (hl:xs.length < 1000000)
   (he:∀ i,i < xs.length->∀ s H fp,PE (cpX X s H scope fp) elt (dE X.K true ((bA τ (bCp X.N scope)++[Sl.un]).set j (.d (g i))) (.d (f i))))
   (hc:bOk X.env.scope scope=true:=by kernel_rfl) (hu:(bA τ (bCp X.N scope)++[Sl.un])[j]?=some .un:=by rfl) (hN:(bNm scope++[("#" : Str)])[j]?=some n:=by rfl) (hv:∀ s H fp,Loc (cpX X s H scope fp).env.scope n:=by intro _ _ _; first | exact .inl rfl | exact .inr rfl)
   (hf:∀ s H fp,(cpX X s H scope fp).fn n=true\/(cpX X s H scope fp).env.scope.names.lookup n=some .local:=by intro _ _ _; first | exact .inr rfl | exact .inl rfl) (hs:∀ x,foldedSetIterable it X.env x=pure x:=by intro _; rfl) :
   Cmp X elt (.Name n p) it [] scope τ ((List.range xs.length).map f):=by
 have h:=uB (T:=λi=>(bA τ (bCp X.N scope)++[Sl.un]).set j (.d (g i))) (t:=λ_=>true) (f:=f) (elt:=elt) (ifs:=[]) hc hi (λi=>⟨List.length_set,λl x h=>?_⟩) (λi h s H fp=>?_) (λi h s H fp=>?_) (λi h _ s H fp=>he i h s H fp) hl hs
 · rwa [List.filter_eq_self.mpr λ_ _=>rfl] at h
 · rw [List.getElem?_set_ne (λz=>by rw [<- z,hu] at h; cases h)]
   exact h
 · rw [hx i h]
   exact zg j (gM hc).2 hN (hv s H fp) (hf s H fp)
 · exact λpins s' σ H' Q I ⟨A,H₀,B,S,q⟩=>lZ pins s' σ H' Q I (q H' (ah.refl _))
end
section
variable {P:Program} {w:World} {K:PySem.W.Frag} {mg:Str->Option Value} {base:Heap}
noncomputable def yz (N:List Str) (ds:List D):List Sl:=ds.map .d++List.replicate (N.length - ds.length) .un
noncomputable abbrev Xc (P:Program) (w:World) (K:PySem.W.Frag) (mg:Str->Option Value) (base:Heap) (N:List Str) (qual:Str) (st:Stmt) (f:Addr) (cdv:Value) (A:Around) (outer:List Env) (s:Shared) (H:Hp) (E:XK):Cx:=(oN CX0 P w K mg base N qual (ag st) f cdv A outer s H E).nox
theorem fnD {x qual:Str} {st:Stmt} {f:Addr} {fd:FuncData} {N ps:List Str} {k:Nat} {Φ:List D->Sl->Prop} (F:Fun K x qual st f fd) (S:az N ps (ag st)) (hb:∀ x ∈ ai,mg x=none) (len:∀ ds r,Φ ds r->ds.length=ps.length)
   (body:∀ ds r,Φ ds r->∀ cdv A outer s H E,Bk (Xc P w K mg base N qual st f cdv A outer s H E) k->PSs (Xc P w K mg base N qual st f cdv A outer s H E) (bL st) (dS K (yz N ds) { nx:=λ_=>r=.d .non,rt:=λr'=>r'=r })) :
   aR P w K mg base CX0 (k + 1) f fd ps (spD K Φ):=by
 refine F.ok S (λvs H Q E ⟨A,ds,r,_,d,h,_⟩=>d.length.trans (len ds r h)) λcdv A outer s H vs Q E hr ⟨A',ds,r,ha,d,h,q⟩=>⟨_,body ds r h cdv A outer s H E ⟨hr,rfl,hb,PassesOwn.never⟩,A',H,λ_=>[],⟨ah.refl _,?_,λi s hi=>?_,λ_ _ z=>(nomatch z),λ_ _ _ z=>(nomatch z),ha,λ_ _ z=>(nomatch z)⟩,λτ B σ H' h S=>?_,λ_ _ _ _ h=>h.elim,λ_ _ _ _ h=>h.elim,λv H' bs s h e hf z=>?_,λ_ _=>trivial⟩
 · unfold L2.start yz
   simp [d.length]
 · have hl:=d.length
   unfold yz at hi
   unfold L2.start
   by_cases hlt:i < ds.length
   · rw [List.getElem?_append_left (by simpa using hlt),List.getElem?_map,List.getElem?_eq_getElem hlt] at hi
     cases hi
     obtain ⟨v,e,dv⟩:=d.get (List.getElem?_eq_getElem hlt)
     refine ⟨rfl,v,?_,dv.mono (ay (ah.refl _) λ_ z=>z.elim id λ⟨_,z⟩=>(nomatch z))⟩
     rw [List.getElem?_append_left (by simpa [hl] using hlt),List.getElem?_map,e]
     rfl
   · rw [List.getElem?_append_right (by simpa using hlt),List.getElem?_replicate] at hi
     split at hi
     · cases hi; rfl
     · cases hi
 · obtain rfl:=(h:r=_)
   exact q .non H' [] S.same gi (jj .non)
 · obtain rfl:=(h:s=r)
   exact q v H' bs e hf z
theorem wF {K:PySem.W.Frag} {Φ:List D->Sl->Prop} (hΦ:∀ ns:List Int,ns.length<=63->Φ [.lst (ns.map .int)] (.d (.bl true))) (H:Hp) (a:Addr) (ns:List Int) (hl:ns.length<=63) (hS:SqL K H a (ns.map V.int)):spD K Φ [.ref a] H (λv _=>v=.bl true) λ_ _ _=>False:=by
 have hh:hd H (λ_=>False)=H:=by funext b; unfold hd; rw [if_neg id]
 refine ⟨λ_=>False,_,_,λ_ z=>z.elim,.cons (.lst (vs:=ns.map V.int) (by rw [hh]; exact hS) ?_) .nil,hΦ ns hl,λv H' bs _ _ h=>?_⟩
 · clear hl hS
   induction ns with
   | nil=>exact .nil
   | cons n ns ih=>exact .cons .int ih
 · obtain ⟨_,u,e,d⟩:=h
   cases e
   cases d
   rfl
end
end Hy
namespace Hy
open PySem PySem.Spec PyProof.Rows L2
open Ev (D Den av aB aE aj aX aN)
section
variable {X:Cx} {C:Bool} {τ:List Sl} {x y z:D} {a b e:Expr} {es:List Expr} {pos p:Pos} {k:Nat} {s:Sl} {ds:List D} {i j:Int}
theorem vL:OpR X (binaryOp .Add) (λx y H Q=>∃ l b xs zs,x=.ref l/\y=.ref b/\SqL X.K H l xs/\SqL X.K H b zs/\xs.length + zs.length<=sizeLine/\∀ p,H p=none->Q (.ref p) (upd H p (.lst (xs++zs)))):=by
 intro pins s σ H x y v u Q I rx ry h
 obtain ⟨l,b,xs,zs,rfl,rfl,hH,hB,hz,q⟩:=h
 cases rx
 cases ry
 obtain ⟨its,r,pl,_⟩:=I.list hH
 obtain ⟨its2,r2,pl2,_⟩:=I.list hB
 have hl:=r.length
 have hl2:=r2.length
 obtain ⟨⟨cls,dd,data,sl⟩,ho,hc,n,hd⟩:=pl.isList
 obtain ⟨⟨cls2,dd2,data2,sl2⟩,ho2,hc2,n2,hd2⟩:=pl2.isList
 simp only at hc hd hc2 hd2
 subst hc hd hc2 hd2
 have e:its.toArray++its2.toArray=(its++its2).toArray:=by simp
 refine concat_meets ⟨_,ho,rfl⟩ ⟨_,ho2,rfl⟩ noFill_list_add seq_list_add PySem.F.slot_list_add PySem.F.entry_list_add (PySem.F.args_list_add_2 _ _) (list_addW l b its.toArray its2.toArray n n2 dd dd2 sl sl2 (by rw [List.size_toArray,List.size_toArray]; omega)) ⟨ho,ho2,?_⟩
 rw [e]
 exact ⟨.ref _,_,I.Bf (t':=s.toks) (r.append r2) (by rw [List.length_append]; omega),rfl,q _ I.fresh⟩
theorem Ar {xs ys:List D} (ha:PE X a (dE X.K C τ (.d (.lst xs)))) (hb:PE X b (dE X.K C τ (.d (.lst ys)))) (hl:xs.length + ys.length < 1000000):PE X (.BinOp a .Add b pos) (dE X.K C τ (.o (xs++ys))):=peW (xf vL ha hb) λσ H Q ⟨A,H₀,B,S,k⟩=>
 aM S λv H1 e1 d1=>aM (S.mono e1) λw H2 e2 d2=>by
   cases d1 with
   | lst h1 r1=>cases d2 with
     | lst h2 r2=>
       refine ⟨_,_,_,_,rfl,rfl,aN (aG.trans e2) h1,aN aG h2,by rw [r1.length,r2.length]; exact Nat.le_of_lt (Nat.lt_trans hl (by decide)),λp hp=>?_⟩
       obtain ⟨z1,z2,z3⟩:=jw (K:=X.K) hp ((r1.mono (ay e2 λ_ z=>z)).append r2)
       exact k _ _ [p] (e1.trans (e2.trans z1)) (λb hb=>⟨(e1.trans e2).free (z2 b hb).1,(z2 b hb).2⟩) z3
theorem mkL (h:i.natAbs < 2 ^ 60):aB i j:=.inl (by
 rcases Nat.eq_zero_or_pos i.natAbs with z | z
 · rw [z]; decide
 · exact Nat.lt_trans ((Nat.log2_lt (by omega)).mpr h) (by decide))
theorem mkR (h:j.natAbs < 2 ^ 60):aB i j:=.inr (.inl (by
 rcases Nat.eq_zero_or_pos j.natAbs with z | z
 · rw [z]; decide
 · exact Nat.lt_trans ((Nat.log2_lt (by omega)).mpr h) (by decide)))
theorem mkD (h0:j ≠ 0) (h:j.natAbs < 2 ^ 62):aE j:=⟨h0,Nat.lt_trans ((Nat.log2_lt (by omega)).mpr h) (by decide)⟩
end
theorem aP {α:Type} {xs:List α} {i:Nat} {x:α} (h:xs[i]?=some x):atI xs (i:Int)=some x:=by
 unfold atI ixN
 have:=(List.getElem?_eq_some_iff.mp h).1
 rw [if_pos (by omega),if_pos (by omega)]
 simpa using h
theorem oD {ns:List Int} {i:Int} (h0:0<=i) (h:i.toNat < ns.length):atI (ns.map D.int) i=some (.int (ns.getD i.toNat 0)):=by
 obtain ⟨n,rfl⟩:=Int.eq_ofNat_of_zero_le h0
 exact aP (by
   have h:n < ns.length:=h
   simp [h])
theorem zy {xs:List D} (n:Nat):cutD xs none (some (n:Int))=xs.take n:=by
 unfold cutD
 rw [HT.fJ,HT.jd,List.drop_zero,Nat.sub_zero]
 rcases Nat.le_total n xs.length with h | h
 · rw [Nat.min_eq_left h]
 · rw [Nat.min_eq_right h,List.take_of_length_le (Nat.le_refl _),List.take_of_length_le h]
theorem qe {xs:List D} (m n:Nat):cutD xs (some (m:Int)) (some (n:Int))=(xs.take n).drop m:=by
 unfold cutD
 rw [HT.fJ,HT.fJ]
 rw [<- List.drop_take]
 rcases Nat.le_total n xs.length with h | h
 · rw [Nat.min_eq_left h]
   rcases Nat.le_total m xs.length with h' | h'
   · rw [Nat.min_eq_left h']
   · rw [Nat.min_eq_right h',List.drop_eq_nil_of_le (by simp; omega),List.drop_eq_nil_of_le (by simp; omega)]
 · rw [Nat.min_eq_right h,List.take_of_length_le (Nat.le_refl _),List.take_of_length_le h]
   rcases Nat.le_total m xs.length with h' | h'
   · rw [Nat.min_eq_left h']
   · rw [Nat.min_eq_right h',List.drop_eq_nil_of_le (Nat.le_refl _),List.drop_eq_nil_of_le h']
theorem getD_none {α:Type} {xs:List α} {i:Nat} {d:α} (h:xs.length<=i):xs.getD i d=d:=by simp [List.getD,h]
theorem ex1 {α:Type} {p:α->Prop} {a:α} (h:p a):∃ a,p a:=⟨a,h⟩
theorem ex3 {α:Type} {p:α->α->α->Prop} {a b c:α} (h:p a b c):∃ a b c,p a b c:=⟨a,b,c,h⟩
end Hy
namespace Hy
open PySem PySem.Spec PyProof.Rows L2
open Ev (D Den av)
noncomputable def Dfn (K:PySem.W.Frag) (x:Str) (st:Stmt) (f:Addr):Prop:=PySem.W.nsIn K mainGlobals x=some (some (.ref f))/\(∃ oc od kV dc pm an cd ct sl,K.lookup f=some ⟨oc,od,.func (PySem.W.fnOf x x (cc st) (bL st) (ag st) .none kV dc pm an cd ct),sl⟩/\PySem.W.codeIn K cd x=true)/\PySem.W.keepIn K (.ref f)=true
noncomputable def BdA (x:Str) (st:Stmt) (ps:List Str):Prop:=∀ (kV dc pm:Value) (an:Option Addr) (cd ct:Value) (us:List Value),us.length=ps.length->bindArgs (PySem.W.fnOf x x (cc st) (bL st) (ag st) .none kV dc pm an cd ct) ⟨us,[]⟩=pure (ps.zip us)
noncomputable def nsL (K:PySem.W.Frag):List Str->Prop
 | []=>True
 | x :: r=>PySem.W.nsIn K mainGlobals x=some none/\nsL K r
section
variable {P:Program} {w:World} {K:PySem.W.Frag} {h:Heap} {mg:Str->Option Value} {base:Heap} {x:Str} {st:Stmt} {f:Addr} {ps:List Str} {k:Nat} {Φ:List D->Sl->Prop}
theorem Dfn.of {oc:Value} {od an:Option Addr} {kV dc pm cd ct:Value} {sl:Array (Option Value)} (a:PySem.W.nsIn K mainGlobals x=some (some (.ref f))) (l:K.lookup f=some ⟨oc,od,.func (PySem.W.fnOf x x (cc st) (bL st) (ag st) .none kV dc pm an cd ct),sl⟩) (c:PySem.W.codeIn K cd x=true) (k:PySem.W.keepIn K (.ref f)=true):Dfn K x st f:=⟨a,⟨_,_,_,_,_,_,_,_,_,l,c⟩,k⟩
theorem nsL.none (X:K.In h) (G:h.Ns mainGlobals mg):∀ {l:List Str},nsL K l->∀ x ∈ l,mg x=none
 | _ :: _,z,x,m=>by
   rcases List.mem_cons.mp m with rfl | m
   · exact PySem.W.mg_none_of X G z.1
   · exact nsL.none X G z.2 x m
theorem Dfn.fn (d:Dfn K x st f) (X:K.In h) (G:h.Ns mainGlobals mg) (b:BdA x st ps):∃ fd,Fun K x x st f fd/\mg x=some (.ref f)/\PySem.W.keepIn K (.ref f)=true/\Binds K fd ps []:=by
 obtain ⟨a,⟨oc,od,kV,dc,pm,an,cd,ct,sl,l,c'⟩,q⟩:=d
 have F:=pw l c' q
 exact ⟨_,F,PySem.W.mg_of X G a,q,F.binds (b kV dc pm an cd ct)⟩
theorem Dfn.cal (d:Dfn K x st f) (X:K.In h) (G:h.Ns mainGlobals mg) (b:BdA x st ps) (o:∀ fd,Fun K x x st f fd->aR P w K mg base CX0 k f fd ps (spD K Φ)):Cal P w K mg base k x Φ:=by
 obtain ⟨fd,F,h1,h2,h3⟩:=d.fn X G b
 exact ⟨f,fd,ps,o fd F,h1,h2,h3⟩
end
theorem bd1 {Q:List Value->Prop} (h:∀ a,Q [a]):∀ us:List Value,us.length=1->Q us:=λus e=>match us,e with | [a],_=>h a
theorem bd2 {Q:List Value->Prop} (h:∀ a b,Q [a,b]):∀ us:List Value,us.length=2->Q us:=λus e=>match us,e with | [a,b],_=>h a b
theorem bd3 {Q:List Value->Prop} (h:∀ a b c,Q [a,b,c]):∀ us:List Value,us.length=3->Q us:=λus e=>match us,e with | [a,b,c],_=>h a b c
theorem bd4 {Q:List Value->Prop} (h:∀ a b c d,Q [a,b,c,d]):∀ us:List Value,us.length=4->Q us:=λus e=>match us,e with | [a,b,c,d],_=>h a b c d
end Hy
namespace Hy
open PySem PySem.Spec PyProof.Rows L2
open Ev (D Den av aj aX aN)
noncomputable def eF:List Nat->Nd->Option Nd
 | [],t=>some t
 | i :: p,.l xs=>(xs[i]?).bind (eF p)
 | i :: p,.t xs=>(xs[i]?).bind (eF p)
 | _ :: _,.d _=>none
noncomputable def cN:List Nat->Nd->Nd->Nd
 | [],_,n=>n
 | i :: p,.l xs,n=>.l (xs.set i (cN p (xs.getD i (.d .non)) n))
 | i :: p,.t xs,n=>.t (xs.set i (cN p (xs.getD i (.d .non)) n))
 | _ :: _,.d x,_=>.d x
noncomputable def cY (H:Hp):List Nat->V->V->Prop
 | [],u,v=>v=u
 | i :: p,u,v=>∃ a vs w,u=.ref a/\(H a=some (.lst vs)\/H a=some (.tup vs))/\vs[i]?=some w/\cY H p w v
theorem cY.mono {H H':Hp} (e:ah H H'):∀ {p:List Nat} {u v:V},cY H p u v->cY H' p u v
 | [],_,_,h=>h
 | _ :: _,_,_,⟨a,vs,w,h1,h2,h3,h4⟩=>⟨a,vs,w,h1,h2.elim (λz=>.inl (e _ _ z)) (λz=>.inr (e _ _ z)),h3,h4.mono e⟩
theorem cY.snoc {H:Hp} {i:Nat} {a:Addr} {vs:List V} {w:V}:∀ {p:List Nat} {u:V},cY H p u (.ref a)->(H a=some (.lst vs)\/H a=some (.tup vs))->vs[i]?=some w->cY H (p++[i]) u w
 | [],_,h,h1,h2=>⟨a,vs,w,h.symm,h1,h2,rfl⟩
 | _ :: _,_,⟨b,us,x,z1,z2,z3,z4⟩,h1,h2=>⟨b,us,x,z1,z2,z3,z4.snoc h1 h2⟩
section
variable {K:PySem.W.Frag} {G H:Hp}
theorem aK.length:∀ {vs:List V} {bs:List Addr} {xs:List Nd},aK K G H vs bs xs->vs.length=xs.length
 | _,_,_,.nil=>rfl
 | _,_,_,.cons _ r=>congrArg (· + 1) r.length
theorem aK.part:∀ {vs:List V} {bs:List Addr} {xs:List Nd} {i:Nat} {c:Nd},aK K G H vs bs xs->xs[i]?=some c->∃ v l m r,vs[i]?=some v/\bs=l++(m++r)/\bB K G H v m c /\
   ∀ {G' H':Hp} {m':List Addr} {c':Nd},ah G G'->(∀ b,b ∈ l\/b ∈ r->H' b=H b)->bB K G' H' v m' c'->aK K G' H' vs (l++(m'++r)) (xs.set i c')
 | _,_,_,_,_,.nil,e=>by cases e
 | _,_,_,0,_,.cons (b1:=b1) (b2:=b2) h r,e=>by
   cases e
   exact ⟨_,[],b1,b2,rfl,rfl,h,λg e h'=>by rw [List.nil_append]; exact .cons h' (r.frame g λb hb=>e b (.inr hb))⟩
 | _,_,_,i + 1,c,.cons (b1:=b1) h r,e=>by
   obtain ⟨v,l,m,q,h1,h2,h3,h4⟩:=aK.part (i:=i) (c:=c) r (by simpa using e)
   refine ⟨v,b1++l,m,q,by simpa using h1,by rw [h2,List.append_assoc],h3,λ{G' H' m' c'} g e h'=>?_⟩
   rw [List.append_assoc]
   exact .cons (h.frame g λb hb=>e b (.inl (List.mem_append_left _ hb))) (h4 g (λb hb=>e b (hb.elim (λz=>.inl (List.mem_append_right _ z)) .inr)) h')
theorem bB.focus:∀ (p:List Nat) {u:V} {bs:List Addr} {t c:Nd},bB K G H u bs t->eF p t=some c->∃ v l m r,cY H p u v/\bs=l++(m++r)/\bB K G H v m c /\
   ∀ {G' H':Hp} {m':List Addr} {c':Nd},ah G G'->(∀ b,b ∈ l\/b ∈ r->H' b=H b)->bB K G' H' v m' c'->bB K G' H' u (l++(m'++r)) (cN p t c')
 | [],u,bs,tr,c,h,e=>by
   cases e
   exact ⟨u,[],bs,[],rfl,by simp,h,λg _ h'=>by simpa [cN] using h'⟩
 | i :: p,_,_,.l xs,c,.l (a:=a) (bs:=bs) hH r,e=>by
   rw [eF] at e
   cases ei:xs[i]? with
   | none=>rw [ei] at e; cases e
   | some x=>
     rw [ei] at e
     obtain ⟨v,l,m,q,h1,h2,h3,h4⟩:=r.part ei
     obtain ⟨w,l',m',q',g1,g2,g3,g4⟩:=bB.focus p h3 e
     refine ⟨w,a :: (l++l'),m',q'++q,⟨a,_,v,rfl,.inl hH,h1,g1⟩,by rw [h2,g2]; simp,g3,λ{G' H' m2 c2} g e2 h'=>?_⟩
     have k1:=g4 g (λb hb=>e2 b (hb.elim (λz=>.inl (List.mem_cons_of_mem _ (List.mem_append_right _ z))) λz=>.inr (List.mem_append_left _ z))) h'
     have k2:=h4 g (λb hb=>e2 b (hb.elim (λz=>.inl (List.mem_cons_of_mem _ (List.mem_append_left _ z))) λz=>.inr (List.mem_append_right _ z))) k1
     rw [cN,show xs.getD i (.d .non)=x by simp [List.getD,ei]]
     have k3:=bB.l (G:=G') (K:=K) (a:=a) (by rw [e2 a (.inl (List.mem_cons_self ..))]; exact hH) k2
     simpa using k3
 | i :: p,_,_,.t xs,c,.t (a:=a) (bs:=bs) hH r,e=>by
   rw [eF] at e
   cases ei:xs[i]? with
   | none=>rw [ei] at e; cases e
   | some x=>
     rw [ei] at e
     obtain ⟨v,l,m,q,h1,h2,h3,h4⟩:=r.part ei
     obtain ⟨w,l',m',q',g1,g2,g3,g4⟩:=bB.focus p h3 e
     refine ⟨w,a :: (l++l'),m',q'++q,⟨a,_,v,rfl,.inr hH,h1,g1⟩,by rw [h2,g2]; simp,g3,λ{G' H' m2 c2} g e2 h'=>?_⟩
     have k1:=g4 g (λb hb=>e2 b (hb.elim (λz=>.inl (List.mem_cons_of_mem _ (List.mem_append_right _ z))) λz=>.inr (List.mem_append_left _ z))) h'
     have k2:=h4 g (λb hb=>e2 b (hb.elim (λz=>.inl (List.mem_cons_of_mem _ (List.mem_append_left _ z))) λz=>.inr (List.mem_append_right _ z))) k1
     rw [cN,show xs.getD i (.d .non)=x by simp [List.getD,ei]]
     have k3:=bB.t (G:=G') (K:=K) (a:=a) (by rw [e2 a (.inl (List.mem_cons_self ..))]; exact hH) k2
     simpa using k3
theorem cY.det:∀ {p:List Nat} {u v w:V},cY H p u v->cY H p u w->v=w
 | [],_,_,_,h,h'=>h.trans h'.symm
 | _ :: _,_,_,_,⟨a,vs,x,h1,h2,h3,h4⟩,⟨b,us,y,g1,g2,g3,g4⟩=>by
   rw [h1] at g1
   cases g1
   have e:vs=us:=by
     rcases h2 with h2 | h2 <;> rcases g2 with g2 | g2 <;> rw [h2] at g2 <;> cases g2 <;> rfl
   subst e
   rw [h3] at g3
   cases g3
   exact h4.det g4
theorem bU.frame {G' H':Hp} (g:ah G G') {v:Option V} {bs:List Addr}:∀ {s:Sl},(∀ b ∈ bs,H' b=H b)->bU K G H v bs s->bU K G' H' v bs s
 | .un,_,h=>h
 | .d _,_,⟨h,u,e1,h2⟩=>⟨h,u,e1,h2.mono g⟩
 | .o _,e,⟨a,vs,h1,h2,h3,h4⟩=>⟨a,vs,h1,h2,by rw [e a (by rw [h1]; exact List.mem_cons_self ..)]; exact h3,h4.mono g⟩
 | .n _,e,⟨h0,u,h1,h2⟩=>⟨h0,u,h1,h2.frame g e⟩
 | .x E,e,⟨a,o,h1,h2,h3,h4⟩=>⟨a,o,h1,h2,by rw [e a (by rw [h1]; exact List.mem_cons_self ..)]; exact h3,E.mono g h4⟩
theorem pg {l r b0 b1:List Addr} {a:Addr} (h:(l++((a :: b0)++r)).Nodup) (h1:b1.Nodup) (hb:∀ b ∈ b1,b ∈ b0\/(b ∉ l/\b ≠ a/\b ∉ r)):(l++((a :: b1)++r)).Nodup:=by
 obtain ⟨z1,z2,z3⟩:=List.nodup_append.mp h
 rw [List.cons_append] at z2
 obtain ⟨z4,z5⟩:=List.nodup_cons.mp z2
 obtain ⟨z6,z7,z8⟩:=List.nodup_append.mp z5
 refine List.nodup_append.mpr ⟨z1,?_,λx hx y hy=>?_⟩
 · rw [List.cons_append]
   refine List.nodup_cons.mpr ⟨λz=>?_,List.nodup_append.mpr ⟨h1,z7,λx hx y hy=>?_⟩⟩
   · rcases List.mem_append.mp z with z | z
     · rcases hb a z with q | q
       · exact z4 (List.mem_append_left _ q)
       · exact q.2.1 rfl
     · exact z4 (List.mem_append_right _ z)
   · rcases hb x hx with q | q
     · exact z8 x q y hy
     · exact λe=>q.2.2 (e ▸ hy)
 · rw [List.cons_append] at hy
   rcases List.mem_cons.mp hy with q | q
   · exact z3 x hx y (by rw [q]; exact List.mem_append_left _ (List.mem_cons_self ..))
   · rcases List.mem_append.mp q with q | q
     · rcases hb y q with q | q
       · exact z3 x hx y (List.mem_append_left _ (List.mem_cons_of_mem _ q))
       · exact λe=>q.1 (e ▸ hx)
     · exact z3 x hx y (List.mem_append_right _ q)
theorem Sta.putN {A:Addr->Prop} {H₀:Hp} {τ:List Sl} {B:Nat->List Addr} {σ:L2.St} {i:Nat} {t:Nd} {p:List Nat} {xs:List Nd} (S:Sta K A H₀ τ B σ H) (hi:τ[i]?=some (.n t)) (hp:eF p t=some (.l xs)) :
   ∃ u a vs bs0,(σ[i]?).join=some u/\cY H p u (.ref a)/\H a=some (.lst vs)/\aK K (hd H (own A B)) H vs bs0 xs/\bs0.Nodup/\own A B a/\(∀ b ∈ bs0,own A B b/\b ≠ a) /\
     ∀ {H1:Hp} {vs':List V} {bs1:List Addr} {xs':List Nd},ah H H1->bs1.Nodup->(∀ b ∈ bs1,b ∈ bs0\/(H b=none/\∃ o,H1 b=some o))->aK K (hd (upd H1 a (.lst vs')) λb=>own A B b\/b ∈ bs1) (upd H1 a (.lst vs')) vs' bs1 xs' ->
       ∃ B',Sta K A H₀ (τ.set i (.n (cN p t (.l xs')))) B' σ (upd H1 a (.lst vs')):=by
 obtain ⟨nd,u,eu,ok⟩:=S.sl i _ hi
 obtain ⟨v,l,m,r,pv,hbs,okc,back⟩:=ok.focus p hp
 cases okc with
 | @l a vs bs0 _ hH r0=>
   have mem:∀ b,b ∈ l\/b=a\/b ∈ bs0\/b ∈ r->b ∈ B i:=λb hb=>by
     rw [hbs]
     rcases hb with z | z | z | z
     · exact List.mem_append_left _ z
     · exact List.mem_append_right _ (by rw [z]; exact List.mem_append_left _ (List.mem_cons_self ..))
     · exact List.mem_append_right _ (List.mem_append_left _ (List.mem_cons_of_mem _ z))
     · exact List.mem_append_right _ (List.mem_append_right _ z)
   have nd':=nd
   rw [hbs] at nd'
   obtain ⟨n1,n2,n3⟩:=List.nodup_append.mp nd'
   rw [List.cons_append] at n2
   obtain ⟨n4,n5⟩:=List.nodup_cons.mp n2
   obtain ⟨n6,_,_⟩:=List.nodup_append.mp n5
   have ha:own A B a:=.inr ⟨i,mem a (.inr (.inl rfl))⟩
   refine ⟨u,a,vs,bs0,eu,pv,hH,r0,n6,ha,λb hb=>⟨.inr ⟨i,mem b (.inr (.inr (.inl hb)))⟩,λz=>n4 (z ▸ List.mem_append_left _ hb)⟩,λ{H1 vs' bs1 xs'} e h1 hb hx=>?_⟩
   have keep:∀ b o,b ≠ a->H b=some o->upd H1 a (.lst vs') b=H b:=λb o ne h=>by rw [au ne,e _ _ h,h]
   have la:∀ b,b ∈ l\/b ∈ r->b ≠ a:=λb hb z=>by
     rcases hb with q | q
     · exact n3 b q a (List.mem_append_left _ (List.mem_cons_self ..)) z
     · exact n4 (z ▸ List.mem_append_right _ q)
   have fresh:∀ b ∈ bs1,b ∈ bs0\/(b ∉ l/\b ≠ a/\b ∉ r):=λb hb1=>by
     rcases hb b hb1 with q | ⟨q,_⟩
     · exact .inl q
     · have no:∀ c,c ∈ B i->b ≠ c:=λc hc z=>by obtain ⟨o,hc⟩:=S.bd i c hc; rw [<- z,q] at hc; cases hc
       exact .inr ⟨λz=>no b (mem b (.inl z)) rfl,no a (mem a (.inr (.inl rfl))),λz=>no b (mem b (.inr (.inr (.inr z)))) rfl⟩
   have sub:∀ b,own A (upB B i (l++((a :: bs1)++r))) b->own A B b\/b ∈ bs1:=λb z=>by
     rcases z with z | ⟨j,z⟩
     · exact .inl (.inl z)
     · rcases aY z with ⟨_,z⟩ | ⟨_,z⟩
       · rcases List.mem_append.mp z with z | z
         · exact .inl (.inr ⟨i,mem b (.inl z)⟩)
         · rw [List.cons_append] at z
           rcases List.mem_cons.mp z with z | z
           · exact .inl (z ▸ ha)
           · rcases List.mem_append.mp z with z | z
             · exact .inr z
             · exact .inl (.inr ⟨i,mem b (.inr (.inr (.inr z)))⟩)
       · exact .inl (.inr ⟨j,z⟩)
   have sm:ah (hd H (own A B)) (hd (upd H1 a (.lst vs')) (own A (upB B i (l++((a :: bs1)++r))))):=λb o z=>by
     obtain ⟨z1,z2⟩:=ao.mp z
     refine ao.mpr ⟨λy=>?_,by rw [keep b o (λq=>z1 (q ▸ ha)) z2]; exact z2⟩
     rcases sub b y with y | y
     · exact z1 y
     · rcases hb b y with q | ⟨q,_⟩
       · exact z1 (.inr ⟨i,mem b (.inr (.inr (.inl q)))⟩)
       · rw [q] at z2; cases z2
   have hs:ah H₀ (upd H1 a (.lst vs')):=λb o z=>by
     have f0:=S.fr i a (mem a (.inr (.inl rfl)))
     rw [au (λq=>by rw [q,f0] at z; cases z)]
     exact e _ _ (S.same _ _ z)
   refine ⟨upB B i (l++((a :: bs1)++r)),hs,by rw [List.length_set,S.len],λj s hj=>?_,λj b z=>?_,λj k b z1 z2=>?_,S.ad,λj b z=>?_⟩
   · by_cases ej:j=i
     · subst ej
       have hl:=(List.getElem?_eq_some_iff.mp hi).1
       rw [List.getElem?_set_self hl] at hj
       cases hj
       unfold upB
       rw [if_pos rfl]
       refine ⟨pg nd' h1 fresh,u,eu,back sm (λb hb=>?_) (.l aA (hx.frame (ay (ah.refl _) sub) λ_ _=>rfl))⟩
       obtain ⟨o,q⟩:=S.bd j b (mem b (hb.elim .inl λz=>.inr (.inr (.inr z))))
       exact keep b o (la b hb) q
     · rw [List.getElem?_set_ne (λz=>ej z.symm)] at hj
       unfold upB
       rw [if_neg ej]
       refine (S.sl j s hj).frame sm λb hb=>?_
       obtain ⟨o,q⟩:=S.bd j b hb
       exact keep b o (λz=>ej (S.uq j i a (z ▸ hb) (mem a (.inr (.inl rfl))))) q
   · rcases aY z with ⟨_,z⟩ | ⟨_,z⟩
     · rcases sub b (.inr ⟨i,by unfold upB; rw [if_pos rfl]; exact z⟩) with y | y
       · rcases List.mem_append.mp z with z | z
         · exact S.fr i b (mem b (.inl z))
         · rw [List.cons_append] at z
           rcases List.mem_cons.mp z with z | z
           · exact S.fr i b (mem b (.inr (.inl z)))
           · rcases List.mem_append.mp z with z | z
             · rcases hb b z with q | ⟨q,_⟩
               · exact S.fr i b (mem b (.inr (.inr (.inl q))))
               · exact S.same.free q
             · exact S.fr i b (mem b (.inr (.inr (.inr z))))
       · rcases hb b y with q | ⟨q,_⟩
         · exact S.fr i b (mem b (.inr (.inr (.inl q))))
         · exact S.same.free q
     · exact S.fr j b z
   · have inB:∀ {c},c ∈ l++((a :: bs1)++r)->c ∈ B i\/H c=none:=λ{c} z=>by
       rcases List.mem_append.mp z with z | z
       · exact .inl (mem c (.inl z))
       · rw [List.cons_append] at z
         rcases List.mem_cons.mp z with z | z
         · exact .inl (mem c (.inr (.inl z)))
         · rcases List.mem_append.mp z with z | z
           · rcases hb c z with q | ⟨q,_⟩
             · exact .inl (mem c (.inr (.inr (.inl q))))
             · exact .inr q
           · exact .inl (mem c (.inr (.inr (.inr z))))
     have cross:∀ {j},j ≠ i->b ∈ B j->b ∈ l++((a :: bs1)++r)->False:=λ{j} nj y1 y2=>by
       rcases inB y2 with q | q
       · exact nj (S.uq j i b y1 q)
       · obtain ⟨o,w⟩:=S.bd j b y1; rw [q] at w; cases w
     rcases aY z1 with ⟨e1,y1⟩ | ⟨e1,y1⟩ <;> rcases aY z2 with ⟨e2,y2⟩ | ⟨e2,y2⟩
     · exact e1.trans e2.symm
     · exact (cross e2 y2 y1).elim
     · exact (cross e1 y1 y2).elim
     · exact S.uq j k b y1 y2
   · rcases aY z with ⟨_,z⟩ | ⟨_,z⟩
     · by_cases e':b=a
       · exact ⟨_,by rw [e']; exact aA⟩
       · rw [au e']
         have old:b ∈ B i->∃ o,H1 b=some o:=λq=>let ⟨o,w⟩:=S.bd i b q; ⟨o,e _ _ w⟩
         rcases List.mem_append.mp z with z | z
         · exact old (mem b (.inl z))
         · rw [List.cons_append] at z
           rcases List.mem_cons.mp z with z | z
           · exact absurd z e'
           · rcases List.mem_append.mp z with z | z
             · rcases hb b z with q | ⟨_,q⟩
               · exact old (mem b (.inr (.inr (.inl q))))
               · exact q
             · exact old (mem b (.inr (.inr (.inr z))))
     · by_cases e':b=a
       · exact ⟨_,by rw [e']; exact aA⟩
       · rw [au e']
         obtain ⟨o,w⟩:=S.bd j b z
         exact ⟨o,e _ _ w⟩
end
noncomputable def dP (K:PySem.W.Frag) (τ:List Sl) (i:Nat) (p:List Nat):TE:=λσ H Q=>∃ A H₀ B,Sta K A H₀ τ B σ H/\∀ u v H',(σ[i]?).join=some u->ah H H'->cY H' p u v->Q v H'
noncomputable def mw:Sl->Option Nd
 | .un=>none
 | .d x=>some (.d x)
 | .o xs=>some (.l (xs.map .d))
 | .n t=>some t
 | .x _=>none
section
variable {K:PySem.W.Frag} {G H:Hp}
theorem pf:∀ {vs:List V} {xs:List D},av K G vs xs->aK K G H vs [] (xs.map .d)
 | _,_,.nil=>.nil
 | _,_,.cons h r=>.cons (b1:=[]) (b2:=[]) (.d h) (pf r)
theorem bU.nd {v:V} {bs:List Addr} {s:Sl} {c:Nd} (h:bU K G H (some v) bs s) (e:mw s=some c):bB K G H v bs c/\bs.Nodup:=by
 cases s with
 | un=>cases e
 | d x=>cases e; obtain ⟨rfl,u,eu,d⟩:=h; cases eu; exact ⟨.d d,List.nodup_nil⟩
 | o xs=>cases e; obtain ⟨a,vs,rfl,e2,h3,h4⟩:=h; cases e2; exact ⟨.l h3 (pf h4),by simp⟩
 | n t=>cases e; obtain ⟨h0,u,eu,h2⟩:=h; cases eu; exact ⟨h2,h0⟩
 | x E=>cases e
theorem aK.snoc {v:V} {c:Nd} {b2:List Addr} (h:bB K G H v b2 c):∀ {vs:List V} {bs:List Addr} {xs:List Nd},aK K G H vs bs xs->aK K G H (vs++[v]) (bs++b2) (xs++[c])
 | _,_,_,.nil=>by have:=aK.cons h .nil; rw [List.append_nil] at this; exact this
 | _,_,_,.cons h1 r=>by rw [List.append_assoc]; exact .cons h1 (aK.snoc h r)
theorem Sta.nd {A:Addr->Prop} {H₀:Hp} {τ:List Sl} {B:Nat->List Addr} {σ:L2.St} (S:Sta K A H₀ τ B σ H) {i:Nat} {s:Sl} {c:Nd} (hi:τ[i]?=some s) (hc:mw s=some c):Sta K A H₀ (τ.set i (.n c)) (upB B i (B i)) σ H:=
 S.less (λ_ z=>z) λG' g _=>by
   have q:=S.sl i s hi
   obtain ⟨u,e⟩:∃ u,(σ[i]?).join=some u:=by
     cases s with
     | un=>cases hc
     | d x=>obtain ⟨_,u,e,_⟩:=q; exact ⟨u,e⟩
     | o xs=>obtain ⟨_,_,_,e,_⟩:=q; exact ⟨_,e⟩
     | n t=>obtain ⟨_,u,e,_⟩:=q; exact ⟨u,e⟩
     | x E=>cases hc
   rw [e] at q ⊢
   obtain ⟨q1,q2⟩:=q.nd hc
   exact ⟨q2,u,rfl,q1.frame g λ_ _=>rfl⟩
end
section
variable {X:Cx} {C:Bool} {τ:List Sl} {x y z:D} {a b e o ix:Expr} {es:List Expr} {pos p q:Pos} {k:Nat} {s:Sl} {N:Po} {rest:List Stmt} {i:Nat} {t c:Nd} {pt:List Nat} {xs:List Nd} {j:Int} {m:Nat}
theorem A0 (i:Nat) {s:Sl} {c:Nd} (h:PSs X rest (dS X.K (τ.set i (.n c)) N)) (hi:τ[i]?=some s:=by rfl) (hc:mw s=some c:=by rfl):PSs X rest (dS X.K τ N):=oY h λD σ H ⟨A,H₀,B,S,Me⟩=>⟨A,H₀,_,S.nd hi hc,Me⟩
theorem c9 (i:Nat) {n:Str} {t:Nd} (h:τ[i]?=some (.n t):=by rfl) (hN:X.N[i]?=some n:=by rfl) (hv:Vis X.env.scope n:=by first | exact Or.inl rfl | exact Or.inr (Or.inl rfl) | exact Or.inr (Or.inr rfl))
   (hd:(n == ("__debug__" : Str))=false:=by decide) (hcd:(n == ("__classdict__" : Str))=false:=by decide):PE X (.Name n pos) (dP X.K τ i []):=peW (bG hN hv hd hcd) λσ H Q ⟨A,H₀,B,S,k⟩=>by
 obtain ⟨_,u,e,_⟩:=S.sl i _ h
 exact ⟨u,slot_of e,k u u H e (ah.refl _) rfl⟩
theorem Sta.at {K:PySem.W.Frag} {A:Addr->Prop} {H₀ H:Hp} {τ:List Sl} {B:Nat->List Addr} {σ:L2.St} (S:Sta K A H₀ τ B σ H) (hi:τ[i]?=some (.n t)) (hp:eF pt t=some c):∃ u v m,(σ[i]?).join=some u/\cY H pt u v/\bB K (hd H (own A B)) H v m c/\∀ b ∈ m,b ∈ B i:=by
 obtain ⟨_,u,e,ok⟩:=S.sl i _ hi
 obtain ⟨v,l,m,r,h1,h2,h3,_⟩:=ok.focus pt hp
 exact ⟨u,v,m,e,h1,h3,λb hb=>by rw [h2]; exact List.mem_append_right _ (List.mem_append_left _ hb)⟩
theorem vI {K:PySem.W.Frag} {G H:Hp} {vs:List V} {bs:List Addr} {m:Nat} (r:aK K G H vs bs xs) (hm:m < xs.length):∃ v,vs[m]?=some v:=⟨vs[m]'(by rw [r.length]; exact hm),List.getElem?_eq_getElem _⟩
theorem zD {n m:Nat} {j:Int} (h:ixN n j=some m):m < n:=by
 unfold ixN at h
 split at h
 · split at h
   · cases h; omega
   · cases h
 · split at h
   · cases h; omega
   · cases h
theorem cQ (ha:PE X a (dP X.K τ i pt)) (hb:PE X b (dE X.K false τ (.d (.int j)))) (hi:τ[i]?=some (.n t)) (hp:eF pt t=some (.l xs)) (hj:ixN xs.length j=some m) (hs:lK b:=by exact λ_ _=>rfl):PE X (.Subscript a b pos) (dP X.K τ i (pt++[m])):=
 peW (xB p9 ha hb hs) λσ H Q ⟨A,H₀,B,S,k⟩=>⟨A,H₀,B,S,λu v H1 eu e1 pv=>aM (S.mono e1) λw H2 e2 d2=>by
   cases d2
   obtain ⟨u',v',m',eu',pv',ok,_⟩:=((S.mono e1).mono e2).at hi hp
   rw [eu] at eu'
   cases eu'
   obtain rfl:=(pv.mono e2).det pv'
   cases ok with
   | @l ad vs _ _ hH r=>
     obtain ⟨x,hx⟩:=vI r (zD hj)
     exact ⟨ad,vs,j,x,rfl,rfl,SqL.of hH,by unfold atI; rw [r.length,hj]; exact hx,k u x H2 eu (e1.trans e2) (pv'.snoc (.inl hH) hx)⟩⟩
theorem rn (h:PE X e (dP X.K τ i pt)) (hi:τ[i]?=some (.n t)) (hp:eF pt t=some (.d x)):PE X e (dE X.K C τ (.d x)):=peW h λσ H Q q=>by
 obtain ⟨A,H₀,B,S,k⟩:=df q
 refine ⟨A,H₀,B,S,λu v H1 eu e1 pv=>?_⟩
 obtain ⟨u',v',m',eu',pv',ok,_⟩:=(S.mono e1).at hi hp
 rw [eu] at eu'
 cases eu'
 obtain rfl:=pv.det pv'
 cases ok with
 | d h=>exact k v H1 e1 (h.mono (ay (ah.refl _) λ_ z=>ic z))
theorem ze {ap cp:Pos} (ho:PE X o (dP X.K τ i pt)) (he:PE X e (dE X.K true τ s)) (hi:τ[i]?=some (.n t)) (hp:eF pt t=some (.l xs)) (hc:mw s=some c) (hl:xs.length < 1000000) (hr:PSs X rest (dS X.K (τ.set i (.n (cN pt t (.l (xs++[c]))))) N))
   (hfew:((backTo cp (starEach [e] X.env)).all (λx=>!x.1) && (backToKw cp (keywordEach [] X.env)).all (λx=>x.1.isSome) && decide (([e]:List Expr).length + ([]:List Keyword).length + (if ([]:List Keyword).isEmpty then 0 else 1) < 30))=true:=by rfl)
   (hline:(ap.endLine == cp.line)=true:=by rfl) (hst:starEach [e] X.env=(false,eval e X.env) :: starEach [] X.env:=by rfl) (hpl:(backTo cp (starEach [] X.env)).any (·.1)=false:=by rfl)
   (hs:swapsWith (.Call (.Attribute o "append" ap) [e] [] cp) none pos.line X.env=pure false:=by rfl) (hbase:attributeBase o "append" X.env (eval o X.env)=eval o X.env:=by rfl) :
   PSs X (.Expr (.Call (.Attribute o "append" ap) [e] [] cp) pos :: rest) (dS X.K τ N):=
 a4 (M:=(·=τ.set i (.n (cN pt t (.l (xs++[c])))))) (psW (fF (kG PySem.F.plainAttrs_list PySem.F.slot_list_append PySem.F.type_list_append dD ho (bI he dh hst) hbase hfew hline hst hpl) hs) λD σ H ⟨A,H₀,B,S,Me⟩=>by
   refine ⟨A,H₀,B,S,λu v H1 eu e1 pv=>?_⟩
   have S1:=S.mono e1
   obtain ⟨u',l,vs,bs0,eu',pv',hH,r0,nd0,hal,hown,put⟩:=S1.putN hi hp
   rw [eu] at eu'
   cases eu'
   obtain rfl:=pv.det pv'
   refine ⟨.inl ⟨rfl,_,SqL.of hH⟩,A,H₀,B,S1,λw H2 bs e2 hf hw=>⟨l,vs,w,rfl,rfl,e2 _ _ hH,by rw [r0.length]; exact Nat.lt_trans hl (by decide),?_⟩⟩
   obtain ⟨nw,ndw⟩:=hw.nd hc
   have off:∀ b ∈ bs,b ≠ l:=λb hb z=>by rw [z] at hb; rw [(hf l hb).1] at hH; cases hH
   have sm:ah (hd H2 λb=>own A B b\/b ∈ bs) (hd (upd H2 l (.lst (vs++[w]))) λb=>own A B b\/b ∈ bs0++bs):=λb o z=>by
     obtain ⟨z1,z2⟩:=ao.mp z
     refine ao.mpr ⟨λy=>z1 ?_,by rw [au (λy:b=l=>z1 (.inl (by rw [y]; exact hal)))]; exact z2⟩
     rcases y with y | y
     · exact .inl y
     · exact (List.mem_append.mp y).elim (λz=>.inl (hown b z).1) .inr
   have sm0:ah (hd H1 (own A B)) (hd (upd H2 l (.lst (vs++[w]))) λb=>own A B b\/b ∈ bs0++bs):=λb o z=>by
     obtain ⟨z1,z2⟩:=ao.mp z
     refine ao.mpr ⟨λy=>?_,by rw [au (λy:b=l=>z1 (by rw [y]; exact hal))]; exact e2 _ _ z2⟩
     rcases y with y | y
     · exact z1 y
     · rcases List.mem_append.mp y with y | y
       · exact z1 (hown b y).1
       · rw [(hf b y).1] at z2; cases z2
   obtain ⟨B',S'⟩:=put (H1:=H2) (vs':=vs++[w]) (bs1:=bs0++bs) (xs':=xs++[c]) e2 (List.nodup_append.mpr ⟨nd0,ndw,λx hx y hy z=>by
       obtain ⟨o,q⟩:=r0.some_of x hx
       rw [z,(hf y hy).1] at q; cases q⟩)
     (λb hb=>(List.mem_append.mp hb).elim .inl λz=>.inr (hf b z))
     (aK.snoc (nw.frame sm λb hb=>au (off b hb)) (r0.frame sm0 λb hb=>by
       obtain ⟨o,q⟩:=r0.some_of b hb
       rw [au (hown b hb).2,e2 _ _ q,q]))
   exact Me.nx _ B' _ _ rfl S') λ_ e=>e ▸ hr
end
end Hy
namespace Ev
open PySem PySem.Spec PyProof.Rows L2
noncomputable def bad:Str:=⟨#[0x110000]⟩
mutual
noncomputable def eqD:D->D->Bool
 | .non,.non=>true
 | .bl a,.bl b=>a == b
 | .bl a,.int j=>(if a then 1 else 0) == j
 | .int i,.bl b=>i == (if b then 1 else 0)
 | .int a,.int b=>a == b
 | .str a,.str b=>a == b
 | .tup xs,.tup ys=>ji xs ys
 | .lst xs,.lst ys=>ji xs ys
 | .box _,.box _=>true
 | .box _,.str b=>bad == b
 | .str a,.box _=>a == bad
 | .box _,.non | .box _,.bl _ | .box _,.int _ | .box _,.tup _ | .box _,.lst _=>false
 | .non,.box _ | .bl _,.box _ | .int _,.box _ | .tup _,.box _ | .lst _,.box _=>false
 | .non,.bl _ | .non,.int _ | .non,.str _ | .non,.tup _ | .non,.lst _=>false
 | .bl _,.non | .bl _,.str _ | .bl _,.tup _ | .bl _,.lst _=>false
 | .int _,.non | .int _,.str _ | .int _,.tup _ | .int _,.lst _=>false
 | .str _,.non | .str _,.bl _ | .str _,.int _ | .str _,.tup _ | .str _,.lst _=>false
 | .tup _,.non | .tup _,.bl _ | .tup _,.int _ | .tup _,.str _ | .tup _,.lst _=>false
 | .lst _,.non | .lst _,.bl _ | .lst _,.int _ | .lst _,.str _ | .lst _,.tup _=>false
noncomputable def ji:List D->List D->Bool
 | [],[]=>true
 | x :: xs,y :: ys=>eqD x y && ji xs ys
 | [],_ :: _=>false
 | _ :: _,[]=>false
end
mutual
noncomputable def toP:D->PyData
 | .non=>.none
 | .bl b=>.bool b
 | .int i=>.int i
 | .str x=>.str x
 | .tup xs=>.tuple (fM xs)
 | .lst xs=>.list (fM xs)
 | .box _=>.str bad
noncomputable def fM:List D->List PyData
 | []=>[]
 | x :: xs=>toP x :: fM xs
end
mutual
noncomputable def cln:D->Bool
 | .str x=>PyData.strOk x
 | .tup xs=>fO xs
 | .lst xs=>fO xs
 | .box _=>false
 | .non | .bl _ | .int _=>true
noncomputable def fO:List D->Bool
 | []=>true
 | x :: xs=>cln x && fO xs
end
mutual
noncomputable def dep:D->Nat
 | .tup xs=>gA xs + 1
 | .lst xs=>gA xs + 1
 | .non | .bl _ | .int _ | .str _ | .box _=>0
noncomputable def gA:List D->Nat
 | []=>0
 | x :: xs=>max (dep x) (gA xs)
end
noncomputable def fL (x:D):Prop:=cln x=true/\dep x<=64
noncomputable instance (x:D):Decidable (fL x):=inferInstanceAs (Decidable (_/\_))
mutual
theorem gx:∀ x y:D,PyData.eqv (toP x) (toP y)=eqD x y
 | .non,y=>by cases y <;> simp [toP,PyData.eqv,eqD]
 | .bl a,y=>by cases y <;> simp [toP,PyData.eqv,eqD]
 | .int a,y=>by cases y <;> simp [toP,PyData.eqv,eqD]
 | .str a,y=>by cases y <;> simp [toP,PyData.eqv,eqD]
 | .tup xs,.tup ys=>by simp only [toP,PyData.eqv,eqD]; exact jo xs ys
 | .lst xs,.lst ys=>by simp only [toP,PyData.eqv,eqD]; exact jo xs ys
 | .tup xs,.non=>by simp [toP,PyData.eqv,eqD]
 | .tup xs,.bl _=>by simp [toP,PyData.eqv,eqD]
 | .tup xs,.int _=>by simp [toP,PyData.eqv,eqD]
 | .tup xs,.str _=>by simp [toP,PyData.eqv,eqD]
 | .tup xs,.lst _=>by simp [toP,PyData.eqv,eqD]
 | .lst xs,.non=>by simp [toP,PyData.eqv,eqD]
 | .lst xs,.bl _=>by simp [toP,PyData.eqv,eqD]
 | .lst xs,.int _=>by simp [toP,PyData.eqv,eqD]
 | .lst xs,.str _=>by simp [toP,PyData.eqv,eqD]
 | .lst xs,.tup _=>by simp [toP,PyData.eqv,eqD]
 | .tup xs,.box _=>by simp [toP,PyData.eqv,eqD]
 | .lst xs,.box _=>by simp [toP,PyData.eqv,eqD]
 | .box _,y=>by cases y <;> simp [toP,PyData.eqv,eqD]
theorem jo:∀ xs ys:List D,PyData.eqvAll (fM xs) (fM ys)=ji xs ys
 | [],[]=>by simp [fM,PyData.eqvAll,ji]
 | [],_ :: _=>by simp [fM,PyData.eqvAll,ji]
 | _ :: _,[]=>by simp [fM,PyData.eqvAll,ji]
 | x :: xs,y :: ys=>by simp only [fM,PyData.eqvAll,ji]; rw [gx x y,jo xs ys]
end
mutual
theorem lE:∀ x:D,(toP x).canLay0=cln x
 | .non=>by simp [toP,PyData.canLay0,cln]
 | .bl _=>by simp [toP,PyData.canLay0,cln]
 | .int _=>by simp [toP,PyData.canLay0,cln]
 | .str _=>by simp [toP,PyData.canLay0,cln]
 | .tup xs=>by simp only [toP,PyData.canLay0,cln]; exact jr xs
 | .lst xs=>by simp only [toP,PyData.canLay0,cln]; exact jr xs
 | .box _=>by simp only [toP,PyData.canLay0,cln]; decide +kernel
theorem jr:∀ xs:List D,PyData.canLayAll0 (fM xs)=fO xs
 | []=>by simp [fM,PyData.canLayAll0,fO]
 | x :: xs=>by simp only [fM,PyData.canLayAll0,fO]; rw [lE x,jr xs]
end
mutual
theorem lN:∀ x:D,(toP x).depth=dep x
 | .non=>by simp [toP,PyData.depth,dep]
 | .bl _=>by simp [toP,PyData.depth,dep]
 | .int _=>by simp [toP,PyData.depth,dep]
 | .str _=>by simp [toP,PyData.depth,dep]
 | .tup xs=>by simp only [toP,PyData.depth,dep]; rw [jh xs]
 | .lst xs=>by simp only [toP,PyData.depth,dep]; rw [jh xs]
 | .box _=>by simp [toP,PyData.depth,dep]
theorem jh:∀ xs:List D,PyData.depthAll (fM xs)=gA xs
 | []=>by simp [fM,PyData.depthAll,gA]
 | x :: xs=>by simp only [fM,PyData.depthAll,gA]; rw [lN x,jh xs]
end
theorem cG {x:D} (h:fL x):SeqAt.shaped (toP x)=true:=by
 unfold SeqAt.shaped
 rw [lE,lN,h.1,Bool.true_and]
 exact decide_eq_true h.2
section
variable {X:Cx} {pins:List (Addr × Obj)} {σ:L2.St} {H G:Hp} {s:Shared}
mutual
theorem cO (I:Inv X pins σ H s) (e:ah G H):∀ {v:V} {d:D} {u:Value},Den X.K G v d->RelV v u->cln d=true->∃ as,Reads s.heap u (toP d) as
 | _,_,_,.non,r,_=>by cases r; exact ⟨_,.none⟩
 | _,_,_,.bl,r,_=>by cases r; exact ⟨_,.bool _⟩
 | _,_,_,.int,r,_=>by obtain ⟨t,rfl⟩:=r; exact ⟨_,.int _ _⟩
 | _,_,_,.str,r,_=>by obtain ⟨t,rfl⟩:=r; exact ⟨_,.str _ _⟩
 | _,_,_,.tup h q,r,c=>by
   cases r
   obtain ⟨its,rv,⟨o,h1,h2,n,h3⟩,_⟩:=I.tuple (aX e h)
   obtain ⟨as,z⟩:=hX I e q rv (by rw [cln] at c; exact c)
   exact ⟨_,.tuple h1 h2 h3 (by simpa using z)⟩
 | _,_,_,.lst h q,r,c=>by
   cases r
   obtain ⟨its,rv,⟨o,n,h1,h2,_,h3⟩,_⟩:=I.list (aN e h)
   obtain ⟨as,z⟩:=hX I e q rv (by rw [cln] at c; exact c)
   exact ⟨_,.list h1 h2 h3 (by simpa using z)⟩
 | _,_,_,.box _,_,c=>by rw [cln] at c; cases c
theorem hX (I:Inv X pins σ H s) (e:ah G H):∀ {vs:List V} {ds:List D} {us:List Value},av X.K G vs ds->Vals vs us->fO ds=true->∃ as,ReadsAll s.heap us (fM ds) as
 | _,_,_,.nil,.nil,_=>⟨_,.nil⟩
 | _,_,_,.cons h q,.cons r rs,c=>by
   rw [fO,Bool.and_eq_true] at c
   obtain ⟨as,z⟩:=cO I e h r c.1
   obtain ⟨bs,z'⟩:=hX I e q rs c.2
   exact ⟨_,.cons z z'⟩
end
end
end Ev
namespace Hy
open PySem PySem.Spec PyProof.Rows L2
open Ev (D Den av aj aX aN Itz yJ o8 eqD fL cO cG gx)
section
variable {X:Cx} {C:Bool} {τ:List Sl} {x y z:D} {a b e c tg it elt:Expr} {es ifs:List Expr} {pos p q:Pos} {k:Nat} {s:Sl} {N:Po} {rest body:List Stmt} {ds xs ys:List D} {i j:Int} {scope:Scope}
theorem qy (M:Nat->Bool->List Sl->Prop) (B:Bk X k) (h0:∃ n t,M n t τ) (hc:∀ n t τ',M n t τ'->PT X c (dT X.K τ' t)) (hb:∀ n τ',M n true τ'->PSs X body (dS X.K τ' { N with nx:=λτ2=>∃ m t,m < n/\M m t τ2,ct:=λτ2=>∃ m t,m < n/\M m t τ2,bk:=λ_=>False }))
   (hr:∀ n τ',M n false τ'->PSs X rest (dS X.K τ' N)):PSs X (.While c body [] pos :: rest) (dS X.K τ N):=by
 have hc':PT X c λσ H Q=>∃ n t τ',M n t τ'/\dT X.K τ' t σ H Q:=λpins s σ H Q I ⟨n,t,τ',m,q⟩=>hc n t τ' m pins s σ H Q I q
 have hb':PSs X body λD σ H=>∃ n τ',M n true τ'/\dS X.K τ' { N with nx:=λτ2=>∃ m t,m < n/\M m t τ2,ct:=λτ2=>∃ m t,m < n/\M m t τ2,bk:=λ_=>False } D σ H:=λpins s σ H D I ⟨n,τ',m,q⟩=>hb n τ' m pins s σ H D I q
 refine a4 (M:=λτ'=>∃ n,M n false τ') (psW (uG B.po hc' hb') λD σ H ⟨A,H₀,B,S,Me⟩=>⟨λm σ' H'=>∃ t τ' B',M m t τ'/\Sta X.K A H₀ τ' B' σ' H',?_,?_⟩) λτ' h=>let ⟨n,h⟩:=h; hr n τ' h
 · obtain ⟨n,t,h0⟩:=h0
   exact ⟨n,t,τ,B,h0,S⟩
 rintro m σ' H' ⟨t,τ',B',hM,S'⟩
 refine ⟨m,t,τ',hM,A,H₀,B',S',λH1 e1=>?_⟩
 cases t with
 | false=>exact uD (Me.nx τ' B' σ' H1 ⟨m,hM⟩ (S'.mono e1))
 | true=>
   refine rA ⟨λσ2 H2=>∃ τ2 B2,(∃ n t,n < m/\M n t τ2)/\Sta X.K A H₀ τ2 B2 σ2 H2,λσ2 H2 ⟨τ2,B2,⟨n,t,l,q⟩,S2⟩=>⟨n,l,t,τ2,B2,q,S2⟩,m,τ',hM,A,H₀,B',S'.mono e1,?_⟩
   exact ⟨λτ2 B2 σ2 H2 m S2=>⟨τ2,B2,m,S2⟩,λ_ _ _ _ z=>z.elim,λτ2 B2 σ2 H2 m S2=>⟨τ2,B2,m,S2⟩,Me.rt,Me.xc⟩
noncomputable def iU (xs ys:List D):List D:=(xs.zip ys).map λp=>.tup [p.1,p.2]
theorem dC:(iU xs ys).length=min xs.length ys.length:=by simp [iU]
theorem vx (i:Nat) (h:i < (iU xs ys).length):(iU xs ys)[i]=.tup [xs.getD i .non,ys.getD i .non]:=by
 rw [dC] at h
 simp [iU,show i < xs.length by omega,show i < ys.length by omega]
theorem zF {K:PySem.W.Frag} {G:Hp} {a b:Addr} {vs ws:List V} (h:SqL K G a vs) (r:av K G vs xs) (h':SqL K G b ws) (r':av K G ws ys):Yl K (Itz K a b) (iU xs ys) G:=by
 intro H sg
 have hl:=r.length
 have hl':=r'.length
 refine ⟨λi hi=>⟨vs,ws,aN sg h,aN sg h',by rw [dC] at hi; omega⟩,λi hi=>?_⟩
 have hi':=hi
 rw [dC] at hi'
 obtain ⟨v,hv,dv⟩:=r.get (List.getElem?_eq_getElem (show i < xs.length by omega))
 obtain ⟨w,hw,dw⟩:=r'.get (List.getElem?_eq_getElem (show i < ys.length by omega))
 refine ⟨⟨vs,ws,v,w,aN sg h,aN sg h',hv,hw⟩,λy H' ⟨p,x1,x2,hp,e0,e1,e2,e3⟩=>?_⟩
 subst e0 e1
 have ex:x1=v:=by have:=e2 vs (aN sg h); rw [hv] at this; exact (Option.some.inj this).symm
 have ey:x2=w:=by have:=e3 ws (aN sg h'); rw [hw] at this; exact (Option.some.inj this).symm
 subst ex ey
 refine ⟨aj hp _,λM hM sv=>?_⟩
 rw [vx,show xs.getD i .non=xs[i] by simp [show i < xs.length by omega],show ys.getD i .non=ys[i] by simp [show i < ys.length by omega]]
 have up:=sv.trans (ay (aj hp (.tup [x1,x2])) λ_ z=>z)
 exact .tup (SqT.of (jM hM hp)) (.cons (dv.mono up) (.cons (dw.mono up) .nil))
theorem xw {ts:List Expr} {m:Nat} {tp:Pos} (B:Bk X k) (h:PE X a (dE X.K true τ (.d (.lst xs)))) (h':PE X b (dE X.K true τ (.d (.lst ys)))) (hg:Gl X "zip":=by rfl) (hs:starEach [a,b] X.env=(false,eval a X.env) :: starEach [b] X.env:=by rfl) (hs2:starEach [b] X.env=[(false,eval b X.env)]:=by rfl) :
   PI X (.Tuple ts m tp) (.Call (.Name "zip" p) [a,b] [] pos) (dI X.K τ (iU xs ys)):=
 piW (o8 B.calm hg (B.blt _ (by decide)) (ab h (ab h' af hs2) hs) hs hs2) λσ H R ⟨A,H₀,B,S,k⟩=>fQ S λvs H1 e1 d1=>by
   cases d1 with
   | cons d r=>
     cases r with
     | cons d' r=>
       cases r
       cases d with
       | lst h r=>cases d' with
         | lst h' r'=>exact ⟨_,_,rfl,⟨_,aN aG h⟩,⟨_,aN aG h'⟩,k _ H1 e1 (zF h r h' r')⟩
theorem x9 (hu:X.A.units + 64 < cLine):OpR X (compareOp .Eq) (λx y H Q=>∃ G d e,ah G H/\Den X.K G x d/\Den X.K G y e/\fL d/\fL e/\Q (.bl (eqD d e)) H):=by
 intro pins s σ H x y v u Q I rx ry ⟨G,d,e,sg,dx,dy,o1,o2,q⟩
 obtain ⟨as,r1⟩:=cO I sg dx rx o1.1
 obtain ⟨bs,r2⟩:=cO I sg dy ry o2.1
 exact eq_dataH r1 r2 (cG o1) (cG o2) hu ⟨.bl _,H,I,by rw [gx]; rfl,q⟩
theorem yR (hu:X.A.units + 64 < cLine):OpR X (compareOp .NotEq) (λx y H Q=>∃ G d e,ah G H/\Den X.K G x d/\Den X.K G y e/\fL d/\fL e/\Q (.bl (!eqD d e)) H):=by
 intro pins s σ H x y v u Q I rx ry ⟨G,d,e,sg,dx,dy,o1,o2,q⟩
 obtain ⟨as,r1⟩:=cO I sg dx rx o1.1
 obtain ⟨bs,r2⟩:=cO I sg dy ry o2.1
 exact ne_dataH r1 r2 (cG o1) (cG o2) hu ⟨.bl _,H,I,by rw [gx]; rfl,q⟩
theorem pH (B:Bk X k) (h1:fL x) (h2:fL y):ck X (compareOp .Eq) x y (.bl (eqD x y)):=⟨_,x9 B.room.units,λM v w H Q _ d1 d2 q=>⟨_,x,y,aG,d1,d2,h1,h2,q _ H (ah.refl _) .bl⟩⟩
theorem zH (B:Bk X k) (h1:fL x) (h2:fL y):ck X (compareOp .NotEq) x y (.bl (!eqD x y)):=⟨_,yR B.room.units,λM v w H Q _ d1 d2 q=>⟨_,x,y,aG,d1,d2,h1,h2,q _ H (ah.refl _) .bl⟩⟩
variable {u v:Str}
theorem iC:∀ {bs:List Bool} {us:List Value},Vals (bs.map V.bl) us->us=bs.map Value.bool
 | [],_,h=>by cases h; rfl
 | b :: bs,_,h=>by
   cases h with
   | cons rv rs=>rw [iC rs,show _=Value.bool b from rv]; rfl
theorem ui (hc:X.calm=true):fu X (.builtin "all") (λxs H Q=>∃ (p:Addr) (bs:List Bool),xs=[.ref p]/\SqL X.K H p (bs.map V.bl)/\Q (.bl (bs.all id)) H):=by
 intro pins s σ H xs us Q I r q
 obtain ⟨p,bs,rfl,h,q⟩:=q
 obtain ⟨u,rfl,ru⟩:∃ u,us=[u]/\RelV (.ref p) u:=by
   cases r with
   | cons r1 r=>cases r; exact ⟨_,rfl,r1⟩
 cases (show u=Value.ref _ from ru)
 obtain ⟨its,rv,pl,hz⟩:=I.list h
 obtain rfl:=iC rv
 have lt:∀ a,s.heap.IsList a (bs.map Value.bool).toArray->a ≠ s.heap.objs.size:=λa ⟨o,z,_⟩=>Nat.ne_of_lt (Heap.lt_size z)
 refine call_all_walk (wpAny_pyIter_list pl.isList ⟨_,_,_,_,_,_,λi=>(bs.map Value.bool)[i]? == some (Value.bool true),rfl,Walks.list (A:=X.A.in1) (I.ok.hd hc) _ _ (lt _ pl.isList) (bs.map Value.bool).toArray,⟨⟨_,Heap.get?_push_size _ rfl,rfl,rfl⟩,?_⟩,λi v s' Q' E' hP hQ=>?_,λh' tk hk=>?_⟩)
 · obtain ⟨o,z1,z2⟩:=pl.isList
   exact ⟨o,Heap.get?_push_of_some _ z1,z2⟩
 · have hP':(bs.map Value.bool)[i]?=some v:=by simpa using hP
   obtain ⟨c,_,rfl⟩:=List.mem_map.mp (List.mem_of_getElem? hP')
   refine wpAny_truthy_bool ?_
   have hQ:Q' ((bs.map Value.bool)[i]? == some (Value.bool true)) s':=hQ
   rw [hP'] at hQ
   cases c
   · exact hQ
   · exact hQ
 · refine ⟨.bl (bs.all id),H,I.kept (t':=tk) λb' o z=>?_,?_,q⟩
   · refine hk b' o (λhm=>?_) (Heap.get?_push_of_some _ z)
     have:b'=s.heap.objs.size:=by simpa using hm
     exact absurd (Heap.lt_size z) (by rw [this]; exact Nat.lt_irrefl _)
   · have e:∀ bs:List Bool,bs.all id=(List.range (bs.map Value.bool).toArray.size).all λi=>(bs.map Value.bool)[i]? == some (Value.bool true):=λbs=>by
       rw [List.size_toArray,List.length_map]
       induction bs with
       | nil=>rfl
       | cons b bs ih=>
         rw [List.all_cons,ih,List.length_cons,List.range_succ_eq_map,List.all_cons,List.all_map]
         congr 1
         cases b <;> rfl
     rw [e]; rfl
theorem qT {K:PySem.W.Frag} {H:Hp}:∀ {vs:List V} {bs:List Bool},av K H vs (bs.map .bl)->vs=bs.map V.bl
 | _,[],h=>by cases h; rfl
 | _,_ :: _,h=>by
   cases h with
   | cons d r=>cases d; rw [qT r]; rfl
theorem ky (hc:X.calm=true) (bs:List Bool) (hx:xs=bs.map .bl):iS X (.builtin "all") [.lst xs] (.d (.bl (bs.all id))):=⟨_,ui hc,λM vs H Q _ d q=>by
 subst hx
 cases d with
 | cons d r=>
   cases r
   cases d with
   | lst h r=>
     cases qT r
     exact ⟨_,_,rfl,aN aG h,q _ H [] (ah.refl _) gi (jj .bl)⟩⟩
end
end Hy
namespace Hy
open PySem PySem.Spec PyProof.Rows L2
open Ev (D Den av aj aX aN aF fo dF PTs cE eU)
section
variable {X:Cx} {C:Bool} {τ:List Sl} {x y z:D} {a b e c tg it elt o:Expr} {es ifs:List Expr} {pos p q:Pos} {k:Nat} {s:Sl} {N:Po} {rest body:List Stmt} {ds xs ys:List D} {i j:Int} {scope:Scope}
theorem Sta.hide {K:PySem.W.Frag} {A:Addr->Prop} {H₀ H H1:Hp} {B:Nat->List Addr} {σ:L2.St} {b1:List Addr} (S:Sta K A H₀ τ B σ H) (e:ah H H1) (f:Fr H H1 b1):Sta K (λb=>A b\/b ∈ b1) (hd H1 λb=>∃ i,b ∈ B i) τ B σ H1 where
 same:=aG
 len:=S.len
 sl:=λi s h=>(S.sl i s h).mono (λb o z=>by
   obtain ⟨z1,z2⟩:=ao.mp z
   refine ao.mpr ⟨λw=>?_,e _ _ z2⟩
   rcases w with (w | w) | w
   · exact z1 (.inl w)
   · rw [(f b w).1] at z2; cases z2
   · exact z1 (.inr w)) e
 fr:=λi b hb=>by
   cases q:hd H1 (λb=>∃ i,b ∈ B i) b with
   | none=>rfl
   | some o=>exact absurd ⟨i,hb⟩ (ao.mp q).1
 uq:=S.uq
 ad:=λb hb=>by
   rcases hb with z | z
   · obtain ⟨o,q⟩:=S.ad b z
     exact ⟨o,ao.mpr ⟨λ⟨i,w⟩=>(by rw [S.fr i b w] at q; cases q),e _ _ (S.same _ _ q)⟩⟩
   · obtain ⟨w1,o,w2⟩:=f b z
     exact ⟨o,ao.mpr ⟨λ⟨i,w⟩=>(by obtain ⟨o',q⟩:=S.bd i b w; rw [w1] at q; cases q),w2⟩⟩
 bd:=λi b hb=>let ⟨o,q⟩:=S.bd i b hb; ⟨o,e _ _ q⟩
theorem v3 {A:Addr->Prop} {B:Nat->List Addr} {b1:List Addr} {b:Addr} (h:vw C A B b\/b ∈ b1):vw C (λb=>A b\/b ∈ b1) B b:=by
 cases C with
 | true=>
   rcases h with (h | h) | h
   · exact .inl (.inl h)
   · exact .inr h
   · exact .inl (.inr h)
 | false=>exact h
theorem xY {K:PySem.W.Frag} {H:Hp} {M:Addr->Prop} {p:Addr} {o:HO} {vs:List V} {bs:List Addr} {ns:List Nd} (hp:H p=none) (d:aK K (hd H λb=>M b\/b ∈ bs) H vs bs ns) (nd:bs.Nodup) :
   aK K (hd (upd H p o) λb=>M b\/b ∈ p :: bs) (upd H p o) vs bs ns/\(p :: bs).Nodup:=by
 have off:∀ b ∈ bs,b ≠ p:=λb hb z=>by obtain ⟨w,q⟩:=d.some_of b hb; rw [z,hp] at q; cases q
 refine ⟨d.frame (λb w z=>?_) λb hb=>au (off b hb),List.nodup_cons.mpr ⟨λz=>off p z rfl,nd⟩⟩
 obtain ⟨z1,z2⟩:=ao.mp z
 have ne:b ≠ p:=λy=>by rw [y,hp] at z2; cases z2
 refine ao.mpr ⟨λy=>?_,by rw [au ne]; exact z2⟩
 rcases y with y | y
 · exact z1 (.inl y)
 · rcases List.mem_cons.mp y with y | y
   · exact ne y
   · exact z1 (.inr y)
end
section
variable {X:Cx} {C:Bool} {τ τ':List Sl} {x y z:D} {a b e c tg it elt o ix:Expr} {es ifs:List Expr} {pos p q:Pos} {k:Nat} {s:Sl} {N:Po} {rest body:List Stmt} {ds xs ys:List D} {i:Nat} {j:Int} {scope:Scope}
noncomputable def dGs (K:PySem.W.Frag) (τ:List Sl) (xs:List D) (τ':List Sl):TGs:=λvs σ H Q=>∃ A H₀ B,Sta K A H₀ τ B σ H/\av K (hd H (own A B)) vs xs/\∀ σ' B',Sta K A H₀ τ' B' σ' H->Q σ' H
theorem Az {es:List Expr} {t t':TGs} (h:PGs X es t) (f:∀ v σ H Q,t' v σ H Q->t v σ H Q):PGs X es t':=λpins s σ H v u Q I r q=>h pins s σ H v u Q I r (f v σ H Q q)
theorem zj:PGs X [] (dGs X.K τ [] τ):=Az qI λv σ H Q ⟨A,H₀,B,S,d,k⟩=>by
 cases d
 exact ⟨rfl,k σ B S⟩
theorem qV (i:Nat) {n:Str} (hN:X.N.Nodup) (h:PGs X es (dGs X.K (τ.set i (.d x)) xs τ')) (hi:X.N[i]?=some n:=by rfl) (hx:Loc X.env.scope n:=by first | exact .inl rfl | exact .inr rfl) (hf:X.fn n=true\/X.env.scope.names.lookup n=some .local:=by first | exact .inl rfl | exact .inr rfl | assumption):PGs X (.Name n p :: es) (dGs X.K τ (x :: xs) τ'):=
 Az (jS (ee (i:=i) hN hi hx hf) h) λv σ H Q ⟨A,H₀,B,S,d,k⟩=>by
   cases d with
   | cons d r=>
     have sub:∀ b,own A (upB B i []) b->own A B b:=λb z=>z.elim .inl λ⟨j,z⟩=>(aY z).elim (λz=>nomatch z.2) λz=>.inr ⟨j,z.2⟩
     exact ⟨_,_,rfl,A,H₀,_,S.set (ah.refl _) (bs:=[]) (λ_ z=>nomatch z) (jj d),r.mono (ay (ah.refl _) sub),k⟩
theorem A2 {m:Nat} (hc:X.calm=true) (h:PGs X es (dGs X.K τ xs τ')) (hl:(assignEach es X.env).length=xs.length:=by rfl) (hst:(assignEach es X.env).findIdx? (·.1)=none:=by rfl):PG X (.Tuple es m pos) (dG X.K τ (.tup xs) τ'):=
 pgW (uw (n:=xs.length) hc h hl hst) λv σ H Q ⟨A,H₀,B,S,d,k⟩=>by
   cases d with
   | tup h r=>exact ⟨_,_,rfl,aX aG h,r.length,A,H₀,B,S,r,k⟩
theorem yX {m:Nat} (he:PE X e (dE X.K true τ (.d x))) (hg:PG X (.Tuple es m p) (dG X.K τ x τ')) (hr:PSs X rest (dS X.K τ' N)) (hs:swapsWithSole [.Tuple es m p] e pos.line X.env=pure false:=by rfl) (hw:swappedStores [.Tuple es m p] e X.env=pure none:=by rfl)
   (h1:(assignEach [.Tuple es m p] X.env).map (·.2)=[assign (.Tuple es m p) X.env]:=by rfl):PSs X (.Assign [.Tuple es m p] e pos :: rest) (dS X.K τ N):=
 a4 (M:=(·=τ')) (psW (oK he hg hs hw h1) λD σ H ⟨A,H₀,B,S,Me⟩=>aM S λv H1 e1 d1=>⟨A,H₀,B,S.mono e1,d1,λσ' B' S'=>Me.nx _ _ _ _ rfl S'⟩) λ_ e=>e ▸ hr
theorem BG (T:Nat->List Sl) {f:Nat->D} (B:Bk X k) (hi:PI X tg it (dI X.K τ xs)) (hl:xs.length < 1000000) (hT:∀ i,(T i).length=(bA τ (bCp X.N scope)++[Sl.un]).length/\∀ (l:Nat) (x:D),(bA τ (bCp X.N scope)++[Sl.un])[l]?=some (.d x)->(T i)[l]?=some (.d x))
   (hg:∀ i (h:i < xs.length) s H fp,PG (cpX X s H scope fp) tg (dG X.K (bA τ (bCp X.N scope)++[.un]) xs[i] (T i)))
   (he:∀ i,i < xs.length->∀ s H fp,PE (cpX X s H scope fp) elt (dE X.K true (T i) (.d (f i)))) (hc:bOk X.env.scope scope=true:=by kernel_rfl) (hs:∀ x,foldedSetIterable it X.env x=pure x:=by intro _; rfl) :
   Cmp X elt tg it [] scope τ ((List.range xs.length).map f):=by
 have h:=uB (T:=T) (t:=λ_=>true) (f:=f) (elt:=elt) (ifs:=[]) hc hi hT hg (λi h s H fp=>λpins s' σ H' Q I ⟨A,H₀,B,S,q⟩=>lZ pins s' σ H' Q I (q H' (ah.refl _))) (λi h _ s H fp=>he i h s H fp) hl hs
 rwa [List.filter_eq_self.mpr λ_ _=>rfl] at h
structure sU (X:Cx) (elt tg it:Expr) (ifs:List Expr) (scope:Scope) (τ:List Sl) (ns:List Nd):Prop where
 ex:∃ (In:TG->TT->TE->Prop) (caps:List (Option Nat)) (N:List Str) (wi:TI),dF X scope N caps/\PI X tg it wi/\(∀ g tt te,In g tt te->∀ s H fp,PG (aF X s H scope N fp) tg g/\PTs (aF X s H scope N fp) ifs tt/\PE (aF X s H scope N fp) elt te) /\
   ∀ C σ H Q,dE X.K C τ (.n (.l ns)) σ H Q->eU In caps wi σ H Q
 hs:∀ x,foldedSetIterable it X.env x=pure x
theorem A9 {ns:List Nd} (h:sU X elt tg it ifs scope τ ns):PE X (.ListComp elt [⟨tg,it,ifs,0⟩] scope pos) (dE X.K C τ (.n (.l ns))):=by
 obtain ⟨In,caps,N,wi,h1,h2,h3,h4⟩:=h.ex
 exact peW (cE h1 h2 h.hs h3) (h4 C)
theorem vy {T:Nat->List Sl} {f:Nat->Nd} {S':Nat->Sl} (B:Bk X k) (hc:bOk X.env.scope scope=true) (hi:PI X tg it (dI X.K τ xs)) (hT:∀ i,(T i).length=(bA τ (bCp X.N scope)++[Sl.un]).length/\∀ (l:Nat) (x:D),(bA τ (bCp X.N scope)++[Sl.un])[l]?=some (.d x)->(T i)[l]?=some (.d x))
   (hg:∀ i (h:i < xs.length) s H fp,PG (cpX X s H scope fp) tg (dG X.K (bA τ (bCp X.N scope)++[.un]) xs[i] (T i)))
   (he:∀ i,i < xs.length->∀ s H fp,PE (cpX X s H scope fp) elt (dE X.K true (T i) (S' i))) (hn:∀ i,i < xs.length->mw (S' i)=some (f i)) (hl:xs.length < 1000000) (hs:∀ x,foldedSetIterable it X.env x=pure x:=by intro _; rfl) :
   sU X elt tg it [] scope τ ((List.range xs.length).map f):=by
 obtain ⟨cap,_⟩:=gM hc
 generalize hτ:bA τ (bCp X.N scope)++[Sl.un]=τb at *
 refine ⟨⟨λg tt te=>g=(λv σ H Q=>∃ (i:Nat) (h:i < xs.length),dG X.K τb xs[i] (T i) v σ H Q)/\tt=(λσ H Q=>Q true H)/\te=(λσ H Q=>∃ i,i < xs.length/\dE X.K true (T i) (S' i) σ H Q),_,_,_,cap,hi,?_,?_⟩,hs⟩
 · rintro g tt te ⟨rfl,rfl,rfl⟩ s H fp
   exact ⟨λpins s' σ H' v u Q I r ⟨i,h,q⟩=>hg i h s H fp pins s' σ H' v u Q I r q,lZ,λpins s' σ H' Q I ⟨i,h,q⟩=>he i h s H fp pins s' σ H' Q I q⟩
 rintro C σ H Q ⟨A,H₀,B,S,kk⟩
 refine ⟨A,H₀,B,S,λJ H1 e1 yl=>⟨_,_,_,⟨rfl,rfl,rfl⟩,λD hD=>?_⟩⟩
 have S1:=S.mono e1
 have flat:∀ (l:Nat) (s:Sl),τb[l]?=some s->s=.un\/∃ x,s=.d x:=λl s h=>by
   rw [<- hτ] at h
   rcases List.mem_append.mp (List.mem_of_getElem? h) with z | z
   · unfold bA at z
     obtain ⟨o,_,ho⟩:=List.mem_map.mp z
     split at ho
     · split at ho
       · exact .inr ⟨_,ho.symm⟩
       · exact .inl ho.symm
     · exact .inl ho.symm
   · exact .inl (List.mem_singleton.mp z)
 have slots:∀ {σ':L2.St} {H':Hp} {rs:List Addr},ah H1 H'->(∃ o,H' D=some o)->(∀ b ∈ rs,∃ o,H' b=some o)->σ'.length=τb.length->(∀ (l:Nat) (s:Sl),τb[l]?=some s->bU X.K (hd H' λb=>own A B b\/b=D\/b ∈ rs) H' (σ'[l]?).join [] s)->Sta X.K (λb=>own A B b\/b=D\/b ∈ rs) H' τb (λ_=>[]) σ' H':=λ{σ' H' rs} e1 e2 e5 e3 e4=>
   ⟨ah.refl _,e3,λl s h=>(e4 l s h).mono (ay (ah.refl _) λ_ z=>z.elim id λ⟨_,z⟩=>(nomatch z)) (ah.refl _),λ_ _ z=>(nomatch z),λ_ _ _ z=>(nomatch z),λb z=>z.elim (λz=>let ⟨o,q⟩:=S1.dm b z; ⟨o,e1 _ _ q⟩) λz=>z.elim (λz=>z ▸ e2) (e5 b),λ_ _ z=>(nomatch z)⟩
 refine ⟨λi m σ' H'=>m=xs.length - i/\i<=xs.length/\ah H1 H'/\(∃ vs rs,H' D=some (.lst vs)/\vs.length<=i/\aK X.K (hd H' λb=>own A B b\/b=D\/b ∈ rs) H' vs rs ((List.range i).map f)/\(D :: rs).Nodup/\(∀ b ∈ rs,H1 b=none) /\
   σ'.length=τb.length/\∀ (l:Nat) (s:Sl),τb[l]?=some s->bU X.K (hd H' λb=>own A B b\/b=D\/b ∈ rs) H' (σ'[l]?).join [] s),⟨xs.length,rfl,Nat.zero_le _,aj hD _,[],[],aA,Nat.le_refl _,.nil,by simp,λ_ z=>(nomatch z),?_,λl s h=>?_⟩,?_⟩
 · rw [<- hτ]; unfold fo bA; rw [List.length_append,List.length_append,List.length_map,List.length_map]; rfl
 · have hv:ah (hd H (own A B)) (hd (upd H1 D (.lst [])) λb=>own A B b\/b=D\/b ∈ ([]:List Addr)):=λb o z=>by
     obtain ⟨z1,z2⟩:=ao.mp z
     have z2:=e1 _ _ z2
     have ne:b ≠ D:=λz=>by rw [z,hD] at z2; cases z2
     exact ao.mpr ⟨λy=>y.elim z1 λy=>y.elim ne λy=>(nomatch y),by rw [au ne]; exact z2⟩
   rcases flat l s h with rfl | ⟨x,rfl⟩
   · rfl
   · rw [<- hτ] at h
     have hlt:l < (bCp X.N scope).length:=by
       rcases Nat.lt_or_ge l (bCp X.N scope).length with h' | h'
       · exact h'
       · exfalso
         rw [List.getElem?_append_right (by unfold bA; rw [List.length_map]; exact h')] at h
         cases e:l - (bA τ (bCp X.N scope)).length with
         | zero=>rw [e] at h; cases h
         | succ n=>rw [e] at h; cases h
     rw [List.getElem?_append_left (by unfold bA; rw [List.length_map]; exact hlt)] at h
     rw [List.getElem?_append_left (by unfold fo; rw [List.length_map]; exact hlt)]
     unfold bA at h
     unfold fo
     rw [List.getElem?_map] at h ⊢
     cases e:(bCp X.N scope)[l]? with
     | none=>rw [e] at h; cases h
     | some o=>
       rw [e] at h
       cases o with
       | none=>cases h
       | some i=>
         simp only [Option.map_some,Option.some.injEq] at h
         split at h
         · rename_i x' hx'
           cases h
           obtain ⟨_,u,eu,d⟩:=S.sl i _ hx'
           exact ⟨rfl,u,by simpa using eu,d.mono hv⟩
         · cases h
 rintro i m σ' H' ⟨rfl,hi,e2,vs,rs,hv1,hv2,hv3,hnd,hfr,hlen,hsl⟩
 obtain ⟨y1,y2⟩:=yl H' (aG.trans e2)
 have rsd:∀ b ∈ rs,∃ o,H' b=some o:=hv3.some_of
 by_cases hlt:i < xs.length
 · obtain ⟨g,y⟩:=y2 i hlt
   refine .inr ⟨g,λx H2 hy=>?_⟩
   obtain ⟨e3,dx⟩:=y x H2 hy
   have S2:=slots e2 ⟨_,hv1⟩ rsd hlen hsl
   have o0:∀ b,own (λb=>own A B b\/b=D\/b ∈ rs) (λ_=>([]:List Addr)) b->own A B b\/b=D\/b ∈ rs:=λb z=>z.elim id λ⟨_,z⟩=>(nomatch z)
   have dx':=dx _ S2.dm (λb o z=>by
     obtain ⟨z1,z2⟩:=ao.mp z
     exact ao.mpr ⟨λy=>(o0 b y).elim z1 λy=>y.elim (λy=>(by rw [y,hD] at z2; cases z2)) λy=>(by rw [hfr b y] at z2; cases z2),e2 _ _ z2⟩)
   refine ⟨i,hlt,_,_,_,S2.mono e3,dx',λσ2 B2 S3=>?_⟩
   refine rA ⟨i,hlt,_,_,_,S3,λv H5 bs e5 hf5 d5=>?_⟩
   obtain ⟨nv,ndv⟩:=d5.nd (hn i hlt)
   have e6:=e3.trans e5
   have hv5:=e6 _ _ hv1
   have bsD:∀ b ∈ bs,b ≠ D:=λb hb z=>by have:=(hf5 b hb).1; rw [z,e3 _ _ hv1] at this; cases this
   have bsR:∀ b ∈ bs,b ∉ rs:=λb hb z=>by obtain ⟨o,q⟩:=rsd b z; have:=(hf5 b hb).1; rw [e3 _ _ q] at this; cases this
   refine ⟨vs,xs.length - (i + 1),hv5,Nat.lt_trans (Nat.lt_of_le_of_lt hv2 (Nat.lt_trans hlt hl)) (by decide),by omega,rfl,hlt,?_,vs++[v],rs++bs,aA,by rw [List.length_append]; exact Nat.succ_le_succ hv2,?_,?_,?_,S3.len.trans (hT i).1,λl s h=>?_⟩
   · intro b o z
     have ne:b ≠ D:=λy=>by rw [y,hD] at z; cases z
     rw [au ne]
     exact e6 _ _ (e2 _ _ z)
   · rw [List.range_succ,List.map_append]
     have sm1:ah (hd H5 λb=>vw true (λb=>own A B b\/b=D\/b ∈ rs) B2 b\/b ∈ bs) (hd (upd H5 D (.lst (vs++[v]))) λb=>own A B b\/b=D\/b ∈ rs++bs):=λb o z=>by
       obtain ⟨z1,z2⟩:=ao.mp z
       refine ao.mpr ⟨λy=>z1 ?_,by rw [au (λy:b=D=>z1 (.inl (.inl (.inr (.inl y)))))]; exact z2⟩
       rcases y with y | y | y
       · exact .inl (.inl (.inl y))
       · exact .inl (.inl (.inr (.inl y)))
       · exact (List.mem_append.mp y).elim (λy=>.inl (.inl (.inr (.inr y)))) .inr
     have sm2:ah (hd H' λb=>own A B b\/b=D\/b ∈ rs) (hd (upd H5 D (.lst (vs++[v]))) λb=>own A B b\/b=D\/b ∈ rs++bs):=λb o z=>by
       obtain ⟨z1,z2⟩:=ao.mp z
       refine ao.mpr ⟨λy=>?_,by rw [au (λy:b=D=>z1 (.inr (.inl y)))]; exact e6 _ _ z2⟩
       rcases y with y | y | y
       · exact z1 (.inl y)
       · exact z1 (.inr (.inl y))
       · rcases List.mem_append.mp y with y | y
         · exact z1 (.inr (.inr y))
         · have:=(hf5 b y).1; rw [e3 _ _ z2] at this; cases this
     refine aK.snoc (nv.frame sm1 λb hb=>au (bsD b hb)) (hv3.frame sm2 λb hb=>?_)
     obtain ⟨o,q⟩:=rsd b hb
     rw [au (λz:b=D=>(List.nodup_cons.mp hnd).1 (by rw [<- z]; exact hb)),e6 _ _ q,q]
   · obtain ⟨n1,n2⟩:=List.nodup_cons.mp hnd
     refine List.nodup_cons.mpr ⟨λz=>?_,List.nodup_append.mpr ⟨n2,ndv,λx hx y hy z=>bsR y hy (z ▸ hx)⟩⟩
     exact (List.mem_append.mp z).elim n1 λz=>bsD D z rfl
   · intro b hb
     rcases List.mem_append.mp hb with z | z
     · exact hfr b z
     · exact (e2.trans e3).free (hf5 b z).1
   · rcases flat l s h with rfl | ⟨x,rfl⟩
     · rfl
     · obtain ⟨_,u,eu,d⟩:=S3.sl l _ ((hT i).2 l x h)
       refine ⟨rfl,u,eu,d.mono λb o z=>?_⟩
       obtain ⟨z1,z2⟩:=ao.mp z
       refine ao.mpr ⟨λy=>?_,by rw [au (λy:b=D=>z1 (.inl (.inr (.inl y))))]; exact e5 _ _ z2⟩
       rcases y with y | y | y
       · exact z1 (.inl (.inl y))
       · exact z1 (.inl (.inr (.inl y)))
       · rcases List.mem_append.mp y with y | y
         · exact z1 (.inl (.inr (.inr y)))
         · rw [(hf5 b y).1] at z2; cases z2
 · have e:i=xs.length:=by omega
   subst e
   refine .inl ⟨y1 _ (Nat.le_refl _),kk _ _ (D :: rs) (e1.trans e2) (λb hb=>?_) ⟨hnd,_,rfl,.l hv1 (hv3.frame (ay (ah.refl _) λb z=>?_) λ_ _=>rfl)⟩⟩
   · rcases List.mem_cons.mp hb with rfl | z
     · exact ⟨e1.free hD,_,hv1⟩
     · exact ⟨e1.free (hfr b z),rsd b z⟩
   · rcases z with z | z
     · exact .inl (ic z)
     · exact .inr ((List.mem_cons.mp z).elim .inl .inr)
theorem zZ (j:Nat) {n:Str} {g:Nat->D} {f:Nat->Nd} {S':Nat->Sl} (B:Bk X k) (hi:PI X (.Name n p) it (dI X.K τ xs)) (hx:∀ i (h:i < xs.length),xs[i]=g i) (hl:xs.length < 1000000)
   (he:∀ i,i < xs.length->∀ s H fp,PE (cpX X s H scope fp) elt (dE X.K true ((bA τ (bCp X.N scope)++[Sl.un]).set j (.d (g i))) (S' i))) (hn:∀ i,i < xs.length->mw (S' i)=some (f i))
   (hc:bOk X.env.scope scope=true:=by kernel_rfl) (hu:(bA τ (bCp X.N scope)++[Sl.un])[j]?=some .un:=by rfl) (hN:(bNm scope++[("#" : Str)])[j]?=some n:=by rfl) (hv:∀ s H fp,Loc (cpX X s H scope fp).env.scope n:=by intro _ _ _; first | exact .inl rfl | exact .inr rfl)
   (hf:∀ s H fp,(cpX X s H scope fp).fn n=true\/(cpX X s H scope fp).env.scope.names.lookup n=some .local:=by intro _ _ _; first | exact .inr rfl | exact .inl rfl) (hs:∀ x,foldedSetIterable it X.env x=pure x:=by intro _; rfl) :
   sU X elt (.Name n p) it [] scope τ ((List.range xs.length).map f):=by
 refine vy (T:=λi=>(bA τ (bCp X.N scope)++[Sl.un]).set j (.d (g i))) B hc hi (λi=>⟨List.length_set,λl x h=>?_⟩) (λi h s H fp=>?_) he hn hl hs
 · rw [List.getElem?_set_ne (λz=>by rw [<- z,hu] at h; cases h)]
   exact h
 · rw [hx i h]
   exact zg j (gM hc).2 hN (hv s H fp) (hf s H fp)
end
section
variable {X:Cx} {C:Bool} {τ τ':List Sl} {x y z:D} {a b e c tg it elt o ix:Expr} {es ifs:List Expr} {pos p q:Pos} {k:Nat} {s:Sl} {N:Po} {rest body:List Stmt} {ds xs ys:List D} {i:Nat} {scope:Scope}
theorem zQ (j l:Nat) {n m:Str} {p2 pt:Pos} {md:Nat} {g g' f:Nat->D} (B:Bk X k) (hi:PI X (.Tuple [.Name n p,.Name m p2] md pt) it (dI X.K τ xs)) (hx:∀ i (h:i < xs.length),xs[i]=.tup [g i,g' i]) (hl:xs.length < 1000000)
   (he:∀ i,i < xs.length->∀ s H fp,PE (cpX X s H scope fp) elt (dE X.K true (((bA τ (bCp X.N scope)++[Sl.un]).set j (.d (g i))).set l (.d (g' i))) (.d (f i))))
   (hc:bOk X.env.scope scope=true:=by kernel_rfl) (hu:(bA τ (bCp X.N scope)++[Sl.un])[j]?=some .un:=by rfl) (hu':(bA τ (bCp X.N scope)++[Sl.un])[l]?=some .un:=by rfl) (hN:(bNm scope++[("#" : Str)])[j]?=some n:=by rfl) (hN':(bNm scope++[("#" : Str)])[l]?=some m:=by rfl) (hv:∀ s H fp,Loc (cpX X s H scope fp).env.scope n:=by intro _ _ _; first | exact .inl rfl | exact .inr rfl) (hv':∀ s H fp,Loc (cpX X s H scope fp).env.scope m:=by intro _ _ _; first | exact .inl rfl | exact .inr rfl)
   (hf:∀ s H fp,(cpX X s H scope fp).fn n=true\/(cpX X s H scope fp).env.scope.names.lookup n=some .local:=by intro _ _ _; first | exact .inr rfl | exact .inl rfl) (hf':∀ s H fp,(cpX X s H scope fp).fn m=true\/(cpX X s H scope fp).env.scope.names.lookup m=some .local:=by intro _ _ _; first | exact .inr rfl | exact .inl rfl) (hs:∀ x,foldedSetIterable it X.env x=pure x:=by intro _; rfl) :
   Cmp X elt (.Tuple [.Name n p,.Name m p2] md pt) it [] scope τ ((List.range xs.length).map f):=
 BG (λi=>((bA τ (bCp X.N scope)++[Sl.un]).set j (.d (g i))).set l (.d (g' i))) B hi hl (λi=>⟨by rw [List.length_set,List.length_set],λr x h=>by
     rw [List.getElem?_set_ne (λz=>by rw [<- z,hu'] at h; cases h),List.getElem?_set_ne (λz=>by rw [<- z,hu] at h; cases h)]
     exact h⟩)
   (λi h s H fp=>by rw [hx i h]; exact xx j l (B.comp s H scope fp).calm (gM hc).2 hN hN' (hv s H fp) (hv' s H fp) (hf s H fp) (hf' s H fp)) he hc hs
end
end Hy
namespace Hy
open PySem PySem.Spec PyProof.Rows L2
open Ev (D Den av aj aX aN)
section
variable {X:Cx} {C:Bool} {τ:List Sl} {x y z:D} {a b e o ix:Expr} {es:List Expr} {pos p q:Pos} {k:Nat} {s:Sl} {N:Po} {rest:List Stmt} {i j:Nat} {t c:Nd} {pt:List Nat} {xs:List Nd} {m:Nat}
end
end Hy
namespace Hy
open PySem PySem.Spec PyProof.Rows L2
open Ev (D Den av)
theorem _root_.L2.Fun.yO {K:PySem.W.Frag} {x qual:Str} {st:Stmt} {f T:Addr} {fd:FuncData} {ps:List Str} {c:Value} {d:Option Addr} {items:Array Value} {n:Nat} {sl:Array (Option Value)} (_:L2.Fun K x qual st f fd) (hd:fd.defaults=.ref T) (lT:K.lookup T=some ⟨c,d,.seq items n,sl⟩)
   (h:∀ us:List Value,us.length=ps.length->∃ k,bindArgs fd ⟨us,[]⟩=seqItems? fd.defaults >>= k/\k (some items)=pure (ps.zip us)):L2.Binds K fd ps []:=λs us X hl=>by
 rw [List.append_nil] at hl ⊢
 obtain ⟨k,h1,h2⟩:=h us hl
 exact .of_defaults hd (X _ _ lT) rfl h1 h2
noncomputable def uR (K:PySem.W.Frag) (x:Str) (st:Stmt) (f:Addr) (i:Int):Prop:=PySem.W.nsIn K mainGlobals x=some (some (.ref f))/\(∃ oc od kV dc pm an cd ct sl T td tl tc tt tn,K.lookup f=some ⟨oc,od,.func (PySem.W.fnOf x x (cc st) (bL st) (ag st) (.ref T) kV dc pm an cd ct),sl⟩/\PySem.W.codeIn K cd x=true/\K.lookup T=some ⟨tc,td,.seq #[.int i tt] tn,tl⟩)/\PySem.W.keepIn K (.ref f)=true
section
variable {P:Program} {w:World} {K:PySem.W.Frag} {h:Heap} {mg:Str->Option Value} {base:Heap} {x:Str} {st:Stmt} {f:Addr} {ps:List Str} {k:Nat} {Φ:List D->Sl->Prop} {i:Int}
theorem uR.of {oc tc:Value} {od an td:Option Addr} {kV dc pm cd ct:Value} {sl tl:Array (Option Value)} {T:Addr} {tt:Tok} {tn:Nat} (a:PySem.W.nsIn K mainGlobals x=some (some (.ref f))) (l:K.lookup f=some ⟨oc,od,.func (PySem.W.fnOf x x (cc st) (bL st) (ag st) (.ref T) kV dc pm an cd ct),sl⟩) (c:PySem.W.codeIn K cd x=true) (d:K.lookup T=some ⟨tc,td,.seq #[.int i tt] tn,tl⟩) (k:PySem.W.keepIn K (.ref f)=true):uR K x st f i:=⟨a,⟨_,_,_,_,_,_,_,_,_,_,_,_,_,_,_,l,c,d⟩,k⟩
theorem uR.cal (d:uR K x st f i) (X:K.In h) (G:h.Ns mainGlobals mg) (b:∀ (T:Addr) (tt:Tok) (kV dc pm:Value) (an:Option Addr) (cd ct:Value) (us:List Value),us.length=ps.length->∃ k,bindArgs (PySem.W.fnOf x x (cc st) (bL st) (ag st) (.ref T) kV dc pm an cd ct) ⟨us,[]⟩=seqItems? (.ref T) >>= k/\k (some #[.int i tt])=pure (ps.zip us))
   (o:∀ fd,Fun K x x st f fd->aR P w K mg base CX0 k f fd ps (spD K Φ)):Cal P w K mg base k x Φ:=by
 obtain ⟨a,⟨oc,od,kV,dc,pm,an,cd,ct,sl,T,td,tl,tc,tt,tn,l,c',dt⟩,q⟩:=d
 have F:=pw l c' q
 exact ⟨f,_,ps,o _ F,PySem.W.mg_of X G a,q,F.yO rfl dt (b T tt kV dc pm an cd ct)⟩
end
mutual
noncomputable def mx:Nd->Bool
 | .d x=>flat x
 | .l xs=>k6 xs
 | .t xs=>k6 xs
noncomputable def k6:List Nd->Bool
 | []=>true
 | x :: xs=>mx x && k6 xs
end
noncomputable def wg:Sl->Bool
 | .un=>true
 | .d x=>flat x
 | .o xs=>xs.all flat
 | .n t=>mx t
 | .x _=>false
section
variable {K:PySem.W.Frag} {G G' H:Hp}
mutual
theorem bB.fl:∀ {u:V} {bs:List Addr} {t:Nd},bB K G H u bs t->mx t=true->bB K G' H u bs t
 | _,_,_,.d h,f=>.d (jx h (by rw [mx] at f; exact f))
 | _,_,_,.l h r,f=>.l h (aK.fl r (by rw [mx] at f; exact f))
 | _,_,_,.t h r,f=>.t h (aK.fl r (by rw [mx] at f; exact f))
theorem aK.fl:∀ {vs:List V} {bs:List Addr} {ts:List Nd},aK K G H vs bs ts->k6 ts=true->aK K G' H vs bs ts
 | _,_,_,.nil,_=>.nil
 | _,_,_,.cons h r,f=>by
   rw [k6,Bool.and_eq_true] at f
   exact .cons (bB.fl h f.1) (aK.fl r f.2)
end
theorem pM:∀ {vs:List V} {xs:List D},av K G vs xs->xs.all flat=true->av K G' vs xs
 | _,_,.nil,_=>.nil
 | _,_,.cons h r,f=>by
   rw [List.all_cons,Bool.and_eq_true] at f
   exact .cons (jx h f.1) (pM r f.2)
theorem bU.fl {v:Option V} {bs:List Addr}:∀ {s:Sl},bU K G H v bs s->wg s=true->bU K G' H v bs s
 | .un,h,_=>h
 | .d _,⟨h,u,e1,h2⟩,f=>⟨h,u,e1,jx h2 f⟩
 | .o _,⟨a,vs,h1,h2,h3,h4⟩,f=>⟨a,vs,h1,h2,h3,pM h4 f⟩
 | .n _,⟨h0,u,h1,h2⟩,f=>⟨h0,u,h1,h2.fl f⟩
end
theorem u3 {X:Cx} {C C':Bool} {τ:List Sl} {e:Expr} {s s0:Sl} {x:D} (i:Nat) (h:PE X e (dE X.K C' (τ.set i (.d x)) s)) (f:wg s=true) (hi:τ[i]?=some s0:=by rfl) (hx:fzD s0=some x:=by rfl):PE X e (dE X.K C τ s):=
 peW h λσ H Q ⟨A,H₀,B,S,k⟩=>⟨A,H₀,_,S.fz hi hx,λv H' bs e fr q=>k v H' bs e fr (q.fl f)⟩
theorem Be {X:Cx} {τ:List Sl} {elt tg it:Expr} {ifs:List Expr} {pos p spos:Pos} {scope:Scope} {rest:List Stmt} {N:Po} {ns:List Nd} {s0:Sl} {x:D} (i j:Nat) {n:Str} (hN:X.N.Nodup) (h:sU X elt tg it ifs scope (τ.set j (.d x)) ns) (f:k6 ns=true) (hr:PSs X rest (dS X.K (τ.set i (.n (.l ns))) N))
   (hj:τ[j]?=some s0:=by rfl) (hx:fzD s0=some x:=by rfl) (hi:X.N[i]?=some n:=by rfl) (hl:Loc X.env.scope n:=by first | exact .inl rfl | exact .inr rfl)
   (hsw:swapsWith (.ListComp elt [⟨tg,it,ifs,0⟩] scope pos) (some (.Name n p)) spos.line X.env=pure true:=by rfl) (hf:X.fn n=true\/X.env.scope.names.lookup n=some .local:=by first | exact .inl rfl | exact .inr rfl | assumption) :
   PSs X (.Assign [.Name n p] (.ListComp elt [⟨tg,it,ifs,0⟩] scope pos) spos :: rest) (dS X.K τ N):=by
 obtain ⟨In,caps,N',wi,h1,h2,h3,h4⟩:=h.ex
 exact a4 (M:=(·=τ.set i (.n (.l ns)))) (psW (Ev.gQ (ee (i:=i) hN hi hl hf) h1 h2 h.hs h3 hsw) λD σ H ⟨A,H₀,B,S,Me⟩=>h4 true _ _ _ ⟨A,H₀,_,S.fz hj hx,λv H' bs e hf h=>Me.nx _ _ _ _ rfl (S.set e hf (h.fl (show mx (.l ns)=true by rw [mx]; exact f)))⟩) λ_ e=>e ▸ hr
theorem wo {X:Cx} {τ:List Sl} {elt tg it:Expr} {ifs:List Expr} {pos p spos:Pos} {scope:Scope} {rest:List Stmt} {N:Po} {ns:List Nd} (i:Nat) {n:Str} (hN:X.N.Nodup) (h:sU X elt tg it ifs scope τ ns) (hr:PSs X rest (dS X.K (τ.set i (.n (.l ns))) N))
   (hi:X.N[i]?=some n:=by rfl) (hl:Loc X.env.scope n:=by first | exact .inl rfl | exact .inr rfl)
   (hsw:swapsWith (.ListComp elt [⟨tg,it,ifs,0⟩] scope pos) (some (.Name n p)) spos.line X.env=pure true:=by rfl) (hf:X.fn n=true\/X.env.scope.names.lookup n=some .local:=by first | exact .inl rfl | exact .inr rfl | assumption) :
   PSs X (.Assign [.Name n p] (.ListComp elt [⟨tg,it,ifs,0⟩] scope pos) spos :: rest) (dS X.K τ N):=by
 obtain ⟨In,caps,N',wi,h1,h2,h3,h4⟩:=h.ex
 exact a4 (M:=(·=τ.set i (.n (.l ns)))) (psW (Ev.gQ (ee (i:=i) hN hi hl hf) h1 h2 h.hs h3 hsw) λD σ H ⟨A,H₀,B,S,Me⟩=>h4 true _ _ _ ⟨A,H₀,B,S,λv H' bs e hf h=>Me.nx _ _ _ _ rfl (S.set e hf h)⟩) λ_ e=>e ▸ hr
end Hy
namespace Lc
open PySem PySem.Spec PyProof.Rows L2
open PySem.AutoSeq1 (wpAny_loadPart')
open PySem.MeetsSeq PySem.MeetsSeq2 PySem.MeetsSeq3 PySem.SeqRoads2 PySem.SeqAt
open Ev (D Den av eqD fL toP)
section
variable {X:Cx} {pins:List (Addr × Obj)} {σ:L2.St} {H G:Hp} {s:Shared}
open Ev (cln fO dep gA cO gx lE lN)
end
end Lc
namespace Hy
open PySem PySem.Spec PyProof.Rows L2
open Ev (D Den av fL)
end Hy
namespace Hy
open PySem PySem.Spec PyProof.Rows L2
open Ev (D Den av)
section
variable {K:PySem.W.Frag} {A:Addr->Prop} {H₀ H H':Hp} {τ:List Sl} {B:Nat->List Addr} {σ:L2.St}
end
section
variable {X:Cx} {τ:List Sl} {x y z:D} {a b e c:Expr} {es:List Expr} {pos p q:Pos} {k:Nat} {s:Sl} {ds:List D} {N:Po} {rest body:List Stmt}
end
section
variable {P:Program} {w:World} {K:PySem.W.Frag} {mg:Str->Option Value} {base:Heap}
end
section
variable {X:Cx} {τ:List Sl} {es:List Expr} {pos p q pr:Pos} {k:Nat} {s:Sl} {ds:List D} {N:Po} {rest:List Stmt}
end
end Hy
namespace Hy
open PySem PySem.Spec PyProof.Rows L2
open Ev (D Den av aB aE aj aX aN)
section
variable {X:Cx} {i:Int}
end
end Hy
namespace Su
open PySem PyProof.Rows HT
open PySem.SeqAt
open PySem.AutoSeq1 (wpAny_loadPart')
open PySem.MeetsSeq PySem.MeetsSeq2 PySem.MeetsSeq3
section
variable {prog:Program} {w:World} {A:Around} {E:Value->Shared->Prop} {s:Shared}
end
end Su
namespace Hy
open PySem PySem.Spec PyProof.Rows L2
open Ev (D Den av aB aE aj aX aN)
section
variable {X:Cx} {C:Bool} {τ:List Sl} {x y z:D} {a b e:Expr} {es:List Expr} {pos p:Pos} {k:Nat} {s:Sl} {ds xs ys:List D} {i j:Int} {N:Po} {rest:List Stmt}
theorem wQ:OpR X (binaryOp .Add) (λx y H Q=>∃ a b ys,x=.ref a/\y=.ref b/\SqT X.K H a []/\SqT X.K H b ys/\Q (.ref b) H):=by
 intro pins s σ H x y v u Q I rx ry h
 obtain ⟨a,b,ys,rfl,rfl,ha,hb,q⟩:=h
 cases rx
 cases ry
 obtain ⟨its,r1,p1,_⟩:=I.tuple ha
 obtain ⟨its2,r2,p2,_⟩:=I.tuple hb
 cases r1
 obtain ⟨⟨cls,dd,data,sl⟩,ho,hc,n,hd⟩:=id p1
 obtain ⟨⟨cls2,dd2,data2,sl2⟩,ho2,hc2,n2,hd2⟩:=id p2
 simp only at hc hd hc2 hd2
 subst hc hd hc2 hd2
 exact concat_meets ⟨_,ho,rfl⟩ ⟨_,ho2,rfl⟩ noFill_tuple_add seq_tuple_add PySem.F.slot_tuple_add PySem.F.entry_tuple_add (PySem.F.args_tuple_add_2 _ _) (tuple_addW0 a b _ _ n n2 dd dd2 sl sl2 (by simp)) ⟨ho,ho2,⟨.ref b,H,I,rfl,q⟩⟩
theorem ou (hl:xs.length + ys.length < 1000000):ck X (binaryOp .Add) (.tup xs) (.tup ys) (.tup (xs++ys)):=by
 have lim:1000000<=sizeLine:=by decide
 cases xs with
 | nil=>exact ⟨_,wQ,λM v w H Q _ d1 d2 k=>by
     cases d1 with
     | tup h1 r1=>
       cases r1
       cases d2 with
       | tup h2 r2=>exact ⟨_,_,_,rfl,rfl,aX aG h1,aX aG h2,k _ H (ah.refl _) (.tup h2 r2)⟩⟩
 | cons x0 xs=>exact ⟨_,vn,λM v w H Q hM d1 d2 k=>by
     cases d1 with
     | @tup a1 vs _ h1 r1=>
     cases d2 with
     | @tup a2 ws _ h2 r2=>
     have l1:=r1.length
     have l2:=r2.length
     refine ⟨_,_,_,_,rfl,rfl,aX aG h1,aX aG h2,λz=>by subst z; simp at l1,by omega,λz=>?_,λ_ p hp=>?_⟩
     · subst z
       cases r2
       rw [List.append_nil] at k
       exact k _ H (ah.refl _) (.tup h1 r1)
     · have e:=aj hp (.tup (vs++ws))
       exact k _ _ e (.tup (SqT.of (jM hM hp)) ((r1.append r2).mono (ay e λ_ z=>z)))⟩
end
section
variable {X:Cx} {C:Bool} {τ:List Sl} {x y z:D} {a b e:Expr} {es:List Expr} {pos p:Pos} {k:Nat} {s:Sl} {ds xs ys:List D} {N:Po} {rest:List Stmt}
theorem AL (i:Nat) {n:Str} {ap cp:Pos} (he:PE X e (dE X.K true τ (.o ys))) (hl:xs.length + ys.length < 1000000) (hr:PSs X rest (dS X.K (τ.set i (.o (xs++ys))) N)) (hi:τ[i]?=some (.o xs):=by rfl) (hN:X.N[i]?=some n:=by rfl)
   (hv:Vis X.env.scope n:=by first | exact Or.inl rfl | exact Or.inr (Or.inl rfl) | exact Or.inr (Or.inr rfl)) (hd:(n == ("__debug__" : Str))=false:=by decide) (hcd:(n == ("__classdict__" : Str))=false:=by decide)
   (hfew:((backTo cp (starEach [e] X.env)).all (λx=>!x.1) && (backToKw cp (keywordEach [] X.env)).all (λx=>x.1.isSome) && decide (([e]:List Expr).length + ([]:List Keyword).length + (if ([]:List Keyword).isEmpty then 0 else 1) < 30))=true:=by rfl)
   (hline:(ap.endLine == cp.line)=true:=by rfl) (hst:starEach [e] X.env=(false,eval e X.env) :: starEach [] X.env:=by rfl) (hpl:(backTo cp (starEach [] X.env)).any (·.1)=false:=by rfl)
   (hs:swapsWith (.Call (.Attribute (.Name n p) "extend" ap) [e] [] cp) none pos.line X.env=pure false:=by rfl) (hbase:attributeBase (.Name n p) "extend" X.env (eval (.Name n p) X.env)=eval (.Name n p) X.env:=by rfl) :
   PSs X (.Expr (.Call (.Attribute (.Name n p) "extend" ap) [e] [] cp) pos :: rest) (dS X.K τ N):=
 a4 (M:=(·=τ.set i (.o (xs++ys)))) (psW (fF (kG PySem.F.plainAttrs_list PySem.F.slot_list_extend PySem.F.type_list_extend rK (bG hN hv hd hcd) (bI he dh hst) hbase hfew hline hst hpl) hs) λD σ H ⟨A,H₀,B,S,Me⟩=>by
   obtain ⟨l,vs,hb,e1,e2,d⟩:=S.sl i _ hi
   refine ⟨_,slot_of e1,.inl ⟨rfl,_,SqL.of e2⟩,A,H₀,B,S,λv H1 bs e3 fr ⟨l2,ws,eb,ev,h2,d2⟩=>?_⟩
   cases ev
   have lim:1000000<=sizeLine:=by decide
   refine ⟨l,l2,vs,ws,rfl,rfl,e3 _ _ e2,h2,by rw [d.length,d2.length]; omega,?_⟩
   exact Me.nx _ _ _ _ rfl ((S.mono e3).put hi hb ((d.mono (ay e3 λ_ z=>z)).append (d2.mono (ay (ah.refl _) λ_ z=>.inl z))))) λ_ e=>e ▸ hr
end
end Hy
namespace Hy
open PySem PySem.Spec PyProof.Rows L2
open Ev (D Den av aj aX aN)
section
variable {X:Cx}
theorem sG {α:Type}:∀ (its:List α) (k:Nat) (y:α),k<=its.length->its.insertIdx k y=its.take k++[y]++its.drop k
 | _,0,_,_=>rfl
 | a :: r,k + 1,y,h=>by
   rw [List.insertIdx_succ_cons,sG r k y (by simpa using h)]
   rfl
theorem y4 {its:List Value} {k:Nat} {y:Value} (h:k<=its.length):(its.toArray.extract 0 k).push y++its.toArray.extract k=(its.insertIdx k y).toArray:=by
 apply Array.toList_inj.mp
 simp only [Array.toList_append,Array.toList_push,Array.toList_extract,List.extract_eq_drop_take,List.drop_zero,Nat.sub_zero,List.size_toArray]
 rw [sG its k y h]
 congr 1
 exact List.take_of_length_le (by rw [List.length_drop]; exact Nat.le_refl _)
noncomputable def w6:V->List V->Hp->VK->Prop:=λx vs H Q=>∃ l xs,∃ i:Int,∃ y,x=.ref l/\vs=[.int i,y]/\H l=some (.lst xs)/\0<=i/\i.toNat<=xs.length/\xs.length < sizeLine/\Q .non (upd H l (.lst (xs.insertIdx i.toNat y)))
theorem rZ:MtM X "list.insert" w6:=by
 intro pins s σ H x vs v us Q I rx rv h
 obtain ⟨l,xs,i,y,rfl,rfl,hH,h0,h1,h2,q⟩:=h
 cases rx
 obtain ⟨u,w,rfl,ru,rw'⟩:=rv.two
 obtain ⟨t,rfl⟩:=ru
 obtain ⟨z,its,n,r,hl,e⟩:=I.tF hH
 have hi:i < 2 ^ 63:=by have:=Int.toNat_of_nonneg h0; have:sizeLine < 2 ^ 62:=(by decide); omega
 have hf:Builtin.List.listFitsIndex i=true:=by
   unfold Builtin.List.listFitsIndex
   rw [Bool.and_eq_true]
   exact ⟨decide_eq_true (by omega),decide_eq_true hi⟩
 refine call_meets PySem.F.slot_list_insert ⟨_,e,rfl⟩ PySem.F.entry_list_insert (PySem.F.args_list_insert_3 _ _ _) (PySem.AutoSeq1.list_insert_list_int_val_1 l its.toArray n i t w (by simp [hf]) (by rw [List.size_toArray]; omega)) ⟨e,?_⟩
 have vi:∀ {xs:List V} {us:List Value} (k:Nat) {a:V} {b:Value},Vals xs us->RelV a b->Vals (xs.insertIdx k a) (us.insertIdx k b):=λ{xs us} k {a b} r ra=>by
   induction k generalizing xs us with
   | zero=>exact .cons ra r
   | succ k ih=>cases r with
     | nil=>exact .nil
     | cons r1 r2=>exact .cons r1 (ih r2)
 refine ⟨.non,_,I.w4 (its':=its.insertIdx i.toNat w) hH e ?_ (vi _ r rw') ?_,rfl,q⟩
 · show (its.toArray.extract 0 (if i < 0 then (i + (its.toArray.size:Int)).toNat else min i.toNat its.toArray.size)).push w++its.toArray.extract (if i < 0 then (i + (its.toArray.size:Int)).toNat else min i.toNat its.toArray.size)=_
   rw [if_neg (by omega),List.size_toArray,Nat.min_eq_left (by omega)]
   exact y4 (by omega)
 · rw [List.length_insertIdx_of_le_length h1]; omega
end
section
variable {X:Cx} {C:Bool} {τ:List Sl} {x y z:D} {a b e f o ix:Expr} {es:List Expr} {pos p q:Pos} {k:Nat} {s:Sl} {N:Po} {rest:List Stmt} {i:Nat} {t c:Nd} {pt:List Nat} {xs:List Nd} {j:Int} {m:Nat}
end
noncomputable def Pj (σ:L2.St) (H:Hp) (i j k:Nat):Prop:=∃ a vs v,(σ[i]?).join=some (.ref a)/\H a=some (.lst vs)/\vs[k]?=some v/\σ[j]?=some (some v)
noncomputable def dEJ (K:PySem.W.Frag) (τ:List Sl) (i j k:Nat) (x:D):TE:=λσ H Q=>∃ A H₀ B,Sta K A H₀ τ B σ H/\Pj σ H i j k/\∀ v H',ah H H'->Den K (hd H' A) v x->Q v H'
section
variable {X:Cx} {τ τ1 τ2:List Sl} {x y z:D} {a b e o ix:Expr} {es:List Expr} {pos p q:Pos} {l:Nat} {s:Sl} {N:Po} {st:Stmt} {body rest:List Stmt} {i j k:Nat} {t c:Nd} {pt:List Nat} {xs:List Nd} {m:Nat} {ds:List D}
end
end Hy
namespace Hy
open PySem PySem.Spec PyProof.Rows L2
open Ev (D Den av aj)
section
variable {X:Cx} {C:Bool} {τ:List Sl} {x y z:D} {a b e:Expr} {es:List Expr} {pos p np cpos:Pos} {k c:Nat} {s:Sl} {ds:List D} {N:Po} {rest body:List Stmt} {cl:Nat->Addr} {Ex:Nat->Hp->Prop} {Et:Hp->Prop}
end
section
variable {P:Program} {w:World} {K:PySem.W.Frag} {mg:Str->Option Value} {base:Heap} {cl:Nat->Addr}
end
section
variable {X:Cx} {C:Bool} {τ:List Sl} {e:Expr} {k c i:Nat} {N:Po} {rest body:List Stmt} {cl:Nat->Addr} {n:Str} {fw S:Addr} {p p' q psm pr ph pos:Pos}
end
section
variable {X:Cx} {C:Bool} {τ:List Sl} {x y z:D} {a b e c0 tg it elt:Expr} {es ifs:List Expr} {pos p q q':Pos} {k c:Nat} {cl:Nat->Addr} {xs:List D} {scope:Scope}
end
section
variable {P:Program} {w:World} {K:PySem.W.Frag} {mg:Str->Option Value} {base:Heap} {cl:Nat->Addr}
end
end Hy
namespace Hy
open PySem PySem.Spec PyProof.Rows L2
open Ev (D Den av cE eU)
section
variable {X:Cx} {C:Bool} {τ:List Sl} {a e tg it elt:Expr} {es ifs:List Expr} {pos p:Pos} {Et:Hp->Prop} {scope:Scope}
end
end Hy
namespace Hy
open PySem PySem.Spec PyProof.Rows L2
open Ev (D Den av)
section
variable {P:Program} {w:World} {K:PySem.W.Frag} {h:Heap} {mg:Str->Option Value} {base:Heap} {x:Str} {st:Stmt} {f:Addr} {ps:List Str} {k:Nat} {Φ:List D->Nat->Prop} {cl:Nat->Addr}
end
end Hy
namespace L2
open PySem PySem.Spec PyProof.Rows
section
variable {κ:Type} [DecidableEq κ]
noncomputable def d8 (kvs:List (κ × V)) (k:κ):Option V:=(kvs.find? λkv=>decide (kv.1=k)).map (·.2)
noncomputable def putK (kvs:List (κ × V)) (k:κ) (v:V):List (κ × V):=
 if (kvs.any λkv=>decide (kv.1=k))=true then kvs.map (λkv=>if kv.1=k then (kv.1,v) else kv) else kvs++[(k,v)]
theorem bD {p:κ × V} {r:List (κ × V)} {k:κ} (e:p.1=k):d8 (p :: r) k=some p.2:=by simp [d8,List.find?_cons,e]
theorem bC {p:κ × V} {r:List (κ × V)} {k:κ} (e:¬ p.1=k):d8 (p :: r) k=d8 r k:=by simp [d8,List.find?_cons,e]
theorem jB (k:κ):∀ kvs:List (κ × V),(kvs.any λkv=>decide (kv.1=k))=(d8 kvs k).isSome
 | []=>rfl
 | p :: r=>by
   rw [List.any_cons]
   by_cases e:p.1=k
   · simp only [bD e,decide_eq_true e,Bool.true_or,Option.isSome_some]
   · rw [bC e,decide_eq_false e,Bool.false_or]; exact jB k r
theorem nH (k j:κ) (y:V):∀ kvs:List (κ × V),d8 (kvs.map λkv=>if kv.1=k then (kv.1,y) else kv) j=(d8 kvs j).map λx=>if j=k then y else x
 | []=>rfl
 | p :: r=>by
   have ih:=nH k j y r
   rw [List.map_cons]
   by_cases h:p.1=k
   · rw [if_pos h]
     by_cases e:p.1=j
     · rw [bD (p:=(p.1,y)) e,bD e,Option.map_some,if_pos (e.symm.trans h)]
     · rw [bC (p:=(p.1,y)) e,bC e,ih]
   · rw [if_neg h]
     by_cases e:p.1=j
     · rw [bD (p:=p) e,bD e,Option.map_some,if_neg (λz=>h (e.trans z))]
     · rw [bC (p:=p) e,bC e,ih]
theorem kB (k j:κ) (y:V):∀ kvs:List (κ × V),d8 kvs k=none->d8 (kvs++[(k,y)]) j=if j=k then some y else d8 kvs j
 | [],_=>by
   by_cases e:k=j
   · rw [if_pos e.symm]; exact bD (p:=(k,y)) e
   · rw [if_neg (λz=>e z.symm)]; exact bC (p:=(k,y)) e
 | p :: r,hn=>by
   rw [List.cons_append]
   have hk:¬ p.1=k:=λz=>by rw [bD z] at hn; cases hn
   rw [bC hk] at hn
   have ih:=kB k j y r hn
   by_cases e:p.1=j
   · rw [bD e,bD e,if_neg (λz=>hk (e.trans z))]
   · rw [bC e,bC e,ih]
theorem uh (kvs:List (κ × V)) (k j:κ) (y:V):d8 (putK kvs k y) j=if j=k then some y else d8 kvs j:=by
 unfold putK
 by_cases a:(kvs.any λkv=>decide (kv.1=k))=true
 · rw [if_pos a,nH]
   rw [jB] at a
   by_cases e:j=k
   · obtain ⟨x,hx⟩:=Option.isSome_iff_exists.mp a
     rw [if_pos e,e,hx,Option.map_some,if_pos rfl]
   · rw [if_neg e]
     cases d8 kvs j with
     | none=>rfl
     | some x=>rw [Option.map_some,if_neg e]
 · rw [if_neg a]
   refine kB k j y kvs ?_
   rw [jB] at a
   cases q:d8 kvs k with
   | none=>rfl
   | some x=>rw [q] at a; exact (a rfl).elim
theorem iz (kvs:List (κ × V)) (k:κ) (v:V):(putK kvs k v).length<=kvs.length + 1:=by
 unfold putK
 split
 · rw [List.length_map]; omega
 · rw [List.length_append,List.length_cons,List.length_nil]; omega
theorem nO.getD {o:Option V} {u:Option Value} {d:V} {d':Value} (r:nO o u) (rd:RelV d d'):RelV (o.getD d) (u.getD d'):=by
 cases o with
 | none=>cases u with
   | none=>exact rd
   | some _=>exact (show False from r).elim
 | some _=>cases u with
   | none=>exact (show False from r).elim
   | some _=>exact r
theorem KV.val {kvs:List (κ × V)} {vs:List (κ × Value)} (r:KV kvs vs) (k:κ):nO (d8 kvs k) (valueAt vs k):=by
 unfold KV at r
 induction r with
 | nil=>exact True.intro
 | @cons p q ps qs h t ih=>
   obtain ⟨h1,h2⟩:=h
   by_cases e:p.1=k
   · have e':q.1=k:=h1.symm.trans e
     have b:valueAt (q :: qs) k=some q.2:=by simp [valueAt,List.find?_cons,e']
     rw [bD e,b]; exact h2
   · have e':¬ q.1=k:=λz=>e (h1.trans z)
     have b:valueAt (q :: qs) k=valueAt qs k:=by simp [valueAt,List.find?_cons,e']
     rw [bC e,b]; exact ih
theorem KV.any {kvs:List (κ × V)} {vs:List (κ × Value)} (r:KV kvs vs) (k:κ):(kvs.any λkv=>decide (kv.1=k))=vs.any λkv=>decide (kv.1=k):=by
 unfold KV at r
 induction r with
 | nil=>rfl
 | cons h t ih=>rw [List.any_cons,List.any_cons,ih,h.1]
theorem KV.Bg {kvs:List (κ × V)} {vs:List (κ × Value)} (r:KV kvs vs) (k:κ) {y:V} {u:Value} (ry:RelV y u) :
   KV (kvs.map λkv=>if kv.1=k then (kv.1,y) else kv) (vs.map λkv=>if kv.1=k then (kv.1,u) else kv):=by
 unfold KV at r ⊢
 induction r with
 | nil=>exact .nil
 | @cons p q ps qs h t ih=>
   rw [List.map_cons,List.map_cons]
   refine .cons ?_ ih
   obtain ⟨h1,h2⟩:=h
   by_cases e:p.1=k
   · rw [if_pos e,if_pos (h1.symm.trans e)]; exact ⟨h1,ry⟩
   · rw [if_neg e,if_neg (λz=>e (h1.trans z))]; exact ⟨h1,h2⟩
theorem KV.put {kvs:List (κ × V)} {vs:List (κ × Value)} (r:KV kvs vs) (k:κ) {y:V} {u:Value} (ry:RelV y u):KV (putK kvs k y) (stored vs k u):=by
 unfold putK stored
 rw [r.any k]
 by_cases e:(vs.any λkv=>decide (kv.1=k))=true
 · rw [if_pos e,if_pos e]; exact r.Bg k ry
 · rw [if_neg e,if_neg e]; exact Paired.snoc r ⟨rfl,ry⟩
theorem KV.keys {kvs:List (κ × V)} {vs:List (κ × Value)} (r:KV kvs vs):kvs.map (·.1)=vs.map (·.1):=by
 unfold KV at r
 induction r with
 | nil=>rfl
 | cons h t ih=>rw [List.map_cons,List.map_cons,ih,h.1]
theorem KV.length {kvs:List (κ × V)} {vs:List (κ × Value)} (r:KV kvs vs):kvs.length=vs.length:=Paired.length r
end
theorem qD {P:Program} {w:World} {k:Key} {u:Value} (r:RelV (kV k) u):(a8 P w).is k u=true:=by
 cases k with
 | inl i=>obtain ⟨t,e⟩:=(show ∃ t,u=Value.int i t from r); subst e; exact nJ P w i t
 | inr x=>obtain ⟨t,e⟩:=(show ∃ t,u=Value.str x t from r); subst e; exact m6 P w x t
section
variable {P:Program} {w:World} {H:Hp} {h:Heap} {a:Addr}
theorem AQ {u:HO} (ok:HOk P w H h) (e:Rd H a u):bf P w H h a u:=e.ok ok
theorem mq {kvs:List (Key × V)} (ok:HOk P w H h) (e:Rd H a (.dK kvs)):kvs.length<=sizeLine/\(a == sysModules)=false/\∃ vs,KV kvs vs/\h.DictOf (a8 P w) a vs:=
 show bf P w H h a (.dK kvs) from AQ ok e
theorem qf {kvs:List (Key × V)} (ok:HOk P w H h) (e:H a=some (.dK kvs)):kvs.length<=sizeLine/\(a == sysModules)=false/\∃ vs,KV kvs vs/\h.DictOf (a8 P w) a vs:=mq ok (.inl e)
end
noncomputable def tP (H:Hp) (a:Addr) (y:V) (r:Option V):Prop:=∃ kvs k,Rd H a (.dK kvs)/\y=kV k/\r=d8 kvs k
noncomputable def A7 (H:Hp) (a:Addr) (y v:V) (H':Hp):Prop:=∃ kvs k,H a=some (.dK kvs)/\y=kV k/\kvs.length < sizeLine/\H'=upd H a (.dK (putK kvs k v))
section
variable {X:Cx} {pins:List (Addr × Obj)} {σ:St} {H:Hp} {s:Shared} {a:Addr} {y v:V} {u r:Value} {o:Option V} {A:Around} {E:Value->Shared->Prop}
theorem Inv.big (I:Inv X pins σ H s):sysModules < s.heap.objs.size:=by
 have h:mainGlobals < s.heap.objs.size:=(I.mod.glob.keeps I.bk).lt
 exact Nat.lt_trans (by decide) h
theorem rg {Q:Value->Shared->Prop} (hu:A.units + 1 < cLine) (I:Inv X pins σ H s) (g:tP H a y (some v)) (ry:RelV y u) (h:∀ w' s',Inv X pins σ H s'->RelV v w'->Q w' s') :
   wpAny (model X.prog X.w) A (getItem (.ref a) u) Q E s:=by
 obtain ⟨kvs,k,e,ey,l⟩:=g
 subst ey
 obtain ⟨z,hd,vs,rel,dd⟩:=mq I.hok e
 obtain ⟨w',hw,rw'⟩:=nO.some_of (v:=v) (o:=valueAt vs k) (by rw [l]; exact rel.val k)
 exact wpAny_getItem_of (qD ry) dd.mapOf hw (h w' _ (I.tok _) rw')
theorem eA {h':Heap} {t':Nat} {ob:HO} (I:Inv X pins σ H s) (mu:Mut (H a)) (hs:Heap.SameBut a s.heap h') (he:∃ q,h'.get? a=some q) (new:bf X.prog X.w (upd H a ob) h' a ob) :
   Inv X pins σ (upd H a ob) { s with heap:=h',toks:=t' }:=
 I.write (x:=a) (e:=a) mu (.inl rfl) (λb q hb z=>(hs.2 b hb).trans z) he new
theorem k9 {P:Program} {w:World} {H':Hp} {h':Heap} {kvs:List (Key × V)} {vs:List (Key × Value)} (z:kvs.length<=sizeLine) (hd:(a == sysModules)=false) (rel:KV kvs vs) (dd:h'.DictOf (a8 P w) a vs) :
   bf P w H' h' a (.dK kvs):=⟨z,hd,vs,rel,dd⟩
theorem rJ {H':Hp} {Q:Unit->Shared->Prop} (hu:A.units + 1 < cLine) (I:Inv X pins σ H s) (g:A7 H a y v H') (ry:RelV y u) (rv:RelV v r) (h:∀ s',Inv X pins σ H' s'->Q () s') :
   wpAny (model X.prog X.w) A (setItem (.ref a) u r) Q E s:=by
 obtain ⟨kvs,k,e,ey,l,eH⟩:=g
 subst ey eH
 obtain ⟨z,hd,vs,rel,dd⟩:=qf I.hok e
 have hz:vs.length<=sizeLine:=by rw [<- rel.length]; exact z
 have hl:(putK kvs k v).length<=sizeLine:=by have:=iz kvs k v; omega
 refine wpAny_setItem_pairs (hsz:=hz) (qD ry) dd λh' dd' hs=>h _ ?_
 have he:∃ q,h'.get? a=some q:=let ⟨q,_,_,hq,_⟩:=dd'; ⟨q,hq⟩
 exact eA I (by rw [e]; exact True.intro) hs he (k9 hl hd (rel.put k rv) dd')
end
section
variable {X:Cx} {pins:List (Addr × Obj)} {σ:St} {H:Hp} {s:Shared} {a:Addr} {kvs:List (Key × V)} {k:Key} {u:Value} {A:Around} {E:Value->Shared->Prop}
end
noncomputable def j8 (i:Expr):Prop:=∀ ov iv,subscripted i false ov iv=operate [ov,iv] (getItem ov iv)
theorem k8 {prog:Program} {w:World} {A:Around} {E:Value->Shared->Prop} {s:Shared} {env:Env} {value slice:Expr} {pos:Pos} {T id:String} {Q:Value->Shared->Prop}
   (hl:typeLookup (.type T) "__getitem__" = pure (some (.builtin id))) (hs:j8 slice)
   (h:wpAny (model prog w) A (eval value env) (λo s₁=>wpAny (model prog w) A (eval slice env) (λi s₂=>s₂.TypeIs o T/\wpAny (model prog w) A (getItem o i) Q E s₂) E s₁) E s) :
   wpAny (model prog w) A (eval (.Subscript value slice pos) env) Q E s:=by
 refine Subscript_ (wpAny_mono h (λo s₁ h₁=>wpAny_mono h₁ (λi s₂ h₂=>?_) λ_ _ x=>x) λ_ _ x=>x)
 obtain ⟨hT,h₂⟩:=h₂
 unfold subscriptTail
 refine wpAny_bind ?_
 rw [getitemInPython_of_ne hT.not_modules]
 refine wpAny_bind (wpAny_specialOf hT hl ?_)
 have fin:wpAny (model prog w) A (subscripted slice false o i) (λr s₃=>wpAny (model prog w) A (letTemporaryGo value o r >>= λ_=>pure r) Q E s₃) E s₂:=by
   rw [hs o i]
   exact wpAny_operating (wpAny_mono h₂ (λr s₃ h₃=>wpAny_bind (wpAny_letTemporaryGo (wpAny_pure h₃))) λ_ _ x=>x)
 first
   | exact wpAny_pure (wpAny_bind fin)
   | exact wpAny_bind (wpAny_pure (wpAny_bind fin))
   | exact wpAny_bind fin
theorem mJ {X:Cx} {pins:List (Addr × Obj)} {σ:St} {H:Hp} {s:Shared} {a:Addr} {y:V} {o:Option V} (I:Inv X pins σ H s) (g:tP H a y o):s.TypeIs (.ref a) "dict":=by
 obtain ⟨kvs,k,e,_,_⟩:=g
 obtain ⟨_,_,vs,_,dd⟩:=mq I.hok e
 exact dd.typeIs
noncomputable def A8 (td ty:TE):TE:=λσ H Q=>td σ H λx H1=>ty σ H1 λy H2=>∃ a v,x=.ref a/\tP H2 a y (some v)/\Q v H2
noncomputable def A4 (td ty tv:TE):TS:=λD σ H=>tv σ H λv H1=>td σ H1 λx H2=>ty σ H2 λy H3=>∃ a H4,x=.ref a/\A7 H3 a y v H4/\D.nx σ H4
section
variable {X:Cx} {o i e value:Expr} {pos pos' tpos:Pos} {td ty tv:TE}
theorem wt (hu:X.A.units + 1 < cLine) (ho:PE X o td) (hi:PE X i ty) (hs:j8 i):PE X (.Subscript o i pos) (A8 td ty):=by
 intro pins s σ H Q I h
 refine k8 PySem.F.slot_dict_getitem.lookup hs (thn (ho pins s σ H _ I h) λu s1 ⟨x,H1,I1,rx,q1⟩=>thn (hi pins s1 σ H1 _ I1 q1) λiv s2 ⟨y,H2,I2,ry,a,v,ex,g,q2⟩=>?_)
 subst ex
 obtain rfl:u=Value.ref a:=rx
 exact ⟨mJ I2 g,rg hu I2 g ry λw' s3 I3 rw'=>⟨v,H2,I3,rw',q2⟩⟩
theorem vN (hu:X.A.units + 1 < cLine) (ho:PE X o td) (hi:PE X i ty) (hv:PE X value tv) (hs:swapsWith value (some (.Subscript o i pos')) pos.line X.env=pure false) :
   PS X (.Assign [.Subscript o i pos'] value pos) (A4 td ty tv):=by
 intro pins s σ H D I h
 refine wpAny_Assign_Subscript (thn (hv pins s σ H _ I h) λr s1 ⟨v,H1,I1,rv,q1⟩=>thn (ho pins s1 σ H1 _ I1 q1) λu s2 ⟨x,H2,I2,rx,q2⟩=>thn (hi pins s2 σ H2 _ I2 q2) λiv s3 ⟨y,H3,I3,ry,a,H4,ex,g,q3⟩=>?_) hs
 subst ex
 obtain rfl:u=Value.ref a:=rx
 exact rJ hu I3 g ry rv λs4 I4=>⟨σ,H4,I4,q3⟩
end
theorem nc {P:Program} {w:World} {H:Hp} (h:Heap) (hb:sysModules < h.objs.size):bf P w H (h.push { cls:=.type "dict",data:=.dict #[] }) h.objs.size (.dK []):=
 ⟨Nat.zero_le _,beq_eq_false_iff_ne.mpr (Ne.symm (Nat.ne_of_lt hb)),[],.nil,Heap.DictOf.new h⟩
noncomputable def yT:TE:=λ_ H Q=>∀ p,H p=none->Q (.ref p) (upd H p (.dK []))
section
variable {X:Cx} {pos:Pos}
theorem tZ:PE X (.Dict [] [] pos) yT:=λpins s σ H Q I h=>
 wpAny_Dict_empty ⟨.ref s.heap.objs.size,_,I.laid (a:=s.heap.objs.size) (o:=.dK []) (t':=s.toks) (λ_ _ q=>Heap.get?_push_of_some _ q) (Nat.le_refl _) (nc s.heap I.big),rfl,h _ (I.hok.fresh (Nat.le_refl _))⟩
end
noncomputable def oX:List (TE × TE)->St->Hp->(List (V × V)->Hp->Prop)->Prop
 | [],_,H,Q=>Q [] H
 | (tk,tv) :: r,σ,H,Q=>tk σ H λx H1=>tv σ H1 λy H2=>oX r σ H2 λps H3=>Q ((x,y) :: ps) H3
noncomputable abbrev VV:List (V × V)->List (Value × Value)->Prop:=Paired λp q=>RelV p.1 q.1/\RelV p.2 q.2
noncomputable def PPs (X:Cx) (pos:Pos) (keys:List (Option Expr)) (values:List Expr) (trs:List (TE × TE)):Prop:=
 ∀ (pins:List (Addr × Obj)) (s:Shared) (σ:St) (H:Hp) (Q:List (V × V)->Hp->Prop),Inv X pins σ H s->oX trs σ H Q ->
   wpAny (model X.prog X.w) X.A (evalPairs (pairTrees keys values X.env pos)) (λvs s'=>∃ ps H',Inv X pins σ H' s'/\VV ps vs/\Q ps H') X.xe s
theorem w5 {X:Cx} {pos:Pos}:PPs X pos [] [] []:=λpins s σ H Q I h=>pairTrees_nil_walk ⟨[],H,I,.nil,h⟩
theorem tU {X:Cx} {pos:Pos} {k v:Expr} {ks:List (Option Expr)} {vs:List Expr} {tk tv:TE} {trs:List (TE × TE)} (hk:PE X k tk) (hv:PE X v tv) (hr:PPs X pos ks vs trs) :
   PPs X pos (some k :: ks) (v :: vs) ((tk,tv) :: trs):=λpins s σ H Q I h=>
 pairTrees_cons_walk (thn (hk pins s σ H _ I h) λu s1 ⟨x,H1,I1,rx,q1⟩=>thn (hv pins s1 σ H1 _ I1 q1) λw2 s2 ⟨y,H2,I2,ry,q2⟩=>
   thn (hr pins s2 σ H2 _ I2 q2) λws s3 ⟨ps,H3,I3,rel,q3⟩=>⟨(x,y) :: ps,H3,I3,.cons ⟨rx,ry⟩ rel,q3⟩)
noncomputable def hR (kvs more:List (Key × V)):List (Key × V):=more.foldl (λacc kv=>putK acc kv.1 kv.2) kvs
theorem KV.merge:∀ {more:List (Key × V)} {rs:List (Key × Value)} {kvs:List (Key × V)} {vs:List (Key × Value)},KV more rs->KV kvs vs->KV (hR kvs more) (merged vs rs):=by
 intro more rs kvs vs r
 unfold KV at r
 induction r generalizing kvs vs with
 | nil=>intro q; exact q
 | @cons p q ps qs h t ih=>
   intro r0
   have e:KV (putK kvs p.1 p.2) (stored vs q.1 q.2):=by
     have:=r0.put p.1 h.2
     rw [<- h.1]; exact this
   exact ih e
theorem fP:∀ (more kvs:List (Key × V)),(hR kvs more).length<=kvs.length + more.length
 | [],kvs=>by show kvs.length<=kvs.length + 0; omega
 | p :: r,kvs=>by
   have h1:=fP r (putK kvs p.1 p.2)
   have h2:=iz kvs p.1 p.2
   show (hR (putK kvs p.1 p.2) r).length<=_
   rw [List.length_cons]; omega
theorem jG {P:Program} {w:World}:∀ {kvs:List (Key × V)} {ws:List (Value × Value)},VV (kvs.map λkv=>(kV kv.1,kv.2)) ws->∃ rs,Carries (a8 P w) ws rs/\KV kvs rs
 | [],_,r=>by rw [List.map_nil] at r; cases r; exact ⟨[],True.intro,.nil⟩
 | p :: kvs,_,r=>by
   rw [List.map_cons] at r
   cases r with
   | @cons a b as bs h t=>
     obtain ⟨rs,c,q⟩:=jG (P:=P) (w:=w) t
     obtain ⟨b1,b2⟩:=b
     exact ⟨(p.1,b2) :: rs,⟨qD h.1,rfl,c⟩,.cons ⟨rfl,h.2⟩ q⟩
noncomputable def zW (trs:List (TE × TE)):TE:=λσ H Q=>∀ p,H p=none->oX trs σ (upd H p (.dK [])) λps H2=>H2 p=some (.dK [])/\∃ kvs:List (Key × V),ps=kvs.map (λkv=>(kV kv.1,kv.2))/\kvs.length<=15/\Q (.ref p) (upd H2 p (.dK (hR [] kvs)))
theorem vz {X:Cx} {pos:Pos} {keys:List (Option Expr)} {values:List Expr} {trs:List (TE × TE)} (h:PPs X pos keys values trs) (hall:keys.all (·.isSome)=true) (hl:keys.length=values.length) (h0:keys ≠ [])
   (h15:keys.length<=15):PE X (.Dict keys values pos) (zW trs):=by
 intro pins s σ H Q I q
 have hn:=I.hok.fresh (Nat.le_refl s.heap.objs.size)
 have I1:=I.laid (a:=s.heap.objs.size) (o:=.dK []) (h':=s.heap.push { cls:=.type "dict",data:=.dict #[] }) (t':=s.toks) (λ_ _ q=>Heap.get?_push_of_some _ q) (Nat.le_refl _) (nc s.heap I.big)
 refine wpAny_Dict_walk (knd:=a8 X.prog X.w) hall hl h0 h15 (thn (h pins _ σ _ _ I1 (q _ hn)) λws s2 ⟨ps,H2,I2,rel,e,kvs,ep,lk,q2⟩=>?_)
 subst ep
 obtain ⟨rs,c,rk⟩:=jG (P:=X.prog) (w:=X.w) rel
 obtain ⟨z,hd,vs0,r0,dd⟩:=qf I2.hok e
 cases r0
 refine ⟨rs,c,dd,λh' dd' hs=>⟨.ref s.heap.objs.size,_,?_,rfl,q2⟩⟩
 have hz:(hR [] kvs).length<=sizeLine:=by
   have h1:=fP kvs []
   rw [List.length_nil] at h1
   rw [sizeLine_eq]; omega
 have he:∃ q,h'.get? s.heap.objs.size=some q:=let ⟨q,_,_,hq,_⟩:=dd'; ⟨q,hq⟩
 exact eA I2 (by rw [e]; exact True.intro) hs he (k9 hz hd (rk.merge .nil) dd')
structure M2 (X:Cx) (o:Expr) (m:Str) (apos:Pos) (e f:Expr) (cpos:Pos):Prop where
 base:attributeBase o m X.env (eval o X.env)=eval o X.env
 few:((backTo cpos (starEach [e,f] X.env)).all (λx=>!x.1) && (backToKw cpos (keywordEach [] X.env)).all (λx=>x.1.isSome)
   && decide (([e,f]:List Expr).length + ([]:List Keyword).length + (if ([]:List Keyword).isEmpty then 0 else 1) < 30))=true
 line:(apos.endLine == cpos.line)=true
 trees:backTo cpos (starEach [e,f] X.env)=[(false,eval e X.env),(false,eval f X.env)]
noncomputable def IsD (H:Hp) (a:Addr):Prop:=∃ kvs,Rd H a (.dK kvs)
theorem zq {X:Cx} {pins:List (Addr × Obj)} {σ:St} {H:Hp} {s:Shared} {a:Addr} (I:Inv X pins σ H s) (d:IsD H a) :
   s.TypeIs (.ref a) "dict" /\ (∀ b,Value.ref a=.ref b->∃ ob,s.heap.get? b=some ob/\ob.dict=none)/\(a == sysModules)=false:=by
 obtain ⟨kvs,e⟩:=d
 obtain ⟨_,hd,vs,_,dd⟩:=mq I.hok e
 refine ⟨dd.typeIs,λb q=>?_,hd⟩
 cases q
 obtain ⟨ob,_,_,h1,h2,_⟩:=dd
 exact ⟨ob,h1,h2.2.1⟩
section
variable {X:Cx} {pins:List (Addr × Obj)} {σ:St} {H:Hp} {s:Shared} {a:Addr} {y d:V} {u r:Value} {o:Option V} {A:Around} {E:Value->Shared->Prop}
theorem x8 {Q:Value->Shared->Prop} (hu:A.units + 1 < cLine) (I:Inv X pins σ H s) (g:tP H a y o) (ry:RelV y u) (rd:RelV d r) (h:∀ w' s',Inv X pins σ H s'->RelV (o.getD d) w'->Q w' s') :
   wpAny (model X.prog X.w) A (call (.builtin "dict.get") [.ref a,u,r]) Q E s:=by
 obtain ⟨kvs,k,e,ey,l⟩:=g
 subst ey
 obtain ⟨z,hd,vs,rel,dd⟩:=mq I.hok e
 refine call_meetsIn PySem.F.slot_dict_get dd.typeIs PySem.F.entry_dict_get (PySem.F.args_dict_get_3 _ _ _) (meets_dict_get_default (a8 X.prog X.w) a (qD ry) hd r) ⟨_,dd.mapOf,h _ _ (I.tok _) ?_⟩
 rw [l]
 exact (rel.val k).getD rd
end
noncomputable def zA (td ty tx:TE):TE:=λσ H Q=>td σ H λx H1=>∃ a,x=.ref a/\IsD H1 a/\ty σ H1 λy H2=>tx σ H2 λz H3=>∃ o,tP H3 a y o/\Q (o.getD z) H3
section
variable {X:Cx} {o e f:Expr} {apos cpos:Pos} {td ty tx:TE}
theorem uf (hu:X.A.units + 1 < cLine) (ho:PE X o td) (he:PE X e ty) (hf:PE X f tx) (m:M2 X o "get" apos e f cpos):PE X (.Call (.Attribute o "get" apos) [e,f] [] cpos) (zA td ty tx):=by
 intro pins s σ H Q I h
 refine wpAny_Call_method m.base m.few m.line PySem.F.plainAttrs_dict PySem.F.slot_dict_get PySem.F.type_dict_get (thn (ho pins s σ H _ I h) λu s1 ⟨x,H1,I1,rx,a,ex,d,q1⟩=>?_)
 subst ex
 obtain rfl:u=Value.ref a:=rx
 obtain ⟨t1,t2,_⟩:=zq I1 d
 refine ⟨t1,t2,?_⟩
 rw [m.trees]
 refine Calls.callWith_builtin rfl (Calls.evalArgs_plain (Calls.spliced_cons (thn (he pins s1 σ H1 _ I1 q1) λiv s2 ⟨y,H2,I2,ry,q2⟩=>
   Calls.spliced_cons (thn (hf pins s2 σ H2 _ I2 q2) λfv s3 ⟨z,H3,I3,rz,ov,g,q3⟩=>Calls.spliced_nil ?_))))
 exact x8 hu I3 g ry rz λw' s4 I4 rw'=>⟨_,H3,I4,rw',q3⟩
end
end L2
namespace L2
open PySem PySem.Spec PyProof.Rows PySem.SeqAt
section
variable {P:Program} {w:World} {A:Around} {E:Value->Shared->Prop} {s:Shared}
noncomputable def HK (P:Program) (w:World) (A:Around) (h:Heap) (v:Value) (x:Int) (d:Nat):Prop:=
 ∀ (s:Shared) (E:Value->Shared->Prop) (Q:Int->Shared->Prop),s.heap=h->Q x { s with toks:=s.toks + d }->wpAny (model P w) A (pyHash v) Q E s
theorem rj {a:Addr} {u v:Value} {x y:Int} {m n:Nat} {Q:Int->Shared->Prop} (hu:A.units < cLine) (hk:IsTup s.heap a #[u,v]) (h1:∀ B,B.units<=A.units + 1->HK P w B s.heap u x m) (h2:∀ B,B.units<=A.units + 1->HK P w B s.heap v y n)
   (h:Q (reduceHash (Builtin.Tuple.tupleHashOf [x,y])) { s with toks:=s.toks + (m + n + 1) }):wpAny (model P w) A (pyHash (.ref a)) Q E s:=by
 obtain ⟨o,ho,hc,k,hd⟩:=hk
 have hT:s.TypeIs (.ref a) "tuple":=⟨o,ho,hc⟩
 unfold pyHash
 refine wpAny_bind (wpAny_cRoomFor_or (.inr hu) ?_)
 refine wpAny_bind (wpAny_specialOf hT F.slot_tuple_hash.lookup ?_)
 show wpAny _ _ (if (some (Value.builtin "tuple.__hash__") == some Value.none)=true then _ else _) Q E s
 rw [if_neg (by rw [beq_builtin_none]; exact Bool.false_ne_true)]
 refine wpAny_bind (wpAny_specialOf hT F.slot_tuple_hash.lookup ?_)
 show wpAny _ _ (callSpecialIfBoundUnlessNone? (.ref a) "__hash__" _ >>= _) Q E s
 refine wpAny_bind (wpAny_callSpecialIfBoundUnlessNone?_slot hT F.slot_tuple_hash (wpAny_call_entry F.slot_tuple_hash hT F.entry_tuple_hash ?_ (F.args_tuple_hash_1 _)))
 show wpAny _ _ (Builtin.Tuple.tupleItemsOf (.ref a) >>= _) _ _ s
 refine wpAny_bind (wpAny_tupleItemsOf ho hd ?_)
 refine wpAny_bind ?_
 rw [<- Array.forIn_toList]
 refine wpAny_forIn_list _
   (λrest (b:Array Int) s'=>(rest=[u,v]/\b=#[]/\s'=s)\/(rest=[v]/\b=#[x]/\s'={ s with toks:=s.toks + m })\/(rest=[]/\b=#[x,y]/\s'={ s with toks:=s.toks + (m + n) }))
   _ ?_ ?_ _ _ (.inl ⟨rfl,rfl,rfl⟩)
 · rintro z rest b s' (⟨e,rfl,rfl⟩ | ⟨e,rfl,rfl⟩ | ⟨e,_⟩)
   · cases e
     refine wpAny_bind (h1 _ ?_ _ _ _ rfl ?_)
     · exact Nat.le_refl _
     · exact wpAny_pure (.inr (.inl ⟨rfl,rfl,rfl⟩))
   · cases e
     refine wpAny_bind (h2 _ ?_ _ _ _ rfl ?_)
     · exact Nat.le_refl _
     · exact wpAny_pure (.inr (.inr ⟨rfl,rfl,by simp [Nat.add_assoc]⟩))
   · cases e
 · rintro b s' (⟨e,_⟩ | ⟨e,_⟩ | ⟨_,rfl,rfl⟩)
   · cases e
   · cases e
   show wpAny _ _ (retInt (Builtin.Tuple.tupleHashOf [x,y])) _ _ _
   refine wpAny_ret_mkInt ?_
   show wpAny _ _ (if (decide (-(2:Int) ^ 63<=Builtin.Tuple.tupleHashOf [x,y]) && decide (Builtin.Tuple.tupleHashOf [x,y] < 2 ^ 63))=true then _ else _) Q E _
   unfold reduceHash at h
   by_cases hr:(decide (-(2:Int) ^ 63<=Builtin.Tuple.tupleHashOf [x,y]) && decide (Builtin.Tuple.tupleHashOf [x,y] < 2 ^ 63))=true
   · rw [if_pos hr]
     rw [if_pos hr] at h
     exact wpAny_pure (by simpa [Nat.add_assoc] using h)
   · rw [if_neg hr]
     rw [if_neg hr] at h
     exact wpAny_bind (wpAny_rule (wpAny_pure (by simpa [Nat.add_assoc] using h)))
theorem oA {a:Addr} {u v:Value} {n:Nat} {Q:Bool->Shared->Prop} (hk:IsTup s.heap a #[u,v]) (h1:∀ A E Q,Q true s->wpAny (model P w) A (eqIsQuiet n u) Q E s) (h2:∀ A E Q,Q true s->wpAny (model P w) A (eqIsQuiet n v) Q E s) (h:Q true s) :
   wpAny (model P w) A (eqIsQuiet (n + 1) (.ref a)) Q E s:=by
 obtain ⟨o,ho,hc,k,hd⟩:=hk
 have hT:s.TypeIs (.ref a) "tuple":=⟨o,ho,hc⟩
 unfold eqIsQuiet
 refine wpAny_bind (wpAny_specialOf hT F.slot_tuple_eq.lookup ?_)
 show wpAny _ _ (isInstance (.ref a) (.type "tuple") >>= _) _ _ s
 refine wpAny_bind (wpAny_isInstance hT isSubtype_tuple_tuple ?_)
 simp only [Bool.not_true,Bool.false_eq_true,if_false]
 refine wpAny_bind (wpAny_seqItems ho hd ?_)
 refine wpAny_bind ?_
 show wpAny _ _ (forIn #[u,v] _ _) _ _ s
 rw [<- Array.forIn_toList]
 refine wpAny_forIn_list _ (λrest r s'=>r.1=none/\s'=s/\∀ z ∈ rest,z=u\/z=v) _ ?_ ?_ _ _ ⟨rfl,rfl,λz hz=>by simpa using hz⟩
 · rintro z rest r s' ⟨hr,rfl,hall⟩
   have hz:∀ A E Q,Q true s'->wpAny (model P w) A (eqIsQuiet n z) Q E s':=by
     rcases hall z List.mem_cons_self with rfl | rfl
     · exact h1
     · exact h2
   refine wpAny_bind (hz _ _ _ ?_)
   simp only [Bool.not_true,Bool.false_eq_true,if_false]
   exact wpAny_pure ⟨rfl,rfl,λx hx=>hall x (List.mem_cons_of_mem _ hx)⟩
 · rintro ⟨r1,r2⟩ s' ⟨hr,rfl,_⟩
   simp only at hr
   subst hr
   exact wpAny_pure h
theorem wX {a b:Addr} {u v u' v':Value} {p q:Bool} (hu:A.units < cLine) (ha:IsTup s.heap a #[u,v]) (hb:IsTup s.heap b #[u',v']) (h1:EqAt A.in1 s u u' p) (h2:EqAt A.in1 s v v' q) (hs:a=b->(p && q)=true):EqAt A s (.ref a) (.ref b) (p && q):=by
 by_cases z:a=b
 · subst z
   rw [hs rfl]
   exact .same _
 · have:=EqAt.of_refs z (RcAt.tuples (e:=λj=>if j=0 then p else q) ha hb hu λj j1 j2=>by
     match j,j1 with
     | 0,_=>exact h1
     | 1,_=>exact h2)
   have e:((List.range (min (#[u,v]:Array Value).size (#[u',v']:Array Value).size)).all (λj=>if j=0 then p else q) && (#[u,v]:Array Value).size == (#[u',v']:Array Value).size)=(p && q):=by
     show (p && (q && true) && true)=(p && q)
     cases p <;> cases q <;> rfl
   rw [e] at this
   exact this
end
theorem i3 {h:Heap} {a:Addr} {x y:Array Value} (p:IsTup h a x) (q:IsTup h a y):x=y:=by
 obtain ⟨o,ho,_,n,hd⟩:=p
 obtain ⟨o',ho',_,n',hd'⟩:=q
 rw [ho] at ho'; cases ho'
 rw [hd] at hd'; cases hd'; rfl
theorem qB {h h':Heap} {a d:Addr} {x:Array Value} {o:Obj} {es ep} (p:IsTup h a x) (ho:h.get? d=some o) (hd:o.data=.dict es ep) (hs:Heap.SameBut d h h'):IsTup h' a x:=by
 obtain ⟨o',ho',hc,n,hd'⟩:=p
 have hne:a ≠ d:=by
   rintro rfl
   rw [ho] at ho'; cases ho'
   rw [hd] at hd'; exact nomatch hd'
 exact ⟨o',(hs.2 a hne).trans ho',hc,n,hd'⟩
structure IK (P:Program) (w:World) (K:Type) [DecidableEq K] where
 is:Heap->K->Value->Prop
 hash:K->Int
 draws:K->Nat
 dep:Nat
 inj:∀ {h:Heap} {v:Value} {x y:K},is h x v->is h y v->x=y
 keeps:∀ {h h':Heap} {k:K} {v:Value} {d:Addr} {o:Obj} {es ep},is h k v->h.get? d=some o->o.data=.dict es ep->Heap.SameBut d h h'->is h' k v
 hk:∀ {A:Around} {h:Heap} {k:K} {v:Value},is h k v->A.units + dep < cLine->HK P w A h v (hash k) (draws k)
 eq:∀ {A:Around} {s:Shared} {x y:K} {u v:Value},is s.heap x u->is s.heap y v->A.units + dep < cLine->EqAt A s u v (decide (x=y))
 quiet:∀ {s:Shared} {k:K} {v:Value} {n:Nat},dep < n->is s.heap k v->∀ A E Q,Q true s->wpAny (model P w) A (eqIsQuiet n v) Q E s
section
variable {P:Program} {w:World}
noncomputable def AM:IK P w Int where
 is:=λ_ k v=>∃ t,v=.int k t
 hash:=hashInt
 draws:=λ_=>1
 dep:=0
 inj:=λ⟨_,e⟩ ⟨_,g⟩=>by rw [e] at g; cases g; rfl
 keeps:=λh _ _ _=>h
 hk:=λ⟨_,e⟩ _ s E Q _ hq=>by rw [e]; exact wpAny_pyHash_int hq
 eq:=λ{A s x y u v} ⟨_,e⟩ ⟨_,g⟩ _=>by
   rw [e,g]
   have:decide (x=y)=(x == y):=by by_cases h:x=y <;> simp [h]
   rw [this]
   exact .int_int _ _ _ _
 quiet:=λ{s k v n} hn ⟨_,e⟩ A E Q q=>by
   obtain ⟨m,rfl⟩:∃ m,n=m + 1:=⟨n - 1,by omega⟩
   rw [e]
   exact wpAny_pure q
variable {K K':Type} [DecidableEq K] [DecidableEq K']
noncomputable def yj (a:IK P w K) (b:IK P w K'):IK P w (K × K') where
 is:=λh k v=>∃ p u u',v=.ref p/\IsTup h p #[u,u']/\a.is h k.1 u/\b.is h k.2 u'
 hash:=λk=>reduceHash (Builtin.Tuple.tupleHashOf [a.hash k.1,b.hash k.2])
 draws:=λk=>a.draws k.1 + b.draws k.2 + 1
 dep:=max a.dep b.dep + 1
 inj:=λ{h v x y} ⟨p,u,u',e,t,h1,h2⟩ ⟨p',v1,v2,e',t',g1,g2⟩=>by
   rw [e] at e'
   cases e'
   have q:=i3 t t'
   simp only [Array.mk.injEq,List.cons.injEq,and_true] at q
   obtain ⟨rfl,rfl⟩:=q
   exact Prod.ext (a.inj h1 g1) (b.inj h2 g2)
 keeps:=λ⟨p,u,u',e,t,h1,h2⟩ ho hd hs=>⟨p,u,u',e,qB t ho hd hs,a.keeps h1 ho hd hs,b.keeps h2 ho hd hs⟩
 hk:=λ{A h k v} ⟨p,u,u',e,t,h1,h2⟩ hu s E Q eh hq=>by
   rw [e]
   subst eh
   exact rj (by omega) t (λB hB=>a.hk h1 (by omega)) (λB hB=>b.hk h2 (by omega)) hq
 eq:=λ{A s x y u v} hx hy hu=>by
   obtain ⟨p,u1,u2,e,t,h1,h2⟩:=id hx
   obtain ⟨p',v1,v2,e',t',g1,g2⟩:=id hy
   have ed:decide (x=y)=(decide (x.1=y.1) && decide (x.2=y.2)):=by
     obtain ⟨x1,x2⟩:=x
     obtain ⟨y1,y2⟩:=y
     rw [Bool.eq_iff_iff]
     simp
   rw [e,e',ed]
   refine wX (by omega) t t' (a.eq h1 g1 (show A.units + 1 + a.dep < cLine by omega)) (b.eq h2 g2 (show A.units + 1 + b.dep < cLine by omega)) λz=>?_
   subst z
   have q:=i3 t t'
   simp only [Array.mk.injEq,List.cons.injEq,and_true] at q
   obtain ⟨rfl,rfl⟩:=q
   rw [a.inj h1 g1,b.inj h2 g2]
   simp
 quiet:=λ{s k v n} hn ⟨p,u,u',e,t,h1,h2⟩ A E Q q=>by
   obtain ⟨m,rfl⟩:∃ m,n=m + 1:=⟨n - 1,by omega⟩
   rw [e]
   exact oA t (a.quiet (by omega) h1) (b.quiet (by omega) h2) q
noncomputable def kindOf (a:IK P w K) (hd:a.dep<=7):HeapKind P w K where
 is:=λh k p=>a.is h k (.ref p)
 hash:=a.hash
 draws:=a.draws
 room:=λA=>A.units + 8 < cLine
 inj:=a.inj
 keeps:=a.keeps
 pyHash:=λ{A E s k p Q} hu hk h=>a.hk hk (by omega) s E Q rfl h
 eqBool:=λ{A E s x y p p' Q} hu hx hy h=>a.eq hx hy (by omega) _ _ _ _ h
 quiet:=λ{A E s k p Q} hk h=>a.quiet (by omega) hk A E Q h
end
inductive de {K:Type} (R:K->Value->Prop):List K->List Value->Prop where
 | nil:de R [] []
 | cons {x:K} {v:Value} {xs:List K} {vs:List Value} (h:R x v) (r:de R xs vs):de R (x :: xs) (v :: vs)
section
variable {K:Type}
theorem de.mono {R S:K->Value->Prop} (f:∀ x v,R x v->S x v):∀ {xs:List K} {vs:List Value},de R xs vs->de S xs vs
 | _,_,.nil=>.nil
 | _,_,.cons h r=>.cons (f _ _ h) (r.mono f)
theorem de.inj {R:K->Value->Prop} (f:∀ x y v,R x v->R y v->x=y):∀ {xs ys:List K} {vs:List Value},de R xs vs->de R ys vs->xs=ys
 | _,_,_,.nil,.nil=>rfl
 | _,_,_,.cons h r,.cons g q=>by rw [f _ _ _ h g,r.inj f q]
theorem de.length {R:K->Value->Prop}:∀ {xs:List K} {vs:List Value},de R xs vs->xs.length=vs.length
 | _,_,.nil=>rfl
 | _,_,.cons _ r=>congrArg (· + 1) r.length
theorem de.at {R:K->Value->Prop}:∀ {xs:List K} {vs:List Value},de R xs vs->∀ (j:Nat) (h1:j < xs.length) (h2:j < vs.length),R xs[j] vs[j]
 | _,_,.nil,_,h1,_=>absurd h1 (Nat.not_lt_zero _)
 | _,_,.cons h _,0,_,_=>h
 | _,_,.cons _ r,j + 1,h1,h2=>r.at j (Nat.lt_of_succ_lt_succ h1) (Nat.lt_of_succ_lt_succ h2)
theorem de.mem {R:K->Value->Prop}:∀ {xs:List K} {vs:List Value},de R xs vs->∀ v ∈ vs,∃ x,R x v
 | _,_,.nil,_,h=>nomatch h
 | _,_,.cons h r,v,hv=>(List.mem_cons.mp hv).elim (λz=>⟨_,z ▸ h⟩) (r.mem v)
theorem all_eq [DecidableEq K] {xs ys:List K}:((List.range (min xs.length ys.length)).all (λj=>decide (xs[j]?=ys[j]?)) && xs.length == ys.length)=decide (xs=ys):=by
 rw [Bool.eq_iff_iff]
 simp only [Bool.and_eq_true,List.all_eq_true,List.mem_range,decide_eq_true_eq,beq_iff_eq]
 constructor
 · rintro ⟨h1,h2⟩
   refine List.ext_getElem? λj=>?_
   by_cases hj:j < xs.length
   · exact h1 j (by omega)
   · rw [List.getElem?_eq_none (by omega),List.getElem?_eq_none (by omega)]
 · rintro rfl
   exact ⟨λ_ _=>rfl,rfl⟩
end
section
variable {P:Program} {w:World} {K:Type} [DecidableEq K]
theorem rF {a:IK P w K} {A:Around} {E:Value->Shared->Prop} {s:Shared} {p:Addr} {its:List Value} {xs:List K} {Q:Int->Shared->Prop} (hu:A.units + (a.dep + 1) < cLine) (hk:IsTup s.heap p its.toArray) (hs:de (a.is s.heap) xs its)
   (h:Q (reduceHash (Builtin.Tuple.tupleHashOf (xs.map a.hash))) { s with toks:=s.toks + ((xs.map a.draws).sum + 1) }):wpAny (model P w) A (pyHash (.ref p)) Q E s:=by
 obtain ⟨o,ho,hc,k,hd⟩:=hk
 have hT:s.TypeIs (.ref p) "tuple":=⟨o,ho,hc⟩
 unfold pyHash
 refine wpAny_bind (wpAny_cRoomFor_or (.inr (by omega)) ?_)
 refine wpAny_bind (wpAny_specialOf hT F.slot_tuple_hash.lookup ?_)
 show wpAny _ _ (if (some (Value.builtin "tuple.__hash__") == some Value.none)=true then _ else _) Q E s
 rw [if_neg (by rw [beq_builtin_none]; exact Bool.false_ne_true)]
 refine wpAny_bind (wpAny_specialOf hT F.slot_tuple_hash.lookup ?_)
 show wpAny _ _ (callSpecialIfBoundUnlessNone? (.ref p) "__hash__" _ >>= _) Q E s
 refine wpAny_bind (wpAny_callSpecialIfBoundUnlessNone?_slot hT F.slot_tuple_hash (wpAny_call_entry F.slot_tuple_hash hT F.entry_tuple_hash ?_ (F.args_tuple_hash_1 _)))
 show wpAny _ _ (Builtin.Tuple.tupleItemsOf (.ref p) >>= _) _ _ s
 refine wpAny_bind (wpAny_tupleItemsOf ho hd ?_)
 refine wpAny_bind ?_
 rw [<- Array.forIn_toList]
 refine wpAny_forIn_list _
   (λrest (b:Array Int) s'=>∃ (ks:List K) (n:Nat),de (a.is s.heap) ks rest/\b.toList++ks.map a.hash=xs.map a.hash/\n + (ks.map a.draws).sum=(xs.map a.draws).sum/\s'={ s with toks:=s.toks + n })
   _ ?_ ?_ _ _ ⟨xs,0,hs,rfl,by omega,rfl⟩
 · rintro z rest b s' ⟨ks,n,hr,e1,e2,rfl⟩
   cases hr with
   | @cons x _ ks' _ hx hr=>
     refine wpAny_bind (a.hk hx (show A.units + 1 + a.dep < cLine by omega) _ _ _ rfl ?_)
     refine wpAny_pure ⟨ks',n + a.draws x,hr,?_,?_,by simp [Nat.add_assoc]⟩
     · simpa using e1
     · rw [List.map_cons,List.sum_cons] at e2
       omega
 · rintro b s' ⟨ks,n,hr,e1,e2,rfl⟩
   cases hr
   rw [List.map_nil,List.append_nil] at e1
   rw [List.map_nil,List.sum_nil,Nat.add_zero] at e2
   subst e2
   show wpAny _ _ (retInt (Builtin.Tuple.tupleHashOf b.toList)) _ _ _
   rw [e1]
   refine wpAny_ret_mkInt ?_
   show wpAny _ _ (if (decide (-(2:Int) ^ 63<=Builtin.Tuple.tupleHashOf (xs.map a.hash)) && decide (Builtin.Tuple.tupleHashOf (xs.map a.hash) < 2 ^ 63))=true then _ else _) Q E _
   unfold reduceHash at h
   by_cases hr:(decide (-(2:Int) ^ 63<=Builtin.Tuple.tupleHashOf (xs.map a.hash)) && decide (Builtin.Tuple.tupleHashOf (xs.map a.hash) < 2 ^ 63))=true
   · rw [if_pos hr]
     rw [if_pos hr] at h
     exact wpAny_pure (by simpa [Nat.add_assoc] using h)
   · rw [if_neg hr]
     rw [if_neg hr] at h
     exact wpAny_bind (wpAny_rule (wpAny_pure (by simpa [Nat.add_assoc] using h)))
theorem pA {A:Around} {E:Value->Shared->Prop} {s:Shared} {p:Addr} {its:List Value} {n:Nat} {Q:Bool->Shared->Prop} (hk:IsTup s.heap p its.toArray) (h1:∀ z ∈ its,∀ A E Q,Q true s->wpAny (model P w) A (eqIsQuiet n z) Q E s) (h:Q true s) :
   wpAny (model P w) A (eqIsQuiet (n + 1) (.ref p)) Q E s:=by
 obtain ⟨o,ho,hc,k,hd⟩:=hk
 have hT:s.TypeIs (.ref p) "tuple":=⟨o,ho,hc⟩
 unfold eqIsQuiet
 refine wpAny_bind (wpAny_specialOf hT F.slot_tuple_eq.lookup ?_)
 show wpAny _ _ (isInstance (.ref p) (.type "tuple") >>= _) _ _ s
 refine wpAny_bind (wpAny_isInstance hT isSubtype_tuple_tuple ?_)
 simp only [Bool.not_true,Bool.false_eq_true,if_false]
 refine wpAny_bind (wpAny_seqItems ho hd ?_)
 refine wpAny_bind ?_
 show wpAny _ _ (forIn its.toArray _ _) _ _ s
 rw [<- Array.forIn_toList]
 refine wpAny_forIn_list _ (λrest r s'=>r.1=none/\s'=s/\∀ z ∈ rest,z ∈ its) _ ?_ ?_ _ _ ⟨rfl,rfl,λz hz=>by simpa using hz⟩
 · rintro z rest r s' ⟨hr,rfl,hall⟩
   refine wpAny_bind (h1 z (hall z List.mem_cons_self) _ _ _ ?_)
   simp only [Bool.not_true,Bool.false_eq_true,if_false]
   exact wpAny_pure ⟨rfl,rfl,λx hx=>hall x (List.mem_cons_of_mem _ hx)⟩
 · rintro ⟨r1,r2⟩ s' ⟨hr,rfl,_⟩
   simp only at hr
   subst hr
   exact wpAny_pure h
noncomputable def x4 (a:IK P w K):IK P w (List K) where
 is:=λh ks v=>∃ p its,v=.ref p/\IsTup h p its.toArray/\de (a.is h) ks its
 hash:=λks=>reduceHash (Builtin.Tuple.tupleHashOf (ks.map a.hash))
 draws:=λks=>(ks.map a.draws).sum + 1
 dep:=a.dep + 1
 inj:=λ{h v x y} ⟨p,its,e,t,r⟩ ⟨p',its',e',t',r'⟩=>by
   rw [e] at e'
   cases e'
   have q:its=its':=congrArg Array.toList (i3 t t')
   subst q
   exact de.inj (R:=a.is h) (λ_ _ _ z1 z2=>a.inj z1 z2) r r'
 keeps:=λ⟨p,its,e,t,r⟩ ho hd hs=>⟨p,its,e,qB t ho hd hs,r.mono λ_ _ z=>a.keeps z ho hd hs⟩
 hk:=λ{A h k v} ⟨p,its,e,t,r⟩ hu s E Q eh hq=>by
   rw [e]
   subst eh
   exact rF hu t r hq
 eq:=λ{A s x y u v} hx hy hu=>by
   obtain ⟨p,its,e,t,r⟩:=id hx
   obtain ⟨p',its',e',t',r'⟩:=id hy
   rw [e,e']
   by_cases z:p=p'
   · subst z
     have q:its=its':=congrArg Array.toList (i3 t t')
     subst q
     rw [decide_eq_true (de.inj (R:=a.is s.heap) (λ_ _ _ z1 z2=>a.inj z1 z2) r r')]
     exact .same _
   · have:=EqAt.of_refs z (RcAt.tuples (e:=λj=>decide (x[j]?=y[j]?)) t t' (show A.units < cLine by omega) λj j1 j2=>by
       have l1:j < x.length:=by rw [r.length]; simpa using j1
       have l2:j < y.length:=by rw [r'.length]; simpa using j2
       rw [List.getElem?_eq_getElem l1,List.getElem?_eq_getElem l2]
       have:=a.eq (A:=A.in1) (r.at j l1 (by simpa using j1)) (r'.at j l2 (by simpa using j2)) (show A.units + 1 + a.dep < cLine by omega)
       simpa using this)
     have el:(its.toArray.size,its'.toArray.size)=(x.length,y.length):=by rw [r.length,r'.length]; simp
     have e1:its.toArray.size=x.length:=congrArg Prod.fst el
     have e2:its'.toArray.size=y.length:=congrArg Prod.snd el
     rw [e1,e2,all_eq] at this
     exact this
 quiet:=λ{s k v n} hn ⟨p,its,e,t,r⟩ A E Q q=>by
   obtain ⟨m,rfl⟩:∃ m,n=m + 1:=⟨n - 1,by omega⟩
   rw [e]
   refine pA t (λz hz=>?_) q
   obtain ⟨x,hx⟩:=r.mem z hz
   exact a.quiet (by omega) hx
end
end L2
namespace Ev
open PySem PySem.Spec PyProof.Rows L2
structure KD (K:Type) [DecidableEq K] where
 ik:∀ (P:Program) (w:World),IK P w K
 dep:Nat
 dep_ok:∀ P w,(ik P w).dep=dep
 toD:K->D
 den:∀ {X:Cx} {pins:List (Addr × Obj)} {σ:L2.St} {H:Hp} {s:Shared} {v:V} {u:Value} {k:K},Inv X pins σ H s->Den X.K H v (toD k)->RelV v u->(ik X.prog X.w).is s.heap k u
noncomputable def AU:KD Int where
 ik:=λ_ _=>AM
 dep:=0
 dep_ok:=λ_ _=>rfl
 toD:=.int
 den:=λ_ d r=>by cases d; exact r
section
variable {K K':Type} [DecidableEq K] [DecidableEq K']
noncomputable def xU (a:KD K) (b:KD K'):KD (K × K') where
 ik:=λP w=>yj (a.ik P w) (b.ik P w)
 dep:=max a.dep b.dep + 1
 dep_ok:=λP w=>by show max (a.ik P w).dep (b.ik P w).dep + 1=_; rw [a.dep_ok,b.dep_ok]
 toD:=λk=>.tup [a.toD k.1,b.toD k.2]
 den:=λ{X pins σ H s v u k} I d r=>by
   cases d with
   | tup h q=>
     cases (show u=Value.ref _ from r)
     obtain ⟨its,rv,t,_⟩:=I.tuple h
     cases q with
     | cons d1 q=>cases q with
       | cons d2 q=>cases q with
         | nil=>cases rv with
           | cons r1 rv=>cases rv with
             | cons r2 rv=>cases rv with
               | nil=>exact ⟨_,_,_,rfl,t,a.den I d1 r1,b.den I d2 r2⟩
theorem nP (a:KD K) {X:Cx} {pins:List (Addr × Obj)} {σ:L2.St} {H:Hp} {s:Shared} (I:Inv X pins σ H s):∀ {ks:List K} {vs:List V} {us:List Value},av X.K H vs (ks.map a.toD)->Vals vs us->de ((a.ik X.prog X.w).is s.heap) ks us
 | [],_,_,.nil,.nil=>.nil
 | _ :: _,_,_,.cons d r,.cons q t=>.cons (a.den I d q) (nP a I r t)
noncomputable def ya (a:KD K):KD (List K) where
 ik:=λP w=>x4 (a.ik P w)
 dep:=a.dep + 1
 dep_ok:=λP w=>by show (a.ik P w).dep + 1=_; rw [a.dep_ok]
 toD:=λks=>.tup (ks.map a.toD)
 den:=λ{X pins σ H s v u k} I d r=>by
   generalize e:D.tup (k.map a.toD)=x at d
   cases d with
   | tup h q=>
     cases e
     cases (show u=Value.ref _ from r)
     obtain ⟨its,rv,t,_⟩:=I.tuple h
     exact ⟨_,its,rfl,t,nP a I q rv⟩
   | _=>cases e
noncomputable abbrev NEs (K:Type):=List (K × Addr × Value)
noncomputable def kd (a:KD K) (hd:a.dep<=7) (P:Program) (w:World):HeapKind P w K:=kindOf (a.ik P w) (by rw [a.dep_ok]; exact hd)
variable {a:KD K} {hd:a.dep<=7}
noncomputable def dNk (a:KD K) (hd:a.dep<=7) (P:Program) (w:World) (p:Addr) (xs:NEs K):HO:=.ext λh=>(p == sysModules)=false/\∃ o es ep,h.get? p=some o/\o.ExactDict/\o.data=.dict es ep/\es.toList=xs.map (entryOfKey (kd a hd P w))/\(xs.map (·.1)).Nodup
structure fR (a:KD K) (hd:a.dep<=7) (P:Program) (w:World) (F:PySem.W.Frag) (H:Hp) (d:Addr) (xs:NEs K):Prop where
 at_:H d=some (dNk a hd P w d xs)
 key:∀ x ∈ xs,Den F H (.ref x.2.1) (a.toD x.1)
variable {X:Cx} {pins:List (Addr × Obj)} {σ:L2.St} {H:Hp} {s:Shared} {d b:Addr} {xs:NEs K} {k:K} {A:Around} {E:Value->Shared->Prop}
theorem key_is (I:Inv X pins σ H s) (q:Den X.K H (.ref b) (a.toD k)):(kd a hd X.prog X.w).is s.heap k b:=a.den I q rfl
theorem tM (I:Inv X pins σ H s) (D:fR a hd X.prog X.w X.K H d xs):(d == sysModules)=false/\s.heap.DictOfH (kd a hd X.prog X.w) d xs:=by
 obtain ⟨⟨h0,o,es,ep,h1,h2,h3,h4,h5⟩,_⟩:=(show bf X.prog X.w H s.heap d (dNk a hd X.prog X.w d xs) from I.hok d _ D.at_)
 exact ⟨h0,o,es,ep,h1,h2,h3,h4,λx hx=>key_is I (D.key x hx),h5⟩
noncomputable def As (a:KD K) (hd:a.dep<=7) (P:Program) (w:World) (F:PySem.W.Frag) (td ty:TE):TE:=λσ H Q=>td σ H λx H1=>ty σ H1 λy H2=>∃ d b k xs p v,x=.ref d/\y=.ref b/\fR a hd P w F H2 d xs/\Den F H2 (.ref b) (a.toD k)/\atKey xs k=some p/\RelV v p.2/\Q v H2
noncomputable def A3 (a:KD K) (hd:a.dep<=7) (P:Program) (w:World) (F:PySem.W.Frag) (td ty tv:TE):TS:=λD σ H=>tv σ H λv H1=>td σ H1 λx H2=>ty σ H2 λy H3=>∃ d b k xs,x=.ref d/\y=.ref b/\fR a hd P w F H3 d xs/\Den F H3 (.ref b) (a.toD k)/\xs.length<=sizeLine/\∀ u,RelV v u->D.nx σ (upd H3 d (dNk a hd P w d (storedH xs k b u)))
noncomputable def zP (a:KD K) (hd:a.dep<=7) (P:Program) (w:World):TE:=λ_ H Q=>∀ p,H p=none->Q (.ref p) (upd H p (dNk a hd P w p []))
variable {o i e value:Expr} {pos pos':Pos} {td ty tv:TE}
theorem gX (hu:X.A.units + 16 < cLine) (ho:PE X o td) (hi:PE X i ty) (hs:j8 i):PE X (.Subscript o i pos) (As a hd X.prog X.w X.K td ty):=by
 intro pins s σ H Q I h
 refine k8 PySem.F.slot_dict_getitem.lookup hs (thn (ho pins s σ H _ I h) λu s1 ⟨x,H1,I1,rx,q1⟩=>thn (hi pins s1 σ H1 _ I1 q1) λiv s2 ⟨y,H2,I2,ry,d,b,k,xs,p,v,ex,ey,D,g,hp,rv,q2⟩=>?_)
 subst ex ey
 obtain rfl:u=Value.ref d:=rx
 obtain rfl:iv=Value.ref b:=ry
 obtain ⟨_,dd⟩:=tM I2 D
 exact ⟨dd.typeIs,wpAny_getItem_heap (show X.A.units + 1 + 8 < cLine by omega) (key_is I2 g) dd hp ⟨v,H2,I2.tok _,rv,q2⟩⟩
theorem lY (hu:X.A.units + 16 < cLine) (ho:PE X o td) (hi:PE X i ty) (hv:PE X value tv) (hs:swapsWith value (some (.Subscript o i pos')) pos.line X.env=pure false) :
   PS X (.Assign [.Subscript o i pos'] value pos) (A3 a hd X.prog X.w X.K td ty tv):=by
 intro pins s σ H D I h
 refine wpAny_Assign_Subscript (thn (hv pins s σ H _ I h) λr s1 ⟨v,H1,I1,rv,q1⟩=>thn (ho pins s1 σ H1 _ I1 q1) λu s2 ⟨x,H2,I2,rx,q2⟩=>thn (hi pins s2 σ H2 _ I2 q2) λiv s3 ⟨y,H3,I3,ry,d,b,k,xs,ex,ey,D',g,hl,q3⟩=>?_) hs
 subst ex ey
 obtain rfl:u=Value.ref d:=rx
 obtain rfl:iv=Value.ref b:=ry
 obtain ⟨hd',dd⟩:=tM I3 D'
 refine wpAny_setItem_heap (hsz:=hl) (show X.A.units + 1 + 8 < cLine by omega) (key_is I3 g) dd λh' dd' hs=>⟨σ,_,?_,q3 r rv⟩
 obtain ⟨q,es,ep,hq,h2,h3,h4,_,h5⟩:=dd'
 refine eA I3 (by rw [D'.at_]; exact True.intro) hs ⟨q,hq⟩ ⟨⟨hd',q,es,ep,hq,h2,h3,h4,h5⟩,⟨q,hq⟩,λa1 a2 ⟨z0,o,es,ep,z1,z2⟩ hk=>⟨z0,o,es,ep,hk o z1,z2⟩⟩
theorem lX:PE X (.Dict [] [] pos) (zP a hd X.prog X.w):=λpins s σ H Q I h=>
 wpAny_Dict_empty ⟨.ref s.heap.objs.size,_,I.laid (a:=s.heap.objs.size) (o:=dNk a hd X.prog X.w s.heap.objs.size []) (t':=s.toks) (λ_ _ q=>Heap.get?_push_of_some _ q) (Nat.le_refl _)
   ⟨⟨beq_eq_false_iff_ne.mpr (Ne.symm (Nat.ne_of_lt I.big)),_,#[],0,Heap.get?_push_size _ rfl,⟨rfl,rfl,rfl⟩,rfl,rfl,List.nodup_nil⟩,⟨_,Heap.get?_push_size _ rfl⟩,λa1 a2 ⟨z0,o,es,ep,z1,z2⟩ hk=>⟨z0,o,es,ep,hk o z1,z2⟩⟩,rfl,h _ (I.hok.fresh (Nat.le_refl _))⟩
end
end Ev
namespace Hy
open PySem PySem.Spec PyProof.Rows L2
open Ev (D Den av KD NEs dNk fR)
section
variable {K:Type} [DecidableEq K]
inductive EnK (a:KD K) (F:PySem.W.Frag) (G:Hp):NEs K->List (K × D)->Prop where
 | nil:EnK a F G [] []
 | cons {k:K} {b:Addr} {u:Value} {v:V} {x:D} {xs:NEs K} {m:List (K × D)} (hk:Den F G (.ref b) (a.toD k)) (hr:RelV v u) (hv:Den F G v x) (r:EnK a F G xs m):EnK a F G ((k,b,u) :: xs) ((k,x) :: m)
variable {a:KD K} {F:PySem.W.Frag} {G G':Hp}
theorem EnK.mono (e:ah G G'):∀ {xs:NEs K} {m:List (K × D)},EnK a F G xs m->EnK a F G' xs m
 | _,_,.nil=>.nil
 | _,_,.cons h1 h2 h3 r=>.cons (h1.mono e) h2 (h3.mono e) (r.mono e)
theorem EnK.length:∀ {xs:NEs K} {m:List (K × D)},EnK a F G xs m->xs.length=m.length
 | _,_,.nil=>rfl
 | _,_,.cons _ _ _ r=>congrArg (· + 1) r.length
theorem EnK.key:∀ {xs:NEs K} {m:List (K × D)},EnK a F G xs m->∀ x ∈ xs,Den F G (.ref x.2.1) (a.toD x.1)
 | _,_,.nil,_,h=>nomatch h
 | _,_,.cons h _ _ r,x,hx=>(List.mem_cons.mp hx).elim (λz=>z ▸ h) (r.key x)
noncomputable def getM (m:List (K × D)) (k:K):Option D:=(m.find? λx=>decide (x.1=k)).map (·.2)
noncomputable def eZ (m:List (K × D)) (k:K) (x:D):List (K × D):=if (getM m k).isSome then m.map λy=>if y.1=k then (y.1,x) else y else m++[(k,x)]
theorem EnK.at:∀ {xs:NEs K} {m:List (K × D)},EnK a F G xs m->∀ k,match getM m k with
   | none=>atKey xs k=none
   | some x=>∃ p v,atKey xs k=some p/\RelV v p.2/\Den F G v x
 | _,_,.nil,_=>rfl
 | _,_,.cons (k:=k') (x:=y) (m:=m) (xs:=xs) h1 h2 h3 r,k=>by
   have ih:=r.at k
   unfold getM atKey at *
   by_cases e:k'=k
   · simp only [List.find?_cons,e,decide_true,Option.map_some]
     exact ⟨_,_,rfl,h2,h3⟩
   · simp only [List.find?_cons,e,decide_false]
     exact ih
theorem EnK.isSome {xs:NEs K} {m:List (K × D)} (h:EnK a F G xs m) (k:K):(atKey xs k).isSome=(getM m k).isSome:=by
 have:=h.at k
 cases e:getM m k with
 | none=>rw [e] at this; simp only at this; rw [this]; rfl
 | some x=>rw [e] at this; obtain ⟨p,v,h1,_⟩:=this; rw [h1]; rfl
theorem EnK.snoc {k:K} {b:Addr} {u:Value} {v:V} {x:D} (h1:Den F G (.ref b) (a.toD k)) (h2:RelV v u) (h3:Den F G v x):∀ {xs:NEs K} {m:List (K × D)},EnK a F G xs m->EnK a F G (xs++[(k,b,u)]) (m++[(k,x)])
 | _,_,.nil=>.cons h1 h2 h3 .nil
 | _,_,.cons g1 g2 g3 r=>.cons g1 g2 g3 (r.snoc h1 h2 h3)
theorem EnK.over {k:K} {u:Value} {v:V} {x:D} (h2:RelV v u) (h3:Den F G v x):∀ {xs:NEs K} {m:List (K × D)},EnK a F G xs m->EnK a F G (xs.map (putAt k u)) (m.map λy=>if y.1=k then (y.1,x) else y)
 | _,_,.nil=>.nil
 | _,_,.cons (k:=k') g1 g2 g3 r=>by
   rw [List.map_cons,List.map_cons]
   unfold putAt
   by_cases e:k'=k
   · simp only [e,if_true]
     rw [e] at g1
     exact .cons g1 h2 h3 (r.over h2 h3)
   · simp only [e,if_false]
     exact .cons g1 g2 g3 (r.over h2 h3)
theorem EnK.put {k:K} {b:Addr} {u:Value} {v:V} {x:D} {xs:NEs K} {m:List (K × D)} (h:EnK a F G xs m) (h1:Den F G (.ref b) (a.toD k)) (h2:RelV v u) (h3:Den F G v x):EnK a F G (storedH xs k b u) (eZ m k x):=by
 unfold storedH eZ
 rw [h.isSome k]
 split
 · exact h.over h2 h3
 · exact h.snoc h1 h2 h3
noncomputable def exK (a:KD K) (hd:a.dep<=7) (P:Program) (w:World) (m:List (K × D)):Ex where
 p:=λF G o p=>∃ xs,o=dNk a hd P w p xs/\EnK a F G xs m
 mono:=λe ⟨xs,h1,h2⟩=>⟨xs,h1,h2.mono e⟩
 ext:=λ⟨xs,h1,_⟩=>.inl ⟨_,h1⟩
end
end Hy
namespace Hy
open PySem PySem.Spec PyProof.Rows L2
open Ev (D Den av KD NEs dNk fR aj gX lX lY)
section
variable {K:Type} [DecidableEq K] {a:KD K} {hd:a.dep<=7} {X:Cx} {C:Bool} {τ:List Sl} {x:D} {b e ix:Expr} {pos p q:Pos} {k:Nat} {N:Po} {rest:List Stmt} {m:List (K × D)} {key:K}
theorem ot:PE X (.Dict [] [] pos) (dE X.K C τ (.x (exK a hd X.prog X.w []))):=peW lX λσ H Q ⟨A,H₀,B,S,k⟩=>λp hp=>k (.ref p) _ [p] (aj hp _) (λb hb=>by rw [List.mem_singleton.mp hb]; exact ⟨hp,_,aA⟩) ⟨p,_,rfl,rfl,aA,[],rfl,.nil⟩
theorem Sta.dct {F:PySem.W.Frag} {P:Program} {w:World} {A:Addr->Prop} {H₀ H:Hp} {B:Nat->List Addr} {σ:L2.St} {i:Nat} (S:Sta F A H₀ τ B σ H) (hi:τ[i]?=some (.x (exK a hd P w m))):∃ d xs,(σ[i]?).join=some (.ref d)/\B i=[d]/\H d=some (dNk a hd P w d xs)/\EnK a F (Hy.hd H (own A B)) xs m:=by
 obtain ⟨d,o,h1,h2,h3,xs,rfl,h5⟩:=S.sl i _ hi
 exact ⟨d,xs,h2,h1,h3,h5⟩
theorem pz (i:Nat) {n:Str} (hu:X.A.units + 16 < cLine) (hi:τ[i]?=some (.x (exK a hd X.prog X.w m))) (hk:PE X ix (dE X.K false τ (.d (a.toD key)))) (hx:getM m key=some x) (hr:∀ H v,Den X.K H v (a.toD key)->∃ b,v=.ref b) (hs:j8 ix) (hN:X.N[i]?=some n:=by rfl)
   (hv:Vis X.env.scope n:=by first | exact Or.inl rfl | exact Or.inr (Or.inl rfl) | exact Or.inr (Or.inr rfl)) (hd1:(n == ("__debug__" : Str))=false:=by decide) (hcd:(n == ("__classdict__" : Str))=false:=by decide):PE X (.Subscript (.Name n p) ix pos) (dE X.K C τ (.d x)):=
 peW (gX (a:=a) (hd:=hd) hu (bG (i:=i) hN hv hd1 hcd) hk hs) λσ H Q q=>by
   obtain ⟨A,H₀,B,S,kk⟩:=df q
   obtain ⟨d,xs,e1,e2,e3,e4⟩:=S.dct hi
   refine ⟨_,slot_of e1,aM S λy H2 e5 dy=>?_⟩
   obtain ⟨b,rfl⟩:=hr _ _ dy
   have S2:=S.mono e5
   obtain ⟨d',xs',g1,g2,g3,g4⟩:=S2.dct hi
   rw [e1] at g1
   cases g1
   have:=g4.at key
   rw [hx] at this
   obtain ⟨pp,v,h1,h2,h3⟩:=this
   exact ⟨d,b,key,xs',pp,v,rfl,rfl,⟨g3,λz hz=>(g4.key z hz).mono aG⟩,dy.mono aG,h1,h2,kk v H2 e5 (h3.mono (ay (ah.refl _) λ_ z=>ic z))⟩
end
section
variable {K:PySem.W.Frag} {A:Addr->Prop} {H₀ H H':Hp} {τ:List Sl} {B:Nat->List Addr} {σ:L2.St}
theorem Sta.vU (S:Sta K A H₀ τ B σ H) {i:Nat} {a:Addr} {E E':Ex} {o':HO} (hi:τ[i]?=some (.x E)) (hB:B i=[a]) (d:E'.p K (hd H (own A B)) o' a):Sta K A H₀ (τ.set i (.x E')) B σ (upd H a o'):=by
 have ha:own A B a:=.inr ⟨i,by rw [hB]; exact List.mem_singleton.mpr rfl⟩
 have ne:∀ b,b ≠ a->upd H a o' b=H b:=λb h=>au h
 have sm:ah (hd H (own A B)) (hd (upd H a o') (own A B)):=λb o z=>by
   obtain ⟨z1,z2⟩:=ao.mp z
   exact ao.mpr ⟨z1,by rw [ne b (λe=>z1 (e ▸ ha))]; exact z2⟩
 have f0:H₀ a=none:=S.fr i a (by rw [hB]; exact List.mem_singleton.mpr rfl)
 have hs:ah H₀ (upd H a o'):=λb o z=>by rw [ne b (λe=>by rw [e,f0] at z; cases z)]; exact S.same b o z
 refine ⟨hs,by rw [List.length_set,S.len],λj t hj=>?_,S.fr,S.uq,S.ad,λj b hb=>?_⟩
 · by_cases ej:j=i
   · subst ej
     have hl:=(List.getElem?_eq_some_iff.mp hi).1
     rw [List.getElem?_set_self hl] at hj
     cases hj
     obtain ⟨a',o,e1,e2,_,_⟩:=S.sl j _ hi
     rw [hB] at e1
     cases e1
     exact ⟨a,o',hB,e2,aA,E'.mono sm d⟩
   · rw [List.getElem?_set_ne (λz=>ej z.symm)] at hj
     have off:∀ b ∈ B j,b ≠ a:=λb hb e=>ej (S.uq j i a (e ▸ hb) (by rw [hB]; exact List.mem_singleton.mpr rfl))
     have q:=S.sl j t hj
     cases t with
     | un=>exact q
     | d x=>obtain ⟨z,u,e,d⟩:=q; exact ⟨z,u,e,d.mono sm⟩
     | o zs=>
       obtain ⟨c,ws,z1,z2,z3,z4⟩:=q
       exact ⟨c,ws,z1,z2,by rw [ne c (off c (by rw [z1]; exact List.mem_singleton.mpr rfl))]; exact z3,z4.mono sm⟩
     | n t=>
       obtain ⟨z0,u,z1,z2⟩:=q
       exact ⟨z0,u,z1,z2.frame sm λb hb=>ne b (off b hb)⟩
     | x E=>
       obtain ⟨c,o,z1,z2,z3,z4⟩:=q
       exact ⟨c,o,z1,z2,by rw [ne c (off c (by rw [z1]; exact List.mem_singleton.mpr rfl))]; exact z3,E.mono sm z4⟩
 · by_cases e:b=a
   · subst e; exact ⟨_,aA⟩
   · rw [ne b e]; exact S.bd j b hb
end
section
variable {K:Type} [DecidableEq K] {a:KD K} {hd:a.dep<=7} {X:Cx} {C:Bool} {τ:List Sl} {x:D} {b e ix:Expr} {pos p q sp:Pos} {k:Nat} {N:Po} {rest:List Stmt} {m:List (K × D)} {key:K}
theorem lA (i:Nat) {n:Str} (hu:X.A.units + 16 < cLine) (hi:τ[i]?=some (.x (exK a hd X.prog X.w m))) (hk:PE X ix (dE X.K true τ (.d (a.toD key)))) (he:PE X e (dE X.K true τ (.d x))) (hl:m.length<=sizeLine) (hr:∀ H v,Den X.K H v (a.toD key)->∃ b,v=.ref b)
   (hn:PSs X rest (dS X.K (τ.set i (.x (exK a hd X.prog X.w (eZ m key x)))) N)) (hN:X.N[i]?=some n:=by rfl)
   (hv:Vis X.env.scope n:=by first | exact Or.inl rfl | exact Or.inr (Or.inl rfl) | exact Or.inr (Or.inr rfl)) (hd1:(n == ("__debug__" : Str))=false:=by decide) (hcd:(n == ("__classdict__" : Str))=false:=by decide)
   (hs:swapsWith e (some (.Subscript (.Name n p) ix sp)) pos.line X.env=pure false:=by rfl):PSs X (.Assign [.Subscript (.Name n p) ix sp] e pos :: rest) (dS X.K τ N):=
 a4 (M:=(·=τ.set i (.x (exK a hd X.prog X.w (eZ m key x))))) (psW (lY (a:=a) (hd:=hd) hu (bG (i:=i) hN hv hd1 hcd) hk he hs) λD σ H ⟨A,H₀,B,S,Me⟩=>aM S λv H1 e1 d1=>by
   have S1:=S.mono e1
   obtain ⟨d,xs,g1,_⟩:=S1.dct hi
   refine ⟨_,slot_of g1,aM S1 λy H2 e2 dy=>?_⟩
   obtain ⟨b,rfl⟩:=hr _ _ dy
   have S2:=S1.mono e2
   obtain ⟨d',xs',h1,h2,h3,h4⟩:=S2.dct hi
   rw [g1] at h1
   cases h1
   have d1':=d1.mono (ay e2 λ_ z=>z)
   exact ⟨d,b,key,xs',rfl,rfl,⟨h3,λz hz=>(h4.key z hz).mono aG⟩,dy.mono aG,by rw [h4.length]; exact hl,λu hu=>Me.nx _ _ _ _ rfl (S2.vU hi h2 ⟨_,rfl,h4.put dy hu d1'⟩)⟩) λ_ e=>e ▸ hn
end
end Hy
namespace Ev
open PySem PySem.Spec PyProof.Rows L2
section
variable {K:Type} [DecidableEq K] {a:KD K} {hd:a.dep<=7} {X:Cx} {o i e f:Expr} {pos apos cpos:Pos} {td ty tx tk tv:TE}
noncomputable def Ac (a:KD K) (hd:a.dep<=7) (P:Program) (w:World) (F:PySem.W.Frag) (tk tv:TE):TE:=λσ H Q=>∀ p,H p=none->tk σ (upd H p (dNk a hd P w p [])) λy H1=>tv σ H1 λv H2=>∃ b k,y=.ref b/\H2 p=some (dNk a hd P w p [])/\Den F H2 (.ref b) (a.toD k)/\∀ u,RelV v u->Q (.ref p) (upd H2 p (dNk a hd P w p (storedH [] k b u)))
theorem pV (hu:X.A.units + 16 < cLine) (hk:PE X e tk) (hv:PE X f tv):PE X (.Dict [some e] [f] pos) (Ac a hd X.prog X.w X.K tk tv):=λpins s σ H Q I h=>by
 refine wpAny_Dict_any rfl rfl (by simp) (show 1<=15 by decide) (pairTrees_cons_walk ?_)
 have I0:=I.laid (a:=s.heap.objs.size) (o:=dNk a hd X.prog X.w s.heap.objs.size []) (t':=s.toks) (h':=s.heap.push { cls:=.type "dict",data:=.dict #[] }) (λ_ _ q=>Heap.get?_push_of_some _ q) (Nat.le_refl _)
   ⟨⟨beq_eq_false_iff_ne.mpr (Ne.symm (Nat.ne_of_lt I.big)),_,#[],0,Heap.get?_push_size _ rfl,⟨rfl,rfl,rfl⟩,rfl,rfl,List.nodup_nil⟩,⟨_,Heap.get?_push_size _ rfl⟩,λa1 a2 ⟨z0,o,es,ep,z1,z2⟩ hk=>⟨z0,o,es,ep,hk o z1,z2⟩⟩
 refine thn (hk _ _ σ _ _ I0 (h _ (I.hok.fresh (Nat.le_refl _)))) λkv s1 ⟨y,H1,I1,ry,q1⟩=>thn (hv _ s1 σ H1 _ I1 q1) λvv s2 ⟨v,H2,I2,rv,b,k,ey,hp,g,q2⟩=>pairTrees_nil_walk ?_
 subst ey
 obtain rfl:kv=Value.ref b:=ry
 have D:fR a hd X.prog X.w X.K H2 s.heap.objs.size []:=⟨hp,λ_ z=>nomatch z⟩
 obtain ⟨hd',dd⟩:=tM I2 D
 unfold storeAll
 rw [List.forIn_cons]
 refine wpAny_bind (wpAny_bind (wpAny_dictSet_heap (hsz:=Nat.zero_le _) (show X.A.units + 8 < cLine by omega) (key_is I2 g) dd λh' dd' hs=>wpAny_pure ?_))
 dsimp only
 rw [List.forIn_nil]
 refine wpAny_pure ?_
 obtain ⟨q,es,ep,hq,h2,h3,h4,_,h5⟩:=dd'
 refine ⟨.ref s.heap.objs.size,_,eA (ob:=dNk a hd X.prog X.w s.heap.objs.size (storedH [] k b vv)) I2 (by rw [hp]; exact True.intro) hs ⟨q,hq⟩ ⟨⟨hd',q,es,ep,hq,h2,h3,h4,h5⟩,⟨q,hq⟩,λa1 a2 ⟨z0,o,es,ep,z1,z2⟩ hk=>⟨z0,o,es,ep,hk o z1,z2⟩⟩,rfl,q2 vv rv⟩
end
end Ev
namespace Hy
open PySem PySem.Spec PyProof.Rows L2
open Ev (D Den av KD NEs dNk fR Bx aj gX pV)
section
variable {K:Type} [DecidableEq K] {a:KD K} {hd:a.dep<=7} {X:Cx} {C:Bool} {τ:List Sl} {x y:D} {b e f o ix:Expr} {pos p q apos cpos:Pos} {k:Nat} {N:Po} {rest:List Stmt} {m:List (K × D)} {key:K}
noncomputable def bxK (a:KD K) (hd:a.dep<=7) (P:Program) (w:World) (m:List (K × D)):Bx where
 p:=λF H d=>∃ xs,H d=some (dNk a hd P w d xs)/\EnK a F H xs m
 mono:=λe ⟨xs,h1,h2⟩=>⟨xs,e _ _ h1,h2.mono e⟩
 isd:=λ{_ _ d} ⟨xs,h1,_⟩=>⟨_,h1,λP w H' h z=>let ⟨_,o,_,_,z1,z2,_⟩:=z.1; ⟨o,z1,z2.1⟩⟩
noncomputable abbrev bxD (a:KD K) (hd:a.dep<=7) (P:Program) (w:World) (m:List (K × D)):D:=.box (bxK a hd P w m)
theorem Sta.fzX {F:PySem.W.Frag} {P:Program} {w:World} {A:Addr->Prop} {H₀ H:Hp} {B:Nat->List Addr} {σ:L2.St} {i:Nat} (S:Sta F A H₀ τ B σ H) (hi:τ[i]?=some (.x (exK a hd P w m))):Sta F A H₀ (τ.set i (.d (bxD a hd P w m))) (upB B i []) σ H:=
 S.less (λ_ z=>nomatch z) λG g hv=>by
   obtain ⟨d,xs,h1,h2,h3,h4⟩:=S.dct hi
   exact ⟨rfl,_,h1,.box ⟨xs,hv d _ (by rw [h2]; exact List.mem_singleton.mpr rfl) (λz=>nomatch z) h3,h4.mono g⟩⟩
theorem xA (i:Nat) (h:PSs X rest (dS X.K (τ.set i (.d (bxD a hd X.prog X.w m))) N)) (hi:τ[i]?=some (.x (exK a hd X.prog X.w m)):=by rfl):PSs X rest (dS X.K τ N):=oY h λD σ H ⟨A,H₀,B,S,Me⟩=>⟨A,H₀,_,S.fzX hi,Me⟩
theorem xv (h:PE X e (dE X.K C τ (.x (exK a hd X.prog X.w m)))):PE X e (dE X.K C τ (.d (bxD a hd X.prog X.w m))):=peW h λσ H Q q=>by
 obtain ⟨A,H₀,B,S,k⟩:=df q
 refine ⟨A,H₀,B,S,λv H' bs e hf ⟨d,o,h1,h2,h3,xs,h4,h5⟩=>?_⟩
 cases h2
 subst h1 h4
 have vd:=S.vd (C:=C)
 have un:¬ vw C A B d:=λz=>by
   obtain ⟨_,q⟩:=vd d z
   rw [(hf d (List.mem_singleton.mpr rfl)).1] at q
   cases q
 exact k _ H' e (.box ⟨xs,ao.mpr ⟨un,h3⟩,h5.mono (ay (ah.refl _) λ_ z=>.inl z)⟩)
theorem pC (hu:X.A.units + 16 < cLine) (hb:PE X b (dE X.K C τ (.d (bxD a hd X.prog X.w m)))) (hk:PE X ix (dE X.K C τ (.d (a.toD key)))) (hx:getM m key=some x) (hr:∀ H v,Den X.K H v (a.toD key)->∃ b,v=.ref b) (hs:j8 ix):PE X (.Subscript b ix pos) (dE X.K C τ (.d x)):=
 peW (gX (a:=a) (hd:=hd) hu hb hk hs) λσ H Q q=>by
   obtain ⟨A,H₀,B,S,kk⟩:=df q
   refine aM S λv H1 e1 d1=>aM (S.mono e1) λy H2 e2 dy=>?_
   obtain ⟨b',rfl⟩:=hr _ _ dy
   cases d1.mono (ay e2 λ_ z=>z) with
   | box h=>
     obtain ⟨xs,g3,g4⟩:=h
     have:=g4.at key
     rw [hx] at this
     obtain ⟨pp,v,h1,h2,h3⟩:=this
     exact ⟨_,b',key,xs,pp,v,rfl,rfl,⟨aG _ _ g3,λz hz=>(g4.key z hz).mono aG⟩,dy.mono aG,h1,h2,kk v H2 (e1.trans e2) h3⟩
theorem oU (hu:X.A.units + 16 < cLine) (hk:PE X e (dE X.K C τ (.d (a.toD key)))) (hv:PE X f (dE X.K C τ (.d x))) (hr:∀ H v,Den X.K H v (a.toD key)->∃ b,v=.ref b):PE X (.Dict [some e] [f] pos) (dE X.K C τ (.x (exK a hd X.prog X.w [(key,x)]))):=
 peW (pV (a:=a) (hd:=hd) hu hk hv) λσ H Q ⟨A,H₀,B,S,kk⟩=>λp hp=>by
   have e0:=aj hp (dNk a hd X.prog X.w p [])
   have f0:Fr H (upd H p (dNk a hd X.prog X.w p [])) [p]:=λb hb=>by rw [List.mem_singleton.mp hb]; exact ⟨hp,_,aA⟩
   have S1:=S.hide e0 f0
   refine aM S1 λy H2 e2 dy=>aM (S1.mono e2) λv H3 e3 dv=>?_
   obtain ⟨b',rfl⟩:=hr _ _ dy
   have e03:=e2.trans e3
   have hp3:=e03 _ _ (aA (H:=H) (a:=p) (o:=dNk a hd X.prog X.w p []))
   have dy3:=dy.mono (ay e3 λ_ z=>z)
   refine ⟨b',key,rfl,hp3,dy3.mono aG,λu hu=>?_⟩
   have sm:ah (Hy.hd H3 (vw C (λb=>A b\/b ∈ [p]) B)) (Hy.hd (upd H3 p (dNk a hd X.prog X.w p (storedH [] key b' u))) λb=>vw C A B b\/b ∈ [p]):=λb o z=>by
     obtain ⟨z1,z2⟩:=ao.mp z
     have nh:¬ (vw C A B b\/b ∈ [p]):=λy=>z1 (v3 y)
     exact ao.mpr ⟨nh,by rw [au (λq=>nh (.inr (List.mem_singleton.mpr q)))]; exact z2⟩
   have hs:ah H (upd H3 p (dNk a hd X.prog X.w p (storedH [] key b' u))):=λb o z=>by
     have ne:b ≠ p:=λq=>by rw [q,hp] at z; cases z
     rw [au ne]
     exact e03 _ _ (e0 _ _ z)
   exact kk (.ref p) _ [p] hs (λb hb=>by rw [List.mem_singleton.mp hb]; exact ⟨hp,_,aA⟩) ⟨p,_,rfl,rfl,aA,_,rfl,(EnK.nil.put dy3 hu dv).mono sm⟩
end
end Hy
namespace Ev
open PySem PySem.Spec PyProof.Rows L2
open PySem.Builtin.Range (rangeFitsLong rangeSize)
noncomputable def gR (n:Int):Obj:={ cls:=.type "range_iterator",data:=.fields #[rawInt (0 + (rangeSize 0 n 1 - 1) * 1),rawInt (rangeSize 0 n 1),rawInt (-1)] }
theorem fits_of {i:Int} (h1:-(2 ^ 62)<=i) (h2:i<=2 ^ 62):rangeFitsLong i=true:=by
 unfold rangeFitsLong
 rw [Bool.and_eq_true,decide_eq_true_iff,decide_eq_true_iff]
 omega
theorem sr {n:Int} (h:0<=n):rangeSize 0 n 1=n:=by
 rw [rangeSize_one]
 split <;> omega
theorem yB {n:Int} (h0:0<=n) (h1:n < 2 ^ 62):(rangeFitsLong 0 && rangeFitsLong n && rangeFitsLong 1 && rangeFitsLong (-1) && rangeFitsLong (0 - 1) && rangeFitsLong (rangeSize 0 n 1))=true:=by
 rw [sr h0,fits_of (i:=n) (by omega) (by omega)]
 decide
theorem rl (r:Addr) (n:Int) (t u v:Tok) (hs:(rangeFitsLong 0 && rangeFitsLong n && rangeFitsLong 1 && rangeFitsLong (-1) && rangeFitsLong (0 - 1) && rangeFitsLong (rangeSize 0 n 1))=true) :
   Meets (Builtin.«range.__reversed__» ⟨[.ref r],[]⟩) (λ_ R s=>IsRange s.heap r 0 n 1 t u v/\R (.ok (.ret (Value.ref s.heap.objs.size))) { s with heap:=s.heap.push (gR n),toks:=s.toks }):=
 .of_wp λprog w A R s h=>by
   obtain ⟨hp,g,d,tk,os⟩:=s
   obtain ⟨hl,h⟩:=h
   have hs':(!(rangeFitsLong 0 && rangeFitsLong n && rangeFitsLong 1 && rangeFitsLong (-1) && rangeFitsLong (0 - 1) && rangeFitsLong (rangeSize 0 n 1)))=false:=by rw [hs]; rfl
   wp_walk
   rw [if_neg (by rw [hs]; decide),if_pos hs]
   exact wpAny_bind (wpAny_newObj_type (wpAny_pure ⟨_,rfl,h⟩))
section
variable {prog:Program} {w:World} {A:Around} {E:Value->Shared->Prop} {s:Shared}
theorem jY {r:Addr} {n:Int} {t u v:Tok} {Q:Value->Shared->Prop} (hr:IsRange s.heap r 0 n 1 t u v) (h0:0<=n) (h1:n < 2 ^ 62)
   (h:Q (.ref s.heap.objs.size) { s with heap:=s.heap.push (gR n) }):wpAny (model prog w) A (call (.builtin "range.__reversed__") [.ref r]) Q E s:=
 call_meets F.slot_range_reversed ⟨_,hr,rfl⟩ F.entry_range_reversed (F.args_range_reversed_1 _) (rl r n t u v (yB h0 h1)) ⟨hr,h⟩
theorem ma {r:Addr} {n:Int} {t u v:Tok} {Q₁:Value->Shared->Prop} (hr:IsRange s.heap r 0 n 1 t u v) (h0:0<=n) (h1:n < 2 ^ 62)
   (h:Q₁ (.ref s.heap.objs.size) { s with heap:=s.heap.push (gR n) }) :
   codeAny (model prog w) A (.call (.builtin "reversed.__new__") ⟨[.type "reversed",.ref r],[]⟩) (wants Q₁ E) s:=by
 have hT:s.TypeIs (.ref r) "range":=⟨_,hr,rfl⟩
 refine codeAny_of_tree ?_
 refine wpAny_bind (wpAny_of_eq (F.newCall_reversed_1 _) (wpAny_pure ⟨plainId_quiet F.plain_reversed_new _,codeAny_builtin F.entry_reversed_new ?_⟩))
 rw [Around.under_plainId F.plain_reversed_new _]
 unfold Builtin.«reversed.__new__»
 refine wpAny_bind (wpAny_of_eq (newClass_reversed _) ?_)
 try dsimp only
 refine wpAny_bind (wpAny_of_eq (a:=()) (by first | rfl | kernel_rfl) ?_)
 refine wpAny_bind (wpAny_of_eq (a:=()) (by first | rfl | kernel_rfl) ?_)
 try dsimp only
 refine wpAny_bind (wpAny_specialOf hT F.slot_range_reversed.lookup ?_)
 try dsimp only
 refine wpAny_bind (wpAny_of_eq (F.slot_range_reversed.bind _) ?_)
 try dsimp only
 first
 | rw [if_neg (show ¬ ((Value.builtin "range.__reversed__" == Value.none)=true) from Bool.false_ne_true)]
 | (show wpAny _ _ (if (Value.builtin "range.__reversed__" == Value.none)=true then _ else _) _ _ _; rw [if_neg (show ¬ ((Value.builtin "range.__reversed__" == Value.none)=true) from Bool.false_ne_true)])
 refine wpAny_bind (wpAny_rule ?_)
 refine wpAny_bind (m:=runValue (.call (.builtin "range.__reversed__") ⟨[.ref r],[]⟩)) (show wpAny _ _ (call (.builtin "range.__reversed__") [.ref r]) _ _ _ from jY hr h0 h1 ?_)
 first
 | exact wpAny_pure h
 | exact wpAny_bind (wpAny_pure (wpAny_pure h))
theorem iP:isSubtype (.type "range_iterator") (.type "reversed")=pure false:=by rw [isSubtype_type]; kernel_rfl
theorem jD {r:Addr} {n:Int} {t u v:Tok} {Q:Value->Shared->Prop} (hr:IsRange s.heap r 0 n 1 t u v) (h0:0<=n) (h1:n < 2 ^ 62)
   (h:Q (.ref s.heap.objs.size) { s with heap:=s.heap.push (gR n) }):wpAny (model prog w) A (call (.type "reversed") [.ref r]) Q E s:=by
 refine callType_other (U:="range_iterator") (Q₁:=λobj s₁=>obj=.ref s.heap.objs.size/\s₁={ s with heap:=s.heap.push (gR n) }) (by decide +kernel) F.create_reversed ⟨_,_,F.mro_reversed⟩ F.made_reversed iP (F.typeCall_reversed_1 _) (ma hr h0 h1 ⟨rfl,rfl⟩) ?_
 rintro obj s₁ ⟨rfl,rfl⟩
 exact ⟨⟨_,Heap.get?_push_size _ rfl,rfl⟩,h⟩
end
noncomputable def Itd (n:Nat):L2.It:=⟨λi _=>i < n,λi H x H'=>H'=H/\x=.int ((n:Int) - 1 - i),λi _=>n<=i⟩
theorem v7 {P:Program} {w:World} {K:PySem.W.Frag} {tg:Expr} (it:Addr) (n:Nat):Turn P w K false tg (Itd n) [it] it (λi h=>i<=n/\IsRangeIter h it ((n:Int) - 1 + (i:Nat) * (-1)) ((n:Int) - (i:Nat)) (-1)) where
 mem:=by simp
 obj:=λi h st b hb=>by
   have e:b=it:=by simpa using hb
   subst e
   exact ⟨_,st.2,λv z=>by
     have z':Data.fields _=Data.cell v:=z
     cases z'⟩
 keep:=λi h h' st k=>⟨st.1,k it (by simp) _ st.2⟩
 item:=by
   intro X hP hw hK hc i pins s σ H E I hf st hg
   subst hP hw hK
   obtain ⟨f0,f1,f2,f3,f4,f5⟩:=hf it (by simp)
   have W:=Walks.range (prog:=X.prog) (w:=X.w) (I.ok.hd hc.calm) it ((n:Int) - 1) (-1) n
   refine W.item i s _ _ hg st.2 λv h' tk hv st' kk=>?_
   obtain ⟨t,rfl⟩:=hv
   have I1:Inv X pins σ H { s with heap:=h',toks:=tk }:=I.turned (λb o hb e=>kk b o (by simpa using hb) e) f0 f1 f3 f4 f5
   refine ⟨_,rfl,k5 (s:={ s with heap:=h',toks:=tk }) (n:="range_iterator") st' rfl rfl (by decide) ⟨.int ((n:Int) - 1 - i),H,I1,⟨t,?_⟩,⟨rfl,rfl⟩,⟨hg,st'⟩,λb hb=>(hf b hb).1⟩⟩
   rw [Int.mul_neg,Int.mul_one,<- Int.sub_eq_add_neg]
 done:=by
   intro X hP hw hK hc i pins s σ H E I hf st hg
   subst hP hw hK
   obtain ⟨f0,f1,f2,f3,f4,f5⟩:=hf it (by simp)
   have hg:n<=i:=hg
   obtain rfl:i=n:=Nat.le_antisymm st.1 hg
   have W:=Walks.range (prog:=X.prog) (w:=X.w) (I.ok.hd hc.calm) it ((i:Int) - 1) (-1) i
   exact W.done s _ _ st.2 λh' tk kk=>⟨rfl,I.turned (λb o hb e=>kk b o (by simpa using hb) e) f0 f1 f3 f4 f5⟩
 self:=λ_ _ _ _ _ st h=>wpAny_pyIter_rangeiter st.2 h
section
variable {X:Cx} {tg:Expr}
noncomputable def iDn (ta:TA):TI:=λσ H R=>ta σ H λvs H1=>∃ n:Nat,vs=[.int n]/\n < 1000/\R (Itd n) H1
theorem xh {a:Expr} {ta:TA} {p p' pos pos':Pos} (hc:X.calm=true) (hg:Gl X "reversed") (hm:X.mg "reversed" = none) (hg':Gl X "range") (hm':X.mg "range" = none) (ha:PA X [a] ta) (hs':starEach [a] X.env=[(false,eval a X.env)]:=by rfl)
   (hs:starEach [.Call (.Name "range" p') [a] [] pos'] X.env=[(false,eval (.Call (.Name "range" p') [a] [] pos') X.env)]:=by rfl):PI X tg (.Call (.Name "reversed" p) [.Call (.Name "range" p') [a] [] pos'] [] pos) (iDn ta):=by
 intro pins s σ H R I h
 refine Call_ (eo I hg hm t4 (PyProof.Rows.callWith_type1 ?_ hs rfl))
 rw [hs]
 refine Calls.spliced_cons (Call_ (eo I hg' hm' boot_range (PyProof.Rows.callWith_type1 (thn (ha pos' pins s σ H _ I h) λus s1 ⟨vs,H1,I1,r1,n,e,hn,q⟩=>?_) hs' rfl)))
 subst e
 cases r1 with
 | cons r rr=>
   cases rr
   obtain ⟨t,rfl⟩:=r
   refine call_range_1 (Calls.spliced_nil ?_)
   have I2:Inv X pins σ H1 { s1 with heap:=s1.heap.push { cls:=.type "range",data:=.fields #[.int 0 s1.toks,.int n t,.int 1 (s1.toks + 1)] },toks:=s1.toks + 1 + 1 }:=I1.kept λb o e=>Heap.get?_push_of_some _ e
   refine jD (IsRange.new ..) (by omega) (by omega) ?_
   have z:rangeSize 0 (n:Int) 1=n:=sr (by omega)
   have st:(Heap.push (s1.heap.push { cls:=.type "range",data:=.fields #[.int 0 s1.toks,.int n t,.int 1 (s1.toks + 1)] }) (gR n)).get? (s1.heap.push { cls:=.type "range",data:=.fields #[.int 0 s1.toks,.int n t,.int 1 (s1.toks + 1)] }).objs.size=some (gR n):=Heap.get?_push_size _ rfl
   have st':IsRangeIter (Heap.push (s1.heap.push { cls:=.type "range",data:=.fields #[.int 0 s1.toks,.int n t,.int 1 (s1.toks + 1)] }) (gR n)) (s1.heap.push { cls:=.type "range",data:=.fields #[.int 0 s1.toks,.int n t,.int 1 (s1.toks + 1)] }).objs.size ((n:Int) - 1 + ((0:Nat):Int) * (-1)) ((n:Int) - ((0:Nat):Int)) (-1):=by
     unfold IsRangeIter
     rw [st,gR,z]
     congr 6
     all_goals (simp)
   refine wpAny_pyIter_rangeiter (x:=(n:Int) - 1 + ((0:Nat):Int) * (-1)) (left:=(n:Int) - ((0:Nat):Int)) (step:=-1) st' ?_
   refine ⟨false,_,[(s1.heap.push { cls:=.type "range",data:=.fields #[.int 0 s1.toks,.int n t,.int 1 (s1.toks + 1)] }).objs.size],_,_,H1,rfl,I2.kept (t':=s1.toks + 1 + 1) λb o e=>Heap.get?_push_of_some _ e,.inl hc,v7 _ n,⟨Nat.zero_le _,st'⟩,λb hb=>?_,q⟩
   have e:b=(s1.heap.push { cls:=.type "range",data:=.fields #[.int 0 s1.toks,.int n t,.int 1 (s1.toks + 1)] }).objs.size:=by simpa using hb
   subst e
   exact I2.ke (Nat.le_refl _) (I2.hok.fresh (Nat.le_refl _))
end
end Ev
namespace Ev
open PySem PySem.Spec PyProof.Rows L2
noncomputable def bu (kv:List (Int × Int)):List (Key × V):=kv.map λp=>(.inl p.1,.int p.2)
noncomputable def Itk (a:Addr) (o:Obj) (kv:List (Int × Int)):L2.It:=
 ⟨λi H=>i < kv.length/\H a=some (.frz o (.dK (bu kv))),λi H x H'=>H'=H/\∃ p,kv[i]?=some p/\x=.int p.1,λi H=>kv.length<=i/\H a=some (.frz o (.dK (bu kv)))⟩
theorem lg {X:Cx} {pins:List (Addr × Obj)} {σ:L2.St} {H:Hp} {s:Shared} {a:Addr} {o:Obj} {kvs:List (Key × V)} {es:Array DictEntry} {ep:Nat} (I:Inv X pins σ H s) (h:H a=some (.frz o (.dK kvs))) (hd:o.data=.dict es ep) :
   ∃ vs,KV kvs vs/\s.heap.DictAt (a8 X.prog X.w) a vs ep:=by
 obtain ⟨e,_,_,vs,rel,o',es',ep',e',r⟩:=(show bf X.prog X.w H s.heap a (.frz o (.dK kvs)) from I.hok a _ h)
 rw [e] at e'; cases e'
 have z:=r.2.1
 rw [hd] at z
 injection z with z1 z2
 subst z1 z2
 exact ⟨vs,rel,o,es,e,r⟩
theorem rh {P:Program} {w:World} {K:PySem.W.Frag} {tg:Expr} (a it:Addr) (o:Obj) (kv:List (Int × Int)) (es:Array DictEntry) (ep:Nat) (hd:o.data=.dict es ep) :
   Turn P w K false tg (Itk a o kv) [it] it (λi h=>i<=kv.length/\h.IsKeyIter it a i kv.length ep) where
 mem:=by simp
 obj:=λi h st b hb=>by
   have e:b=it:=by simpa using hb
   subst e
   obtain ⟨o,e,c,d⟩:=st.2
   exact ⟨o,e,λv z=>by rw [d] at z; cases z⟩
 keep:=λi h h' st k=>⟨st.1,st.2.at λo e=>k it (by simp) o e⟩
 item:=by
   intro X hP hw hK hc i pins s σ H E I hf st hg
   subst hP hw hK
   obtain ⟨hi,ha⟩:=hg
   obtain ⟨f0,f1,f2,f3,f4,f5⟩:=hf it (by simp)
   obtain ⟨vs,rel,dd⟩:=lg I ha hd
   have hl:kv.length=vs.length:=by rw [<- rel.length,bu,List.length_map]
   have st2:=st.2
   rw [hl] at st2
   have hx:vs[i]?=some vs[i]:=by simp [show i < vs.length by omega]
   have kk:=congrArg (λl=>l[i]?) rel.keys
   simp only [bu,List.map_map,List.getElem?_map,hx,List.getElem?_eq_getElem hi,Option.map_some,Function.comp] at kk
   have kk:=Option.some.inj kk
   refine wpAny_pyNext_dict_item st2 dd hx λkey h' hk st' sb=>?_
   have hk:(a8 X.prog X.w).is (Sum.inl kv[i].fst) key=true:=by rw [kk]; exact hk
   obtain ⟨t,rfl⟩:=Value.isInt_shape (show Value.isInt _ key=true from hk)
   have I1:Inv X pins σ H { s with heap:=h' }:=I.turned (t':=s.toks) (λb o hb e=>(sb.2 b hb).trans e) f0 f1 f3 f4 f5
   obtain ⟨o',e,c,d⟩:=id st'
   refine ⟨_,rfl,k5 (s:={ s with heap:=h' }) e c d (by decide) ⟨.int kv[i].1,H,I1,⟨t,rfl⟩,⟨rfl,_,List.getElem?_eq_getElem hi,rfl⟩,⟨hi,by rw [hl]; exact st'⟩,λb hb=>(hf b hb).1⟩⟩
 done:=by
   intro X hP hw hK hc i pins s σ H E I hf st hg
   subst hP hw hK
   obtain ⟨hi,ha⟩:=hg
   obtain ⟨f0,f1,f2,f3,f4,f5⟩:=hf it (by simp)
   obtain ⟨vs,rel,dd⟩:=lg I ha hd
   have hl:kv.length=vs.length:=by rw [<- rel.length,bu,List.length_map]
   have st2:=st.2
   rw [hl] at st2
   exact wpAny_pyNext_dict_end (I.ok.hd hc.calm) st2 dd (List.getElem?_eq_none (by omega)) λh' eb=>⟨rfl,I.turned (t':=s.toks) (λb o hb e=>eb b o hb e) f0 f1 f3 f4 f5⟩
 self:=λ_ _ _ _ _ st h=>wpAny_pyIter_keyiter st.2 h
section
variable {X:Cx} {tg:Expr}
noncomputable def uH (tl:TE):TI:=λσ H R=>tl σ H λx H1=>∃ a o kv,x=.ref a/\H1 a=some (.frz o (.dK (bu kv)))/\R (Itk a o kv) H1
theorem nS {l:Expr} {tl:TE} (hc:X.calm=true) (hl:PE X l tl):PI X tg l (uH tl):=by
 intro pins s σ H R I h
 refine thn (hl pins s σ H _ I h) λu s1 ⟨x,H1,I1,r1,a,o,kv,ex,ha,q⟩=>?_
 subst ex
 cases r1
 obtain ⟨e,ok⟩:=(show bf X.prog X.w H1 s1.heap a (.frz o (.dK (bu kv))) from I1.hok a _ ha)
 obtain ⟨z,hd,vs,rel,o',es,ep,e',r⟩:=ok
 rw [e] at e'
 cases e'
 refine wpAny_pyIter_dict hd (show s1.heap.DictAt (a8 X.prog X.w) a vs ep from ⟨o,es,e,r⟩) ?_
 have hv:vs.length=kv.length:=by rw [<- rel.length,bu,List.length_map]
 refine ⟨false,s1.heap.objs.size,[s1.heap.objs.size],_,_,H1,rfl,I1.kept (t':=s1.toks) λb o e=>Heap.get?_push_of_some _ e,.inl hc,rh a _ o kv es ep r.2.1,⟨Nat.zero_le _,?_⟩,λb hb=>?_,q⟩
 · rw [<- hv]
   exact ⟨_,Heap.get?_push_size _ rfl,rfl,rfl⟩
 · have e:b=s1.heap.objs.size:=by simpa using hb
   subst e
   exact I1.ke (Nat.le_refl _) (I1.hok.fresh (Nat.le_refl _))
end
end Ev
namespace Hy
open PySem PySem.Spec PyProof.Rows L2
open Ev (D Den av Bx aj bu Itk uH nS Itd iDn xh)
noncomputable def eG (kv:List (Int × Int)) (k v:Int):List (Int × Int):=
 if (kv.any λp=>decide (p.1=k))=true then kv.map (λp=>if p.1=k then (p.1,v) else p) else kv++[(k,v)]
noncomputable def ba (kv:List (Int × Int)) (k:Int):Option Int:=(kv.find? λp=>decide (p.1=k)).map (·.2)
theorem wk (kv:List (Int × Int)) (k:Int):((bu kv).any λp=>decide (p.1=.inl k))=kv.any λp=>decide (p.1=k):=by
 unfold bu
 rw [List.any_map]
 congr 1
 funext p
 simp
theorem pR (kv:List (Int × Int)) (k v:Int):putK (bu kv) (.inl k) (.int v)=bu (eG kv k v):=by
 unfold putK eG
 rw [wk]
 by_cases h:(kv.any λp=>decide (p.1=k))=true
 · rw [if_pos h,if_pos h]
   unfold bu
   rw [List.map_map,List.map_map]
   refine List.map_congr_left λp _=>?_
   simp only [Function.comp]
   by_cases z:p.1=k
   · rw [if_pos (congrArg Sum.inl z),if_pos z]
   · rw [if_neg (λy=>z (Sum.inl.inj y)),if_neg z]
 · rw [if_neg h,if_neg h]
   unfold bu
   rw [List.map_append]
   rfl
theorem gD:∀ (kv:List (Int × Int)) (k:Int),d8 (bu kv) (.inl k)=(ba kv k).map V.int
 | [],_=>rfl
 | p :: r,k=>by
   unfold ba
   by_cases z:p.1=k
   · rw [List.find?_cons_of_pos (by simp [z])]
     exact bD (p:=(Sum.inl p.1,V.int p.2)) (congrArg Sum.inl z)
   · rw [List.find?_cons_of_neg (by simp [z])]
     exact (bC (p:=(Sum.inl p.1,V.int p.2)) (λy=>z (Sum.inl.inj y))).trans (gD r k)
theorem vJ (kv:List (Int × Int)) (k v:Int):(eG kv k v).length<=kv.length + 1:=by
 unfold eG
 split
 · rw [List.length_map]; omega
 · rw [List.length_append,List.length_cons,List.length_nil]; omega
noncomputable def exZ (m:List (Int × Int)):Ex where
 p:=λ_ _ o _=>o=.dK (bu m)
 mono:=λ_ h=>h
 ext:=λh=>.inr (.inr ⟨_,.inl h⟩)
noncomputable def exF (ob:Obj) (m:List (Int × Int)):Ex where
 p:=λ_ _ o _=>o=.frz ob (.dK (bu m))
 mono:=λ_ h=>h
 ext:=λh=>.inr (.inr ⟨_,.inr ⟨_,h⟩⟩)
noncomputable def bxZ (m:List (Int × Int)):Bx where
 p:=λ_ H d=>∃ o,H d=some (.frz o (.dK (bu m)))
 mono:=λe ⟨o,h⟩=>⟨o,e _ _ h⟩
 isd:=λ⟨o,h⟩=>⟨_,h,λP w H' h z=>by
   obtain ⟨_,_,_,vs,_,ob,_,_,z1,z2,_⟩:=z
   exact ⟨ob,z1,z2.1⟩⟩
section
variable {K:PySem.W.Frag} {A:Addr->Prop} {H₀ H:Hp} {τ:List Sl} {B:Nat->List Addr} {σ:L2.St} {m:List (Int × Int)} {i:Nat}
theorem Sta.dz (S:Sta K A H₀ τ B σ H) (hi:τ[i]?=some (.x (exZ m))):∃ d,(σ[i]?).join=some (.ref d)/\B i=[d]/\H d=some (.dK (bu m)):=by
 obtain ⟨d,o,h1,h2,h3,h4⟩:=S.sl i _ hi
 cases (show o=_ from h4)
 exact ⟨d,h2,h1,h3⟩
theorem Sta.fzF {ob:Obj} (S:Sta K A H₀ τ B σ H) (hi:τ[i]?=some (.x (exF ob m))):Sta K A H₀ (τ.set i (.d (.box (bxZ m)))) (upB B i []) σ H:=
 S.less (λ_ z=>nomatch z) λG g hv=>by
   obtain ⟨d,o,h1,h2,h3,h4⟩:=S.sl i _ hi
   cases (show o=_ from h4)
   exact ⟨rfl,_,h2,.box ⟨ob,hv d _ (by rw [h1]; exact List.mem_singleton.mpr rfl) (λz=>nomatch z) h3⟩⟩
end
section
variable {X:Cx} {C:Bool} {τ:List Sl} {x y:D} {a b e f o ix tg:Expr} {pos p q apos cpos sp:Pos} {k:Nat} {N:Po} {rest:List Stmt} {m:List (Int × Int)} {key v n:Int}
theorem wW {xs:List D} {n:Nat} (h:xs.length=n):iS X (.builtin "len") [.lst xs] (.d (.int n)):=h ▸ iA
theorem cS {n:Str}:j8 (.Name n p):=λ_ _=>rfl
theorem my {op:Operator}:j8 (.BinOp a op b p):=λ_ _=>rfl
theorem sA:PE X (.Dict [] [] pos) (dE X.K C τ (.x (exZ []))):=peW tZ λσ H Q ⟨A,H₀,B,S,k⟩=>λp hp=>k (.ref p) _ [p] (aj hp _) (λb hb=>by rw [List.mem_singleton.mp hb]; exact ⟨hp,_,aA⟩) ⟨p,_,rfl,rfl,aA,rfl⟩
theorem uc {j l:Nat}:PE X (.Dict [some (.Constant (.int key) j p)] [.Constant (.int v) l q] pos) (dE X.K C τ (.x (exZ [(key,v)]))):=peW (vz (tU pq pq w5) rfl rfl (by simp) (by show (1:Nat)<=15; decide)) λσ H Q ⟨A,H₀,B,S,k⟩=>λp hp=>by
 refine ⟨aA,[(.inl key,.int v)],rfl,(by show (1:Nat)<=15; decide),?_⟩
 have e:upd (upd H p (.dK [])) p (.dK (hR [] [(Sum.inl key,V.int v)]))=upd H p (.dK (bu [(key,v)])):=by
   funext b
   unfold upd
   split <;> rfl
 rw [e]
 exact k (.ref p) _ [p] (aj hp _) (λb hb=>by rw [List.mem_singleton.mp hb]; exact ⟨hp,_,aA⟩) ⟨p,_,rfl,rfl,aA,rfl⟩
theorem uE (i:Nat) (h:PSs X rest (dS X.K (τ.set i (.d (.box (bxZ m)))) N)) (hi:τ[i]?=some (.x (exZ m)):=by rfl):PSs X rest (dS X.K τ N):=by
 intro pins s σ H D I ⟨A,H₀,B,S,Me⟩
 obtain ⟨d,h1,h2,h3⟩:=S.dz hi
 obtain ⟨z,hd,vs,rel,dd⟩:=qf I.hok h3
 obtain ⟨o,es,ep,e,r⟩:=id dd
 have I2:Inv X pins σ (upd H d (.frz o (.dK (bu m)))) s:=eA (t':=s.toks) (h':=s.heap) I (by rw [h3]; exact True.intro) (.refl _ _) ⟨o,e⟩ ⟨e,k9 z hd rel dd⟩
 have hl:=(List.getElem?_eq_some_iff.mp hi).1
 have S2:=S.vU (E':=exF o m) hi h2 rfl
 have S3:=S2.fzF (ob:=o) (m:=m) (List.getElem?_set_self hl)
 rw [List.set_set] at S3
 exact h pins s σ _ D I2 ⟨A,H₀,_,S3,Me⟩
theorem oR (hu:X.A.units + 1 < cLine) (hb:PE X b (dE X.K C τ (.d (.box (bxZ m))))) (hk:PE X ix (dE X.K C τ (.d (.int key)))) (hx:ba m key=some v) (hs:j8 ix):PE X (.Subscript b ix pos) (dE X.K C τ (.d (.int v))):=
 peW (wt hu hb hk hs) λσ H Q q=>by
   obtain ⟨A,H₀,B,S,kk⟩:=df q
   refine aM S λu H1 e1 d1=>aM (S.mono e1) λy H2 e2 dy=>?_
   cases dy
   cases d1.mono (ay e2 λ_ z=>z) with
   | box h=>
     obtain ⟨o,g⟩:=h
     exact ⟨_,.int v,rfl,⟨_,.inl key,.inr ⟨o,aG _ _ g⟩,rfl,by rw [gD,hx]; rfl⟩,kk _ H2 (e1.trans e2) .int⟩
theorem qC (i:Nat) {nm:Str} (hu:X.A.units + 1 < cLine) (hi:τ[i]?=some (.x (exZ m))) (hk:PE X e (dE X.K false τ (.d (.int key)))) (hx:PE X f (dE X.K false τ (.d (.int v)))) (m2:M2 X (.Name nm p) "get" apos e f cpos:=by exact ⟨rfl,rfl,rfl,rfl⟩) (hN:X.N[i]?=some nm:=by rfl)
   (hv:Vis X.env.scope nm:=by first | exact Or.inl rfl | exact Or.inr (Or.inl rfl) | exact Or.inr (Or.inr rfl)) (hd1:(nm == ("__debug__" : Str))=false:=by decide) (hcd:(nm == ("__classdict__" : Str))=false:=by decide):PE X (.Call (.Attribute (.Name nm p) "get" apos) [e,f] [] cpos) (dE X.K C τ (.d (.int ((ba m key).getD v)))):=
 peW (uf hu (bG (i:=i) hN hv hd1 hcd) hk hx m2) λσ H Q q=>by
   obtain ⟨A,H₀,B,S,kk⟩:=df q
   obtain ⟨d,h1,h2,h3⟩:=S.dz hi
   refine ⟨_,slot_of h1,d,rfl,⟨_,.inl h3⟩,aM S λy H2 e2 dy=>aM (S.mono e2) λz H3 e3 dz=>?_⟩
   cases dy
   cases dz
   refine ⟨_,⟨_,.inl key,.inl ((e2.trans e3) _ _ h3),rfl,rfl⟩,?_⟩
   have e:(d8 (bu m) (.inl key)).getD (.int v)=V.int ((ba m key).getD v):=by rw [gD]; cases ba m key <;> rfl
   rw [e]
   exact kk _ H3 (e2.trans e3) .int
theorem uZ (i:Nat) {nm:Str} (hu:X.A.units + 1 < cLine) (hi:τ[i]?=some (.x (exZ m))) (hk:PE X ix (dE X.K true τ (.d (.int key)))) (he:PE X e (dE X.K true τ (.d (.int v)))) (hl:m.length < sizeLine)
   (hn:PSs X rest (dS X.K (τ.set i (.x (exZ (eG m key v)))) N)) (hN:X.N[i]?=some nm:=by rfl)
   (hv:Vis X.env.scope nm:=by first | exact Or.inl rfl | exact Or.inr (Or.inl rfl) | exact Or.inr (Or.inr rfl)) (hd1:(nm == ("__debug__" : Str))=false:=by decide) (hcd:(nm == ("__classdict__" : Str))=false:=by decide)
   (hs:swapsWith e (some (.Subscript (.Name nm p) ix sp)) pos.line X.env=pure false:=by rfl):PSs X (.Assign [.Subscript (.Name nm p) ix sp] e pos :: rest) (dS X.K τ N):=
 a4 (M:=(·=τ.set i (.x (exZ (eG m key v))))) (psW (vN hu (bG (i:=i) hN hv hd1 hcd) hk he hs) λD σ H ⟨A,H₀,B,S,Me⟩=>aM S λu H1 e1 d1=>by
   cases d1
   have S1:=S.mono e1
   obtain ⟨d,g1,_⟩:=S1.dz hi
   refine ⟨_,slot_of g1,aM S1 λy H2 e2 dy=>?_⟩
   cases dy
   have S2:=S1.mono e2
   obtain ⟨d',h1,h2,h3⟩:=S2.dz hi
   rw [g1] at h1
   cases h1
   refine ⟨d,_,rfl,⟨_,.inl key,h3,rfl,by unfold bu; rw [List.length_map]; exact hl,rfl⟩,?_⟩
   rw [pR]
   exact Me.nx _ _ _ _ rfl (S2.vU hi h2 rfl)) λ_ e=>e ▸ hn
theorem qQ (h:PE X e (dE X.K true τ (.d (.box (bxZ m))))) (hc:X.calm=true:=by first | rfl | assumption):PI X tg e (dI X.K τ (m.map λp=>.int p.1)):=piW (nS hc h) λσ H R ⟨A,H₀,B,S,k⟩=>aM S λv H1 e1 d1=>by
 cases d1 with
 | box h=>
   obtain ⟨o,g⟩:=h
   refine ⟨_,o,m,rfl,aG _ _ g,k _ H1 e1 λH2 sg=>⟨λi hi=>⟨by simpa using hi,sg _ _ g⟩,λi hi=>⟨⟨by simpa using hi,sg _ _ g⟩,λx H' ⟨eH,p,hp,ex⟩=>?_⟩⟩⟩
   subst eH ex
   refine ⟨ah.refl _,λM _ _=>?_⟩
   have hi':i < m.length:=by simpa using hi
   rw [List.getElem?_eq_getElem hi'] at hp
   cases hp
   rw [List.getElem_map]
   exact .int
theorem qL {m:List (Int × Int)}:∀ i (h:i < (m.map λp=>D.int p.1).length),(m.map λp=>D.int p.1)[i]=.int (m.getD i (0,0)).1:=λi h=>by
 have:i < m.length:=by simpa using h
 simp [this]
noncomputable def dnD (n:Nat):List D:=(List.range n).map λi:Nat=>.int ((n:Int) - 1 - (i:Int))
theorem dY (n:Nat):(dnD n).length=n:=by simp [dnD]
theorem zY {n:Nat}:∀ i (h:i < (dnD n).length),(dnD n)[i]=.int ((n - 1 - i:Nat):Int):=λi h=>by
 rw [dY] at h
 simp only [dnD,List.getElem_map,List.getElem_range]
 congr 1
 omega
theorem AZ {n:Nat} {p' pos':Pos} (B:Bk X k) (h:PE X a (dE X.K false τ (.d (.int n)))) (hn:n < 1000) (hg:Gl X "reversed":=by rfl) (hg':Gl X "range":=by rfl) (hs':starEach [a] X.env=[(false,eval a X.env)]:=by rfl)
   (hs:starEach [.Call (.Name "range" p') [a] [] pos'] X.env=[(false,eval (.Call (.Name "range" p') [a] [] pos') X.env)]:=by rfl):PI X tg (.Call (.Name "reversed" p) [.Call (.Name "range" p') [a] [] pos'] [] pos) (dI X.K τ (dnD n)):=
 piW (xh B.calm hg (B.blt _ (by decide)) hg' (B.blt _ (by decide)) (ab h af hs') hs' hs) λσ H R ⟨A,H₀,B,S,k⟩=>fQ S λvs H1 e1 d1=>by
   cases d1 with
   | cons d r=>
     cases r
     cases d
     refine ⟨n,rfl,hn,k _ H1 e1 λH2 sg=>⟨λi hi=>by rw [dY] at hi; exact hi,λi hi=>⟨by rw [dY] at hi; exact hi,λx H' ⟨eH,ex⟩=>?_⟩⟩⟩
     subst eH ex
     refine ⟨ah.refl _,λM _ _=>?_⟩
     simp only [dnD,List.getElem_map,List.getElem_range]
     exact .int
end
end Hy
namespace Hy
open PySem PySem.Spec PyProof.Rows L2
open Ev (D Den av aj aF fo dF PTs cE eU)
section
variable {X:Cx}
end
section
variable {X:Cx} {C:Bool} {τ:List Sl} {e it:Expr} {pos p q p2 pos2 tp ip vp rp ap cp p1:Pos} {k:Nat} {N:Po} {rest:List Stmt} {scope:Scope}
theorem sj {α β:Type} (g:α->β):∀ (xs:List α) (i:Nat),(xs.eraseIdx i).map g=(xs.map g).eraseIdx i
 | [],_=>rfl
 | _ :: _,0=>rfl
 | x :: xs,i + 1=>by rw [List.map_cons,List.eraseIdx_cons_succ,List.eraseIdx_cons_succ,List.map_cons,sj g xs i]
end
end Hy
namespace Hy
open PySem PySem.Spec PyProof.Rows L2
open Ev (D Den av aj)
theorem kN {K:PySem.W.Frag} {H:Hp}:∀ {vs:List V} {ds:List D} (j:Nat),av K H vs ds->av K H (vs.eraseIdx j) (ds.eraseIdx j)
 | _,_,_,.nil=>.nil
 | _,_,0,.cons _ r=>r
 | _,_,j + 1,.cons h r=>.cons h (kN j r)
theorem pP {K:PySem.W.Frag} {H:Hp} {v:V} {x:D} (h:Den K H v x):∀ {vs:List V} {ds:List D} (j:Nat),av K H vs ds->av K H (vs.insertIdx j v) (ds.insertIdx j x)
 | _,_,0,r=>.cons h r
 | _,_,_ + 1,.nil=>.nil
 | _,_,j + 1,.cons h1 r=>.cons h1 (pP h j r)
section
variable {X:Cx} {τ:List Sl} {a b:Expr} {pos p q:Pos} {N:Po} {rest:List Stmt}
theorem Ao (i:Nat) {n:Str} {xs:List D} {ap cp ap2 cp2:Pos} {k j:Nat} (x:D) (ha:PE X a (dE X.K false τ (.d (.int (k:Nat))))) (hb:PE X b (dE X.K false τ (.d (.int (j:Nat))))) (hj:xs[j]?=some x) (hk:k < xs.length) (hl:xs.length < 1000000) (hr:PSs X rest (dS X.K (τ.set i (.o ((xs.eraseIdx j).insertIdx k x))) N)) (hi:τ[i]?=some (.o xs):=by rfl) (hN:X.N[i]?=some n:=by rfl)
   (hv:Vis X.env.scope n:=by first | exact Or.inl rfl | exact Or.inr (Or.inl rfl) | exact Or.inr (Or.inr rfl)) (hd:(n == ("__debug__" : Str))=false:=by decide) (hcd:(n == ("__classdict__" : Str))=false:=by decide)
   (hfew:((backTo cp (starEach [a,.Call (.Attribute (.Name n q) "pop" ap2) [b] [] cp2] X.env)).all (λx=>!x.1) && (backToKw cp (keywordEach [] X.env)).all (λx=>x.1.isSome) && decide (([a,.Call (.Attribute (.Name n q) "pop" ap2) [b] [] cp2]:List Expr).length + ([]:List Keyword).length + (if ([]:List Keyword).isEmpty then 0 else 1) < 30))=true:=by rfl)
   (hline:(ap.endLine == cp.line)=true:=by rfl) (hst:starEach [a,.Call (.Attribute (.Name n q) "pop" ap2) [b] [] cp2] X.env=(false,eval a X.env) :: starEach [.Call (.Attribute (.Name n q) "pop" ap2) [b] [] cp2] X.env:=by rfl)
   (hst2:starEach [.Call (.Attribute (.Name n q) "pop" ap2) [b] [] cp2] X.env=(false,eval (.Call (.Attribute (.Name n q) "pop" ap2) [b] [] cp2) X.env) :: starEach [] X.env:=by rfl) (hpl:(backTo cp (starEach [.Call (.Attribute (.Name n q) "pop" ap2) [b] [] cp2] X.env)).any (·.1)=false:=by rfl)
   (hs:swapsWith (.Call (.Attribute (.Name n p) "insert" ap) [a,.Call (.Attribute (.Name n q) "pop" ap2) [b] [] cp2] [] cp) none pos.line X.env=pure false:=by rfl) (hbase:attributeBase (.Name n p) "insert" X.env (eval (.Name n p) X.env)=eval (.Name n p) X.env:=by rfl)
   (hfew2:((backTo cp2 (starEach [b] X.env)).all (λx=>!x.1) && (backToKw cp2 (keywordEach [] X.env)).all (λx=>x.1.isSome) && decide (([b]:List Expr).length + ([]:List Keyword).length + (if ([]:List Keyword).isEmpty then 0 else 1) < 30))=true:=by rfl) (hline2:(ap2.endLine == cp2.line)=true:=by rfl)
   (hst3:starEach [b] X.env=(false,eval b X.env) :: starEach [] X.env:=by rfl) (hpl2:(backTo cp2 (starEach [] X.env)).any (·.1)=false:=by rfl) (hbase2:attributeBase (.Name n q) "pop" X.env (eval (.Name n q) X.env)=eval (.Name n q) X.env:=by rfl) :
   PSs X (.Expr (.Call (.Attribute (.Name n p) "insert" ap) [a,.Call (.Attribute (.Name n q) "pop" ap2) [b] [] cp2] [] cp) pos :: rest) (dS X.K τ N):=
 a4 (M:=(·=τ.set i (.o ((xs.eraseIdx j).insertIdx k x)))) (psW (fF (kG PySem.F.plainAttrs_list PySem.F.slot_list_insert PySem.F.type_list_insert rZ (bG hN hv hd hcd)
     (bI ha (bI (kG PySem.F.plainAttrs_list PySem.F.slot_list_pop PySem.F.type_list_pop sD (bG hN hv hd hcd) (bI hb dh hst3) hbase2 hfew2 hline2 hst3 hpl2) dh hst2) hst) hbase hfew hline hst hpl) hs) λDn σ H ⟨A,H₀,B,S,Me⟩=>by
   obtain ⟨l,vs,hbb,e1,e2,d⟩:=S.sl i _ hi
   have hjl:j < xs.length:=(List.getElem?_eq_some_iff.mp hj).1
   refine ⟨_,slot_of e1,.inl ⟨rfl,_,SqL.of e2⟩,aM S λw1 H1 f1 g1=>?_⟩
   cases g1
   have S1:=S.mono f1
   refine ⟨_,slot_of e1,.inl ⟨rfl,_,SqL.of (f1 _ _ e2)⟩,aM S1 λw2 H2 f2 g2=>?_⟩
   cases g2
   have S2:=S1.mono f2
   obtain ⟨l',vs',hb',e1',e2',d'⟩:=S2.sl i _ hi
   rw [e1] at e1'
   cases e1'
   have hln:=d'.length
   obtain ⟨v,hv1,dv⟩:=d'.get hj
   refine ⟨l,vs',(j:Int),j,v,rfl,rfl,e2',by omega,by omega,PySem.StrLaws.seqIndex_nonneg (by omega) (by omega),hv1,?_⟩
   have hel:(vs'.eraseIdx j).length=xs.length - 1:=by rw [List.length_eraseIdx_of_lt (by omega),hln]
   refine ⟨l,vs'.eraseIdx j,(k:Int),v,rfl,rfl,aA,by omega,by rw [Int.toNat_natCast]; omega,by rw [hel]; have:sizeLine > 1000000:=(by decide); omega,?_⟩
   rw [Int.toNat_natCast]
   have eu:upd (upd H2 l (.lst (vs'.eraseIdx j))) l (.lst ((vs'.eraseIdx j).insertIdx k v))=upd H2 l (.lst ((vs'.eraseIdx j).insertIdx k v)):=by
     funext z
     unfold upd
     split <;> rfl
   rw [eu]
   exact Me.nx _ _ _ _ rfl (S2.put hi hb' (pP dv k (kN j d')))) λ_ e=>e ▸ hr
end
end Hy
namespace Ev
open PySem PySem.Spec PyProof.Rows L2
section
variable {X:Cx} {o e f g:Expr} {pos apos cpos:Pos} {td te tf tg:TE}
end
section
variable {X:Cx} {tg l:Expr} {tl:TE}
end
end Ev
namespace Hy
open PySem PySem.Spec PyProof.Rows L2
open Ev (D Den av aj)
section
variable {X:Cx} {C:Bool} {τ:List Sl} {o e f g a b:Expr} {pos apos cpos p p2:Pos} {z w v:Str} {k:Nat} {xs:List D}
end
end Hy
namespace Tx
open PySem
noncomputable def inj (c:Nat):List (List Nat)->List Nat
 | []=>[]
 | [a]=>a
 | a :: b :: r=>a++c :: inj c (b :: r)
noncomputable def cs (x:Str):List Nat:=x.cps.toList
noncomputable def ch (c:Nat):Str:=⟨#[c]⟩
end Tx
namespace Hx
open PySem PySem.Spec PyProof.Rows L2
section
variable {X:Cx} {body:List Stmt} {h0:ExceptHandler} {hs:List ExceptHandler} {pos:Pos} {t:TS}
end
end Hx
namespace Hy
open PySem PySem.Spec PyProof.Rows L2
end Hy
namespace Hy
open PySem PySem.Spec PyProof.Rows L2
open Ev (D Den av aj aX aN)
section
variable {X:Cx} {C:Bool} {τ:List Sl} {a b e e1 e2 e3 o:Expr} {pos p p2 tp:Pos} {k:Nat} {x x1 x2 x3:D} {N:Po} {rest:List Stmt}
theorem tj {lo hi:Option Expr} {l u:Option Int} {xs:List D} (ha:PE X a (dE X.K C τ (.d (.tup xs)))) (hl:PO X lo (dO X.K τ l)) (hu:PO X hi (dO X.K τ u)) (hw:¬ (HT.sIx xs.length 0 l=0/\HT.sIx xs.length xs.length u=xs.length)):PE X (.Subscript a (.Slice lo hi none p2) pos) (dE X.K C τ (.d (.tup (cutD xs l u)))):=
 peW (mV xR ha hl hu) λσ H Q q=>by
   obtain ⟨A,H₀,B,S,k⟩:=df q
   exact aM S λv H1 e1 d1=>⟨A,H₀,B,S.mono e1,λH2 e2=>⟨A,H₀,B,(S.mono e1).mono e2,λH3 e3=>by
     cases d1 with
     | @tup _ ws _ h r=>
       have h:=aX (e2.trans e3) (aX aG h)
       have r:=r.mono (ay (e2.trans e3) λ_ z=>z)
       refine ⟨_,_,rfl,h,by rw [r.length]; exact hw,λp hp=>?_⟩
       have r':av X.K (hd H3 (vw C A B)) (jt ws l u) (cutD xs l u):=by
         unfold jt cutD
         rw [r.length]
         exact (r.drop _).take _
       have hM:=(((S.mono e1).mono e2).mono e3).vd (C:=C)
       have e4:=aj hp (.tup (jt ws l u))
       exact k _ _ ((e1.trans (e2.trans e3)).trans e4) (.tup (SqT.of (jM hM hp)) (r'.mono (ay e4 λ_ z=>z)))⟩⟩
theorem jz {K:PySem.W.Frag} {G H:Hp}:∀ {vs:List V} {bs:List Addr} {ds:List D},aK K G H vs bs (ds.map .d)->av K G vs ds/\bs=[]
 | _,_,[],h=>by cases h; exact ⟨.nil,rfl⟩
 | _,_,x :: ds,h=>by
   rw [List.map_cons] at h
   cases h with
   | cons h r=>
     cases h with
     | d h=>
       obtain ⟨d1,rfl⟩:=jz r
       exact ⟨.cons h d1,rfl⟩
theorem oT {i:Nat} {pt:List Nat} {t:Nd} {ds:List D} {m:Int} {j:Nat} {ix:Expr} {sp:Pos} (ho:PE X o (dP X.K τ i pt)) (hx:PE X ix (dE X.K false τ (.d (.int m)))) (he:PE X e (dE X.K true τ (.d x))) (hi:τ[i]?=some (.n t)) (hp:eF pt t=some (.l (ds.map .d))) (hj:ixN ds.length m=some j)
   (hr:PSs X rest (dS X.K (τ.set i (.n (cN pt t (.l ((ds.set j x).map .d))))) N))
   (hs:swapsWithSole [.Subscript o ix sp] e pos.line X.env=pure false:=by rfl) (hw:swappedStores [.Subscript o ix sp] e X.env=pure none:=by rfl) (h1:(assignEach [.Subscript o ix sp] X.env).map (·.2)=[assign (.Subscript o ix sp) X.env]:=by rfl)
   (ha:∀ v,assign (.Subscript o ix sp) X.env v=(do
     let ov <- holding [v] (eval o X.env)
     let iv <- holding [v,ov] (eval ix X.env)
     standAt sp
     holding [v,ov,iv] (setItem ov iv v)
     release [v,ov,iv] []):=by intro _; rfl) :
   PSs X (.Assign [.Subscript o ix sp] e pos :: rest) (dS X.K τ N):=
 a4 (M:=(·=τ.set i (.n (cN pt t (.l ((ds.set j x).map .d)))))) (psW (oK he (sk ho hx set_list ha) hs hw h1) λD σ H ⟨A,H₀,B,S,Me⟩=>aM S λv H1 e1 d1=>by
   refine ⟨A,H₀,B,S.mono e1,λu w H2 eu e2 pv=>aM ((S.mono e1).mono e2) λy H3 e3 d3=>?_⟩
   have S3:=((S.mono e1).mono e2).mono e3
   obtain ⟨u',l,vs,bs0,eu',pv',hH,r0,nd0,hal,hown,put⟩:=S3.putN hi hp
   rw [eu] at eu'
   cases eu'
   obtain rfl:=(pv.mono e3).det pv'
   cases d3
   obtain ⟨dl,rfl⟩:=jz r0
   refine ⟨l,vs,m,j,rfl,rfl,hH,by rw [dl.length]; exact hj,?_⟩
   have sm:ah (hd H3 (own A B)) (hd (upd H3 l (.lst (vs.set j v))) λb=>own A B b\/b ∈ ([]:List Addr)):=λb o z=>by
     obtain ⟨z1,z2⟩:=ao.mp z
     exact ao.mpr ⟨(λy=>y.elim z1 λy=>(nomatch y)),by rw [au (λy:b=l=>z1 (by rw [y]; exact hal))]; exact z2⟩
   obtain ⟨B',S'⟩:=put (H1:=H3) (vs':=vs.set j v) (bs1:=[]) (xs':=(ds.set j x).map .d) (ah.refl _) List.nodup_nil (λ_ z=>nomatch z) (pf ((l6 j dl (d1.mono (ay (e2.trans e3) λ_ z=>z))).mono sm))
   exact Me.nx _ B' _ _ rfl S') λ_ e=>e ▸ hr
end
section
variable {X:Cx} {τ τ1 τ2:List Sl} {x y z:D} {a b e o ix:Expr} {es:List Expr} {pos p q:Pos} {l:Nat} {s:Sl} {N:Po} {st:Stmt} {body rest:List Stmt} {i j k:Nat} {t c:Nd} {pt:List Nat} {xs:List Nd} {m:Nat} {ds:List D}
theorem ej (h:PE X e (dE X.K false τ (.d x))):PE X e (dEJ X.K τ i j k x):=peW h λσ H Q ⟨A,H₀,B,S,_,q⟩=>aM S λv H' e d=>q v H' e d
end
section
variable {X:Cx} {τ τ1 τ2:List Sl} {x y z:D} {a b e o ix:Expr} {pos p q:Pos} {l:Nat} {N:Po} {st:Stmt} {body rest:List Stmt} {i j k:Nat} {t c:Nd} {pt:List Nat} {ds:List D}
end
section
variable {K:PySem.W.Frag} {G H:Hp}
end
section
variable {X:Cx} {τ:List Sl} {ia ia2 ib ib2:Expr} {N:Po} {rest:List Stmt} {xs:List Nd} {xa xb:Nd}
end
section
variable {X:Cx} {τ:List Sl} {e2:Expr} {N:Po} {rest:List Stmt} {pos p tp:Pos} {x2:D} {t:Nd}
theorem yU (i:Nat) {n:Str} {md} (h2:PE X e2 (dE X.K true τ (.d x2))) (h:N.rt (.n (.t [t,.d x2]))) (hi:τ[i]?=some (.n t):=by rfl) (hN:X.N[i]?=some n:=by rfl)
   (hv:Vis X.env.scope n:=by first | exact Or.inl rfl | exact Or.inr (Or.inl rfl) | exact Or.inr (Or.inr rfl)) (hd1:(n == ("__debug__" : Str))=false:=by decide) (hcd:(n == ("__classdict__" : Str))=false:=by decide)
   (s1:starEach [.Name n p,e2] X.env=(false,eval (.Name n p) X.env) :: starEach [e2] X.env:=by rfl) (s2:starEach [e2] X.env=(false,eval e2 X.env) :: starEach [] X.env:=by rfl) :
   PSs X (.Return (some (.Tuple [.Name n p,e2] md tp)) pos :: rest) (dS X.K τ N):=
 a4 (M:=λ_=>False) (psW (oj (tS (bI (bG (i:=i) hN hv hd1 hcd) (bI h2 dh s2) s1))) λD σ H ⟨A,H₀,B,S,Me⟩=>by
   obtain ⟨_,u,eu,_⟩:=S.sl i _ hi
   refine ⟨_,slot_of eu,aM S λv2 H2 e2 d2=>⟨(show 2<=sizeLine by decide),λp hp=>?_⟩⟩
   have S2:=S.mono e2
   obtain ⟨nd,u',eu',ok⟩:=S2.sl i _ hi
   rw [eu] at eu'
   cases eu'
   have low:ah (hd H2 (own A B)) (hd H2 λb=>A b\/b ∈ B i):=ay (ah.refl _) λb z=>z.elim .inl λz=>.inr ⟨i,z⟩
   have nds:aK X.K (hd H2 λb=>A b\/b ∈ B i) H2 [u,v2] (B i) [t,.d x2]:=by
     have:=aK.cons (ok.frame low λ_ _=>rfl) (.cons (b1:=[]) (b2:=[]) (.d (d2.mono low)) .nil)
     rw [List.append_nil,List.append_nil] at this
     exact this
   obtain ⟨z1,z2⟩:=xY (o:=.tup [u,v2]) hp nds nd
   refine Me.rt (.ref p) _ (p :: B i) _ h (S2.same.trans (aj hp _)) (λb hb'=>?_) ⟨z2,_,rfl,.t aA z1⟩
   rcases List.mem_cons.mp hb' with w | w
   · subst w; exact ⟨S2.same.free hp,_,aA⟩
   · obtain ⟨o,w2⟩:=S2.bd i b w
     exact ⟨S2.fr i b w,o,aj hp _ _ _ w2⟩) λ_ e=>e.elim
end
section
variable {P:Program} {w:World} {K:PySem.W.Frag} {mg:Str->Option Value} {base:Heap}
end
section
variable {X:Cx} {τ:List Sl} {es:List Expr} {pos p q pr:Pos} {k:Nat} {s:Sl} {ds:List D} {N:Po} {rest:List Stmt}
end
section
variable {K:PySem.W.Frag} {A:Addr->Prop} {H₀ H:Hp} {τ:List Sl} {B:Nat->List Addr} {σ:L2.St}
theorem Sta.Am {i j:Nat} {xs:List Nd} {s:Sl} {c:Nd} (S:Sta K A H₀ τ B σ H) (hij:i ≠ j) (hi:τ[i]?=some (.n (.l xs))) (hj:τ[j]?=some s) (hc:mw s=some c) :
   ∃ a vs w,(σ[i]?).join=some (.ref a)/\H a=some (.lst vs)/\vs.length=xs.length/\(σ[j]?).join=some w/\∃ B',Sta K A H₀ ((τ.set i (.n (.l (xs++[c])))).set j .un) B' σ (upd H a (.lst (vs++[w]))):=by
 obtain ⟨nd,u,eu,ok⟩:=S.sl i _ hi
 have q:=S.sl j s hj
 obtain ⟨w,ew⟩:∃ w,(σ[j]?).join=some w:=by
   cases s with
   | un=>cases hc
   | d x=>obtain ⟨_,u,e,_⟩:=q; exact ⟨u,e⟩
   | o xs=>obtain ⟨_,_,_,e,_⟩:=q; exact ⟨_,e⟩
   | n t=>obtain ⟨_,u,e,_⟩:=q; exact ⟨u,e⟩
   | x E=>cases hc
 rw [ew] at q
 obtain ⟨q1,q2⟩:=q.nd hc
 generalize hBi:B i=bi at nd ok
 cases ok with
 | @l a vs bs0 _ hH r0=>
   have hlj:=(List.getElem?_eq_some_iff.mp hj).1
   have hli:=(List.getElem?_eq_some_iff.mp hi).1
   have mi:∀ b,b=a\/b ∈ bs0->b ∈ B i:=λb hb=>by
     rw [hBi]
     rcases hb with z | z
     · rw [z]; exact List.mem_cons_self ..
     · exact List.mem_cons_of_mem _ z
   have dj:∀ b,b ∈ B i->b ∉ B j:=λb h1 h2=>hij (S.uq i j b h1 h2)
   have ha:own A B a:=.inr ⟨i,mi a (.inl rfl)⟩
   have mem:∀ k b,b ∈ upB (upB B i (a :: (bs0++B j))) j [] k->(k=i/\(b ∈ B i\/b ∈ B j))\/(k ≠ i/\k ≠ j/\b ∈ B k):=λk b z=>by
     rcases aY z with ⟨_,z⟩ | ⟨hk,z⟩
     · exact nomatch z
     · rcases aY z with ⟨h1,z⟩ | ⟨h1,z⟩
       · refine .inl ⟨h1,?_⟩
         rcases List.mem_cons.mp z with z | z
         · exact .inl (mi b (.inl z))
         · exact (List.mem_append.mp z).elim (λy=>.inl (mi b (.inr y))) .inr
       · exact .inr ⟨h1,hk,z⟩
   have sub:∀ b,own A (upB (upB B i (a :: (bs0++B j))) j []) b->own A B b:=λb z=>by
     rcases z with z | ⟨k,z⟩
     · exact .inl z
     · rcases mem k b z with ⟨_,z | z⟩ | ⟨_,_,z⟩
       · exact .inr ⟨i,z⟩
       · exact .inr ⟨j,z⟩
       · exact .inr ⟨k,z⟩
   have sm:ah (hd H (own A B)) (hd (upd H a (.lst (vs++[w]))) (own A (upB (upB B i (a :: (bs0++B j))) j []))):=λb o z=>by
     obtain ⟨z1,z2⟩:=ao.mp z
     exact ao.mpr ⟨λy=>z1 (sub b y),by rw [au λe:b=a=>z1 (e ▸ ha)]; exact z2⟩
   have f0:H₀ a=none:=S.fr i a (mi a (.inl rfl))
   have na:a ∉ bs0:=(List.nodup_cons.mp nd).1
   have eBi:upB (upB B i (a :: (bs0++B j))) j [] i=a :: (bs0++B j):=by
     unfold upB
     rw [if_neg hij,if_pos rfl]
   have eBj:upB (upB B i (a :: (bs0++B j))) j [] j=[]:=by
     unfold upB
     rw [if_pos rfl]
   refine ⟨a,vs,w,eu,hH,r0.length,ew,upB (upB B i (a :: (bs0++B j))) j [],?_⟩
   refine ⟨λb o z=>by rw [au λe:b=a=>by rw [e,f0] at z; cases z]; exact S.same b o z,by rw [List.length_set,List.length_set,S.len],λk t hk=>?_,λk b hb=>?_,λk l b h1 h2=>?_,S.ad,λk b hb=>?_⟩
   · by_cases ej:k=j
     · subst ej
       rw [List.getElem?_set_self (by rw [List.length_set]; exact hlj)] at hk
       cases hk
       exact eBj
     · rw [List.getElem?_set_ne λz=>ej z.symm] at hk
       by_cases ei:k=i
       · subst ei
         rw [List.getElem?_set_self hli] at hk
         cases hk
         rw [eBi]
         refine ⟨List.nodup_cons.mpr ⟨λz=>?_,List.nodup_append.mpr ⟨(List.nodup_cons.mp nd).2,q2,λx hx y hy e=>dj x (mi x (.inr hx)) (e ▸ hy)⟩⟩,_,eu,.l aA (aK.snoc (q1.frame sm λb hb=>au λe:b=a=>dj a (mi a (.inl rfl)) (e ▸ hb)) (r0.frame sm λb hb=>au λe:b=a=>na (e ▸ hb)))⟩
         exact (List.mem_append.mp z).elim na λy=>dj a (mi a (.inl rfl)) y
       · rw [List.getElem?_set_ne λz=>ei z.symm] at hk
         have eBk:upB (upB B i (a :: (bs0++B j))) j [] k=B k:=by
           unfold upB
           rw [if_neg ej,if_neg ei]
         rw [eBk]
         exact bU.frame sm (λb hb=>au λe:b=a=>ei (S.uq k i a (e ▸ hb) (mi a (.inl rfl)))) (S.sl k t hk)
   · rcases mem k b hb with ⟨_,z | z⟩ | ⟨_,_,z⟩
     · exact S.fr i b z
     · exact S.fr j b z
     · exact S.fr k b z
   · rcases mem k b h1 with ⟨e1,z⟩ | ⟨e1,e1',z⟩
     · rcases mem l b h2 with ⟨e2,y⟩ | ⟨e2,e2',y⟩
       · rw [e1,e2]
       · rcases z with z | z
         · exact absurd (S.uq l i b y z) e2
         · exact absurd (S.uq l j b y z) e2'
     · rcases mem l b h2 with ⟨e2,y⟩ | ⟨e2,e2',y⟩
       · rcases y with y | y
         · exact absurd (S.uq k i b z y) e1
         · exact absurd (S.uq k j b z y) e1'
       · exact S.uq k l b z y
   · by_cases e:b=a
     · subst e; exact ⟨_,aA⟩
     · rw [au e]
       rcases mem k b hb with ⟨_,z | z⟩ | ⟨_,_,z⟩
       · exact S.bd i b z
       · exact S.bd j b z
       · exact S.bd k b z
end
section
variable {X:Cx} {τ:List Sl} {N:Po} {rest:List Stmt} {xs:List Nd} {pos p p2:Pos} {s:Sl} {c:Nd}
theorem yQ (i j:Nat) {n m:Str} {ap cp:Pos} (hl:xs.length < 1000000) (hr:PSs X rest (dS X.K ((τ.set i (.n (.l (xs++[c])))).set j .un) N)) (hi:τ[i]?=some (.n (.l xs)):=by rfl) (hj:τ[j]?=some s:=by rfl) (hc:mw s=some c:=by rfl) (hij:i ≠ j:=by decide) (hN:X.N[i]?=some n:=by rfl) (hM:X.N[j]?=some m:=by rfl)
   (hv:Vis X.env.scope n:=by first | exact Or.inl rfl | exact Or.inr (Or.inl rfl) | exact Or.inr (Or.inr rfl)) (hd:(n == ("__debug__" : Str))=false:=by decide) (hcd:(n == ("__classdict__" : Str))=false:=by decide)
   (hv':Vis X.env.scope m:=by first | exact Or.inl rfl | exact Or.inr (Or.inl rfl) | exact Or.inr (Or.inr rfl)) (hd':(m == ("__debug__" : Str))=false:=by decide) (hcd':(m == ("__classdict__" : Str))=false:=by decide)
   (hfew:((backTo cp (starEach [.Name m p2] X.env)).all (λx=>!x.1) && (backToKw cp (keywordEach [] X.env)).all (λx=>x.1.isSome) && decide (([.Name m p2]:List Expr).length + ([]:List Keyword).length + (if ([]:List Keyword).isEmpty then 0 else 1) < 30))=true:=by rfl)
   (hline:(ap.endLine == cp.line)=true:=by rfl) (hst:starEach [.Name m p2] X.env=(false,eval (.Name m p2) X.env) :: starEach [] X.env:=by rfl) (hpl:(backTo cp (starEach [] X.env)).any (·.1)=false:=by rfl)
   (hs:swapsWith (.Call (.Attribute (.Name n p) "append" ap) [.Name m p2] [] cp) none pos.line X.env=pure false:=by rfl) (hbase:attributeBase (.Name n p) "append" X.env (eval (.Name n p) X.env)=eval (.Name n p) X.env:=by rfl) :
   PSs X (.Expr (.Call (.Attribute (.Name n p) "append" ap) [.Name m p2] [] cp) pos :: rest) (dS X.K τ N):=
 a4 (M:=(·=(τ.set i (.n (.l (xs++[c])))).set j .un)) (psW (fF (kG PySem.F.plainAttrs_list PySem.F.slot_list_append PySem.F.type_list_append dD (bG hN hv hd hcd) (bI (bG hM hv' hd' hcd') dh hst) hbase hfew hline hst hpl) hs) λD σ H ⟨A,H₀,B,S,Me⟩=>by
   obtain ⟨a,vs,w,eu,hH,ln,ew,B',S'⟩:=S.Am hij hi hj hc
   exact ⟨_,slot_of eu,.inl ⟨rfl,_,SqL.of hH⟩,w,slot_of ew,a,vs,w,rfl,rfl,hH,by rw [ln]; exact Nat.lt_trans hl (by decide),Me.nx _ _ _ _ rfl S'⟩) λ_ e=>e ▸ hr
end
end Hy
namespace Ev
open PySem PySem.Spec PyProof.Rows L2
section
variable {prog:Program} {w:World} {A:Around} {E:Value->Shared->Prop} {s:Shared} {d it:Addr} {o:Obj} {es:Array DictEntry} {ep i:Nat}
theorem qO {Q:Value->Shared->Prop} (hd:(d == sysModules)=false) (ho:s.heap.get? d=some o) (hx:o.ExactDict) (hdat:o.data=.dict es ep)
   (hQ:Q (.ref s.heap.objs.size) { s with heap:=s.heap.push { cls:=.type "dict_keyiterator",data:=.fields #[.ref d,.int 0 0,.int es.size 0,.int ep 0] } }):wpAny (model prog w) A (pyIter (.ref d)) Q E s:=by
 have hT:s.TypeIs (.ref d) "dict":=⟨o,ho,hx.1⟩
 refine wpAny_pyIter_slot hT PySem.F.slot_dict_iter (wpAny_call_entry PySem.F.slot_dict_iter hT PySem.F.entry_dict_iter ?_ (PySem.F.args_dict_iter_1 _))
 unfold Builtin.«dict.__iter__»
 refine wpAny_bind ?_
 unfold Builtin.Dict.dictSlotNone
 refine wpAny_bind (wpAny_notOrdered_dict hT (wpAny_pure ?_))
 show wpAny _ _ (Builtin.Dict.showsAll d >>= _) _ _ s
 unfold Builtin.Dict.showsAll
 rw [if_neg (by rw [hd]; exact Bool.false_ne_true)]
 refine wpAny_bind (wpAny_pure (wpAny_bind (wpAny_dictEntries ho hdat (wpAny_bind (wpAny_dictEpoch ho hdat ?_)))))
 refine wpAny_bind (wpAny_newObj_type (wpAny_pure ⟨_,rfl,"dict_keyiterator",_,⟨_,Heap.get?_push_size _ rfl,rfl⟩,PySem.F.slot_dict_keyiterator_next.lookup,?_⟩))
 simpa [rawInt] using hQ
theorem tw:Builtin.Dict_items.ownsTuple "dict_keyiterator" = false:=by decide
theorem pT {Q:Option Value->Shared->Prop} (hit:s.heap.IsKeyIter it d i es.size ep) (ho:s.heap.get? d=some o) (hdat:o.data=.dict es ep) (hlt:i < es.size)
   (hQ:∀ h',h'.IsKeyIter it d (i + 1) es.size ep->Heap.SameBut it s.heap h'->Q (some es[i].key) { s with heap:=h' }):wpAny (model prog w) A (pyNext (.ref it)) Q E s:=by
 obtain ⟨oi,hoi,hc,hdi⟩:=id hit
 unfold pyNext
 refine wpAny_bind (wpAny_attempt (wpAny_callSpecial?_slot (name:=Str.ofString "__next__") hit.typeIs PySem.F.slot_dict_keyiterator_next (wpAny_call_entry PySem.F.slot_dict_keyiterator_next hit.typeIs PySem.F.entry_dict_keyiterator_next ?_ (PySem.F.args_dict_keyiterator_next_1 _))))
 refine wpAny_bind (wpAny_pure (wpAny_bind (wpAny_bind ?_)))
 first | refine wpAny_bind (wpAny_typeNameOfWhole_keyiter hit.typeIs (wpAny_pure ?_)) | refine wpAny_bind (wpAny_typeNameOf_keyiter hit.typeIs (wpAny_pure ?_))
 refine wpAny_bind (wpAny_fieldsOf hoi hdi ?_)
 simp only [tw,Bool.false_eq_true,if_false]
 show wpAny _ _ (if (Value.ref d == Value.none)=true then _ else _) _ _ s
 rw [if_neg (show ¬ ((Value.ref d == Value.none)=true) from Bool.false_ne_true)]
 refine wpAny_bind (wpAny_pure (wpAny_bind (wpAny_dictEntries ho hdat ?_)))
 rw [if_neg (by simp)]
 refine wpAny_bind (wpAny_pure (wpAny_bind (wpAny_dictEpoch ho hdat ?_)))
 rw [if_neg (by simp)]
 refine wpAny_pure ?_
 simp only [show ¬ ((i:Int) < 0) from by omega,if_false,Int.toNat_natCast,Array.getElem?_eq_getElem hlt]
 refine wpAny_bind ?_
 first | refine wpAny_bind (wpAny_typeNameOfWhole_keyiter hit.typeIs (wpAny_pure ?_)) | refine wpAny_bind (wpAny_typeNameOf_keyiter hit.typeIs (wpAny_pure ?_))
 refine wpAny_bind (wpAny_isOneOf_keyiter hit.typeIs ?_)
 show wpAny _ _ (setField (.ref it) 1 (rawInt ((i:Int) + 1)) >>= _) _ _ s
 refine wpAny_bind (wpAny_setField hoi hdi (by simp) ?_)
 have hit':(s.heap.update it (Obj.mapFields (·.setIfInBounds 1 (rawInt ((i:Int) + 1))))).IsKeyIter it d (i + 1) es.size ep:=
   ⟨_,Heap.get?_update_self _ hoi (Obj.isFreed_of_fields (Obj.data_mapFields hdi _)),(Obj.cls_mapFields ..).trans hc,by rw [Obj.data_mapFields hdi]; simp [rawInt]⟩
 refine wpAny_bind (wpAny_holding ?_)
 refine wpAny_bind (wpAny_isOneOf_keyiter (s:={ s with heap:=s.heap.update it (Obj.mapFields (·.setIfInBounds 1 (rawInt ((i:Int) + 1)))) }) hit'.typeIs ?_)
 show wpAny _ _ (pure es[i].key) _ _ _
 exact wpAny_pure (wpAny_pure ⟨_,rfl,wpAny_pure (hQ _ hit' (Heap.SameBut.update ..))⟩)
theorem uV {Q:Option Value->Shared->Prop} (hh:A.handled=none) (hit:s.heap.IsKeyIter it d i es.size ep) (ho:s.heap.get? d=some o) (hdat:o.data=.dict es ep) (hge:es.size<=i)
   (hQ:∀ h',Heap.ExtBut it s.heap h'->Q none { s with heap:=h' }):wpAny (model prog w) A (pyNext (.ref it)) Q E s:=by
 obtain ⟨oi,hoi,hc,hdi⟩:=id hit
 unfold pyNext
 refine wpAny_bind (wpAny_attempt (wpAny_callSpecial?_slot (name:=Str.ofString "__next__") hit.typeIs PySem.F.slot_dict_keyiterator_next (wpAny_call_entry PySem.F.slot_dict_keyiterator_next hit.typeIs PySem.F.entry_dict_keyiterator_next ?_ (PySem.F.args_dict_keyiterator_next_1 _))))
 refine wpAny_bind (wpAny_pure (wpAny_bind (wpAny_bind ?_)))
 first | refine wpAny_bind (wpAny_typeNameOfWhole_keyiter hit.typeIs (wpAny_pure ?_)) | refine wpAny_bind (wpAny_typeNameOf_keyiter hit.typeIs (wpAny_pure ?_))
 refine wpAny_bind (wpAny_fieldsOf hoi hdi ?_)
 simp only [tw,Bool.false_eq_true,if_false]
 show wpAny _ _ (if (Value.ref d == Value.none)=true then _ else _) _ _ s
 rw [if_neg (show ¬ ((Value.ref d == Value.none)=true) from Bool.false_ne_true)]
 refine wpAny_bind (wpAny_pure (wpAny_bind (wpAny_dictEntries ho hdat ?_)))
 rw [if_neg (by simp)]
 refine wpAny_bind (wpAny_pure (wpAny_bind (wpAny_dictEpoch ho hdat ?_)))
 rw [if_neg (by simp)]
 refine wpAny_pure ?_
 simp only [show ¬ ((i:Int) < 0) from by omega,if_false,Int.toNat_natCast,Array.getElem?_eq_none hge]
 refine wpAny_bind ?_
 first | refine wpAny_bind (wpAny_typeNameOfWhole_keyiter hit.typeIs (wpAny_pure ?_)) | refine wpAny_bind (wpAny_typeNameOf_keyiter hit.typeIs (wpAny_pure ?_))
 show wpAny _ _ (setField (.ref it) 0 .none >>= _) _ _ s
 refine wpAny_bind (wpAny_setField hoi hdi (by simp) ?_)
 show wpAny _ _ (newExc (.type "StopIteration") [] >>= _) _ _ _
 refine wpAny_bind ?_
 simp only [newExc,newTuple]
 refine wpAny_bind (wpAny_newObj_type ?_ (by size_fits))
 refine wpAny_bind (m:=firstArgMember _ _) (wpAny_of_eq (a:=Value.none) (by first | rfl | (simp only [firstArgMember]; rfl)) ?_)
 refine wpAny_newObj_type ?_ (by size_fits)
 simp only [raiseNew]
 refine wpAny_bind (wpAny_handled ?_)
 rw [show A.in1.handled=none from hh]
 refine wpAny_bind (wpAny_pure (wpAny_throw ?_))
 refine wpAny_bind (wpAny_isInstance (T:="StopIteration") (b:=true) ⟨_,Heap.get?_push_size _ rfl,rfl⟩ isSubtype_stop ?_)
 exact wpAny_pure (hQ _ (((Heap.SameBut.update ..).extBut.push _).push _))
end
section
variable {K:Type} [DecidableEq K] {a:KD K} {hd:a.dep<=7} {X:Cx} {pins:List (Addr × Obj)} {σ:L2.St} {H:Hp} {s:Shared} {d:Addr} {xs:NEs K} {ob:Obj}
theorem uv (I:Inv X pins σ H s) (h:H d=some (.frz ob (dNk a hd X.prog X.w d xs))):(d == sysModules)=false/\∃ es ep,s.heap.get? d=some ob/\ob.ExactDict/\ob.data=.dict es ep/\es.toList=xs.map (entryOfKey (kd a hd X.prog X.w))/\(xs.map (·.1)).Nodup:=by
 obtain ⟨e,⟨h0,o,es,ep,h1,h2⟩,_⟩:=(show bf X.prog X.w H s.heap d (.frz ob (dNk a hd X.prog X.w d xs)) from I.hok d _ h)
 rw [e] at h1
 cases h1
 exact ⟨h0,es,ep,e,h2⟩
noncomputable def Itw (a:KD K) (hd:a.dep<=7) (P:Program) (w:World) (d:Addr) (ob:Obj) (xs:NEs K):L2.It:=
 ⟨λi H=>i < xs.length/\H d=some (.frz ob (dNk a hd P w d xs)),λi H x H'=>H'=H/\∃ p,xs[i]?=some p/\x=.ref p.2.1,λi H=>xs.length<=i/\H d=some (.frz ob (dNk a hd P w d xs))⟩
theorem wc {P:Program} {w:World} {F:PySem.W.Frag} {tg:Expr} (it:Addr) (es:Array DictEntry) (ep:Nat) (hdat:ob.data=.dict es ep) :
   Turn P w F false tg (Itw a hd P w d ob xs) [it] it (λi h=>i<=xs.length/\h.IsKeyIter it d i xs.length ep) where
 mem:=by simp
 obj:=λi h st b hb=>by
   have e:b=it:=by simpa using hb
   subst e
   obtain ⟨o,e,c,d⟩:=st.2
   exact ⟨o,e,λv z=>by rw [d] at z; cases z⟩
 keep:=λi h h' st k=>⟨st.1,st.2.at λo e=>k it (by simp) o e⟩
 item:=by
   intro X hP hw hK hc i pins s σ H E I hf st hg
   subst hP hw hK
   obtain ⟨hi,ha⟩:=hg
   obtain ⟨f0,f1,f2,f3,f4,f5⟩:=hf it (by simp)
   obtain ⟨_,es',ep',g1,_,g3,g4,_⟩:=uv I ha
   rw [hdat] at g3
   injection g3 with z1 z2
   subst z1 z2
   have hl:es.size=xs.length:=by rw [<- Array.length_toList,g4,List.length_map]
   have st2:=st.2
   rw [<- hl] at st2
   have hie:i < es.size:=by omega
   have hk:es[i].key=.ref (xs[i]).2.1:=by
     have e:es.toList[i]?=some (entryOfKey (kd a hd X.prog X.w) xs[i]):=by rw [g4,List.getElem?_map,List.getElem?_eq_getElem hi]; rfl
     rw [Array.getElem?_toList,Array.getElem?_eq_getElem hie] at e
     rw [Option.some.inj e]
     rfl
   refine pT st2 g1 hdat hie λh' st' sb=>?_
   have I1:Inv X pins σ H { s with heap:=h' }:=I.turned (t':=s.toks) (λb o hb e=>(sb.2 b hb).trans e) f0 f1 f3 f4 f5
   obtain ⟨o',e,c,dd⟩:=id st'
   rw [hk]
   refine ⟨_,rfl,k5 (s:={ s with heap:=h' }) e c dd (by decide) ⟨.ref (xs[i]).2.1,H,I1,rfl,⟨rfl,_,List.getElem?_eq_getElem hi,rfl⟩,⟨hi,by rw [<- hl]; exact st'⟩,λb hb=>(hf b hb).1⟩⟩
 done:=by
   intro X hP hw hK hc i pins s σ H E I hf st hg
   subst hP hw hK
   obtain ⟨hi,ha⟩:=hg
   obtain ⟨f0,f1,f2,f3,f4,f5⟩:=hf it (by simp)
   obtain ⟨_,es',ep',g1,_,g3,g4,_⟩:=uv I ha
   rw [hdat] at g3
   injection g3 with z1 z2
   subst z1 z2
   have hl:es.size=xs.length:=by rw [<- Array.length_toList,g4,List.length_map]
   have st2:=st.2
   rw [<- hl] at st2
   exact uV (I.ok.hd hc.calm) st2 g1 hdat (by omega) λh' eb=>⟨rfl,I.turned (t':=s.toks) (λb o hb e=>eb b o hb e) f0 f1 f3 f4 f5⟩
 self:=λ_ _ _ _ _ st h=>wpAny_pyIter_keyiter st.2 h
end
section
variable {K:Type} [DecidableEq K] {a:KD K} {hd:a.dep<=7} {X:Cx} {tg l o i:Expr} {tl td ty:TE} {pos:Pos}
noncomputable def y8 (a:KD K) (hd:a.dep<=7) (P:Program) (w:World) (tl:TE):TI:=λσ H R=>tl σ H λx H1=>∃ d ob xs,x=.ref d/\H1 d=some (.frz ob (dNk a hd P w d xs))/\R (Itw a hd P w d ob xs) H1
theorem nU (hc:X.calm=true) (hl:PE X l tl):PI X tg l (y8 a hd X.prog X.w tl):=by
 intro pins s σ H R I h
 refine thn (hl pins s σ H _ I h) λu s1 ⟨x,H1,I1,r1,d,ob,xs,ex,ha,q⟩=>?_
 subst ex
 cases r1
 obtain ⟨h0,es,ep,g1,g2,g3,g4,_⟩:=uv I1 ha
 have hl:es.size=xs.length:=by rw [<- Array.length_toList,g4,List.length_map]
 refine qO h0 g1 g2 g3 ?_
 refine ⟨false,s1.heap.objs.size,[s1.heap.objs.size],_,_,H1,rfl,I1.kept (t':=s1.toks) λb o e=>Heap.get?_push_of_some _ e,.inl hc,wc (xs:=xs) _ es ep g3,⟨Nat.zero_le _,?_⟩,λb hb=>?_,q⟩
 · rw [<- hl]
   exact ⟨_,Heap.get?_push_size _ rfl,rfl,rfl⟩
 · have e:b=s1.heap.objs.size:=by simpa using hb
   subst e
   exact I1.ke (Nat.le_refl _) (I1.hok.fresh (Nat.le_refl _))
noncomputable def Ay (a:KD K) (hd:a.dep<=7) (P:Program) (w:World) (F:PySem.W.Frag) (td ty:TE):TE:=λσ H Q=>td σ H λx H1=>ty σ H1 λy H2=>∃ d ob b k xs p v,x=.ref d/\y=.ref b/\H2 d=some (.frz ob (dNk a hd P w d xs))/\(∀ x ∈ xs,Den F H2 (.ref x.2.1) (a.toD x.1))/\Den F H2 (.ref b) (a.toD k)/\atKey xs k=some p/\RelV v p.2/\Q v H2
theorem pQ (hu:X.A.units + 16 < cLine) (ho:PE X o td) (hi:PE X i ty) (hs:j8 i):PE X (.Subscript o i pos) (Ay a hd X.prog X.w X.K td ty):=by
 intro pins s σ H Q I h
 refine k8 PySem.F.slot_dict_getitem.lookup hs (thn (ho pins s σ H _ I h) λu s1 ⟨x,H1,I1,rx,q1⟩=>thn (hi pins s1 σ H1 _ I1 q1) λiv s2 ⟨y,H2,I2,ry,d,ob,b,k,xs,p,v,ex,ey,ha,hk,g,hp,rv,q2⟩=>?_)
 subst ex ey
 obtain rfl:u=Value.ref d:=rx
 obtain rfl:iv=Value.ref b:=ry
 obtain ⟨_,es,ep,g1,g2,g3,g4,g5⟩:=uv I2 ha
 have dd:s2.heap.DictOfH (kd a hd X.prog X.w) d xs:=⟨ob,es,ep,g1,g2,g3,g4,λx hx=>key_is I2 (hk x hx),g5⟩
 exact ⟨dd.typeIs,wpAny_getItem_heap (show X.A.units + 1 + 8 < cLine by omega) (key_is I2 g) dd hp ⟨v,H2,I2.tok _,rv,q2⟩⟩
end
end Ev
namespace Hy
open PySem PySem.Spec PyProof.Rows L2
open Ev (D Den av KD NEs dNk fR Bx aj uv Itw nU pQ)
section
variable {K:Type} [DecidableEq K] {a:KD K} {hd:a.dep<=7} {X:Cx} {C:Bool} {τ:List Sl} {x y:D} {b e f o ix tg:Expr} {pos p q apos cpos:Pos} {k:Nat} {N:Po} {rest:List Stmt} {m:List (K × D)} {key:K}
noncomputable def bxW (a:KD K) (hd:a.dep<=7) (P:Program) (w:World) (m:List (K × D)):Bx where
 p:=λF H d=>∃ ob xs,H d=some (.frz ob (dNk a hd P w d xs))/\EnK a F H xs m
 mono:=λe ⟨ob,xs,h1,h2⟩=>⟨ob,xs,e _ _ h1,h2.mono e⟩
 isd:=λ{_ _ d} ⟨ob,xs,h1,_⟩=>⟨_,h1,λP w H' h z=>let ⟨_,o,_,_,z1,z2,_⟩:=z.2.1; ⟨o,z1,z2.1⟩⟩
noncomputable def exW (a:KD K) (hd:a.dep<=7) (P:Program) (w:World) (ob:Obj) (m:List (K × D)):Ex where
 p:=λF G o p=>∃ xs,o=.frz ob (dNk a hd P w p xs)/\EnK a F G xs m
 mono:=λe ⟨xs,h1,h2⟩=>⟨xs,h1,h2.mono e⟩
 ext:=λ⟨xs,h1,_⟩=>.inr (.inl ⟨_,_,h1⟩)
theorem Sta.fzW {F:PySem.W.Frag} {P:Program} {w:World} {A:Addr->Prop} {H₀ H:Hp} {B:Nat->List Addr} {σ:L2.St} {i:Nat} {ob:Obj} (S:Sta F A H₀ τ B σ H) (hi:τ[i]?=some (.x (exW a hd P w ob m))):Sta F A H₀ (τ.set i (.d (.box (bxW a hd P w m)))) (upB B i []) σ H:=
 S.less (λ_ z=>nomatch z) λG g hv=>by
   obtain ⟨d,o,h1,h2,h3,xs,h4,h5⟩:=S.sl i _ hi
   subst h4
   exact ⟨rfl,_,h2,.box ⟨ob,xs,hv d _ (by rw [h1]; exact List.mem_singleton.mpr rfl) (λz=>nomatch z) h3,h5.mono g⟩⟩
theorem xD (i:Nat) (h:PSs X rest (dS X.K (τ.set i (.d (.box (bxW a hd X.prog X.w m)))) N)) (hi:τ[i]?=some (.x (exK a hd X.prog X.w m)):=by rfl):PSs X rest (dS X.K τ N):=by
 intro pins s σ H D I ⟨A,H₀,B,S,Me⟩
 obtain ⟨d,xs,h1,h2,h3,h4⟩:=S.dct hi
 obtain ⟨⟨z0,o,es,ep,z1,z2⟩,z3,z4⟩:=(show bf X.prog X.w H s.heap d (dNk a hd X.prog X.w d xs) from I.hok d _ h3)
 have I2:Inv X pins σ (upd H d (.frz o (dNk a hd X.prog X.w d xs))) s:=eA (t':=s.toks) (h':=s.heap) I (by rw [h3]; exact True.intro) (.refl _ _) ⟨o,z1⟩ ⟨z1,⟨z0,o,es,ep,z1,z2⟩,z3,z4⟩
 have hl:=(List.getElem?_eq_some_iff.mp hi).1
 have S2:=S.vU (E':=exW a hd X.prog X.w o m) hi h2 ⟨xs,rfl,h4⟩
 have S3:=S2.fzW (ob:=o) (m:=m) (List.getElem?_set_self hl)
 rw [List.set_set] at S3
 exact h pins s σ _ D I2 ⟨A,H₀,_,S3,Me⟩
theorem uO (hu:X.A.units + 16 < cLine) (hb:PE X b (dE X.K C τ (.d (.box (bxW a hd X.prog X.w m))))) (hk:PE X ix (dE X.K C τ (.d (a.toD key)))) (hx:getM m key=some x) (hr:∀ H v,Den X.K H v (a.toD key)->∃ b,v=.ref b) (hs:j8 ix):PE X (.Subscript b ix pos) (dE X.K C τ (.d x)):=
 peW (pQ (a:=a) (hd:=hd) hu hb hk hs) λσ H Q q=>by
   obtain ⟨A,H₀,B,S,kk⟩:=df q
   refine aM S λv H1 e1 d1=>aM (S.mono e1) λy H2 e2 dy=>?_
   obtain ⟨b',rfl⟩:=hr _ _ dy
   cases d1.mono (ay e2 λ_ z=>z) with
   | box h=>
     obtain ⟨ob,xs,g3,g4⟩:=h
     have:=g4.at key
     rw [hx] at this
     obtain ⟨pp,v,h1,h2,h3⟩:=this
     exact ⟨_,ob,b',key,xs,pp,v,rfl,rfl,aG _ _ g3,λz hz=>(g4.key z hz).mono aG,dy.mono aG,h1,h2,kk v H2 (e1.trans e2) h3⟩
theorem EnK.sC {F:PySem.W.Frag} {G:Hp}:∀ {xs:NEs K} {m:List (K × D)},EnK a F G xs m->∀ i (h:i < m.length),∃ p,xs[i]?=some p/\p.1=(m[i]).1
 | _,_,.nil,i,h=>absurd h (by simp)
 | _,_,.cons ..,0,_=>⟨_,rfl,rfl⟩
 | _,_,.cons _ _ _ r,i + 1,h=>by
   obtain ⟨p,h1,h2⟩:=EnK.sC r i (by simpa using h)
   exact ⟨p,h1,h2⟩
theorem qF (h:PE X e (dE X.K true τ (.d (.box (bxW a hd X.prog X.w m))))) (hc:X.calm=true:=by first | rfl | assumption):PI X tg e (dI X.K τ (m.map λp=>a.toD p.1)):=piW (nU (a:=a) (hd:=hd) hc h) λσ H R ⟨A,H₀,B,S,k⟩=>aM S λv H1 e1 d1=>by
 cases d1 with
 | box h=>
   obtain ⟨ob,xs,g,en⟩:=h
   have ln:=en.length
   refine ⟨_,ob,xs,rfl,aG _ _ g,k _ H1 e1 λH2 sg=>⟨λi hi=>⟨by rw [ln]; simpa using hi,sg _ _ g⟩,λi hi=>⟨⟨by rw [ln]; simpa using hi,sg _ _ g⟩,λx H' ⟨eH,p,hp,ex⟩=>?_⟩⟩⟩
   subst eH ex
   refine ⟨ah.refl _,λM hM sM=>?_⟩
   have hi':i < m.length:=by simpa using hi
   obtain ⟨p',hp',ek⟩:=en.sC i hi'
   rw [hp] at hp'
   cases hp'
   rw [List.getElem_map,<- ek]
   exact (en.key p (List.mem_of_getElem? hp)).mono sM
end
end Hy
namespace Ev
open PySem PySem.Spec PyProof.Rows L2 PySem.W
section
variable {prog:Program} {w:World} {d:Addr} {o:Obj} {es:Array DictEntry} {ep:Nat}
theorem xP (h0:(d == sysModules)=false) (hx:o.ExactDict) (hdat:o.data=.dict es ep):KdlSrc prog w "dict" d d es.size (λi v=>∃ h:i < es.size,v=es[i].key) (λh=>h.get? d=some o) where
 type:=λs h=>⟨o,h,hx.1⟩
 there:=λh e=>⟨Heap.lt_size e,Heap.lt_size e⟩
 keep:=λh h' e k=>k d (.inl rfl) o e
 notList:=by decide
 notTuple:=by decide
 hint:=λA E s Q e q=>kdl_hint_dict ⟨o,e,hx.1⟩ q
 iter:=λA s hh e=>by
   have ne:d ≠ s.heap.objs.size:=Nat.ne_of_lt (Heap.lt_size e)
   refine ⟨_,λi h=>h.get? d=some o/\h.IsKeyIter s.heap.objs.size d i es.size ep,λE Q q=>qO h0 e hx hdat q,?_,Heap.get?_push_of_some _ e,⟨_,Heap.get?_push_size _ rfl,rfl,rfl⟩⟩
   exact {
     sub:=λb hb=>by rw [List.mem_singleton.mp hb]; exact List.mem_cons_self ..
     frame:=λi h h' st k=>⟨k d (by simp) o st.1,st.2.at λo e=>k _ (List.mem_cons_self ..) o e⟩
     item:=λi s' Q E hi st hQ=>pT st.2 st.1 hdat hi λh' st' sb=>hQ _ h' s'.toks ⟨hi,rfl⟩ ⟨(sb.2 d ne).trans st.1,st'⟩ λb o' hb e'=>(sb.2 b λz=>hb (by rw [z]; exact List.mem_singleton.mpr rfl)).trans e'
     done:=λs' Q E st hQ=>uV hh st.2 st.1 hdat (Nat.le_refl _) λh' eb=>hQ h' s'.toks λb o' hb e'=>eb b o' (λz=>hb (by rw [z]; exact List.mem_singleton.mpr rfl)) e'
     self:=λi s' Q E st h=>wpAny_pyIter_keyiter st.2 h }
end
section
variable {K:Type} [DecidableEq K] {a:KD K} {hd:a.dep<=7} {X:Cx}
theorem kX:∀ xs:NEs K,Vals (xs.map λx=>V.ref x.2.1) (xs.map λx=>Value.ref x.2.1)
 | []=>.nil
 | _ :: xs=>.cons rfl (kX xs)
theorem je (hc:X.calm=true):fu X (.type "list") (λvs H Q=>∃ d xs,vs=[.ref d]/\H d=some (dNk a hd X.prog X.w d xs)/\xs.length<=sizeLine/\∀ l,H l=none->Q (.ref l) (upd H l (.lst (xs.map λx=>.ref x.2.1)))):=by
 intro pins s σ H vs us Q I r h
 obtain ⟨d,xs,rfl,ha,hz,q⟩:=h
 obtain ⟨u,rfl,rx⟩:=vals1 r
 cases rx
 obtain ⟨⟨h0,o,es,ep,h1,h2,h3,h4,h5⟩,_⟩:=(show bf X.prog X.w H s.heap d (dNk a hd X.prog X.w d xs) from I.hok d _ ha)
 have hl:es.size=xs.length:=by rw [<- Array.length_toList,h4,List.length_map]
 refine kdl_call (xP h0 h2 h3) (I.ok.hd hc) h1 (by omega) λh' tk acc' c' kp e it=>?_
 have ea:acc'.toList=xs.map λx=>Value.ref x.2.1:=by
   refine List.ext_getElem (by rw [Array.length_toList,it.1,List.length_map,hl]) λi z1 z2=>?_
   rw [Array.length_toList] at z1
   obtain ⟨g,e⟩:=it.2 i acc'[i] (Array.getElem?_eq_getElem z1)
   rw [Array.getElem_toList,e]
   have hi:i < xs.length:=by omega
   have e:es.toList[i]?=some (entryOfKey (kd a hd X.prog X.w) xs[i]):=by rw [h4,List.getElem?_map,List.getElem?_eq_getElem hi]; rfl
   rw [Array.getElem?_toList,Array.getElem?_eq_getElem g] at e
   rw [Option.some.inj e,List.getElem_map]
   rfl
 have e':h'.get? s.heap.objs.size=some { cls:=.type "list",dict:=none,data:=.seq (xs.map λx=>Value.ref x.2.1).toArray c',slots:=#[] }:=by rw [<- ea,Array.toArray_toList]; exact e
 exact ⟨.ref s.heap.objs.size,_,I.laid (t':=tk) kp (Nat.le_refl _) (show bf X.prog X.w _ h' _ (.lst (xs.map λx=>.ref x.2.1)) from ⟨by rw [List.length_map]; exact hz,_,c',kX xs,e'⟩),rfl,q _ (I.hok.fresh (Nat.le_refl _))⟩
end
end Ev
namespace Hy
open PySem PySem.Spec PyProof.Rows L2
open Ev (D Den av KD NEs dNk fR Bx aj je)
section
variable {K:Type} [DecidableEq K] {a:KD K} {hd:a.dep<=7} {X:Cx} {C:Bool} {τ:List Sl} {e:Expr} {pos p q:Pos} {k:Nat} {m:List (K × D)}
theorem EnK.refs {F:PySem.W.Frag} {G:Hp}:∀ {xs:NEs K} {m:List (K × D)},EnK a F G xs m->av F G (xs.map λx=>V.ref x.2.1) (m.map λp=>a.toD p.1)
 | _,_,.nil=>.nil
 | _,_,.cons h _ _ r=>.cons h r.refs
theorem wY (i:Nat) {n:Str} (B:Bk X k) (hi:τ[i]?=some (.x (exK a hd X.prog X.w m))) (hl:m.length<=sizeLine) (hN:X.N[i]?=some n:=by rfl)
   (hv:Vis X.env.scope n:=by first | exact Or.inl rfl | exact Or.inr (Or.inl rfl) | exact Or.inr (Or.inr rfl)) (hd1:(n == ("__debug__" : Str))=false:=by decide) (hcd:(n == ("__classdict__" : Str))=false:=by decide)
   (hg:Gl X "list":=by rfl) (he:starEach [.Name n q] X.env=(false,eval (.Name n q) X.env) :: starEach [] X.env:=by rfl) (hpl:(backTo pos (starEach [] X.env)).any (·.1)=false:=by rfl):PE X (.Call (.Name "list" p) [.Name n q] [] pos) (dE X.K true τ (.o (m.map λp=>a.toD p.1))):=
 peW (kW (je (a:=a) (hd:=hd) B.calm) hg (B.blt _ (by decide)) (by decide +kernel) (bI (bG (i:=i) hN hv hd1 hcd) dh he) (by decide) (by decide) he hpl) λσ H Q ⟨A,H₀,B,S,kk⟩=>by
   obtain ⟨d,xs,e1,e2,e3,e4⟩:=S.dct hi
   refine ⟨_,slot_of e1,d,xs,rfl,e3,by rw [e4.length]; exact hl,λp hp=>?_⟩
   obtain ⟨z1,z2,z3⟩:=jw (K:=X.K) (M:=own A B) hp e4.refs
   exact kk _ _ [p] z1 z2 z3
end
end Hy
namespace Ev
open PySem PySem.Spec PyProof.Rows L2
noncomputable def zf (a:Addr) (o:Obj) (kv:List (Int × Int)):L2.It:=
 ⟨λi H=>i < kv.length/\H a=some (.frz o (.dK (bu kv))),λi H x H'=>H'=H/\∃ p,kv[i]?=some p/\x=.int p.2,λi H=>kv.length<=i/\H a=some (.frz o (.dK (bu kv)))⟩
theorem xC:∀ {kv:List (Int × Int)} {vs:List (Key × Value)},KV (bu kv) vs->∀ i (hi:i < kv.length),∃ k v,vs[i]?=some (k,v)/\RelV (.int kv[i].2) v
 | [],_,_,i,hi=>absurd hi (by simp)
 | p :: kv,vs,r,i,hi=>by
   unfold KV bu at r
   rw [List.map_cons] at r
   cases r with
   | cons h r=>
     cases i with
     | zero=>exact ⟨_,_,rfl,h.2⟩
     | succ i=>
       obtain ⟨k,v,h1,h2⟩:=xC (kv:=kv) (show KV (bu kv) _ from r) i (by simpa using hi)
       exact ⟨k,v,by simpa using h1,by simpa using h2⟩
theorem sa {P:Program} {w:World} {K:PySem.W.Frag} {tg:Expr} (a it:Addr) (o:Obj) (kv:List (Int × Int)) (es:Array DictEntry) (ep:Nat) (hd:o.data=.dict es ep) :
   Turn P w K false tg (zf a o kv) [it] it (λi h=>i<=kv.length/\h.IsValIter it a i kv.length ep) where
 mem:=by simp
 obj:=λi h st b hb=>by
   have e:b=it:=by simpa using hb
   subst e
   obtain ⟨o,e,c,d⟩:=st.2
   exact ⟨o,e,λv z=>by rw [d] at z; cases z⟩
 keep:=λi h h' st k=>⟨st.1,st.2.at λo e=>k it (by simp) o e⟩
 item:=by
   intro X hP hw hK hc i pins s σ H E I hf st hg
   subst hP hw hK
   obtain ⟨hi,ha⟩:=hg
   obtain ⟨f0,f1,f2,f3,f4,f5⟩:=hf it (by simp)
   obtain ⟨vs,rel,dd⟩:=lg I ha hd
   have hl:kv.length=vs.length:=by rw [<- rel.length,bu,List.length_map]
   have st2:=st.2
   rw [hl] at st2
   obtain ⟨k,v,hx,rv⟩:=xC rel i hi
   refine wpAny_pyNext_values_item st2 dd hx λh' st' sb=>?_
   have I1:Inv X pins σ H { s with heap:=h' }:=I.turned (t':=s.toks) (λb o hb e=>(sb.2 b hb).trans e) f0 f1 f3 f4 f5
   obtain ⟨o',e,c,d⟩:=id st'
   refine ⟨_,rfl,k5 (s:={ s with heap:=h' }) e c d (by decide) ⟨.int kv[i].2,H,I1,rv,⟨rfl,_,List.getElem?_eq_getElem hi,rfl⟩,⟨hi,by rw [hl]; exact st'⟩,λb hb=>(hf b hb).1⟩⟩
 done:=by
   intro X hP hw hK hc i pins s σ H E I hf st hg
   subst hP hw hK
   obtain ⟨hi,ha⟩:=hg
   obtain ⟨f0,f1,f2,f3,f4,f5⟩:=hf it (by simp)
   obtain ⟨vs,rel,dd⟩:=lg I ha hd
   have hl:kv.length=vs.length:=by rw [<- rel.length,bu,List.length_map]
   have st2:=st.2
   rw [hl] at st2
   exact wpAny_pyNext_values_end (I.ok.hd hc.calm) st2 dd (List.getElem?_eq_none (by omega)) λh' eb=>⟨rfl,I.turned (t':=s.toks) (λb o hb e=>eb b o hb e) f0 f1 f3 f4 f5⟩
 self:=λ_ _ _ _ _ st h=>wpAny_pyIter_valiter st.2 h
structure M0 (X:Cx) (o:Expr) (m:Str) (apos:Pos) (cpos:Pos):Prop where
 base:attributeBase o m X.env (eval o X.env)=eval o X.env
 few:((backTo cpos (starEach [] X.env)).all (λx=>!x.1) && (backToKw cpos (keywordEach [] X.env)).all (λx=>x.1.isSome)
   && decide (([]:List Expr).length + ([]:List Keyword).length + (if ([]:List Keyword).isEmpty then 0 else 1) < 30))=true
 line:(apos.endLine == cpos.line)=true
 trees:backTo cpos (starEach [] X.env)=[]
section
variable {X:Cx} {tg:Expr}
noncomputable def uj (tl:TE):TI:=λσ H R=>tl σ H λx H1=>∃ a o kv,x=.ref a/\H1 a=some (.frz o (.dK (bu kv)))/\R (zf a o kv) H1
theorem mv {l:Expr} {tl:TE} {apos cpos:Pos} (hc:X.calm=true) (hl:PE X l tl) (m:M0 X l "values" apos cpos):PI X tg (.Call (.Attribute l "values" apos) [] [] cpos) (uj tl):=by
 intro pins s σ H R I h
 refine wpAny_Call_method m.base m.few m.line PySem.F.plainAttrs_dict PySem.F.slot_dict_values PySem.F.type_dict_values (thn (hl pins s σ H _ I h) λu s1 ⟨x,H1,I1,r1,a,o,kv,ex,ha,q⟩=>?_)
 subst ex
 obtain rfl:u=Value.ref a:=r1
 obtain ⟨e,ok⟩:=(show bf X.prog X.w H1 s1.heap a (.frz o (.dK (bu kv))) from I1.hok a _ ha)
 obtain ⟨z,hd,vs,rel,o',es,ep,e',r⟩:=ok
 rw [e] at e'
 cases e'
 have dd:s1.heap.DictAt (a8 X.prog X.w) a vs ep:=⟨o,es,e,r⟩
 refine ⟨dd.dictOf.typeIs,λc ec=>(by cases ec; exact ⟨o,e,r.1.2.1⟩),?_⟩
 rw [m.trees]
 refine Calls.callWith_builtin rfl (PySem.evalArgs_none ?_)
 refine call_meetsIn PySem.F.slot_dict_values dd.dictOf.typeIs PySem.F.entry_dict_values (PySem.F.args_dict_values_1 _) (meets_dict_values (a8 X.prog X.w) a hd) ⟨⟨vs,dd.dictOf⟩,?_⟩
 have I2:Inv X pins σ H1 { s1 with heap:=s1.heap.push { cls:=.type "dict_values",data:=.fields #[.ref a] } }:=I1.kept (t':=s1.toks) λb o e=>Heap.get?_push_of_some _ e
 have hv:vs.length=kv.length:=by rw [<- rel.length,bu,List.length_map]
 refine wpAny_pyIter_values (knd:=a8 X.prog X.w) (kvs:=vs) (ep:=ep) ⟨_,Heap.get?_push_size _ rfl,rfl,rfl⟩ (dd.push _) ?_
 refine ⟨false,_,[(s1.heap.push { cls:=.type "dict_values",data:=.fields #[.ref a] }).objs.size],_,_,H1,rfl,I2.kept (t':=s1.toks) λb o e=>Heap.get?_push_of_some _ e,.inl hc,sa a _ o kv es ep r.2.1,⟨Nat.zero_le _,?_⟩,λb hb=>?_,q⟩
 · rw [<- hv]
   exact ⟨_,Heap.get?_push_size _ rfl,rfl,rfl⟩
 · have e:b=(s1.heap.push { cls:=.type "dict_values",data:=.fields #[.ref a] }).objs.size:=by simpa using hb
   subst e
   exact I2.ke (Nat.le_refl _) (I2.hok.fresh (Nat.le_refl _))
end
end Ev
namespace Hy
open PySem PySem.Spec PyProof.Rows L2
open Ev (D Den av Bx aj bu zf uj mv M0)
section
variable {X:Cx} {C:Bool} {τ:List Sl} {e tg:Expr} {pos p apos cpos:Pos} {m:List (Int × Int)}
theorem vO (h:PE X e (dE X.K true τ (.d (.box (bxZ m))))) (hc:X.calm=true:=by first | rfl | assumption) (m0:M0 X e "values" apos cpos:=by exact ⟨rfl,rfl,rfl,rfl⟩):PI X tg (.Call (.Attribute e "values" apos) [] [] cpos) (dI X.K τ (m.map λp=>.int p.2)):=piW (mv hc h m0) λσ H R ⟨A,H₀,B,S,k⟩=>aM S λv H1 e1 d1=>by
 cases d1 with
 | box h=>
   obtain ⟨o,g⟩:=h
   refine ⟨_,o,m,rfl,aG _ _ g,k _ H1 e1 λH2 sg=>⟨λi hi=>⟨by simpa using hi,sg _ _ g⟩,λi hi=>⟨⟨by simpa using hi,sg _ _ g⟩,λx H' ⟨eH,p,hp,ex⟩=>?_⟩⟩⟩
   subst eH ex
   refine ⟨ah.refl _,λM _ _=>?_⟩
   have hi':i < m.length:=by simpa using hi
   rw [List.getElem?_eq_getElem hi'] at hp
   cases hp
   rw [List.getElem_map]
   exact .int
theorem Ak (h:PE X e (dE X.K C τ (.x (exZ m)))):PE X e (dE X.K C τ (.d (.box (bxZ m)))):=by
 intro pins s σ H Q I q
 obtain ⟨A,H₀,B,S,kk⟩:=df q
 have vd:=S.vd (C:=C)
 refine thn (h pins s σ H (λv H'=>∃ d,v=.ref d/\ah H H'/\H d=none/\H' d=some (.dK (bu m))) I ⟨A,H₀,B,S,λv H' bs e hf ⟨d,o,h1,h2,h3,h4⟩=>?_⟩) λu s1 ⟨x,H1,I1,rx,d,ex,e,hn,h3⟩=>?_
 · cases h2
   cases (show o=_ from h4)
   subst h1
   exact ⟨d,rfl,e,(hf d (List.mem_singleton.mpr rfl)).1,h3⟩
 · subst ex
   obtain ⟨z,hd0,vs,rel,dd⟩:=qf I1.hok h3
   obtain ⟨o,es,ep,e0,r⟩:=id dd
   have I2:Inv X pins σ (upd H1 d (.frz o (.dK (bu m)))) s1:=eA (t':=s1.toks) (h':=s1.heap) I1 (by rw [h3]; exact True.intro) (.refl _ _) ⟨o,e0⟩ ⟨e0,k9 z hd0 rel dd⟩
   have un:¬ vw C A B d:=λz=>by
     obtain ⟨_,q⟩:=vd d z
     rw [hn] at q
     cases q
   refine ⟨.ref d,_,I2,rx,kk _ _ (λb o' hb=>?_) (.box ⟨o,ao.mpr ⟨un,aA⟩⟩)⟩
   rw [au (λz=>by rw [z,hn] at hb; cases hb)]
   exact e b o' hb
end
end Hy
namespace K60
open PySem PySem.Spec PyProof.Rows L2 Hy
noncomputable def top (i:Nat):Stmt:=PySem.Challenge.pw_signsmooth_k60_whole_strict_by_corners.main.body.getD i (.Pass ⟨0,0,0,0⟩)
theorem gL:az ["_law_cell_here","_law_bases","_law_row","_law_base","_law_k","_law_mixed"] ["_law_cell_here","_law_bases"] (ag (top 39)):=⟨rfl,rfl,rfl,by decide +kernel,rfl,by decide +kernel,by decide +kernel⟩
theorem kM:az ["_law_cell_here","_law_parts"] ["_law_cell_here"] (ag (top 44)):=⟨rfl,rfl,rfl,by decide +kernel,rfl,by decide +kernel,by decide +kernel⟩
theorem gw:az ["_law_one","_law_other","_law_rest"] ["_law_one","_law_other"] (ag (top 40)):=⟨rfl,rfl,rfl,by decide +kernel,rfl,by decide +kernel,by decide +kernel⟩
theorem km:az ["_law_top","_law_bottom","_law_common"] ["_law_top","_law_bottom"] (ag (top 41)):=⟨rfl,rfl,rfl,by decide +kernel,rfl,by decide +kernel,by decide +kernel⟩
theorem iI:az ["_law_kind","_law_part_here","_law_top"] ["_law_kind","_law_part_here"] (ag (top 42)):=⟨rfl,rfl,rfl,by decide +kernel,rfl,by decide +kernel,by decide +kernel⟩
theorem jI:az ["_law_cell_here","_law_many","_law_wide","_law_kind","_law_base","_law_parts"] ["_law_cell_here","_law_many","_law_wide","_law_kind"] (ag (top 43)):=⟨rfl,rfl,rfl,by decide +kernel,rfl,by decide +kernel,by decide +kernel⟩
theorem rD:az ["_law_script","_law_k"] ["_law_script","_law_k"] (ag (top 38)):=⟨rfl,rfl,rfl,by decide +kernel,rfl,by decide +kernel,by decide +kernel⟩
theorem kC:az ["_law_one","_law_other","_law_third","_law_top","_law_bottom"] ["_law_one","_law_other","_law_third"] (ag (top 50)):=⟨rfl,rfl,rfl,by decide +kernel,rfl,by decide +kernel,by decide +kernel⟩
theorem se:az ["_law_one","_law_other"] ["_law_one","_law_other"] (ag (top 49)):=⟨rfl,rfl,rfl,by decide +kernel,rfl,by decide +kernel,by decide +kernel⟩
theorem iD:az ["_law_table_here","_law_places_here","_law_sign","_law_rows_here","_law_j","_law_b","_law_i","_law_a","_law_part_here"] ["_law_table_here","_law_places_here","_law_sign"] (ag (top 51)):=⟨rfl,rfl,rfl,by decide +kernel,rfl,by decide +kernel,by decide +kernel⟩
theorem iG:az ["_law_table_here","_law_wide"] ["_law_table_here"] (ag (top 52)):=⟨rfl,rfl,rfl,by decide +kernel,rfl,by decide +kernel,by decide +kernel⟩
theorem oe:az ["_law_table_here"] ["_law_table_here"] (ag (top 53)):=⟨rfl,rfl,rfl,by decide +kernel,rfl,by decide +kernel,by decide +kernel⟩
theorem eV:az ["_law_script","_law_many","_law_wide","_law_parts","_law_thin","_law_i","_law_row","_law_more","_law_table_here","_law_number_here"] ["_law_script","_law_many","_law_wide"] (ag (top 55)):=⟨rfl,rfl,rfl,by decide +kernel,rfl,by decide +kernel,by decide +kernel⟩
theorem jv:az ["_law_script","_law_many","_law_wide","_law_kind"] ["_law_script"] (ag (top 56)):=⟨rfl,rfl,rfl,by decide +kernel,rfl,by decide +kernel,by decide +kernel⟩
theorem hV:az ["thing"] ["thing"] (ag (top 13)):=⟨rfl,rfl,rfl,by decide +kernel,rfl,by decide +kernel,by decide +kernel⟩
theorem mE:az ["thing"] ["thing"] (ag (top 6)):=⟨rfl,rfl,rfl,by decide +kernel,rfl,by decide +kernel,by decide +kernel⟩
theorem cX:az ["one","other","greater","lesser","rest"] ["one","other"] (ag (top 8)):=⟨rfl,rfl,rfl,by decide +kernel,rfl,by decide +kernel,by decide +kernel⟩
theorem jC:az ["thing"] ["thing"] (ag (top 7)):=⟨rfl,rfl,rfl,by decide +kernel,rfl,by decide +kernel,by decide +kernel⟩
theorem qW:az ["thing"] ["thing"] (ag (top 14)):=⟨rfl,rfl,rfl,by decide +kernel,rfl,by decide +kernel,by decide +kernel⟩
theorem mz:az ["thing"] ["thing"] (ag (top 15)):=⟨rfl,rfl,rfl,by decide +kernel,rfl,by decide +kernel,by decide +kernel⟩
theorem j0:az ["thing"] ["thing"] (ag (top 16)):=⟨rfl,rfl,rfl,by decide +kernel,rfl,by decide +kernel,by decide +kernel⟩
theorem fS:az ["many","size","found","turn","longer","choice","least"] ["many","size"] (ag (top 17)):=⟨rfl,rfl,rfl,by decide +kernel,rfl,by decide +kernel,by decide +kernel⟩
theorem cV:az ["known","row","columns","total","k","part"] ["known","row","columns"] (ag (top 32)):=⟨rfl,rfl,rfl,by decide +kernel,rfl,by decide +kernel,by decide +kernel⟩
theorem eW:az ["known","row","column_choices","found","columns"] ["known","row","column_choices"] (ag (top 31)):=⟨rfl,rfl,rfl,by decide +kernel,rfl,by decide +kernel,by decide +kernel⟩
theorem cw:az ["rows","found","known","size","fresh","column_choices","some","columns"] ["rows"] (ag (top 30)):=⟨rfl,rfl,rfl,by decide +kernel,rfl,by decide +kernel,by decide +kernel⟩
theorem l4:az ["row","scale"] ["row","scale"] (ag (top 22)):=⟨rfl,rfl,rfl,by decide +kernel,rfl,by decide +kernel,by decide +kernel⟩
theorem kb:az ["table","scales"] ["table","scales"] (ag (top 23)):=⟨rfl,rfl,rfl,by decide +kernel,rfl,by decide +kernel,by decide +kernel⟩
theorem iJ:az ["row","scale","number"] ["row"] (ag (top 21)):=⟨rfl,rfl,rfl,by decide +kernel,rfl,by decide +kernel,by decide +kernel⟩
theorem fy:az ["table","bound","found","choices"] ["table","bound"] (ag (top 29)):=⟨rfl,rfl,rfl,by decide +kernel,rfl,by decide +kernel,by decide +kernel⟩
theorem mh:az ["table"] ["table"] (ag (top 28)):=⟨rfl,rfl,rfl,by decide +kernel,rfl,by decide +kernel,by decide +kernel⟩
theorem kY:az ["_law_table_here","_law_rows_here","_law_all_bottoms","_law_row","_law_factor","_law_number_here"] ["_law_table_here"] (ag (top 45)):=⟨rfl,rfl,rfl,by decide +kernel,rfl,by decide +kernel,by decide +kernel⟩
theorem iL:az ["_law_rows_here","_law_wide","_law_made_here","_law_i","_law_lines","_law_longer","_law_mask","_law_behind_it","_law_j","_law_key","_law_part_here"] ["_law_rows_here"] (ag (top 47)):=⟨rfl,rfl,rfl,by decide +kernel,rfl,by decide +kernel,by decide +kernel⟩
theorem eQ:az ["_law_rows_here","_law_least","_law_made_here","_law_lines","_law_worth"] ["_law_rows_here"] (ag (top 48)):=⟨rfl,rfl,rfl,by decide +kernel,rfl,by decide +kernel,by decide +kernel⟩
theorem jU:az ["table"] ["table"] (ag (top 20)):=⟨rfl,rfl,rfl,by decide +kernel,rfl,by decide +kernel,by decide +kernel⟩
theorem cR:az ["top","bottom","divisor"] ["top","bottom"] (ag (top 9)):=⟨rfl,rfl,rfl,by decide +kernel,rfl,by decide +kernel,by decide +kernel⟩
theorem nR:az ["top","bottom"] ["top","bottom"] (ag (top 10)):=⟨rfl,rfl,rfl,by decide +kernel,rfl,by decide +kernel,by decide +kernel⟩
theorem fg:az ["grid","k","i"] ["grid","k"] (ag (top 26)):=⟨rfl,rfl,rfl,by decide +kernel,rfl,by decide +kernel,by decide +kernel⟩
theorem jX:az ["row","pivot_row","k","last","pivot","factor"] ["row","pivot_row","k","last"] (ag (top 27)):=⟨rfl,rfl,rfl,by decide +kernel,rfl,by decide +kernel,by decide +kernel⟩
theorem cg:az ["rows","grid","many","sign","last","k","at","i"] ["rows"] (ag (top 25)):=⟨rfl,rfl,rfl,by decide +kernel,rfl,by decide +kernel,by decide +kernel⟩
theorem cW:az ["numbers","found","number"] ["numbers"] (ag (top 24)):=⟨rfl,rfl,rfl,by decide +kernel,rfl,by decide +kernel,by decide +kernel⟩
theorem bZ:az ["table","scales"] ["table"] (ag (top 19)):=⟨rfl,rfl,rfl,by decide +kernel,rfl,by decide +kernel,by decide +kernel⟩
theorem fm:az ["table","i","j","size"] ["table","i","j"] (ag (top 36)):=⟨rfl,rfl,rfl,by decide +kernel,rfl,by decide +kernel,by decide +kernel⟩
theorem gP:az ["table","i"] ["table","i"] (ag (top 35)):=⟨rfl,rfl,rfl,by decide +kernel,rfl,by decide +kernel,by decide +kernel⟩
theorem oP:az ["table"] ["table"] (ag (top 34)):=⟨rfl,rfl,rfl,by decide +kernel,rfl,by decide +kernel,by decide +kernel⟩
theorem nN:az ["_law_rows_here","_law_sums","_law_row","_law_longer","_law_mask","_law_behind_it","_law_j","_law_key","_law_sign"] ["_law_rows_here"] (ag (top 46)):=⟨rfl,rfl,rfl,by decide +kernel,rfl,by decide +kernel,by decide +kernel⟩
theorem iK:az ["_law_rows_here","_law_i","_law_j","_law_size_here"] ["_law_rows_here","_law_i","_law_j"] (ag (top 54)):=⟨rfl,rfl,rfl,by decide +kernel,rfl,by decide +kernel,by decide +kernel⟩
theorem ub:az ["_law_script","_law_table_here","_law_handed","_law_found","_law_rows_here","_law_due","_law_mine","_law_i","_law_told"] ["_law_script"] (ag (top 57)):=⟨rfl,rfl,rfl,by decide +kernel,rfl,by decide +kernel,by decide +kernel⟩
end K60
namespace K60
open PySem PySem.Spec PyProof.Rows L2 Hy
open Ev (D Den av aB aE)
noncomputable def aD (f:Nat->Rat):Nat->Rat
 | 0=>0
 | n + 1=>aD f n + f n
theorem aC {f g:Nat->Rat}:∀ {n:Nat},(∀ k < n,f k=g k)->aD f n=aD g n
 | 0,_=>rfl
 | n + 1,h=>by rw [aD,aD,aC λk hk=>h k (by omega),h n (by omega)]
theorem bW (c:Rat) (f:Nat->Rat):∀ n:Nat,c * aD f n=aD (λk=>c * f k) n
 | 0=>Rat.mul_zero c
 | n + 1=>by rw [aD,aD,Rat.mul_add,bW c f n]
theorem nu (c:Rat) (f:Nat->Rat):∀ n:Nat,aD f n * c=aD (λk=>f k * c) n
 | 0=>Rat.zero_mul c
 | n + 1=>by rw [aD,aD,Rat.add_mul,nu c f n]
theorem gO (f g:Nat->Rat):∀ n:Nat,aD (λk=>f k + g k) n=aD f n + aD g n
 | 0=>(Rat.add_zero 0).symm
 | n + 1=>by rw [aD,aD,aD,gO f g n]; grind
theorem iy:∀ n:Nat,aD (λ_=>0) n=0
 | 0=>rfl
 | n + 1=>by rw [aD,iy n,Rat.add_zero]
theorem gZ (f:Nat->Nat->Rat) (m:Nat):∀ n:Nat,aD (λk=>aD (λl=>f k l) m) n=aD (λl=>aD (λk=>f k l) n) m
 | 0=>by simp only [aD]; exact (iy m).symm
 | n + 1=>by simp only [aD]; rw [gZ f m n,<- gO]
noncomputable def dq (i j:Nat):Rat:=if i=j then 1 else 0
theorem mC (A:Nat->Rat) (j:Nat):∀ n:Nat,n<=j->aD (λk=>A k * dq k j) n=0
 | 0,_=>rfl
 | n + 1,h=>by
   rw [aD,mC A j n (by omega),dq,if_neg (by omega),Rat.mul_zero,Rat.add_zero]
theorem dJ (A:Nat->Rat) (j:Nat):∀ n:Nat,j < n->aD (λk=>A k * dq k j) n=A j
 | n + 1,h=>by
   rw [aD]
   by_cases e:j=n
   · subst e
     rw [mC A j j (Nat.le_refl _),dq,if_pos rfl,Rat.mul_one,Rat.zero_add]
   · rw [dJ A j n (by omega),dq,if_neg (by omega),Rat.mul_zero,Rat.add_zero]
noncomputable def skp (i r:Nat):Nat:=if r < i then r else r + 1
noncomputable def minor (M:Nat->Nat->Rat) (i r c:Nat):Rat:=M (skp i r) (c + 1)
noncomputable def sgn (i:Nat):Rat:=if i % 2=0 then 1 else -1
theorem fx (i:Nat):sgn (i + 1)=-sgn i:=by
 unfold sgn
 by_cases h:i % 2=0
 · rw [if_pos h,if_neg (by omega)]
 · rw [if_neg h,if_pos (by omega)]
   rfl
theorem lW (i:Nat):sgn i * sgn i=1:=by
 unfold sgn
 split <;> grind
noncomputable def det:Nat->(Nat->Nat->Rat)->Rat
 | 0,_=>1
 | n + 1,M=>aD (λi=>sgn i * M i 0 * det n (minor M i)) (n + 1)
theorem lu {i r n:Nat} (h:r < n):skp i r < n + 1:=by unfold skp; split <;> omega
theorem xO (i r:Nat):skp i r ≠ i:=by unfold skp; split <;> omega
theorem ax:∀ {n:Nat} {M M':Nat->Nat->Rat},(∀ i < n,∀ j < n,M i j=M' i j)->det n M=det n M'
 | 0,_,_,_=>rfl
 | n + 1,M,M',h=>by
   unfold det
   refine aC λi hi=>?_
   rw [h i hi 0 (by omega),ax (M:=minor M i) (M':=minor M' i) λr hr c hc=>h _ (lu hr) _ (by omega)]
noncomputable def ar (M:Nat->Nat->Rat) (p:Nat) (v:Nat->Rat) (r c:Nat):Rat:=if r=p then v c else M r c
noncomputable def da (M:Nat->Nat->Rat) (q:Nat) (v:Nat->Rat) (r c:Nat):Rat:=if c=q then v r else M r c
noncomputable def un (i p:Nat):Nat:=if p < i then p else p - 1
theorem gg (M:Nat->Nat->Rat) (p:Nat) (v:Nat->Rat):minor (ar M p v) p=minor M p:=by
 funext r c
 unfold minor ar
 rw [if_neg (xO p r)]
theorem ff (M:Nat->Nat->Rat) {i p:Nat} (h:i ≠ p) (v:Nat->Rat):minor (ar M p v) i=ar (minor M i) (un i p) λc=>v (c + 1):=by
 funext r c
 unfold minor ar
 have:skp i r=p ↔ r=un i p:=by unfold skp un; split <;> split <;> omega
 by_cases q:skp i r=p
 · rw [if_pos q,if_pos (this.mp q)]
 · rw [if_neg q,if_neg λz=>q (this.mpr z)]
theorem qc:∀ {n:Nat} (M:Nat->Nat->Rat) {p:Nat},p < n->∀ (a b:Rat) (x y:Nat->Rat),det n (ar M p λc=>a * x c + b * y c)=a * det n (ar M p x) + b * det n (ar M p y)
 | 0,_,_,h,_,_,_,_=>absurd h (Nat.not_lt_zero _)
 | n + 1,M,p,hp,a,b,x,y=>by
   unfold det
   rw [bW,bW,<- gO]
   refine aC λi hi=>?_
   by_cases h:i=p
   · subst h
     rw [gg,gg,gg]
     simp only [ar,if_pos rfl]
     grind
   · rw [ff M h,ff M h,ff M h,qc (minor M i) (show un i p < n by unfold un; split <;> omega) a b]
     simp only [ar,if_neg h]
     grind
theorem ve {f:Nat->Rat} {p:Nat} (h0:∀ i,i ≠ p->i ≠ p + 1->f i=0) (h:f p + f (p + 1)=0):∀ n,p + 1 < n->aD f n=0:=by
 have z:∀ n,n<=p->aD f n=0:=by
   intro n
   induction n with
   | zero=>intro _; rfl
   | succ n ih=>intro hn; rw [aD,ih (by omega),h0 n (by omega) (by omega),Rat.add_zero]
 intro n
 induction n with
 | zero=>intro hn; omega
 | succ n ih=>
   intro hn
   rw [aD]
   by_cases q:n=p + 1
   · subst q
     rw [aD,z p (Nat.le_refl _),Rat.zero_add]
     exact h
   · rw [ih (by omega),h0 n (by omega) q,Rat.add_zero]
theorem dH {f:Nat->Rat} {n:Nat} (h:∀ i < n,f i=0):aD f n=0:=by
 rw [aC h]; exact iy n
theorem lM:∀ {n:Nat} {M:Nat->Nat->Rat} {p:Nat},p + 1 < n->(∀ c < n,M p c=M (p + 1) c)->det n M=0
 | 0,_,_,h,_=>absurd h (Nat.not_lt_zero _)
 | n + 1,M,p,hp,h=>by
   unfold det
   let f:Nat->Rat:=λi=>if i < n + 1 then sgn i * M i 0 * det n (minor M i) else 0
   have e:aD (λi=>sgn i * M i 0 * det n (minor M i)) (n + 1)=aD f (n + 1):=aC λi hi=>by simp only [f]; rw [if_pos hi]
   rw [e]
   refine ve (p:=p) (λi h1 h2=>?_) ?_ _ hp
   · simp only [f]
     by_cases hi:i < n + 1
     · rw [if_pos hi]
       have:det n (minor M i)=0:=by
         by_cases q:i < p
         · refine lM (p:=p - 1) (by omega) λc hc=>?_
           unfold minor skp
           rw [if_neg (by omega),if_neg (by omega),show p - 1 + 1=p by omega]
           exact h (c + 1) (by omega)
         · refine lM (p:=p) (by omega) λc hc=>?_
           unfold minor skp
           rw [if_pos (by omega),if_pos (by omega)]
           exact h (c + 1) (by omega)
       rw [this,Rat.mul_zero]
     · rw [if_neg hi]
   · simp only [f]
     rw [if_pos (by omega),if_pos hp,fx,<- h 0 (by omega)]
     have:det n (minor M p)=det n (minor M (p + 1)):=ax λr hr c hc=>by
       unfold minor skp
       by_cases q:r < p
       · rw [if_pos q,if_pos (by omega)]
       · rw [if_neg q]
         by_cases q2:r=p
         · subst q2
           rw [if_pos (by omega)]
           exact (h (c + 1) (by omega)).symm
         · rw [if_neg (by omega)]
     rw [this]
     grind
structure ML (n:Nat) (f:(Nat->Nat->Rat)->Rat):Prop where
 cong:∀ {M M':Nat->Nat->Rat},(∀ i < n,∀ j < n,M i j=M' i j)->f M=f M'
 lin:∀ (M:Nat->Nat->Rat) {p:Nat},p < n->∀ (a b:Rat) (x y:Nat->Rat),f (ar M p λc=>a * x c + b * y c)=a * f (ar M p x) + b * f (ar M p y)
 alt:∀ {M:Nat->Nat->Rat} {p:Nat},p + 1 < n->(∀ c < n,M p c=M (p + 1) c)->f M=0
theorem g8 (n:Nat):ML n (det n):=⟨ax,qc,lM⟩
section
variable {n:Nat} {f:(Nat->Nat->Rat)->Rat}
theorem bE (M:Nat->Nat->Rat) (p:Nat):ar M p (M p)=M:=by
 funext r c
 unfold ar
 split
 · rename_i h; rw [h]
 · rfl
theorem bQ {M:Nat->Nat->Rat} {p:Nat} {v:Nat->Rat}:ar M p v p=v:=by funext c; unfold ar; rw [if_pos rfl]
theorem bS {M:Nat->Nat->Rat} {p r:Nat} {v:Nat->Rat} (h:r ≠ p):ar M p v r=M r:=by funext c; unfold ar; rw [if_neg h]
theorem a7 {M:Nat->Nat->Rat} {p q:Nat} {v u:Nat->Rat} (h:p ≠ q):ar (ar M p v) q u=ar (ar M q u) p v:=by
 funext r c
 unfold ar
 by_cases h1:r=q
 · rw [if_pos h1,if_neg λz=>h (z.symm.trans h1),if_pos h1]
 · rw [if_neg h1,if_neg h1]
theorem ML.add (h:ML n f) (M:Nat->Nat->Rat) {p:Nat} (hp:p < n) (x y:Nat->Rat):f (ar M p λc=>x c + y c)=f (ar M p x) + f (ar M p y):=by
 have:=h.lin M hp 1 1 x y
 simp only [Rat.one_mul] at this
 exact this
theorem ML.nb (h:ML n f) (M:Nat->Nat->Rat) {p:Nat} (hp:p + 1 < n) (x y:Nat->Rat):f (ar (ar M p x) (p + 1) y)=-f (ar (ar M p y) (p + 1) x):=by
 have z:∀ u:Nat->Rat,f (ar (ar M p u) (p + 1) u)=0:=λu=>h.alt hp λc _=>by rw [bQ,bS (by omega),bQ]
 have e:=z λc=>x c + y c
 rw [h.add _ hp] at e
 rw [a7 (by omega),h.add _ (show p < n by omega),a7 (M:=M) (p:=p) (q:=p + 1) (v:=λc=>x c + y c) (u:=y) (by omega),h.add _ (show p < n by omega)] at e
 rw [a7 (M:=M) (p:=p + 1) (q:=p) (v:=x) (u:=x) (by omega),z x,a7 (M:=M) (p:=p + 1) (q:=p) (v:=y) (u:=y) (by omega),z y,a7 (M:=M) (p:=p + 1) (q:=p) (v:=x) (u:=y) (by omega),a7 (M:=M) (p:=p + 1) (q:=p) (v:=y) (u:=x) (by omega)] at e
 grind
theorem ML.two (h:ML n f):∀ (d:Nat) (M:Nat->Nat->Rat) (p:Nat),p + 1 + d < n->M p=M (p + 1 + d)->f M=0
 | 0,M,p,hp,e=>h.alt hp λc _=>by rw [e]
 | d + 1,M,p,hp,e=>by
   have s:=h.nb M (p:=p + 1 + d) (by omega) (M (p + 1 + d)) (M (p + 1 + d + 1))
   rw [bE,bE] at s
   rw [s,ML.two h d _ p (by omega) (by rw [bS (by omega),bS (by omega),bS (by omega),bQ]; exact e)]
   rfl
theorem ML.same (h:ML n f) {M:Nat->Nat->Rat} {p q:Nat} (hp:p < n) (hq:q < n) (hpq:p ≠ q) (e:M p=M q):f M=0:=by
 rcases Nat.lt_or_lt_of_ne hpq with z | z
 · exact h.two (q - p - 1) M p (by omega) (by rw [show p + 1 + (q - p - 1)=q by omega]; exact e)
 · exact h.two (p - q - 1) M q (by omega) (by rw [show q + 1 + (p - q - 1)=p by omega]; exact e.symm)
theorem ML.swap (h:ML n f) {M:Nat->Nat->Rat} {p q:Nat} (hp:p < n) (hq:q < n) (hpq:p ≠ q) (x y:Nat->Rat):f (ar (ar M p x) q y)=-f (ar (ar M p y) q x):=by
 have z:∀ u:Nat->Rat,f (ar (ar M p u) q u)=0:=λu=>h.same hp hq hpq (by rw [bQ,bS hpq,bQ])
 have e:=z λc=>x c + y c
 have c1:∀ u v:Nat->Rat,ar (ar M q u) p v=ar (ar M p v) q u:=λu v=>a7 λz=>hpq z.symm
 rw [h.add _ hq,a7 hpq,h.add _ hp,a7 (M:=M) (p:=p) (q:=q) (v:=λc=>x c + y c) (u:=y) hpq,h.add _ hp,c1,c1,c1,c1,z x,z y] at e
 grind
theorem ML.BA (h:ML n f) (M:Nat->Nat->Rat) {p:Nat} (hp:p < n):f (ar M p λ_=>0)=0:=by
 have:=h.lin M hp 0 0 (λ_=>0) (λ_=>0)
 simp only [Rat.zero_mul,Rat.add_zero] at this
 exact this
theorem ML.sum (h:ML n f) (M:Nat->Nat->Rat) {p:Nat} (hp:p < n) (v:Nat->Rat) (e:Nat->Nat->Rat):∀ m,f (ar M p λj=>aD (λc=>v c * e c j) m)=aD (λc=>v c * f (ar M p (e c))) m
 | 0=>h.BA M hp
 | m + 1=>by
   have:=h.lin M hp 1 (v m) (λj=>aD (λc=>v c * e c j) m) (e m)
   simp only [Rat.one_mul] at this
   rw [aD,<- ML.sum h M hp v e m]
   exact this
theorem ML.comb (h:ML n f) (M:Nat->Nat->Rat) {p k:Nat} (hp:p < n) (hk:k<=p) (d:Rat) (β:Nat->Rat):f (ar M p λj=>d * M p j + aD (λi=>β i * M i j) k)=d * f M:=by
 have e:=h.lin M hp d 1 (M p) (λj=>aD (λi=>β i * M i j) k)
 simp only [Rat.one_mul] at e
 rw [e,bE,h.sum M hp β M k,dH,Rat.add_zero]
 intro i hi
 rw [h.same (p:=i) (q:=p) (by omega) hp (by omega) (by rw [bS (by omega),bQ]),Rat.mul_zero]
end
noncomputable def idQ (i j:Nat):Rat:=if i=j then 1 else 0
noncomputable def un1 (σ:Nat->Nat) (i j:Nat):Rat:=if σ i=j then 1 else 0
theorem sx:∀ (m:Nat) (σ:Nat->Nat),(∀ i < m + 1,σ i < m)->∃ i j,i < j/\j < m + 1/\σ i=σ j
 | 0,σ,h=>absurd (h 0 (by decide)) (Nat.not_lt_zero _)
 | m + 1,σ,h=>by
   by_cases q:∃ i,i < m + 1/\σ i=σ (m + 1)
   · obtain ⟨i,hi,e⟩:=q
     exact ⟨i,m + 1,hi,by omega,e⟩
   · have q':∀ i < m + 1,σ i ≠ σ (m + 1):=λi hi z=>q ⟨i,hi,z⟩
     obtain ⟨i,j,h1,h2,e⟩:=sx m (λi=>if σ (m + 1) < σ i then σ i - 1 else σ i) λi hi=>by
       have a:=h i (by omega)
       have b:=h (m + 1) (by omega)
       have c:=q' i hi
       split <;> omega
     refine ⟨i,j,h1,by omega,?_⟩
     have a:=q' i (by omega)
     have b:=q' j h2
     split at e <;> split at e <;> omega
theorem wx {n k:Nat} {σ:Nat->Nat} (h:∀ i < n,σ i < n) (hk:k < n) (hn:∀ i < n,σ i ≠ k):∃ i j,i < j/\j < n/\σ i=σ j:=by
 obtain ⟨m,rfl⟩:∃ m,n=m + 1:=⟨n - 1,by omega⟩
 obtain ⟨i,j,h1,h2,e⟩:=sx m (λi=>if k < σ i then σ i - 1 else σ i) λi hi=>by
   have a:=h i hi
   have b:=hn i hi
   split <;> omega
 refine ⟨i,j,h1,h2,?_⟩
 have a:=hn i (by omega)
 have b:=hn j h2
 split at e <;> split at e <;> omega
section
variable {n:Nat} {h:(Nat->Nat->Rat)->Rat}
theorem ML.ug (H:ML n h) (h0:h idQ=0):∀ (d k:Nat),k + d=n->∀ σ:Nat->Nat,(∀ i < n,σ i < n)->(∀ i < k,σ i=i)->h (un1 σ)=0
 | 0,k,hk,σ,_,hf=>by
   rw [<- h0]
   exact H.cong λi hi j _=>by unfold un1 idQ; rw [hf i (by omega)]
 | d + 1,k,hk,σ,hs,hf=>by
   by_cases q:∃ j,k<=j/\j < n/\σ j=k
   · obtain ⟨j,h1,h2,h3⟩:=q
     by_cases z:j=k
     · subst z
       exact ML.ug H h0 d (j + 1) (by omega) σ hs λi hi=>by
         by_cases y:i=j
         · rw [y]; exact h3
         · exact hf i (by omega)
     · have e:un1 σ=ar (ar (un1 σ) k (un1 σ k)) j (un1 σ j):=by rw [bE,bE]
       have e2:ar (ar (un1 σ) k (un1 σ j)) j (un1 σ k)=un1 λi=>if i=j then σ k else if i=k then σ j else σ i:=by
         funext r c
         have zk:¬ k=j:=λy=>z y.symm
         by_cases y1:r=j <;> by_cases y2:r=k <;> simp [ar,un1,y1,y2,zk]
       rw [e,H.swap (by omega) h2 (λy=>z y.symm),e2,ML.ug H h0 d (k + 1) (by omega) _ (λi hi=>?_) (λi hi=>?_)]
       · rfl
       · split
         · exact hs k (by omega)
         · split
           · exact hs j h2
           · exact hs i hi
       · rw [if_neg (by omega)]
         by_cases y:i=k
         · rw [if_pos y,h3,y]
         · rw [if_neg y]
           exact hf i (by omega)
   · obtain ⟨i,j,h1,h2,e⟩:=wx hs (show k < n by omega) λi hi z=>by
       by_cases y:i < k
       · have:=hf i y
         omega
       · exact q ⟨i,by omega,hi,z⟩
     exact H.same (p:=i) (q:=j) (by omega) h2 (by omega) (by funext c; unfold un1; rw [e])
noncomputable def lI (k:Nat) (M:Nat->Nat->Rat) (σ:Nat->Nat) (i j:Nat):Rat:=if i < k then M i j else un1 σ i j
theorem ML.AY (H:ML n h) (h0:h idQ=0) (M:Nat->Nat->Rat):∀ (k:Nat),k<=n->∀ σ:Nat->Nat,(∀ i < n,σ i < n)->h (lI k M σ)=0
 | 0,_,σ,hs=>by
   rw [<- ML.ug H h0 n 0 (by omega) σ hs λi hi=>absurd hi (Nat.not_lt_zero _)]
   exact H.cong λi _ j _=>by unfold lI; rw [if_neg (Nat.not_lt_zero _)]
 | k + 1,hk,σ,hs=>by
   have e:h (lI (k + 1) M σ)=h (ar (lI k M σ) k λj=>aD (λc=>M k c * idQ c j) n):=H.cong λi hi j hj=>by
     unfold ar lI
     by_cases y:i=k
     · subst y
       rw [if_pos (by omega),if_pos rfl]
       exact (dJ (M i) j n hj).symm
     · rw [if_neg y]
       by_cases z:i < k
       · rw [if_pos (by omega),if_pos z]
       · rw [if_neg (by omega),if_neg z]
   rw [e,H.sum _ (by omega),dH]
   intro c hc
   have e2:ar (lI k M σ) k (idQ c)=lI k M λi=>if i=k then c else σ i:=by
     funext r j
     by_cases y:r=k <;> simp [ar,lI,un1,idQ,y]
   rw [e2,ML.AY H h0 M k (by omega) _ (λi hi=>?_),Rat.mul_zero]
   split
   · exact hc
   · exact hs i hi
theorem ML.zero (H:ML n h) (h0:h idQ=0) (M:Nat->Nat->Rat):h M=0:=by
 rw [<- ML.AY H h0 M n (Nat.le_refl _) (λi=>i) λi hi=>hi]
 exact H.cong λi hi j _=>by unfold lI; rw [if_pos hi]
end
theorem tW:minor idQ 0=idQ:=by
 funext r c
 unfold minor idQ skp
 rw [if_neg (Nat.not_lt_zero _)]
 by_cases h:r=c
 · rw [if_pos (by omega),if_pos h]
 · rw [if_neg (by omega),if_neg h]
theorem oB:∀ n,det n idQ=1
 | 0=>rfl
 | n + 1=>by
   unfold det
   rw [aC (g:=λi=>det n (minor idQ i) * idQ i 0) λi hi=>?_]
   · have:=dJ (λi=>det n (minor idQ i)) 0 (n + 1) (by omega)
     have e:(λi=>det n (minor idQ i) * idQ i 0)=λk=>(λi=>det n (minor idQ i)) k * dq k 0:=rfl
     rw [e,this,tW,oB n]
   · by_cases z:i=0
     · subst z
       show 1 * 1 * _=_ * 1
       grind
     · unfold idQ
       rw [if_neg z]
       grind
theorem ML.uniq {n:Nat} {f:(Nat->Nat->Rat)->Rat} (F:ML n f) (M:Nat->Nat->Rat):f M=det n M * f idQ:=by
 have D:=g8 n
 have H:ML n λM=>f M - det n M * f idQ:=by
   refine ⟨λ{M M'} e=>?_,λM p hp a b x y=>?_,λ{M p} hp e=>?_⟩
   · rw [F.cong e,D.cong e]
   · rw [F.lin M hp,D.lin M hp]
     grind
   · rw [F.alt hp e,D.alt hp e]
     grind
 have:=H.zero (by rw [oB]; grind) M
 grind
theorem mB:∀ {n:Nat} (M:Nat->Nat->Rat) {q:Nat},q < n->∀ (a b:Rat) (x y:Nat->Rat),det n (da M q λc=>a * x c + b * y c)=a * det n (da M q x) + b * det n (da M q y)
 | 0,_,_,h,_,_,_,_=>absurd h (Nat.not_lt_zero _)
 | n + 1,M,q,hq,a,b,x,y=>by
   unfold det
   rw [bW,bW,<- gO]
   refine aC λi hi=>?_
   cases q with
   | zero=>
     have e:∀ v,minor (da M 0 v) i=minor M i:=λv=>by
       funext r c
       unfold minor da
       rw [if_neg (by omega)]
     rw [e,e,e]
     simp only [da,if_true]
     grind
   | succ q=>
     have e:∀ v,minor (da M (q + 1) v) i=da (minor M i) q λr=>v (skp i r):=λv=>by
       funext r c
       unfold minor da
       by_cases z:c=q
       · rw [if_pos (by omega),if_pos z]
       · rw [if_neg (by omega),if_neg z]
     rw [e,e,e,mB (minor M i) (show q < n by omega) a b]
     have z:¬ (0=q + 1):=by omega
     simp only [da,if_neg z]
     grind
theorem kF (g:Nat->Rat) (i:Nat):∀ n,i<=n->aD (λj=>g (skp i j)) n=aD g (n + 1) - g i
 | 0,h=>by
   have:i=0:=by omega
   subst this
   show (0:Rat)=0 + g 0 - g 0
   grind
 | n + 1,h=>by
   by_cases q:i=n + 1
   · subst q
     have e:aD (λj=>g (skp (n + 1) j)) (n + 1)=aD g (n + 1):=aC λk hk=>by unfold skp; rw [if_pos hk]
     rw [e,aD.eq_2 g (n + 1)]
     grind
   · rw [aD,kF g i n (by omega),aD.eq_2 g (n + 1)]
     have:skp i n=n + 1:=by unfold skp; rw [if_neg (by omega)]
     rw [this]
     grind
theorem q9 {n:Nat} {G:Nat->Nat->Rat} (h:∀ i < n,∀ j < n,G i j=-G j i):aD (λi=>aD (λj=>G i j) n) n=0:=by
 have e:aD (λi=>aD (λj=>G i j) n) n=-1 * aD (λi=>aD (λj=>G i j) n) n:=by
   conv=>lhs; rw [gZ]
   rw [bW]
   refine aC λi hi=>?_
   rw [bW]
   refine aC λj hj=>?_
   rw [h j hj i hi]
   grind
 grind
theorem wC {i j r:Nat} (h:i < j):skp i (skp (j - 1) r)=skp j (skp i r):=by
 unfold skp
 split <;> split <;> (try split) <;> (try split) <;> omega
theorem mR:∀ {n:Nat} {M:Nat->Nat->Rat} {q:Nat},q + 1 < n->(∀ r < n,M r q=M r (q + 1))->det n M=0
 | 0,_,_,h,_=>absurd h (Nat.not_lt_zero _)
 | 1,_,_,h,_=>by omega
 | n + 2,M,q + 1,hq,h=>by
   rw [det]
   refine dH λi hi=>?_
   rw [mR (M:=minor M i) (q:=q) (by omega) λr hr=>h _ (lu hr),Rat.mul_zero]
 | n + 2,M,0,hq,h=>by
   let D:Nat->Nat->Rat:=λi j=>det n λr c=>M (skp i (skp j r)) (c + 2)
   let G:Nat->Nat->Rat:=λi j=>if i < j then -(sgn i * sgn j * M i 0 * M j 0 * D i (j - 1)) else if j < i then sgn i * sgn j * M i 0 * M j 0 * D i j else 0
   have inner:∀ i < n + 2,sgn i * M i 0 * det (n + 1) (minor M i)=aD (λj=>G i j) (n + 2):=λi hi=>by
     have e:aD (λj=>G i j) (n + 2)=aD (λj=>G i (skp i j)) (n + 1):=by
       have g0:G i i=0:=by simp only [G]; rw [if_neg (Nat.lt_irrefl i),if_neg (Nat.lt_irrefl i)]
       rw [kF (λj=>G i j) i (n + 1) (by omega),g0]
       grind
     rw [e,det,bW]
     refine aC λj hj=>?_
     have m0:minor M i j 0=M (skp i j) 0:=(h _ (lu hj)).symm
     have mm:det n (minor (minor M i) j)=D i j:=rfl
     rw [m0,mm]
     simp only [G]
     by_cases z:j < i
     · have s:skp i j=j:=by unfold skp; rw [if_pos z]
       rw [s,if_neg (by omega),if_pos z]
       grind
     · have s:skp i j=j + 1:=by unfold skp; rw [if_neg z]
       rw [s,if_pos (by omega),fx,show j + 1 - 1=j by omega]
       grind
   rw [det,aC inner]
   refine q9 λi hi j hj=>?_
   have sy:∀ {i j:Nat},i < j->D i (j - 1)=D j i:=λ{i j} z=>by
     simp only [D]
     congr 1
     funext r c
     rw [wC z]
   simp only [G]
   rcases Nat.lt_trichotomy i j with z | z | z
   · rw [if_pos z,if_neg (by omega),if_pos z,sy z]
     grind
   · subst z
     rw [if_neg (Nat.lt_irrefl _),if_neg (Nat.lt_irrefl _)]
     rfl
   · rw [if_neg (by omega),if_pos z,if_pos z,sy z]
     grind
theorem iF (n:Nat) (M:Nat->Nat->Rat):det n (λi j=>M j i)=det n M:=by
 have H:ML n λM=>det n λi j=>M j i:=by
   refine ⟨λ{M M'} e=>ax λi hi j hj=>e j hj i hi,λM p hp a b x y=>?_,λ{M p} hp e=>mR hp λr hr=>e r hr⟩
   exact mB (λi j=>M j i) hp a b x y
 have u:=H.uniq M
 have i1:(det n λi j=>idQ j i)=1:=by
   rw [<- oB n]
   congr 1
   funext i j
   unfold idQ
   by_cases z:i=j
   · rw [if_pos z,if_pos z.symm]
   · rw [if_neg z,if_neg λy=>z y.symm]
 simp only [i1,Rat.mul_one] at u
 exact u
theorem fI (m:Nat):∀ (k:Nat) (M:Nat->Nat->Rat),(∀ i,k<=i->i < k + m->∀ j < k,M i j=0)->det (k + m) M=det k M * det m λi j=>M (k + i) (k + j)
 | 0,M,_=>by
   rw [Nat.zero_add]
   show det m M=1 * _
   rw [Rat.one_mul]
   congr 1
   funext i j
   rw [Nat.zero_add,Nat.zero_add]
 | k + 1,M,h=>by
   have a:k + 1 + m=(k + m) + 1:=by omega
   rw [a,det,det,nu]
   have tail:∀ t,aD (λi=>sgn i * M i 0 * det (k + m) (minor M i)) (k + 1 + t)=aD (λi=>sgn i * M i 0 * det (k + m) (minor M i)) (k + 1)\/¬ t<=m:=by
     intro t
     induction t with
     | zero=>exact .inl rfl
     | succ t ih=>
       by_cases q:t + 1<=m
       · rcases ih with ih | ih
         · refine .inl ?_
           rw [show k + 1 + (t + 1)=(k + 1 + t) + 1 by omega,aD,ih,h (k + 1 + t) (by omega) (by omega) 0 (by omega)]
           grind
         · omega
       · exact .inr q
   rcases tail m with e | e
   · rw [show k + m + 1=k + 1 + m by omega,e]
     refine aC λi hi=>?_
     rw [fI m k (minor M i) λr h1 h2 c hc=>?_]
     · have:(λr c=>minor M i (k + r) (k + c))=λr c=>M (k + 1 + r) (k + 1 + c):=by
         funext r c
         unfold minor skp
         rw [if_neg (by omega),show k + r + 1=k + 1 + r by omega,show k + c + 1=k + 1 + c by omega]
       rw [this]
       grind
     · unfold minor skp
       rw [if_neg (by omega)]
       exact h _ (by omega) (by omega) _ (by omega)
   · exact absurd (Nat.le_refl m) e
theorem jg {n k:Nat} (d:Rat) (β:Nat->Nat->Rat) (M:Nat->Nat->Rat):∀ t,k + t<=n->det n (λi j=>if k<=i/\i < k + t then d * M i j + aD (λa=>β i a * M a j) k else M i j)=d ^ t * det n M
 | 0,_=>by
   rw [Rat.pow_zero,Rat.one_mul]
   congr 1
   funext i j
   have n0:¬ (k<=i/\i < k + 0):=by omega
   rw [if_neg n0]
 | t + 1,h=>by
   have ih:=jg (n:=n) (k:=k) d β M t (by omega)
   have c:=(g8 n).comb (λi j=>if k<=i/\i < k + t then d * M i j + aD (λa=>β i a * M a j) k else M i j) (p:=k + t) (k:=k) (by omega) (by omega) d (β (k + t))
   rw [ih] at c
   rw [Rat.pow_succ,Rat.mul_comm (d ^ t) d,Rat.mul_assoc,<- c]
   congr 1
   funext i j
   unfold ar
   by_cases q:i=k + t
   · subst q
     have n1:¬ (k<=k + t/\k + t < k + t):=by omega
     have p1:k<=k + t/\k + t < k + (t + 1):=by omega
     rw [if_pos p1,if_pos rfl]
     dsimp only
     rw [if_neg n1]
     congr 1
     exact aC λa ha=>by
       have na:¬ (k<=a/\a < k + t):=by omega
       rw [if_neg na]
   · rw [if_neg q]
     dsimp only
     by_cases z:k<=i/\i < k + t
     · rw [if_pos (by omega),if_pos z]
     · rw [if_neg (by omega),if_neg z]
theorem uU {d:Rat} (h:d ≠ 0):∀ t:Nat,d ^ t ≠ 0
 | 0=>by rw [Rat.pow_zero]; exact λz=>by cases z
 | t + 1=>by
   rw [Rat.pow_succ]
   intro z
   rcases Rat.mul_eq_zero.mp z with y | y
   · exact uU h t y
   · exact h y
noncomputable def bm (Y:Nat->Nat->Rat) (k p q:Nat):Rat:=det (k + 1) λr c=>Y (if r < k then r else p) (if c < k then c else q)
noncomputable def bc (Y:Nat->Nat->Rat) (k p i:Nat):Rat:=det (k + 1) (ar (λr c=>Y (if c < k then c else p) r) k (idQ i))
theorem iX (M:Nat->Nat->Rat):det 1 M=M 0 0:=by
 show 0 + 1 * M 0 0 * 1=M 0 0
 grind
theorem vm (M:Nat->Nat->Rat):det 2 M=M 0 0 * M 1 1 - M 0 1 * M 1 0:=by
 show 0 + 1 * M 0 0 * det 1 (minor M 0) + -1 * M 1 0 * det 1 (minor M 1)=_
 rw [iX,iX]
 show 0 + 1 * M 0 0 * M 1 1 + -1 * M 1 0 * M 0 1=_
 grind
section
variable {Y:Nat->Nat->Rat} {k p q:Nat}
theorem sR:bm Y k p q=det k Y * Y p q + aD (λi=>bc Y k p i * Y i q) k:=by
 have e:bm Y k p q=det (k + 1) (ar (λr c=>Y (if c < k then c else p) r) k λr=>aD (λc=>Y (if c < k then c else p) q * idQ c r) (k + 1)):=by
   unfold bm
   rw [<- iF]
   refine ax λi hi j hj=>?_
   unfold ar
   by_cases z:i=k
   · subst z
     rw [if_pos rfl,if_neg (Nat.lt_irrefl _)]
     exact (dJ (λc=>Y (if c < i then c else p) q) j (i + 1) hj).symm
   · rw [if_neg z,if_pos (show i < k by omega)]
 have last:det (k + 1) (ar (λr c=>Y (if c < k then c else p) r) k (idQ k))=det k Y:=by
   rw [fI 1 k _ λi h1 h2 j hj=>?_,iX]
   · have e1:ar (λr c=>Y (if c < k then c else p) r) k (idQ k) (k + 0) (k + 0)=1:=by
       unfold ar idQ
       rw [if_pos (Nat.add_zero k),if_pos (Nat.add_zero k).symm]
     rw [e1,Rat.mul_one,<- iF]
     refine ax λi hi j hj=>?_
     unfold ar
     rw [if_neg (by omega)]
     dsimp only
     rw [if_pos hi]
   · have:i=k:=by omega
     subst this
     unfold ar idQ
     rw [if_pos rfl,if_neg (by omega)]
 rw [e,(g8 (k + 1)).sum _ (Nat.lt_succ_self k),aD,last,if_neg (Nat.lt_irrefl _),Rat.add_comm,Rat.mul_comm (Y p q)]
 congr 1
 exact aC λi hi=>by rw [if_pos hi,Rat.mul_comm]; rfl
theorem qj (h:q < k):bm Y k p q=0:=by
 unfold bm
 rw [<- iF]
 refine (g8 (k + 1)).same (p:=q) (q:=k) (by omega) (by omega) (by omega) ?_
 funext r
 rw [if_pos h,if_neg (Nat.lt_irrefl _)]
theorem i4:bm Y k k k=det (k + 1) Y:=by
 refine ax λi hi j hj=>?_
 have:∀ r,r < k + 1->(if r < k then r else k)=r:=λr hr=>by split <;> omega
 rw [this i hi,this j hj]
theorem lx {i j:Nat} (h0:det k Y ≠ 0):det k Y * bm Y (k + 1) i j=bm Y k k k * bm Y k i j - bm Y k k j * bm Y k i k:=by
 let W:Nat->Nat->Rat:=λr c=>Y (if r < k + 1 then r else i) (if c < k + 1 then c else j)
 have e:=jg (n:=k + 2) (k:=k) (det k Y) (λr a=>bc Y k (if r < k + 1 then r else i) a) W 2 (Nat.le_refl _)
 have ent:∀ r c,(if k<=r/\r < k + 2 then det k Y * W r c + aD (λa=>bc Y k (if r < k + 1 then r else i) a * W a c) k else W r c)=if k<=r/\r < k + 2 then bm Y k (if r < k + 1 then r else i) (if c < k + 1 then c else j) else W r c:=λr c=>by
   by_cases z:k<=r/\r < k + 2
   · rw [if_pos z,if_pos z,sR]
     congr 1
     exact aC λa ha=>by simp only [W]; rw [if_pos (show a < k + 1 by omega)]
   · rw [if_neg z,if_neg z]
 simp only [ent] at e
 rw [fI 2 k _ λr h1 h2 c hc=>?_,vm] at e
 · have a0:k<=k + 0/\k + 0 < k + 2:=by omega
   have a1:k<=k + 1/\k + 1 < k + 2:=by omega
   have b0:k + 0 < k + 1:=by omega
   have b1:¬ k + 1 < k + 1:=by omega
   rw [if_pos a0,if_pos a1,if_pos a0,if_pos a1,if_pos b0,if_neg b1,if_pos b0,if_neg b1,Nat.add_zero] at e
   have dk:(det k λr c=>if k<=r/\r < k + 2 then bm Y k (if r < k + 1 then r else i) (if c < k + 1 then c else j) else W r c)=det k Y:=ax λr hr c hc=>by
     rw [if_neg (by omega)]
     simp only [W]
     rw [if_pos (by omega),if_pos (by omega)]
   rw [dk] at e
   have dw:det (k + 2) W=bm Y (k + 1) i j:=rfl
   rw [dw] at e
   have c:=Rat.inv_mul_cancel (det k Y) h0
   have p2:det k Y ^ 2=det k Y * det k Y:=by rw [Rat.pow_succ,Rat.pow_succ,Rat.pow_zero,Rat.one_mul]
   rw [p2] at e
   have e2:(det k Y)⁻¹ * (det k Y * det k Y * bm Y (k + 1) i j)=(det k Y)⁻¹ * (det k Y * (bm Y k k k * bm Y k i j - bm Y k k j * bm Y k i k)):=congrArg _ e.symm
   rw [Rat.mul_assoc,<- Rat.mul_assoc,c,Rat.one_mul,<- Rat.mul_assoc,c,Rat.one_mul] at e2
   exact e2
 · rw [if_pos ⟨h1,h2⟩,if_pos (show c < k + 1 by omega)]
   exact qj hc
theorem wV {n:Nat} (h0:det k Y ≠ 0) (hk:k < n) (h:∀ p,k<=p->p < n->bm Y k p k=0):det n Y=0:=by
 have e:=jg (n:=n) (k:=k) (det k Y) (λr a=>bc Y k r a) Y (n - k) (by omega)
 have ent:∀ r c,(if k<=r/\r < k + (n - k) then det k Y * Y r c + aD (λa=>bc Y k r a * Y a c) k else Y r c)=if k<=r/\r < k + (n - k) then bm Y k r c else Y r c:=λr c=>by
   by_cases z:k<=r/\r < k + (n - k)
   · rw [if_pos z,if_pos z,sR]
   · rw [if_neg z,if_neg z]
 simp only [ent] at e
 have z:(det n λr c=>if k<=r/\r < k + (n - k) then bm Y k r c else Y r c)=0:=by
   obtain ⟨m,hm⟩:∃ m,n=k + (m + 1):=⟨n - k - 1,by omega⟩
   subst hm
   rw [fI (m + 1) k _ λr h1 h2 c hc=>?_]
   · have:det (m + 1) (λi j=>if k<=k + i/\k + i < k + (k + (m + 1) - k) then bm Y k (k + i) (k + j) else Y (k + i) (k + j))=0:=by
       rw [det]
       refine dH λi hi=>?_
       rw [if_pos (by omega),Nat.add_zero,h (k + i) (by omega) (by omega)]
       grind
     rw [this,Rat.mul_zero]
   · rw [if_pos (by omega)]
     exact qj hc
 rw [z] at e
 rcases Rat.mul_eq_zero.mp e.symm with y | y
 · exact absurd y (uU h0 _)
 · exact y
noncomputable def rho (k m r:Nat):Nat:=if r < k then r else if r=k then k + m else if r<=k + m then r - 1 else r
theorem fD {n:Nat}:∀ (m:Nat) (Y:Nat->Nat->Rat),k + m < n->(det n λr=>Y (rho k m r))=sgn m * det n Y
 | 0,Y,_=>by
   have:(λr=>Y (rho k 0 r))=Y:=by
     funext r
     congr 1
     unfold rho
     split
     · rfl
     · split
       · omega
       · split <;> omega
   rw [this]
   show _=1 * _
   rw [Rat.one_mul]
 | m + 1,Y,h=>by
   have ih:=fD (n:=n) m (ar (ar Y (k + m) (Y (k + m + 1))) (k + m + 1) (Y (k + m))) (by omega)
   have s:=(g8 n).nb Y (p:=k + m) (by omega) (Y (k + m + 1)) (Y (k + m))
   rw [bE,bE] at s
   rw [s] at ih
   rw [fx]
   have e:(λr=>ar (ar Y (k + m) (Y (k + m + 1))) (k + m + 1) (Y (k + m)) (rho k m r))=λr=>Y (rho k (m + 1) r):=by
     funext r
     by_cases z:rho k m r=k + m + 1
     · rw [z,bQ]
       congr 1
       unfold rho at z ⊢
       split at z
       · omega
       · split at z
         · omega
         · split at z
           · omega
           · rename_i a b c
             rw [if_neg a,if_neg b,if_pos (by omega)]
             omega
     · rw [bS z]
       by_cases y:rho k m r=k + m
       · rw [y,bQ]
         congr 1
         unfold rho at y z ⊢
         split at y
         · omega
         · split at y
           · rename_i a b
             rw [if_neg a,if_pos b]
             omega
           · split at y
             · omega
             · omega
       · rw [bS y]
         congr 1
         unfold rho at y z ⊢
         split at y
         · rename_i a
           rw [if_pos a,if_pos a]
         · rename_i a
           rw [if_neg a] at z
           split at y
           · omega
           · rename_i b
             rw [if_neg b] at z
             rw [if_neg a,if_neg b,if_neg a,if_neg b]
             split at y
             · rename_i c
               rw [if_pos c,if_pos (by omega)]
             · rename_i c
               rw [if_neg c] at z
               rw [if_neg c,if_neg (by omega)]
   rw [e] at ih
   rw [ih]
   grind
theorem zo {m:Nat}:bm (λr=>Y (rho k m r)) k p q=bm Y k (rho k m p) q:=by
 refine ax λr hr c hc=>?_
 dsimp only
 congr 1
 by_cases z:r < k
 · rw [if_pos z,if_pos z]
   unfold rho
   rw [if_pos z]
 · rw [if_neg z,if_neg z]
theorem kZ {m:Nat}:(det k λr=>Y (rho k m r))=det k Y:=ax λr hr c hc=>by
 unfold rho
 rw [if_pos hr]
end
noncomputable def ZB (b:Nat) (x:Rat):Prop:=∃ z:Int,x=(z:Rat)/\z.natAbs<=2 ^ b
theorem ZB.mono {b c:Nat} {x:Rat} (h:ZB b x) (hc:b<=c):ZB c x:=by
 obtain ⟨z,e,l⟩:=h
 exact ⟨z,e,Nat.le_trans l (Nat.pow_le_pow_right (by decide) hc)⟩
theorem ZB.mul {b c:Nat} {x y:Rat} (h:ZB b x) (g:ZB c y):ZB (b + c) (x * y):=by
 obtain ⟨u,rfl,l⟩:=h
 obtain ⟨v,rfl,k⟩:=g
 exact ⟨u * v,(Rat.intCast_mul u v).symm,by rw [Int.natAbs_mul,Nat.pow_add]; exact Nat.mul_le_mul l k⟩
theorem ZB.sgn (i:Nat):ZB 0 (sgn i):=by
 show ZB 0 (if i % 2=0 then 1 else -1)
 split
 · exact ⟨1,rfl,by decide⟩
 · exact ⟨-1,rfl,by decide⟩
theorem ZB.sum {b:Nat} {f:Nat->Rat}:∀ {n:Nat},(∀ i < n,ZB b (f i))->∃ z:Int,aD f n=(z:Rat)/\z.natAbs<=n * 2 ^ b
 | 0,_=>⟨0,rfl,Nat.zero_le _⟩
 | n + 1,h=>by
   obtain ⟨u,e,l⟩:=ZB.sum λi hi=>h i (Nat.lt_succ_of_lt hi)
   obtain ⟨v,e',l'⟩:=h n (Nat.lt_succ_self n)
   refine ⟨u + v,by rw [aD,e,e',Rat.intCast_add],?_⟩
   rw [Nat.succ_mul]
   exact Nat.le_trans (Int.natAbs_add_le _ _) (Nat.add_le_add l l')
theorem uM {b:Nat}:∀ {n:Nat} {M:Nat->Nat->Rat},n<=8->(∀ i < n,∀ j < n,ZB b (M i j))->ZB (n * (b + 3)) (det n M)
 | 0,_,_,_=>⟨1,rfl,Nat.one_le_two_pow⟩
 | n + 1,M,hn,h=>by
   obtain ⟨z,e,l⟩:=ZB.sum (b:=b + n * (b + 3)) (f:=λi=>sgn i * M i 0 * det n (minor M i)) (n:=n + 1) λi hi=>by
     have:=((ZB.sgn i).mul (h i hi 0 (by omega))).mul (uM (n:=n) (M:=minor M i) (by omega) λr hr c hc=>h _ (lu hr) _ (by omega))
     exact this.mono (by omega)
   refine ⟨z,e,Nat.le_trans l ?_⟩
   rw [show (n + 1) * (b + 3)=3 + (b + n * (b + 3)) by rw [Nat.succ_mul]; omega,Nat.pow_add 2 3]
   exact Nat.mul_le_mul_right _ (by omega)
noncomputable def gJ (s:Nat->Rat):Nat->Rat
 | 0=>1
 | n + 1=>gJ s n * s n
theorem hE {n:Nat} (s:Nat->Rat) (M:Nat->Nat->Rat):∀ t,t<=n->det n (λi j=>if i < t then s i * M i j else M i j)=gJ s t * det n M
 | 0,_=>by
   rw [gJ,Rat.one_mul]
   exact ax λi _ j _=>if_neg (Nat.not_lt_zero _)
 | t + 1,h=>by
   have ih:=hE (n:=n) s M t (by omega)
   have c:=(g8 n).comb (λi j=>if i < t then s i * M i j else M i j) (p:=t) (k:=0) (by omega) (Nat.zero_le _) (s t) (λ_=>0)
   rw [ih] at c
   rw [gJ,Rat.mul_comm (gJ s t),Rat.mul_assoc,<- c]
   refine ax λi _ j _=>?_
   unfold ar
   by_cases q:i=t
   · subst q
     rw [if_pos (Nat.lt_succ_self i),if_pos rfl]
     dsimp only
     rw [if_neg (Nat.lt_irrefl i)]
     show _=_ + 0
     rw [Rat.add_zero]
   · rw [if_neg q]
     dsimp only
     by_cases z:i < t
     · rw [if_pos (by omega),if_pos z]
     · rw [if_neg (by omega),if_neg z]
noncomputable def jF (k:Int) (j:Nat):Bool:=decide (Builtin.bitAnd (k / 2 ^ j) 1=1)
noncomputable def gW (k:Int) (j:Nat):Int:=Builtin.bitOr k (1 * 2 ^ j)
noncomputable def sgZ (b:Int):Int:=1 - 2 * b.fmod 2
noncomputable def e7 (row:List Int) (k v:Int) (j:Nat) (s:Int × List (Int × Int)):Int × List (Int × Int):=
 if jF k j then (s.1 + 1,s.2) else (s.1,eG s.2 (gW k j) ((ba s.2 (gW k j)).getD 0 + sgZ s.1 * row.getD j 0 * v))
noncomputable def bt (n:Nat) (row:List Int) (k v:Int) (kv:List (Int × Int)):Nat->Int × List (Int × Int)
 | 0=>(0,kv)
 | c + 1=>e7 row k v (n - 1 - c) (bt n row k v kv c)
noncomputable def aV (n:Nat) (row:List Int) (kv:List (Int × Int)):Nat->List (Int × Int)
 | 0=>[]
 | t + 1=>(bt n row (kv.getD t (0,0)).1 ((ba kv (kv.getD t (0,0)).1).getD 0) (aV n row kv t) n).2
noncomputable def bX (Ms:List (List Int)):Nat->List (Int × Int)
 | 0=>[(0,1)]
 | i + 1=>aV Ms.length (Ms.getD i []) (bX Ms i) (bX Ms i).length
noncomputable def lim:Nat:=2 ^ 3900
noncomputable def okZ (Ms:List (List Int)):Prop:=Ms.length<=7/\(∀ r ∈ Ms,r.length=Ms.length/\∀ x ∈ r,x.natAbs < lim)/\∀ i,i < Ms.length->∀ p ∈ bX Ms i,p.2.natAbs < lim
noncomputable def yc (Ms:List (List Int)):Option Int:=open Classical in if okZ Ms then ba (bX Ms Ms.length) (2 ^ Ms.length - 1) else none
theorem uQ (m:Nat) (Y:Nat->Nat->Rat):det (m + 1) Y=aD (λc=>sgn (m + c) * Y m c * det m λr q=>Y r (skp c q)) (m + 1):=by
 have e1:=fD (k:=0) (n:=m + 1) m Y (by omega)
 have e2:=iF (m + 1) λr=>Y (rho 0 m r)
 rw [det] at e2
 have r0:rho 0 m 0=m:=by unfold rho; rw [if_neg (by omega),if_pos rfl]; omega
 have rs:∀ r,r < m->rho 0 m (r + 1)=r:=λr hr=>by
   unfold rho
   rw [if_neg (by omega),if_neg (by omega),if_pos (by omega)]
   omega
 have e3:aD (λc=>sgn c * Y m c * det m λr q=>Y r (skp c q)) (m + 1)=sgn m * det (m + 1) Y:=by
   rw [<- e1,<- e2]
   refine aC λc _=>?_
   rw [r0,<- iF m]
   congr 1
   exact ax λr hr q hq=>by
     unfold minor
     dsimp only
     rw [rs q hq]
 have sm:∀ c,sgn (m + c)=sgn m * sgn c:=λc=>by
   induction c with
   | zero=>rw [Nat.add_zero,show sgn 0=1 from rfl,Rat.mul_one]
   | succ c ih=>rw [<- Nat.add_assoc,fx,ih,fx]; grind
 have:aD (λc=>sgn (m + c) * Y m c * det m λr q=>Y r (skp c q)) (m + 1)=sgn m * aD (λc=>sgn c * Y m c * det m λr q=>Y r (skp c q)) (m + 1):=by
   rw [bW]
   refine aC λc _=>?_
   rw [sm]
   grind
 rw [this,e3,<- Rat.mul_assoc,lW,Rat.one_mul]
noncomputable def cj (M:Nat->Nat->Rat) (L:List Nat):Rat:=det L.length λr c=>M r (L.getD c 0)
theorem i5 {M:Nat->Nat->Rat} {L:List Nat} {m:Nat} (h:L.length=m + 1):cj M L=aD (λc=>sgn (m - c) * M m (L.getD c 0) * cj M (L.eraseIdx c)) (m + 1):=by
 unfold cj
 rw [h,uQ]
 refine aC λc hc=>?_
 have e1:sgn (m + c)=sgn (m - c):=by
   unfold sgn
   by_cases z:(m + c) % 2=0
   · rw [if_pos z,if_pos (by omega)]
   · rw [if_neg z,if_neg (by omega)]
 have e2:(L.eraseIdx c).length=m:=by rw [List.length_eraseIdx_of_lt (by omega)]; omega
 rw [e1,e2]
 refine congrArg (λx=>sgn (m - c) * M m (L.getD c 0) * x) (ax λr _ q hq=>?_)
 rw [List.getD_eq_getElem?_getD,List.getD_eq_getElem?_getD,List.getElem?_eraseIdx]
 unfold skp
 split <;> rfl
noncomputable def cols (n S:Nat):List Nat:=(List.range n).filter λj=>S.testBit j
theorem ja {n S j:Nat}:j ∈ cols n S ↔ j < n/\S.testBit j=true:=by
 unfold cols
 rw [List.mem_filter,List.mem_range]
theorem wU {n S j:Nat} (hj:j < n) (h:S.testBit j=false):cols n (S ||| 2 ^ j)=(cols j S)++j :: ((List.range (n - (j + 1))).map (j + 1 + ·)).filter (λk=>S.testBit k):=by
 unfold cols
 obtain ⟨d,rfl⟩:=Nat.exists_eq_add_of_le (show j + 1<=n from hj)
 rw [List.range_add,List.range_succ,List.filter_append,List.filter_append,show j + 1 + d - (j + 1)=d by omega,List.append_assoc]
 have lo:(List.range j).filter (λk=>(S ||| 2 ^ j).testBit k)=(List.range j).filter λk=>S.testBit k:=List.filter_congr λk hk=>by
   have:=List.mem_range.mp hk
   rw [Nat.testBit_or,Nat.testBit_two_pow_of_ne (by omega),Bool.or_false]
 have hi:((List.range d).map (j + 1 + ·)).filter (λk=>(S ||| 2 ^ j).testBit k)=((List.range d).map (j + 1 + ·)).filter λk=>S.testBit k:=List.filter_congr λk hk=>by
   obtain ⟨q,_,rfl⟩:=List.mem_map.mp hk
   rw [Nat.testBit_or,Nat.testBit_two_pow_of_ne (by omega),Bool.or_false]
 rw [lo,hi,List.filter_cons_of_pos (by rw [Nat.testBit_or,Nat.testBit_two_pow_self,Bool.or_true]),List.filter_nil]
 rfl
noncomputable def above (n j S:Nat):List Nat:=((List.range (n - (j + 1))).map (j + 1 + ·)).filter λk=>S.testBit k
theorem og {n S j:Nat} (hj:j < n) (h:S.testBit j=false):cols n S=cols j S++above n j S:=by
 unfold cols above
 obtain ⟨d,rfl⟩:=Nat.exists_eq_add_of_le (show j + 1<=n from hj)
 rw [List.range_add,List.range_succ,List.filter_append,List.filter_append,show j + 1 + d - (j + 1)=d by omega,List.filter_cons_of_neg (by rw [h]; decide),List.filter_nil,List.append_nil]
theorem jb {n S j:Nat} (hj:j < n) (h:S.testBit j=false):(cols n (S ||| 2 ^ j)).length=(cols n S).length + 1/\(cols n (S ||| 2 ^ j)).getD (cols j S).length 0=j/\(cols n (S ||| 2 ^ j)).eraseIdx (cols j S).length=cols n S/\(cols n S).length - (cols j S).length=(above n j S).length/\(cols j S).length<=(cols n S).length:=by
 rw [wU hj h,og hj h]
 refine ⟨by simp only [List.length_append,List.length_cons]; rfl,?_,?_,by rw [List.length_append]; omega,by rw [List.length_append]; omega⟩
 · rw [List.getD_eq_getElem?_getD,List.getElem?_append_right (Nat.le_refl _),Nat.sub_self]
   rfl
 · rw [List.eraseIdx_append_of_length_le (Nat.le_refl _),Nat.sub_self]
   rfl
theorem sf (n S:Nat):cols (n + 1) S=if S.testBit n then cols n S++[n] else cols n S:=by
 unfold cols
 rw [List.range_succ,List.filter_append]
 cases h:S.testBit n with
 | true=>rw [List.filter_cons_of_pos h,List.filter_nil,if_pos rfl]
 | false=>rw [List.filter_cons_of_neg (by rw [h]; decide),List.filter_nil,List.append_nil,if_neg (by decide)]
theorem mX (G:Nat->Nat->Rat) (S:Nat):∀ n,aD (λc=>G c ((cols n S).getD c 0)) (cols n S).length=aD (λj=>if S.testBit j then G (cols j S).length j else 0) n
 | 0=>rfl
 | n + 1=>by
   rw [sf,aD,<- mX G S n]
   cases h:S.testBit n with
   | true=>
     rw [if_pos rfl,if_pos rfl,List.length_append,List.length_singleton,aD]
     have e1:(cols n S++[n]).getD (cols n S).length 0=n:=by
       rw [List.getD_eq_getElem?_getD,List.getElem?_append_right (Nat.le_refl _),Nat.sub_self]
       rfl
     rw [e1]
     refine congrArg (· + G (cols n S).length n) (aC λc hc=>?_)
     rw [List.getD_eq_getElem?_getD,List.getElem?_append_left hc,<- List.getD_eq_getElem?_getD]
   | false=>rw [if_neg (by decide),if_neg (by decide),Rat.add_zero]
theorem gC {S j:Nat} (h:S.testBit j=true):(S ^^^ 2 ^ j).testBit j=false/\(S ^^^ 2 ^ j) ||| 2 ^ j=S/\∀ k,k ≠ j->(S ^^^ 2 ^ j).testBit k=S.testBit k:=by
 have a:∀ k,k ≠ j->(S ^^^ 2 ^ j).testBit k=S.testBit k:=λk hk=>by rw [Nat.testBit_xor,Nat.testBit_two_pow_of_ne (Ne.symm hk),Bool.xor_false]
 have b:(S ^^^ 2 ^ j).testBit j=false:=by rw [Nat.testBit_xor,Nat.testBit_two_pow_self,h]; rfl
 refine ⟨b,Nat.eq_of_testBit_eq λk=>?_,a⟩
 rw [Nat.testBit_or]
 by_cases z:k=j
 · subst z
   rw [Nat.testBit_two_pow_self,Bool.or_true,h]
 · rw [a k z,Nat.testBit_two_pow_of_ne (Ne.symm z),Bool.or_false]
theorem rf {M:Nat->Nat->Rat} {n m S:Nat} (h:(cols n S).length=m + 1):cj M (cols n S)=aD (λj=>if S.testBit j then sgn (above n j S).length * M m j * cj M (cols n (S ^^^ 2 ^ j)) else 0) n:=by
 rw [i5 h,<- h,mX (λc j=>sgn (m - c) * M m j * cj M ((cols n S).eraseIdx c)) S n]
 refine aC λj hj=>?_
 cases hb:S.testBit j with
 | false=>rfl
 | true=>
   rw [if_pos rfl,if_pos rfl]
   obtain ⟨b1,b2,b3⟩:=gC hb
   obtain ⟨c1,c2,c3,c4,c5⟩:=jb hj b1
   rw [b2] at c1 c2 c3
   have l1:cols j (S ^^^ 2 ^ j)=cols j S:=List.filter_congr λk hk=>b3 k (by have:=List.mem_range.mp hk; omega)
   have l2:above n j (S ^^^ 2 ^ j)=above n j S:=List.filter_congr λk hk=>by
     obtain ⟨q,_,rfl⟩:=List.mem_map.mp hk
     exact b3 _ (by omega)
   rw [l1] at c3 c4
   rw [l2] at c4
   rw [c3,<- c4,show (cols n (S ^^^ 2 ^ j)).length=m by omega]
theorem zM (S j:Nat):jF (S:Int) j=S.testBit j:=by
 unfold jF
 have e:(S:Int) / 2 ^ j=((S / 2 ^ j:Nat):Int):=by simp
 rw [e,PyProof.Rows.bitAnd_pp (Int.natCast_nonneg _) (by decide),Int.toNat_natCast,Nat.testBit_eq_decide_div_mod_eq]
 have:(S / 2 ^ j) &&& (1:Int).toNat=S / 2 ^ j % 2:=by show (S / 2 ^ j) &&& 1=_; rw [Nat.and_one_is_mod]
 rw [this]
 congr 1
 rw [eq_iff_iff]
 omega
theorem zU (S j:Nat):gW (S:Int) j=((S ||| 2 ^ j:Nat):Int):=by
 unfold gW
 have e:(1:Int) * 2 ^ j=((2 ^ j:Nat):Int):=by simp
 rw [e]
 generalize 2 ^ j=y
 unfold Builtin.bitOr
 have h1:¬ (0<=Builtin.bitNot (S:Int)):=by unfold Builtin.bitNot; omega
 have h2:¬ (0<=Builtin.bitNot (y:Int)):=by unfold Builtin.bitNot; omega
 rw [PyProof.Rows.bitAnd_nn h1 h2]
 have h3:∀ x:Int,Builtin.bitNot (Builtin.bitNot x)=x:=λx=>by unfold Builtin.bitNot; omega
 rw [h3,h3,h3,Int.toNat_natCast,Int.toNat_natCast]
theorem Bi (k:Nat):((sgZ (k:Int):Int):Rat)=sgn k:=by
 unfold sgZ sgn
 rw [Int.fmod_eq_emod_of_nonneg _ (by decide)]
 by_cases h:k % 2=0
 · rw [if_pos h,show (k:Int) % 2=0 by omega]; rfl
 · rw [if_neg h,show (k:Int) % 2=1 by omega]; rfl
theorem lD (kv:List (Int × Int)) (k v j:Int):ba (eG kv k v) j=if j=k then some v else ba kv j:=by
 have e:=uh (Ev.bu kv) (Sum.inl k) (Sum.inl j) (V.int v)
 rw [pR,gD,gD] at e
 by_cases h:j=k
 · rw [if_pos (congrArg Sum.inl h)] at e
   rw [if_pos h]
   cases z:ba (eG kv k v) j with
   | none=>rw [z] at e; cases e
   | some x=>rw [z] at e; cases e; rfl
 · rw [if_neg (λz=>h (Sum.inl.inj z))] at e
   rw [if_neg h]
   cases z:ba (eG kv k v) j <;> cases z':ba kv j <;> rw [z,z'] at e <;> cases e <;> rfl
theorem mL (kv:List (Int × Int)) (k v:Int):(eG kv k v).map (·.1)=if (kv.any λp=>decide (p.1=k))=true then kv.map (·.1) else kv.map (·.1)++[k]:=by
 unfold eG
 split
 · rw [List.map_map]
   refine List.map_congr_left λp _=>?_
   simp only [Function.comp]
   split <;> rfl
 · rw [List.map_append]; rfl
theorem yV {kv:List (Int × Int)} {k v:Int} (h:(kv.map (·.1)).Nodup):((eG kv k v).map (·.1)).Nodup:=by
 rw [mL]
 split
 · exact h
 · rename_i z
   rw [List.nodup_append]
   refine ⟨h,by simp,λa ha b hb e=>z ?_⟩
   obtain ⟨p,hp,rfl⟩:=List.mem_map.mp ha
   rw [List.mem_singleton] at hb
   exact List.any_eq_true.mpr ⟨p,hp,decide_eq_true (e.trans hb)⟩
theorem wB {kv:List (Int × Int)} {k v x:Int} (h:x ∈ (eG kv k v).map (·.1)):x=k\/x ∈ kv.map (·.1):=by
 rw [mL] at h
 split at h
 · exact .inr h
 · rcases List.mem_append.mp h with h | h
   · exact .inr h
   · exact .inl (List.mem_singleton.mp h)
theorem jK:∀ {kv:List (Int × Int)} {q:Int × Int},(kv.map (·.1)).Nodup->q ∈ kv->ba kv q.1=some q.2
 | p :: t,q,h,hq=>by
   rw [List.map_cons,List.nodup_cons] at h
   unfold ba
   by_cases z:p.1=q.1
   · rw [List.find?_cons_of_pos (by simp [z])]
     rcases List.mem_cons.mp hq with e | hq
     · rw [e]; rfl
     · exact absurd (List.mem_map.mpr ⟨q,hq,z.symm⟩) h.1
   · rw [List.find?_cons_of_neg (by simp [z])]
     rcases List.mem_cons.mp hq with e | hq
     · exact absurd (by rw [e]) z
     · exact jK h.2 hq
theorem sW:∀ {kv:List (Int × Int)} {k v:Int},ba kv k=some v->(k,v) ∈ kv
 | p :: t,k,v,h=>by
   unfold ba at h
   by_cases z:p.1=k
   · rw [List.find?_cons_of_pos (by simp [z])] at h
     cases h
     rw [<- z]
     exact List.mem_cons_self ..
   · rw [List.find?_cons_of_neg (by simp [z])] at h
     exact List.mem_cons_of_mem _ (sW h)
noncomputable def gv (kv:List (Int × Int)) (k:Int):Rat:=(((ba kv k).getD 0:Int):Rat)
theorem yh (kv:List (Int × Int)) (k j x:Int):gv (eG kv k ((ba kv k).getD 0 + x)) j=gv kv j + if j=k then (x:Rat) else 0:=by
 unfold gv
 rw [lD]
 by_cases h:j=k
 · rw [if_pos h,if_pos h,h,Option.getD_some,Rat.intCast_add]
 · rw [if_neg h,if_neg h,Rat.add_zero]
theorem oz {n j S:Nat} (h:j + 1 < n):(above n j S).length=(if S.testBit (j + 1) then 1 else 0) + (above n (j + 1) S).length:=by
 unfold above
 obtain ⟨d,rfl⟩:=Nat.exists_eq_add_of_le (show j + 2<=n from h)
 rw [show j + 2 + d - (j + 1)=d + 1 by omega,show j + 2 + d - (j + 1 + 1)=d by omega,List.range_succ_eq_map,List.map_cons,List.map_map,List.filter_cons]
 have e:(List.range d).map ((j + 1 + ·) ∘ Nat.succ)=(List.range d).map (j + 1 + 1 + ·):=List.map_congr_left λk _=>by simp only [Function.comp]; omega
 rw [e,Nat.add_zero]
 split
 · rw [List.length_cons]; omega
 · omega
theorem om {n S:Nat}:(above (n + 1) n S).length=0:=by
 unfold above
 rw [show n + 1 - (n + 1)=0 by omega]
 rfl
theorem jk (g:Nat->Rat):∀ n,aD g (n + 1)=g 0 + aD (λk=>g (k + 1)) n
 | 0=>by simp only [aD,Rat.add_zero,Rat.zero_add]
 | n + 1=>by
   rw [aD,jk g n,aD,Rat.add_assoc]
theorem nK (f:Nat->Rat):∀ n,aD (λt=>f (n - 1 - t)) n=aD f n
 | 0=>rfl
 | n + 1=>by
   rw [jk,aD,Rat.add_comm,show n + 1 - 1 - 0=n by omega,<- nK f n]
   refine congrArg (· + f n) (aC λk hk=>?_)
   rw [show n + 1 - 1 - (k + 1)=n - 1 - k by omega]
noncomputable def oG (n S:Nat):Nat->Nat
 | 0=>0
 | c + 1=>oG n S c + if S.testBit (n - 1 - c) then 1 else 0
theorem ku {n S:Nat}:∀ c,c < n->oG n S c=(above n (n - 1 - c) S).length
 | 0,h=>by
   obtain ⟨m,rfl⟩:=Nat.exists_eq_succ_of_ne_zero (show n ≠ 0 by omega)
   rw [show m.succ - 1 - 0=m by omega,om]
   rfl
 | c + 1,h=>by
   rw [oG,ku c (by omega),oz (n:=n) (j:=n - 1 - (c + 1)) (by omega),show n - 1 - (c + 1) + 1=n - 1 - c by omega]
   omega
noncomputable def evQ (n:Nat) (row:List Int) (S:Nat) (v:Rat) (T:Int) (j:Nat):Rat:=if S.testBit j then 0 else if T=((S ||| 2 ^ j:Nat):Int) then sgn (above n j S).length * ((row.getD j 0:Int):Rat) * v else 0
structure CI (n S:Nat) (row:List Int) (v:Int) (lk:List (Int × Int)) (c:Nat) (r:Int × List (Int × Int)):Prop where
 cnt:r.1=(oG n S c:Nat)
 val:∀ T,gv r.2 T=gv lk T + aD (λt=>evQ n row S v T (n - 1 - t)) c
 key:∀ x ∈ r.2.map (·.1),x ∈ lk.map (·.1)\/∃ j,j < n/\S.testBit j=false/\x=((S ||| 2 ^ j:Nat):Int)
 nd:(r.2.map (·.1)).Nodup
 old:∀ T,ba lk T ≠ none->ba r.2 T ≠ none
 new:∀ t < c,S.testBit (n - 1 - t)=false->ba r.2 ((S ||| 2 ^ (n - 1 - t):Nat):Int) ≠ none
theorem qN {n S:Nat} {row:List Int} {v:Int} {lk:List (Int × Int)} (hn:(lk.map (·.1)).Nodup):∀ c,c<=n->CI n S row v lk c (bt n row (S:Int) v lk c)
 | 0,_=>⟨rfl,λT=>by rw [aD,Rat.add_zero]; rfl,λx h=>.inl h,hn,λ_ h=>h,λt h=>by omega⟩
 | c + 1,hc=>by
   obtain ⟨h1,h2,h3,h4,h5,h6⟩:=qN (n:=n) (S:=S) (row:=row) (v:=v) hn c (by omega)
   rw [bt,e7,zM,zU]
   generalize bt n row (S:Int) v lk c=r at h1 h2 h3 h4 h5 h6 ⊢
   cases hb:S.testBit (n - 1 - c) with
   | true=>
     rw [if_pos rfl]
     refine ⟨by dsimp only; rw [h1,oG,hb,if_pos rfl]; omega,λT=>?_,h3,h4,h5,λt ht hf=>?_⟩
     · rw [aD,evQ,if_pos hb,Rat.add_zero]; exact h2 T
     · rcases Nat.lt_or_ge t c with z | z
       · exact h6 t z hf
       · obtain rfl:t=c:=by omega
         rw [hb] at hf; cases hf
   | false=>
     rw [if_neg (by decide)]
     refine ⟨by dsimp only; rw [h1,oG,hb]; rfl,λT=>?_,λx hx=>?_,yV h4,λT hT=>?_,λt ht hf=>?_⟩
     · dsimp only
       have e:evQ n row S v T (n - 1 - c)=if T=((S ||| 2 ^ (n - 1 - c):Nat):Int) then sgn (oG n S c) * ((row.getD (n - 1 - c) 0:Int):Rat) * v else 0:=by
         unfold evQ
         rw [if_neg (by rw [hb]; decide),<- ku (n:=n) (S:=S) c (by omega)]
       rw [yh,h2,aD,<- Rat.add_assoc,e,h1,Rat.intCast_mul,Rat.intCast_mul,Bi]
     · rcases wB hx with e | e
       · exact .inr ⟨n - 1 - c,by omega,hb,e⟩
       · exact h3 x e
     · dsimp only
       rw [lD]
       split
       · exact nofun
       · exact h5 T hT
     · dsimp only
       rw [lD]
       split
       · exact nofun
       · rename_i z
         rcases Nat.lt_or_ge t c with y | y
         · exact h6 t y hf
         · obtain rfl:t=c:=by omega
           exact absurd rfl z
structure MI (n:Nat) (row:List Int) (Sf:Nat->Nat) (vf:Nat->Rat) (t:Nat) (r:List (Int × Int)):Prop where
 val:∀ T,gv r T=aD (λs=>aD (evQ n row (Sf s) (vf s) T) n) t
 key:∀ x ∈ r.map (·.1),∃ s < t,∃ j,j < n/\(Sf s).testBit j=false/\x=((Sf s ||| 2 ^ j:Nat):Int)
 nd:(r.map (·.1)).Nodup
 new:∀ s < t,∀ j < n,(Sf s).testBit j=false->ba r ((Sf s ||| 2 ^ j:Nat):Int) ≠ none
theorem ni {n:Nat} {row:List Int} {kv:List (Int × Int)} {Sf:Nat->Nat} (hS:∀ s < kv.length,(kv.getD s (0,0)).1=(Sf s:Int)):∀ t,t<=kv.length->MI n row Sf (λs=>gv kv (Sf s)) t (aV n row kv t)
 | 0,_=>⟨λT=>rfl,λx h=>by simp [aV] at h,by simp [aV],λs h=>by omega⟩
 | t + 1,ht=>by
   obtain ⟨h1,h2,h3,h4⟩:=ni (n:=n) (row:=row) hS t (by omega)
   rw [aV,hS t (by omega)]
   generalize aV n row kv t=r at h1 h2 h3 h4 ⊢
   obtain ⟨_,c2,c3,c4,c5,c6⟩:=qN (n:=n) (S:=Sf t) (row:=row) (v:=(ba kv (Sf t:Int)).getD 0) h3 n (Nat.le_refl _)
   refine ⟨λT=>?_,λx hx=>?_,c4,λs hs j hj hf=>?_⟩
   · rw [c2,h1,aD,nK (evQ n row (Sf t) _ T)]
     rfl
   · rcases c3 x hx with e | ⟨j,e⟩
     · obtain ⟨s,hs,e⟩:=h2 x e
       exact ⟨s,by omega,e⟩
     · exact ⟨t,by omega,j,e⟩
   · rcases Nat.lt_or_ge s t with z | z
     · exact c5 _ (h4 s z j hj hf)
     · obtain rfl:s=t:=by omega
       have:=c6 (n - 1 - j) (by omega)
       rw [show n - 1 - (n - 1 - j)=j by omega] at this
       exact this hf
structure RI (n i:Nat) (M:Nat->Nat->Rat) (kv:List (Int × Int)):Prop where
 key:∀ x ∈ kv.map (·.1),∃ S:Nat,x=(S:Int)/\S < 2 ^ n/\(cols n S).length=i
 nd:(kv.map (·.1)).Nodup
 all:∀ S:Nat,S < 2 ^ n->(cols n S).length=i->ba kv (S:Int) ≠ none/\gv kv (S:Int)=cj M (cols n S)
theorem sY {S T j:Nat} (h:S.testBit j=false) (e:T=S ||| 2 ^ j):T.testBit j=true/\S=T ^^^ 2 ^ j:=by
 have h1:T.testBit j=true:=by rw [e,Nat.testBit_or,Nat.testBit_two_pow_self,Bool.or_true]
 refine ⟨h1,Nat.eq_of_testBit_eq λk=>?_⟩
 obtain ⟨b1,_,b3⟩:=gC h1
 by_cases z:k=j
 · subst z; rw [h,b1]
 · rw [b3 k z,e,Nat.testBit_or,Nat.testBit_two_pow_of_ne (Ne.symm z),Bool.or_false]
theorem RI.step {n i:Nat} {M:Nat->Nat->Rat} {kv:List (Int × Int)} {row:List Int} (h:RI n i M kv) (hr:∀ j < n,((row.getD j 0:Int):Rat)=M i j):RI n (i + 1) M (aV n row kv kv.length):=by
 have hS:∀ s < kv.length,(kv.getD s (0,0)).1=((kv.getD s (0,0)).1.toNat:Int)/\(kv.getD s (0,0)).1.toNat < 2 ^ n/\(cols n (kv.getD s (0,0)).1.toNat).length=i:=λs hs=>by
   have hm:kv.getD s (0,0) ∈ kv:=by rw [List.getD_eq_getElem?_getD,List.getElem?_eq_getElem hs]; exact List.getElem_mem hs
   obtain ⟨S,e1,e2,e3⟩:=h.key _ (List.mem_map.mpr ⟨_,hm,rfl⟩)
   rw [e1,Int.toNat_natCast]
   exact ⟨rfl,e2,e3⟩
 obtain ⟨m1,m2,m3,m4⟩:=ni (n:=n) (row:=row) (kv:=kv) (Sf:=λs=>(kv.getD s (0,0)).1.toNat) (λs hs=>(hS s hs).1) kv.length (Nat.le_refl _)
 have off:∀ {T j:Nat},T < 2 ^ n->(cols n T).length=i + 1->j < n->T.testBit j=true->T ^^^ 2 ^ j < 2 ^ n/\(cols n (T ^^^ 2 ^ j)).length=i/\∃ s < kv.length,(kv.getD s (0,0)).1.toNat=T ^^^ 2 ^ j:=λ{T j} hT hl hj hb=>by
   obtain ⟨b1,b2,_⟩:=gC hb
   have l1:T ^^^ 2 ^ j < 2 ^ n:=Nat.xor_lt_two_pow hT (Nat.pow_lt_pow_right (by decide) hj)
   have l2:=(jb hj b1).1
   rw [b2,hl] at l2
   refine ⟨l1,by omega,?_⟩
   obtain ⟨q,_⟩:=h.all _ l1 (by omega)
   cases z:ba kv ((T ^^^ 2 ^ j:Nat):Int) with
   | none=>exact absurd z q
   | some v=>
     obtain ⟨s,hs⟩:=List.getElem?_of_mem (sW z)
     refine ⟨s,(List.getElem?_eq_some_iff.mp hs).1,?_⟩
     rw [List.getD_eq_getElem?_getD,hs]
     show (((T ^^^ 2 ^ j:Nat):Int)).toNat=_
     rw [Int.toNat_natCast]
 refine ⟨λx hx=>?_,m3,λT hT hl=>⟨?_,?_⟩⟩
 · obtain ⟨s,hs,j,hj,hf,rfl⟩:=m2 x hx
   obtain ⟨_,e2,e3⟩:=hS s hs
   exact ⟨_,rfl,Nat.or_lt_two_pow e2 (Nat.pow_lt_pow_right (by decide) hj),by rw [(jb hj hf).1,e3]⟩
 · obtain ⟨j,hj⟩:=List.exists_mem_of_length_pos (l:=cols n T) (by omega)
   obtain ⟨hj,hb⟩:=ja.mp hj
   obtain ⟨_,_,s,hs,e⟩:=off hT hl hj hb
   obtain ⟨b1,b2,_⟩:=gC hb
   have:=m4 s hs j hj
   try dsimp only at this
   rw [e,b2] at this
   exact this b1
 · rw [m1,gZ (λs j=>evQ n row (kv.getD s (0,0)).1.toNat (gv kv ((kv.getD s (0,0)).1.toNat:Int)) (T:Int) j) n kv.length,rf hl]
   refine aC λj hj=>?_
   cases hb:T.testBit j with
   | false=>
     rw [if_neg (by decide)]
     refine dH λs hs=>?_
     unfold evQ
     cases hf:(kv.getD s (0,0)).1.toNat.testBit j with
     | true=>rw [if_pos rfl]
     | false=>
       rw [if_neg (by decide),if_neg λz=>?_]
       have:=(sY hf (Int.ofNat.inj z)).1
       rw [hb] at this; cases this
   | true=>
     rw [if_pos rfl]
     obtain ⟨l1,l2,s0,hs0,e0⟩:=off hT hl hj hb
     obtain ⟨b1,b2,b3⟩:=gC hb
     have ea:above n j (T ^^^ 2 ^ j)=above n j T:=List.filter_congr λk hk=>by
       obtain ⟨q,_,rfl⟩:=List.mem_map.mp hk
       exact b3 _ (by omega)
     rw [<- (h.all _ l1 l2).2,<- hr j hj,<- ea,<- dJ (λ_=>sgn (above n j (T ^^^ 2 ^ j)).length * ((row.getD j 0:Int):Rat) * gv kv ((T ^^^ 2 ^ j:Nat):Int)) s0 kv.length hs0]
     refine aC λs hs=>?_
     unfold evQ dq
     by_cases z:s=s0
     · subst z
       rw [e0,b1,b2,if_neg (by decide),if_pos rfl,if_pos rfl,Rat.mul_one]
     · rw [if_neg z,Rat.mul_zero]
       cases hf:(kv.getD s (0,0)).1.toNat.testBit j with
       | true=>rw [if_pos rfl]
       | false=>
         rw [if_neg (by decide),if_neg λy=>z ?_]
         have e1:=(sY hf (Int.ofNat.inj y)).2
         have e2:(kv.map (·.1))[s]?=(kv.map (·.1))[s0]?:=by
           have g:∀ s < kv.length,(kv.map (·.1))[s]?=some (kv.getD s (0,0)).1:=λs hs=>by
             rw [List.getElem?_map,List.getD_eq_getElem?_getD,List.getElem?_eq_getElem hs]; rfl
           rw [g s hs,g s0 hs0,(hS s hs).1,(hS s0 hs0).1,e1,e0]
         exact (List.getElem?_inj (by rw [List.length_map]; exact hs) h.nd).mp e2
theorem RI.zero (n:Nat) (M:Nat->Nat->Rat):RI n 0 M [(0,1)]:=by
 have c0:∀ S:Nat,S < 2 ^ n->(cols n S).length=0->S=0:=λS hS h=>Nat.eq_of_testBit_eq λk=>by
   rw [Nat.zero_testBit]
   rcases Nat.lt_or_ge k n with z | z
   · cases hb:S.testBit k with
     | false=>rfl
     | true=>
       have:=ja.mpr ⟨z,hb⟩
       rw [List.length_eq_zero_iff.mp h] at this
       cases this
   · exact Nat.testBit_lt_two_pow (Nat.lt_of_lt_of_le hS (Nat.pow_le_pow_right (by decide) z))
 refine ⟨λx hx=>⟨0,?_,Nat.two_pow_pos n,?_⟩,by simp,λS hS h=>?_⟩
 · simpa using hx
 · unfold cols
   rw [List.filter_eq_nil_iff.mpr λa _=>by rw [Nat.zero_testBit]; decide]
   rfl
 · obtain rfl:=c0 S hS h
   refine ⟨nofun,?_⟩
   rw [cj,h]
   rfl
theorem i0 {n:Nat} {M:Nat->Nat->Rat} {Ms:List (List Int)} (hl:Ms.length=n) (hM:∀ i < n,∀ j < n,(((Ms.getD i []).getD j 0:Int):Rat)=M i j):∀ i,i<=n->RI n i M (bX Ms i)
 | 0,_=>RI.zero n M
 | i + 1,h=>by
   rw [bX,hl]
   exact (i0 hl hM i (by omega)).step (hM i (by omega))
theorem wG {n b:Nat} {M:Nat->Nat->Rat} (hn:n<=7) (hM:∀ i < n,∀ j < n,ZB b (M i j)) {S:Nat}:ZB (n * (b + 3)) (cj M (cols n S)):=by
 unfold cj
 have hl:(cols n S).length<=n:=by
   have:=List.length_filter_le (λj=>S.testBit j) (List.range n)
   rw [List.length_range] at this
   exact this
 refine (uM (b:=b) (by omega) λi hi j hj=>hM i (by omega) _ ?_).mono (Nat.mul_le_mul_right _ hl)
 rw [List.getD_eq_getElem?_getD,List.getElem?_eq_getElem hj]
 exact (ja.mp (List.getElem_mem hj)).1
set_option exponentiation.threshold 4000 in
theorem yf {n b:Nat} {M:Nat->Nat->Rat} {Ms:List (List Int)} (hn:n<=7) (hl:Ms.length=n) (hr:∀ r ∈ Ms,r.length=n/\∀ x ∈ r,x.natAbs<=2 ^ b) (hM:∀ i < n,∀ j < n,(((Ms.getD i []).getD j 0:Int):Rat)=M i j) (hb:n * (b + 3)<=3800) (hb':b<=3800) :
   ∃ d:Int,yc Ms=some d/\(d:Rat)=det n M:=by
 have zb:∀ i < n,∀ j < n,ZB b (M i j):=λi hi j hj=>by
   have h1:i < Ms.length:=by omega
   have h2:Ms.getD i [] ∈ Ms:=by rw [List.getD_eq_getElem?_getD,List.getElem?_eq_getElem h1]; exact List.getElem_mem h1
   refine ⟨_,(hM i hi j hj).symm,(hr _ h2).2 _ ?_⟩
   have h3:j < (Ms.getD i []).length:=by rw [(hr _ h2).1]; exact hj
   rw [List.getD_eq_getElem?_getD (l:=Ms.getD i []),List.getElem?_eq_getElem h3]
   exact List.getElem_mem h3
 have lm:∀ {x c:Nat},x<=2 ^ c->c<=3800->x < lim:=λ{x c} h hc=>Nat.lt_of_le_of_lt h (Nat.pow_lt_pow_right (by decide) (by omega))
 have ok:okZ Ms:=by
   refine ⟨by omega,λr h=>⟨by rw [hl]; exact (hr r h).1,λx hx=>lm ((hr r h).2 x hx) hb'⟩,λi hi p hp=>?_⟩
   have R:=i0 hl hM i (by omega)
   obtain ⟨S,e1,e2,e3⟩:=R.key _ (List.mem_map.mpr ⟨p,hp,rfl⟩)
   have e4:=(R.all S e2 e3).2
   rw [<- e1] at e4
   unfold gv at e4
   rw [jK R.nd hp,Option.getD_some] at e4
   obtain ⟨z,e5,e6⟩:=wG (S:=S) hn zb
   rw [e5] at e4
   rw [Rat.intCast_inj.mp e4]
   exact lm e6 hb
 have R:=i0 hl hM n (Nat.le_refl _)
 have bits:cols n (2 ^ n - 1)=List.range n:=List.filter_eq_self.mpr λk hk=>by
   rw [Nat.testBit_two_pow_sub_one]
   exact decide_eq_true (List.mem_range.mp hk)
 have p2:=Nat.two_pow_pos n
 obtain ⟨q1,q2⟩:=R.all (2 ^ n - 1) (by omega) (by rw [bits,List.length_range])
 have e1:((2 ^ n - 1:Nat):Int)=2 ^ n - 1:=by rw [Int.natCast_sub p2]; simp
 unfold yc
 rw [if_pos ok,hl,<- e1]
 cases z:ba (bX Ms n) ((2 ^ n - 1:Nat):Int) with
 | none=>exact absurd z q1
 | some d=>
   refine ⟨d,rfl,?_⟩
   unfold gv at q2
   rw [z,Option.getD_some] at q2
   rw [q2,cj,bits,List.length_range]
   refine ax λi hi j hj=>?_
   rw [List.getD_eq_getElem?_getD,List.getElem?_range hj]
   rfl
section
variable {P:Program} {w:World} {K:PySem.W.Frag} {mg:Str->Option Value} {base:Heap} {k:Nat} {f:Addr} {fd:FuncData} {qual:Str}
end
noncomputable def mi (M:Nat->Nat->Rat) (k:Nat) (ρ γ:Nat->Nat):Rat:=det k λr c=>M (ρ r) (γ c)
theorem mO {M:Nat->Nat->Rat} {k:Nat} {ρ ρ' γ γ':Nat->Nat} (h:∀ i < k,ρ i=ρ' i) (h':∀ i < k,γ i=γ' i):mi M k ρ γ=mi M k ρ' γ':=ax λi hi j hj=>by rw [h i hi,h' j hj]
theorem Aw (M:Nat->Nat->Rat) (k:Nat) (ρ γ:Nat->Nat):mi (λi j=>M j i) k γ ρ=mi M k ρ γ:=iF k λr c=>M (ρ r) (γ c)
theorem cu {n k:Nat} (m:Nat) (Y:Nat->Nat->Rat) (h:k + m < n):(det n λr c=>Y r (rho k m c))=sgn m * det n Y:=by
 rw [<- iF n Y,<- fD (k:=k) m (λi j=>Y j i) h]
 exact (iF n λi j=>Y j (rho k m i))
theorem wd {d x y:Rat} (h:d ≠ 0) (e:d * x=d * y):x=y:=by
 have:=congrArg (d⁻¹ * ·) e
 simp only [<- Rat.mul_assoc,Rat.inv_mul_cancel d h,Rat.one_mul] at this
 exact this
noncomputable def k2 (Y:Nat->Nat->Rat) (s x y:Nat):Rat:=det (s + 2) λr c=>Y r (if c < s then c else if c=s then x else y)
theorem sX {s:Nat} {Y:Nat->Nat->Rat} (h0:det s Y ≠ 0) (x y:Nat):det s Y * k2 Y s x y=bm Y s s x * bm Y s (s + 1) y - bm Y s s y * bm Y s (s + 1) x:=by
 have e0:(det s λr c=>Y r (if c < s then c else if c=s then x else y))=det s Y:=ax λi hi j hj=>by rw [if_pos hj]
 have st:=lx (Y:=λr c=>Y r (if c < s then c else if c=s then x else y)) (k:=s) (i:=s + 1) (j:=s + 1) (by rw [e0]; exact h0)
 have e1:∀ p,bm (λr c=>Y r (if c < s then c else if c=s then x else y)) s p s=bm Y s p x:=λp=>by
   unfold bm
   refine ax λi hi j hj=>?_
   by_cases z:j < s
   · simp [z]
   · simp [z]
 have e2:∀ p,bm (λr c=>Y r (if c < s then c else if c=s then x else y)) s p (s + 1)=bm Y s p y:=λp=>by
   unfold bm
   refine ax λi hi j hj=>?_
   by_cases z:j < s
   · simp [z]
   · simp only [if_neg z,if_neg (show ¬s + 1 < s by omega),if_neg (show ¬s + 1=s by omega)]
 rw [i4,e0,e1,e1,e2,e2] at st
 exact st
theorem three {s:Nat} {Y:Nat->Nat->Rat} (h0:det s Y ≠ 0) (x y z:Nat):k2 Y s x z * bm Y s s y=k2 Y s y z * bm Y s s x + k2 Y s x y * bm Y s s z:=by
 have h1:=sX h0 x z
 have h2:=sX h0 y z
 have h3:=sX h0 x y
 generalize det s Y=d at h0 h1 h2 h3
 generalize k2 Y s x z=p at h1 ⊢
 generalize k2 Y s y z=q at h2 ⊢
 generalize k2 Y s x y=r at h3 ⊢
 generalize bm Y s s x=a at h1 h2 h3 ⊢
 generalize bm Y s s y=b at h1 h2 h3 ⊢
 generalize bm Y s s z=c at h1 h2 h3 ⊢
 generalize bm Y s (s + 1) x=a' at h1 h2 h3
 generalize bm Y s (s + 1) y=b' at h1 h2 h3
 generalize bm Y s (s + 1) z=c' at h1 h2 h3
 have e:d * (p * b)=d * (q * a + r * c):=by grind
 exact wd h0 e
noncomputable def dlt (γ:Nat->Nat) (j p c:Nat):Nat:=if c < j then γ (c + 1) else if c=j then p else γ c
noncomputable def eta (γ:Nat->Nat) (j p c:Nat):Nat:=if c<=j then γ c else if c=j + 1 then p else γ (c - 1)
noncomputable def clY (γ:Nat->Nat) (s p c:Nat):Nat:=if c < s then γ (c + 1) else if c=s then γ 0 else if c=s + 1 then p else γ (s + 1)
theorem plu {M:Nat->Nat->Rat} {ρ γ:Nat->Nat} {s j p:Nat} (hj:j<=s) (h0:mi M s ρ (λc=>γ (c + 1)) ≠ 0) :
   mi M (s + 1) ρ (dlt γ j p) * mi M (s + 2) ρ γ=mi M (s + 1) ρ γ * mi M (s + 2) ρ (dlt γ j p) + mi M (s + 1) ρ (λc=>γ (c + 1)) * mi M (s + 2) ρ (eta γ j p):=by
 have hY:det s (λr c=>M (ρ r) (clY γ s p c))=mi M s ρ (λc=>γ (c + 1)):=ax λi hi q hq=>by unfold clY; rw [if_pos hq]
 have t:=three (Y:=λr c=>M (ρ r) (clY γ s p c)) (s:=s) (by rw [hY]; exact h0) s (s + 1) (s + 2)
 have b1:mi M (s + 1) ρ γ=sgn s * bm (λr c=>M (ρ r) (clY γ s p c)) s s s:=by
   unfold bm
   rw [<- cu (k:=0) s _ (by omega)]
   refine ax λi hi q hq=>?_
   have e1:(if i < s then i else s)=i:=by split <;> omega
   rw [e1]
   refine congrArg (M (ρ i)) ?_
   unfold rho clY
   rcases Nat.eq_zero_or_pos q with z | z
   · subst z
     simp
   · simp only [if_neg (show ¬q < 0 by omega),if_neg (show ¬q=0 by omega),if_pos (show q<=0 + s by omega),if_pos (show q - 1 < s by omega)]
     rw [show q - 1 + 1=q by omega]
 have b3:mi M (s + 1) ρ (λc=>γ (c + 1))=bm (λr c=>M (ρ r) (clY γ s p c)) s s (s + 2):=by
   unfold bm
   refine ax λi hi q hq=>?_
   have e1:(if i < s then i else s)=i:=by split <;> omega
   rw [e1]
   refine congrArg (M (ρ i)) ?_
   unfold clY
   by_cases z:q < s
   · simp only [if_pos z]
   · simp only [if_neg z,if_neg (show ¬s + 2 < s by omega),if_neg (show ¬s + 2=s by omega),if_neg (show ¬s + 2=s + 1 by omega)]
     rw [show q=s by omega]
 have b2:mi M (s + 1) ρ (dlt γ j p)=sgn (s - j) * bm (λr c=>M (ρ r) (clY γ s p c)) s s (s + 1):=by
   unfold bm
   rw [<- cu (k:=j) (s - j) _ (by omega)]
   refine ax λi hi q hq=>?_
   have e1:(if i < s then i else s)=i:=by split <;> omega
   rw [e1]
   refine congrArg (M (ρ i)) ?_
   unfold rho clY dlt
   by_cases z:q < j
   · simp only [if_pos z,if_pos (show q < s by omega)]
   · by_cases z2:q=j
     · simp only [if_neg z,if_pos z2,if_neg (show ¬j + (s - j) < s by omega),if_neg (show ¬s + 1 < s by omega),if_neg (show ¬s + 1=s by omega),if_pos]
     · simp only [if_neg z,if_neg z2,if_pos (show q<=j + (s - j) by omega),if_pos (show q - 1 < s by omega)]
       rw [show q - 1 + 1=q by omega]
 have k13:mi M (s + 2) ρ γ=sgn s * k2 (λr c=>M (ρ r) (clY γ s p c)) s s (s + 2):=by
   unfold k2
   rw [<- cu (k:=0) s _ (by omega)]
   refine ax λi hi q hq=>?_
   refine congrArg (M (ρ i)) ?_
   unfold rho clY
   rcases Nat.eq_zero_or_pos q with z | z
   · subst z
     simp
   · by_cases z2:q<=s
     · simp only [if_neg (show ¬q < 0 by omega),if_neg (show ¬q=0 by omega),if_pos (show q<=0 + s by omega),if_pos (show q - 1 < s by omega)]
       rw [show q - 1 + 1=q by omega]
     · simp only [if_neg (show ¬q < 0 by omega),if_neg (show ¬q=0 by omega),if_neg (show ¬q<=0 + s by omega),if_neg (show ¬q < s by omega),if_neg (show ¬q=s by omega),if_neg (show ¬s + 2 < s by omega),if_neg (show ¬s + 2=s by omega),if_neg (show ¬s + 2=s + 1 by omega)]
       rw [show q=s + 1 by omega]
 have k23:mi M (s + 2) ρ (dlt γ j p)=sgn (s - j) * k2 (λr c=>M (ρ r) (clY γ s p c)) s (s + 1) (s + 2):=by
   unfold k2
   rw [<- cu (k:=j) (s - j) _ (by omega)]
   refine ax λi hi q hq=>?_
   refine congrArg (M (ρ i)) ?_
   unfold rho clY dlt
   by_cases z:q < j
   · simp only [if_pos z,if_pos (show q < s by omega)]
   · by_cases z2:q=j
     · simp only [if_neg z,if_pos z2,if_neg (show ¬j + (s - j) < s by omega),if_pos (show j + (s - j)=s by omega),if_neg (show ¬s + 1 < s by omega),if_neg (show ¬s + 1=s by omega),if_pos]
     · by_cases z3:q<=s
       · simp only [if_neg z,if_neg z2,if_pos (show q<=j + (s - j) by omega),if_pos (show q - 1 < s by omega)]
         rw [show q - 1 + 1=q by omega]
       · simp only [if_neg z,if_neg z2,if_neg (show ¬q<=j + (s - j) by omega),if_neg (show ¬q < s by omega),if_neg (show ¬q=s by omega),if_neg (show ¬s + 2 < s by omega),if_neg (show ¬s + 2=s by omega),if_neg (show ¬s + 2=s + 1 by omega)]
         rw [show q=s + 1 by omega]
 have k12:mi M (s + 2) ρ (eta γ j p)=sgn (s - j) * (sgn s * k2 (λr c=>M (ρ r) (clY γ s p c)) s s (s + 1)):=by
   unfold k2
   rw [<- cu (k:=0) s _ (by omega),<- cu (k:=j + 1) (s - j) _ (by omega)]
   refine ax λi hi q hq=>?_
   refine congrArg (M (ρ i)) ?_
   have in_:∀ c,c<=s->clY γ s p (if rho 0 s c < s then rho 0 s c else if rho 0 s c=s then s else s + 1)=γ c:=λc hc=>by
     unfold rho clY
     rcases Nat.eq_zero_or_pos c with z | z
     · subst z
       simp
     · simp only [if_neg (show ¬c < 0 by omega),if_neg (show ¬c=0 by omega),if_pos (show c<=0 + s by omega),if_pos (show c - 1 < s by omega)]
       rw [show c - 1 + 1=c by omega]
   have il:clY γ s p (if rho 0 s (s + 1) < s then rho 0 s (s + 1) else if rho 0 s (s + 1)=s then s else s + 1)=p:=by
     have:rho 0 s (s + 1)=s + 1:=by unfold rho; (repeat' split) <;> omega
     rw [this]
     unfold clY
     simp only [if_neg (show ¬s + 1 < s by omega),if_neg (show ¬s + 1=s by omega),if_pos]
   show eta γ j p q=clY γ s p (if rho 0 s (rho (j + 1) (s - j) q) < s then rho 0 s (rho (j + 1) (s - j) q) else if rho 0 s (rho (j + 1) (s - j) q)=s then s else s + 1)
   unfold eta
   by_cases z:q<=j
   · rw [if_pos z,show rho (j + 1) (s - j) q=q by unfold rho; rw [if_pos (by omega)],in_ q (by omega)]
   · rw [if_neg z]
     by_cases z2:q=j + 1
     · rw [if_pos z2,show rho (j + 1) (s - j) q=s + 1 by unfold rho; rw [if_neg (by omega),if_pos z2]; omega,il]
     · rw [if_neg z2,show rho (j + 1) (s - j) q=q - 1 by unfold rho; rw [if_neg (by omega),if_neg z2,if_pos (by omega)],in_ (q - 1) (by omega)]
 have q1:=lW s
 have q2:=lW (s - j)
 rw [b1,b2,b3,k13,k23,k12]
 generalize bm (λr c=>M (ρ r) (clY γ s p c)) s s s=x1 at t ⊢
 generalize bm (λr c=>M (ρ r) (clY γ s p c)) s s (s + 1)=x2 at t ⊢
 generalize bm (λr c=>M (ρ r) (clY γ s p c)) s s (s + 2)=x3 at t ⊢
 generalize k2 (λr c=>M (ρ r) (clY γ s p c)) s s (s + 2)=y13 at t ⊢
 generalize k2 (λr c=>M (ρ r) (clY γ s p c)) s (s + 1) (s + 2)=y23 at t ⊢
 generalize k2 (λr c=>M (ρ r) (clY γ s p c)) s s (s + 1)=y12 at t ⊢
 generalize sgn s=u at q1 ⊢
 generalize sgn (s - j)=v at q2 ⊢
 grind
noncomputable def Inc (k:Nat) (γ:Nat->Nat):Prop:=∀ i,i + 1 < k->γ i < γ (i + 1)
theorem Inc.lt {k:Nat} {γ:Nat->Nat} (h:Inc k γ):∀ (d i:Nat),i + d + 1 < k->γ i < γ (i + d + 1)
 | 0,i,hi=>h i hi
 | d + 1,i,hi=>Nat.lt_trans (h.lt d i (by omega)) (h (i + d + 1) hi)
theorem Inc.mono {k:Nat} {γ:Nat->Nat} (h:Inc k γ) {i j:Nat} (hij:i < j) (hj:j < k):γ i < γ j:=by
 have:=h.lt (j - i - 1) i (by omega)
 rwa [show i + (j - i - 1) + 1=j by omega] at this
theorem Inc.le {k l:Nat} {γ:Nat->Nat} (h:Inc k γ) (hl:l<=k):Inc l γ:=λi hi=>h i (by omega)
theorem Inc.up {k:Nat} {γ:Nat->Nat} (h:Inc (k + 1) γ):Inc k λc=>γ (c + 1):=λi hi=>h (i + 1) (by omega)
theorem Inc.dlt {k j p:Nat} {γ:Nat->Nat} (h:Inc k γ) (h1:γ j < p) (h2:p < γ (j + 1)) (hj:j + 1 < k):Inc k (dlt γ j p):=λi hi=>by
 unfold K60.dlt
 by_cases z:i + 1 < j
 · rw [if_pos (by omega),if_pos z]
   exact h (i + 1) (by omega)
 · by_cases z2:i + 1=j
   · rw [if_pos (by omega),if_neg z,if_pos z2,z2]
     exact h1
   · rw [if_neg (by omega),if_neg z,if_neg z2]
     by_cases z3:i=j
     · rw [if_pos z3,z3]
       exact h2
     · rw [if_neg z3]
       exact h i hi
theorem Inc.eta {k j p:Nat} {γ:Nat->Nat} (h:Inc k γ) (h1:γ j < p) (h2:p < γ (j + 1)) (hj:j + 1 < k):Inc k (eta γ j p):=λi hi=>by
 unfold K60.eta
 by_cases z:i + 1<=j
 · rw [if_pos (by omega),if_pos z]
   exact h i hi
 · by_cases z2:i=j
   · rw [if_pos (by omega),if_neg z,if_pos (by omega),z2]
     exact h1
   · by_cases z3:i=j + 1
     · rw [if_neg (by omega),if_pos z3,if_neg z,if_neg (by omega),show i + 1 - 1=j + 1 by omega]
       exact h2
     · rw [if_neg (by omega),if_neg z3,if_neg z,if_neg (by omega),show i + 1 - 1=i - 1 + 1 by omega]
       exact h (i - 1) (by omega)
theorem Inc.gap {k:Nat} {γ:Nat->Nat} (h:Inc k γ):(∀ i < k,γ i=γ 0 + i)\/∃ j,j + 1 < k/\γ j + 1 < γ (j + 1):=by
 induction k with
 | zero=>exact .inl λi hi=>by omega
 | succ k ih=>
   rcases ih (h.le (by omega)) with g | ⟨j,h1,h2⟩
   · by_cases z:k=0
     · exact .inl λi hi=>by rw [show i=0 by omega]; rfl
     · have:=h (k - 1) (by omega)
       rw [show k - 1 + 1=k by omega] at this
       have g1:=g (k - 1) (by omega)
       by_cases y:γ (k - 1) + 1 < γ k
       · exact .inr ⟨k - 1,by omega,by rw [show k - 1 + 1=k by omega]; exact y⟩
       · refine .inl λi hi=>?_
         by_cases x:i=k
         · subst x; omega
         · exact g i (by omega)
   · exact .inr ⟨j,by omega,h2⟩
theorem lq {x y:Rat} (hx:0 < x) (h:0 < x * y):0 < y:=by
 refine Rat.not_le.mp λz=>?_
 have:=Rat.mul_nonneg (Rat.le_of_lt hx) (show 0<=-y by grind)
 rw [Rat.mul_neg] at this
 grind
theorem AF {M:Nat->Nat->Rat} {m:Nat} {ρ:Nat->Nat} {N:Nat} (h:∀ k a,k<=N->1<=k->a + k<=m->0 < mi M k ρ (λc=>a + c)) :
   ∀ k,k<=N->∀ d γ,Inc k γ->(1<=k->γ (k - 1) < m)->γ (k - 1) - γ 0<=d->0 < mi M k ρ γ:=by
 intro k
 induction k using Nat.strongRecOn with
 | ind k ihk=>
   intro hN d
   have sub:∀ l,l < k->∀ γ',Inc l γ'->(1<=l->γ' (l - 1) < m)->0 < mi M l ρ γ':=λl hl γ' hi hm=>ihk l hl (by omega) (γ' (l - 1)) γ' hi hm (by omega)
   have flat:∀ γ,(1<=k->γ (k - 1) < m)->(∀ i < k,γ i=γ 0 + i)->0 < mi M k ρ γ:=λγ hm g=>by
     by_cases z:k=0
     · subst z
       show (0:Rat) < 1
       decide
     · rw [mO (ρ':=ρ) (γ':=λc=>γ 0 + c) (λ_ _=>rfl) g]
       have:=g (k - 1) (by omega)
       have:=hm (by omega)
       exact h k (γ 0) hN (by omega) (by omega)
   induction d with
   | zero=>
     intro γ hi hm hd
     rcases hi.gap with g | ⟨j,h1,h2⟩
     · exact flat γ hm g
     · have l1:γ 0<=γ j:=by
         by_cases z:j=0
         · subst z; exact Nat.le_refl _
         · exact Nat.le_of_lt (hi.mono (by omega) (by omega))
       have l2:γ (j + 1)<=γ (k - 1):=by
         by_cases z:j + 1=k - 1
         · rw [z]; exact Nat.le_refl _
         · exact Nat.le_of_lt (hi.mono (by omega) (by omega))
       omega
   | succ d ihd=>
     intro γ hi hm hd
     rcases hi.gap with g | ⟨j,h1,h2⟩
     · exact flat γ hm g
     · obtain ⟨s,rfl⟩:∃ s,k=s + 2:=⟨k - 2,by omega⟩
       have hm':γ (s + 1) < m:=hm (by omega)
       have hd':γ (s + 1) - γ 0<=d + 1:=hd
       have g1:γ j < γ j + 1:=Nat.lt_succ_self _
       have i1:=hi.dlt g1 h2 h1
       have i2:=hi.eta g1 h2 h1
       have l0:γ 0 < γ (s + 1):=hi.mono (by omega) (by omega)
       have d1:dlt γ j (γ j + 1) (s + 1)=γ (s + 1):=by
         unfold dlt
         rw [if_neg (by omega),if_neg (by omega)]
       have d0:γ 0 < dlt γ j (γ j + 1) 0:=by
         unfold dlt
         by_cases z:0 < j
         · rw [if_pos z]; exact hi 0 (by omega)
         · rw [if_neg z,if_pos (by omega),show j=0 by omega]; exact Nat.lt_succ_self _
       have e0:eta γ j (γ j + 1) 0=γ 0:=by
         unfold eta
         rw [if_pos (by omega)]
       have e1:eta γ j (γ j + 1) (s + 1) < γ (s + 1):=by
         unfold eta
         rw [if_neg (by omega)]
         by_cases z:s + 1=j + 1
         · rw [if_pos z,z]; exact h2
         · rw [if_neg z]; exact hi s (by omega)
       have ds:dlt γ j (γ j + 1) s < m:=Nat.lt_trans (i1 s (by omega)) (by rw [d1]; exact hm')
       have s0:=sub s (by omega) (λc=>γ (c + 1)) (hi.le (show s + 1<=s + 2 by omega)).up λq=>by
         show γ (s - 1 + 1) < m
         rw [show s - 1 + 1=s by omega]
         exact Nat.lt_trans (hi s (by omega)) hm'
       have p:=plu (M:=M) (ρ:=ρ) (γ:=γ) (s:=s) (j:=j) (p:=γ j + 1) (by omega) (by intro z; rw [z] at s0; exact Rat.lt_irrefl s0)
       have s1:=sub (s + 1) (by omega) (dlt γ j (γ j + 1)) (i1.le (by omega)) λ_=>ds
       have s2:=sub (s + 1) (by omega) γ (hi.le (by omega)) λ_=>Nat.lt_trans (hi s (by omega)) hm'
       have s3:=sub (s + 1) (by omega) (λc=>γ (c + 1)) hi.up λ_=>hm'
       have t1:=ihd (dlt γ j (γ j + 1)) i1 (λ_=>by show dlt γ j (γ j + 1) (s + 1) < m; rw [d1]; exact hm') (by show dlt γ j (γ j + 1) (s + 1) - _<=d; rw [d1]; omega)
       have t2:=ihd (eta γ j (γ j + 1)) i2 (λ_=>by show eta γ j (γ j + 1) (s + 1) < m; omega) (by show eta γ j (γ j + 1) (s + 1) - _<=d; rw [e0]; omega)
       refine lq s1 ?_
       rw [p]
       have u1:=Rat.mul_pos s2 t1
       have u2:=Rat.mul_pos s3 t2
       grind
theorem fek {M:Nat->Nat->Rat} {n m:Nat} (h:∀ k a b,1<=k->a + k<=n->b + k<=m->0 < mi M k (λr=>a + r) (λc=>b + c)) {k:Nat} {ρ γ:Nat->Nat} (hρ:Inc k ρ) (hγ:Inc k γ) (h1:1<=k->ρ (k - 1) < n) (h2:1<=k->γ (k - 1) < m):0 < mi M k ρ γ:=by
 rw [<- Aw]
 refine AF (m:=n) (N:=k) (λl a hl h1l ha=>?_) k (Nat.le_refl _) _ ρ hρ h1 (Nat.le_refl _)
 rw [Aw]
 refine AF (m:=m) (N:=l) (λl' b hl' h1' hb=>?_) l (Nat.le_refl _) _ γ (hγ.le hl) (λq=>?_) (Nat.le_refl _)
 · exact h l' a b h1' (by omega) hb
 · by_cases z:l=k
   · subst z; exact h2 h1l
   · exact Nat.lt_trans (hγ.mono (show l - 1 < k - 1 by omega) (by omega)) (h2 (by omega))
noncomputable def sld (M:Nat->Nat->Rat) (a b k:Nat):Rat:=mi M k (λr=>a + r) (λc=>b + c)
noncomputable def ix1 (a t r:Nat):Nat:=if r < t then a + 1 + r else if r=t then a else a + t + 1
theorem iY {a t r:Nat} (h:r<=t + 1):ix1 a t (rho 0 t r)=a + r:=by
 have e:rho 0 t r=if r=0 then t else if r<=t then r - 1 else r:=by
   unfold rho
   simp
 rw [e]
 unfold ix1
 by_cases z:r=0
 · rw [if_pos z,if_neg (by omega),if_pos rfl]; omega
 · rw [if_neg z]
   by_cases y:r<=t
   · rw [if_pos y,if_pos (by omega)]; omega
   · rw [if_neg y,if_neg (by omega),if_neg (by omega)]; omega
theorem tG {a t r:Nat} (h:r < t):ix1 a t r=a + 1 + r:=if_pos h
theorem BJ {M:Nat->Nat->Rat} {a b t:Nat} (h0:sld M (a + 1) (b + 1) t ≠ 0):sld M (a + 1) (b + 1) t * sld M a b (t + 2)=sld M a b (t + 1) * sld M (a + 1) (b + 1) (t + 1) - sld M a (b + 1) (t + 1) * sld M (a + 1) b (t + 1):=by
 have hY:det t (λr c=>M (ix1 a t r) (ix1 b t c))=sld M (a + 1) (b + 1) t:=ax λi hi j hj=>by rw [tG hi,tG hj]
 have st:=lx (Y:=λr c=>M (ix1 a t r) (ix1 b t c)) (k:=t) (i:=t + 1) (j:=t + 1) (by rw [hY]; exact h0)
 rw [i4,i4,hY] at st
 have q:=lW t
 have both:∀ n,t < n->n<=t + 2->det n (λr c=>M (ix1 a t r) (ix1 b t c))=sld M a b n:=λn hn hn2=>by
   have e:sld M a b n=det n λr c=>M (ix1 a t (rho 0 t r)) (ix1 b t (rho 0 t c)):=ax λi hi j hj=>by rw [iY (by omega),iY (by omega)]
   rw [e,fD (k:=0) t (λr c=>M (ix1 a t r) (ix1 b t (rho 0 t c))) (by omega),cu (k:=0) t (λr c=>M (ix1 a t r) (ix1 b t c)) (by omega),<- Rat.mul_assoc,q,Rat.one_mul]
 have e3:bm (λr c=>M (ix1 a t r) (ix1 b t c)) t (t + 1) (t + 1)=sld M (a + 1) (b + 1) (t + 1):=by
   unfold bm sld mi
   refine ax λi hi j hj=>?_
   have f:∀ x i,i < t + 1->ix1 x t (if i < t then i else t + 1)=x + 1 + i:=λx i hi=>by
     unfold ix1
     by_cases z:i < t
     · rw [if_pos z,if_pos z]
     · rw [if_neg z,if_neg (by omega),if_neg (by omega)]; omega
   show M (ix1 a t _) (ix1 b t _)=_
   rw [f a i hi,f b j hj]
 have f:∀ x i,i < t + 1->ix1 x t (if i < t then i else t + 1)=x + 1 + i:=λx i hi=>by
   unfold ix1
   by_cases z:i < t
   · rw [if_pos z,if_pos z]
   · rw [if_neg z,if_neg (by omega),if_neg (by omega)]; omega
 have g:∀ i,i < t + 1->(if i < t then i else t)=i:=λi hi=>by split <;> omega
 have e4:sld M a (b + 1) (t + 1)=sgn t * bm (λr c=>M (ix1 a t r) (ix1 b t c)) t t (t + 1):=by
   unfold bm sld mi
   rw [<- fD (k:=0) t _ (by omega)]
   refine ax λi hi j hj=>?_
   have hr:rho 0 t i < t + 1:=by unfold rho; (repeat' split) <;> omega
   show _=M (ix1 a t _) (ix1 b t _)
   rw [f b j hj,g _ hr,iY (by omega)]
 have e5:sld M (a + 1) b (t + 1)=sgn t * bm (λr c=>M (ix1 a t r) (ix1 b t c)) t (t + 1) t:=by
   unfold bm sld mi
   rw [<- cu (k:=0) t _ (by omega)]
   refine ax λi hi j hj=>?_
   have hr:rho 0 t j < t + 1:=by unfold rho; (repeat' split) <;> omega
   show _=M (ix1 a t _) (ix1 b t _)
   rw [f a i hi,g _ hr,iY (by omega)]
 rw [both (t + 1) (by omega) (by omega),e3,both (t + 1 + 1) (by omega) (by omega)] at st
 rw [e4,e5]
 generalize bm (λr c=>M (ix1 a t r) (ix1 b t c)) t t (t + 1)=x at st ⊢
 generalize bm (λr c=>M (ix1 a t r) (ix1 b t c)) t (t + 1) t=y at st ⊢
 generalize sgn t=u at q ⊢
 show sld M (a + 1) (b + 1) t * sld M a b (t + 1 + 1)=_
 rw [st]
 grind
theorem sol {M:Nat->Nat->Rat} {n m:Nat} (h:∀ k a b,1<=k->a + k<=n->b + k<=m->(a=0\/b=0)->0 < sld M a b k):∀ s k a b,a + b=s->1<=k->a + k<=n->b + k<=m->0 < sld M a b k:=by
 intro s
 induction s using Nat.strongRecOn with
 | ind s ih=>
   intro k
   induction k with
   | zero=>intro a b _ h1; omega
   | succ t iht=>
     intro a b hs _ ha hb
     by_cases z:a=0\/b=0
     · exact h _ _ _ (by omega) ha hb z
     · obtain ⟨a',rfl⟩:∃ a',a=a' + 1:=⟨a - 1,by omega⟩
       obtain ⟨b',rfl⟩:∃ b',b=b' + 1:=⟨b - 1,by omega⟩
       have s0:0 < sld M (a' + 1) (b' + 1) t:=by
         by_cases y:t=0
         · subst y
           show (0:Rat) < 1
           decide
         · exact iht _ _ hs (by omega) (by omega) (by omega)
       have s1:=ih (a' + b') (by omega) (t + 2) a' b' rfl (by omega) (by omega) (by omega)
       have s2:=ih (a' + b') (by omega) (t + 1) a' b' rfl (by omega) (by omega) (by omega)
       have s3:=ih (a' + (b' + 1)) (by omega) (t + 1) a' (b' + 1) rfl (by omega) (by omega) (by omega)
       have s4:=ih (a' + 1 + b') (by omega) (t + 1) (a' + 1) b' rfl (by omega) (by omega) (by omega)
       have d:=BJ (M:=M) (a:=a') (b:=b') (t:=t) (by intro q; rw [q] at s0; exact Rat.lt_irrefl s0)
       refine lq s2 ?_
       have u1:=Rat.mul_pos s0 s1
       have u2:=Rat.mul_pos s3 s4
       grind
theorem tp {M:Nat->Nat->Rat} {n m:Nat} (h:∀ k a b,1<=k->a + k<=n->b + k<=m->(a=0\/b=0)->0 < sld M a b k) {k:Nat} {ρ γ:Nat->Nat} (hρ:Inc k ρ) (hγ:Inc k γ) (h1:1<=k->ρ (k - 1) < n) (h2:1<=k->γ (k - 1) < m):0 < mi M k ρ γ:=
 fek (λk a b hk ha hb=>sol h _ k a b rfl hk ha hb) hρ hγ h1 h2
section
variable {P:Program} {w:World} {K:PySem.W.Frag} {mg:Str->Option Value} {base:Heap} {k:Nat} {f:Addr} {fd:FuncData} {qual:Str}
end
noncomputable def i7:Int->List Int->List Int
 | _,[]=>[]
 | c,b :: r=>c.fmod b :: i7 (c.fdiv b) r
noncomputable def vt (c:Int) (bs:List Int):Int:=bs.foldl (λc b=>c.fdiv b) c
noncomputable def yo (c:Int) (k:Nat) (b:Int):Int:=(((((c * 48271 + (k:Int) * k * 69621 + (k:Int) * 16807 + 11).fmod 2147483647) * 40692 + c + 31 * (k:Int)).fmod 2147483399).fdiv 7).fmod b
noncomputable def wm (c:Int) (bs:List Int):List Int:=(List.range bs.length).map λk=>yo c k (bs.getD k 0)
noncomputable def nums (c:Int) (bs:List Int):List Int:=if (10:Int) ^ (18:Int).toNat<=vE c then i7 c bs else wm c bs
theorem kQ:∀ (bs:List Int) (c b:Int),i7 c (bs++[b])=i7 c bs++[(vt c bs).fmod b]
 | [],_,_=>rfl
 | a :: bs,c,b=>by rw [List.cons_append,i7,i7,kQ bs]; rfl
theorem jH:∀ (bs:List Int) (c:Int),(i7 c bs).length=bs.length
 | [],_=>rfl
 | _ :: bs,c=>congrArg (· + 1) (jH bs _)
theorem cL (c:Int) (bs:List Int):(nums c bs).length=bs.length:=by
 unfold nums
 split
 · exact jH bs c
 · simp [wm]
theorem qt:∀ (bs:List Int) (c:Int),(∀ b ∈ bs,0 < b)->∀ (i:Nat),i < bs.length->0<=(i7 c bs).getD i 0/\(i7 c bs).getD i 0 < bs.getD i 0
 | b :: bs,c,h,0,_=>by
   have:=h b (List.mem_cons_self ..)
   exact ⟨Int.fmod_nonneg_of_pos c this,Int.fmod_lt_of_pos c this⟩
 | b :: bs,c,h,i + 1,hi=>by
   have:=qt bs (c.fdiv b) (λx hx=>h x (List.mem_cons_of_mem _ hx)) i (by simpa using hi)
   simpa [i7] using this
theorem cA {c:Int} {bs:List Int} (h:∀ b ∈ bs,0 < b) {i:Nat} (hi:i < bs.length):0<=(nums c bs).getD i 0/\(nums c bs).getD i 0 < bs.getD i 0:=by
 unfold nums
 split
 · exact qt bs c h i hi
 · have hp:0 < bs.getD i 0:=h _ (by simp [hi])
   have e:(wm c bs).getD i 0=yo c i (bs.getD i 0):=by simp [wm,hi]
   rw [e]
   exact ⟨Int.fmod_nonneg_of_pos _ hp,Int.fmod_lt_of_pos _ hp⟩
theorem take_snoc {α:Type} {xs:List α} {i:Nat} (d:α) (h:i < xs.length):xs.take (i + 1)=xs.take i++[xs.getD i d]:=by
 rw [List.take_add_one,List.getElem?_eq_getElem h]
 simp [h]
theorem pd {b:Int} (h0:0 < b) (h:b < 2 ^ 60):0 < b/\aE b:=⟨h0,mkD (by omega) (by omega)⟩
noncomputable def bR (ds:List D) (r:Sl):Prop:=∃ (c:Int) (bs:List Int),ds=[.int c,.lst (bs.map .int)]/\bs.length<=10000/\(∀ b ∈ bs,0 < b/\aE b)/\r=.o ((nums c bs).map .int)
section
variable {P:Program} {w:World} {K:PySem.W.Frag} {mg:Str->Option Value} {base:Heap} {k:Nat} {f:Addr} {fd:FuncData} {qual:Str}
theorem lL (F:Fun K "_law_numbers" qual (top 39) f fd) (hb:∀ x ∈ ai,mg x=none):aR P w K mg base CX0 (k + 1) f fd ["_law_cell_here","_law_bases"] (spD K bR):=by
 refine fnD F gL hb (by rintro _ _ ⟨_,_,rfl,_⟩; rfl) ?_
 rintro _ _ ⟨c,bs,rfl,hl,hbs,rfl⟩ cdv A outer s H E b
 have nd:=gL.nd
 have hp:∀ i,i < bs.length->0 < bs.getD i 0/\aE (bs.getD i 0):=λi hi=>hbs _ (by simp [hi])
 refine aw 2 nd (fq af) ?_
 refine cK (aZ (bo b (ab (aa 0) af) ny) (ak ae ae (kz ⟨by decide,by decide,by decide⟩)) AD) (λh=>?_) λh=>?_
 · refine a6 3 (λi τ=>∃ s3,τ=[.d (.int (vt c (bs.take i))),.d (.lst (bs.map .int)),.o ((i7 c (bs.take i)).map .int),s3,.un,.un]) b nd (aW (aa 1)) Ah ⟨_,rfl⟩ (λi hi τ h=>?_) λτ h=>?_
   · obtain ⟨s3,rfl⟩:=h
     have hi:i < bs.length:=by simpa using hi
     obtain ⟨p1,p2⟩:=hp i hi
     refine xi 2 (ak (aa 0) (aa 3) (bK (by omega))) ?_ ?_
     · rw [List.length_map,jH,List.length_take]; omega
     refine aw 0 nd (ak (aa 0) (aa 3) (bF p2)) (aH ?_)
     apply ex1
     show [Sl.d (.int ((vt c (bs.take i)).fdiv (bs.getD i 0))),_,Sl.o _,_,_,_]=_
     rw [take_snoc 0 hi,kQ,List.map_append]
     unfold vt
     rw [List.foldl_append]
     rfl
   · obtain ⟨s3,rfl⟩:=h
     refine l9 2 ?_
     rw [List.length_map,List.take_of_length_le (Nat.le_refl _)]
     unfold nums
     rw [if_pos (of_decide_eq_true h)]
 · refine tY 4 3 (λi τ=>∃ s3 s4 s5,τ=[.d (.int c),.d (.lst (bs.map .int)),.o (((List.range i).map λk=>yo c k (bs.getD k 0)).map .int),s3,s4,s5]) b nd (z9 b (aa 1)) Aj ⟨_,_,_,rfl⟩ (λi hi τ h=>?_) λτ h=>?_
   · obtain ⟨s3,s4,s5,rfl⟩:=h
     have hi:i < bs.length:=by rw [gk,List.length_map] at hi; exact hi
     obtain ⟨p1,p2⟩:=hp i hi
     refine aw 5 nd (ak (ak (ak (ak (ak (aa 0) ae (aO (mkR (by decide)))) (ak (ak (aa 4) (aa 4) (aO (mkL (by omega)))) ae (aO (mkR (by decide)))) aT) (ak (aa 4) ae (aO (mkR (by decide)))) aT) ae aT) ae (bK (by decide))) ?_
     refine xi 2 (ak (ak (ak (ak (ak (ak (aa 5) ae (aO (mkR (by decide)))) (aa 0) aT) (ak ae (aa 4) (aO (mkL (by decide)))) aT) ae (bK (by decide))) ae (bF (mkD (by decide) (by decide)))) (aa 3) (bK (by omega))) ?_ (aH ?_)
     · rw [List.length_map,List.length_map,List.length_range]; omega
     apply ex3
     rw [List.range_succ,List.map_append,List.map_append]
     rfl
   · obtain ⟨s3,s4,s5,rfl⟩:=h
     refine l9 2 ?_
     rw [gk,List.length_map]
     unfold nums
     rw [if_neg (of_decide_eq_false h)]
     rfl
end
set_option exponentiation.threshold 4000 in
theorem pG {i:Int} (h:i.natAbs < lim):i.natAbs.log2 < 1000000:=by
 rcases Nat.eq_zero_or_pos i.natAbs with h0 | hp
 · rw [h0]; decide
 · exact Nat.lt_of_lt_of_le ((Nat.log2_lt (by omega)).mpr h) (by decide)
theorem gS (b:Int):sgZ b=1\/sgZ b=-1:=by
 unfold sgZ
 rw [Int.fmod_eq_emod_of_nonneg _ (by decide)]
 omega
theorem gU (n:Nat) (row:List Int) (k v:Int) (kv:List (Int × Int)):∀ c,(bt n row k v kv c).2.length<=kv.length + c
 | 0=>Nat.le_refl _
 | c + 1=>by
   have:=gU n row k v kv c
   rw [bt,e7]
   split
   · dsimp only; omega
   · have:=vJ (bt n row k v kv c).2 (gW k (n - 1 - c)) ((ba (bt n row k v kv c).2 (gW k (n - 1 - c))).getD 0 + sgZ (bt n row k v kv c).1 * row.getD (n - 1 - c) 0 * v)
     dsimp only
     omega
theorem dQ (n:Nat) (row:List Int) (kv:List (Int × Int)):∀ t,(aV n row kv t).length<=t * n
 | 0=>by rw [aV,List.length_nil]; omega
 | t + 1=>by
   have h1:=dQ n row kv t
   have h2:=gU n row (kv.getD t (0,0)).1 ((ba kv (kv.getD t (0,0)).1).getD 0) (aV n row kv t) n
   rw [aV,Nat.succ_mul]
   omega
theorem mI (Ms:List (List Int)):∀ i,(bX Ms i).length<=Ms.length ^ i
 | 0=>Nat.le_refl 1
 | i + 1=>by
   rw [bX,Nat.pow_succ]
   exact Nat.le_trans (dQ _ _ _ _) (Nat.mul_le_mul_right _ (mI Ms i))
noncomputable def dtR (r:List Int):D:=.lst (r.map .int)
noncomputable def dtZ (Ms:List (List Int)):Int:=(ba (bX Ms Ms.length) (2 ^ Ms.length - 1)).getD 0
structure Dt (n b:Nat) (Ms:List (List Int)):Prop where
 n7:n<=7
 len:Ms.length=n
 row:∀ r ∈ Ms,r.length=n/\∀ x ∈ r,x.natAbs<=2 ^ b
 b1:n * (b + 3)<=3800
 b2:b<=3800
noncomputable def dtM (Ms:List (List Int)) (i j:Nat):Rat:=(((Ms.getD i []).getD j 0:Int):Rat)
theorem Dt.ok {n b:Nat} {Ms:List (List Int)} (h:Dt n b Ms):okZ Ms/\ba (bX Ms n) (2 ^ n - 1)=some (dtZ Ms)/\((dtZ Ms:Int):Rat)=det n (dtM Ms):=by
 obtain ⟨d,e1,e2⟩:=yf (M:=dtM Ms) h.n7 h.len h.row (λ_ _ _ _=>rfl) h.b1 h.b2
 unfold yc at e1
 split at e1
 · rename_i ok
   have e3:dtZ Ms=d:=by unfold dtZ; rw [e1]; rfl
   rw [h.len] at e1
   exact ⟨ok,by rw [e3]; exact e1,by rw [e3]; exact e2⟩
 · cases e1
theorem Dt.ri {n b:Nat} {Ms:List (List Int)} (h:Dt n b Ms) (i:Nat) (hi:i<=n):RI n i (dtM Ms) (bX Ms i):=i0 h.len (λ_ _ _ _=>rfl) i hi
theorem atR {row:List Int} {j:Nat} (h:j < row.length):atI (row.map D.int) (j:Int)=some (.int (row.getD j 0)):=oD (i:=(j:Int)) (by omega) (by omega)
noncomputable def lP (ds:List D) (r:Sl):Prop:=∃ (n b:Nat) (Ms:List (List Int)),ds=[.lst (Ms.map dtR)]/\Dt n b Ms/\r=.d (.int (dtZ Ms))
theorem Ab {Ms:List (List Int)}:∀ i (h:i < (Ms.map dtR).length),(Ms.map dtR)[i]=dtR (Ms.getD i []):=λi h=>by
 have:i < Ms.length:=by simpa using h
 simp [this]
section
variable {P:Program} {w:World} {K:PySem.W.Frag} {mg:Str->Option Value} {base:Heap} {k:Nat} {f:Addr} {fd:FuncData} {qual:Str}
set_option exponentiation.threshold 4000 in
set_option maxHeartbeats 1000000 in
theorem uC (F:Fun K "_law_det" qual (top 46) f fd) (hb:∀ x ∈ ai,mg x=none):aR P w K mg base CX0 (k + 1) f fd ["_law_rows_here"] (spD K lP):=by
 refine fnD F nN hb (by rintro _ _ ⟨_,_,_,rfl,_⟩; rfl) ?_
 rintro _ _ ⟨n,b0,Ms,rfl,h,rfl⟩ cdv A outer s H E b
 have nd:=nN.nd
 obtain ⟨ok,eD,_⟩:=h.ok
 have hu:(Xc P w K mg base _ qual (top 46) f cdv A outer s H E).A.units + 1 < cLine:=Nat.lt_of_le_of_lt (Nat.add_le_add_left (by decide) _) b.room.units
 have hlen:(Ms.map dtR).length=n:=by rw [List.length_map,h.len]
 have lim7:∀ i,i<=n->(bX Ms i).length<=823543:=λi hi=>Nat.le_trans (mI Ms i) (by
   rw [h.len]
   exact Nat.le_trans (Nat.pow_le_pow_left h.n7 i) (Nat.pow_le_pow_right (by decide) (Nat.le_trans hi h.n7)))
 refine aw 1 nd uc (uE 1 ?_)
 refine a6 2 (g:=λi=>dtR (Ms.getD i [])) (λi τ=>i<=n/\∃ s2 s3 s4 s5 s6 s7 s8,τ=[.d (.lst (Ms.map dtR)),.d (.box (bxZ (bX Ms i))),s2,s3,s4,s5,s6,s7,s8]) b nd (aW (aa 0)) Ab ⟨Nat.zero_le _,.un,.un,.un,.un,.un,.un,.un,rfl⟩ (λi hi τ z=>?_) λτ z=>?_
 · obtain ⟨_,s2,s3,s4,s5,s6,s7,s8,rfl⟩:=z
   have hi:i < n:=by rw [hlen] at hi; exact hi
   have hm:Ms.getD i [] ∈ Ms:=by rw [List.getD_eq_getElem?_getD,List.getElem?_eq_getElem (by rw [h.len]; exact hi)]; exact List.getElem_mem _
   have hrow:=h.row _ hm
   have hlim:∀ x ∈ Ms.getD i [],x.natAbs < lim:=(ok.2.1 _ hm).2
   have R:=h.ri i (by omega)
   have hkv:=ok.2.2 i (by rw [h.len]; exact hi)
   have hl7:=lim7 i (by omega)
   have eN:bX Ms (i + 1)=aV n (Ms.getD i []) (bX Ms i) (bX Ms i).length:=by rw [bX,h.len]
   rw [eN]
   generalize bX Ms i=kv at R hkv hl7 ⊢
   generalize Ms.getD i []=row at hm hrow hlim ⊢
   refine aw 3 nd sA ?_
   refine a6 4 (g:=λt=>.int (kv.getD t (0,0)).1) (λt τ=>∃ s4 s5 s6 s7 s8,τ=[.d (.lst (Ms.map dtR)),.d (.box (bxZ kv)),.d (dtR row),.x (exZ (aV n row kv t)),s4,s5,s6,s7,s8]) b nd (qQ (aa 1)) qL ⟨s4,s5,s6,s7,s8,rfl⟩ (λt ht τ z=>?_) λτ z=>?_
   · obtain ⟨s4,s5,s6,s7,s8,rfl⟩:=z
     have ht:t < kv.length:=by simpa using ht
     have hq:kv.getD t (0,0) ∈ kv:=by rw [List.getD_eq_getElem?_getD,List.getElem?_eq_getElem ht]; exact List.getElem_mem ht
     have hg:ba kv (kv.getD t (0,0)).1=some (kv.getD t (0,0)).2:=jK R.nd hq
     have hv:=hkv _ hq
     have hml:=dQ n row kv t
     have hml2:t * n<=823543 * 7:=Nat.mul_le_mul (by omega) h.n7
     have eM:aV n row kv (t + 1)=(bt n row (kv.getD t (0,0)).1 (kv.getD t (0,0)).2 (aV n row kv t) n).2:=by rw [aV,hg]; rfl
     rw [eM]
     generalize aV n row kv t=lk at hml ⊢
     generalize (kv.getD t (0,0)).1=m at hg ⊢
     generalize (kv.getD t (0,0)).2=v at hg hv ⊢
     refine aw 5 nd ae ?_
     refine a6 6 (g:=λc=>.int ((n - 1 - c:Nat):Int)) (λc τ=>∃ s6 s7 s8,τ=[.d (.lst (Ms.map dtR)),.d (.box (bxZ kv)),.d (dtR row),.x (exZ (bt n row m v lk c).2),.d (.int m),.d (.int (bt n row m v lk c).1),s6,s7,s8]) b nd (AZ (n:=n) b (bo b (ab (aa 0) af) (wW hlen)) (by have:=h.n7; omega)) zY ⟨s6,s7,s8,rfl⟩ (λc hc τ z=>?_) λτ z=>?_
     · obtain ⟨s6,s7,s8,rfl⟩:=z
       have hc:c < n:=by rw [dY] at hc; exact hc
       have n7:=h.n7
       have hcl:=gU n row m v lk c
       have hj:n - 1 - c < row.length:=by rw [hrow.1]; omega
       have eC:bt n row m v lk (c + 1)=e7 row m v (n - 1 - c) (bt n row m v lk c):=rfl
       rw [eC]
       generalize bt n row m v lk c=st at hcl ⊢
       generalize n - 1 - c=j at hj ⊢
       have j7:j < 7:=by have:=hrow.1; omega
       refine iR (M:=λτ=>∃ s6 s7 s8,τ=[.d (.lst (Ms.map dtR)),.d (.box (bxZ kv)),.d (dtR row),.x (exZ (e7 row m v j st).2),.d (.int m),.d (.int (e7 row m v j st).1),s6,s7,s8]) (aZ (ak (ak (aa 4) (aa 6) (xG (by omega))) ae xl) ae gf) (λz=>?_) (λz=>?_) λτ z=>by
         obtain ⟨s6,s7,s8,rfl⟩:=z
         exact aH ⟨s6,s7,s8,rfl⟩
       · have z:jF m j=true:=by
           unfold jF
           rw [Int.toNat_natCast] at z
           exact z
         have e:e7 row m v j st=(st.1 + 1,st.2):=by unfold e7; rw [if_pos z]
         rw [e]
         exact aw 5 nd (ak (aa 5) ae aT) (aH ⟨_,_,_,rfl⟩)
       · have z:jF m j=false:=by
           unfold jF
           rw [Int.toNat_natCast] at z
           exact z
         have e:e7 row m v j st=(st.1,eG st.2 (gW m j) ((ba st.2 (gW m j)).getD 0 + sgZ st.1 * row.getD j 0 * v)):=by unfold e7; rw [if_neg (by rw [z]; decide)]
         have hx:(row.getD j 0).natAbs < lim:=hlim _ (by rw [List.getD_eq_getElem?_getD,List.getElem?_eq_getElem hj]; exact List.getElem_mem hj)
         have s1:aB (sgZ st.1) (row.getD j 0):=mkL (by rcases gS st.1 with h | h <;> rw [h] <;> decide)
         have s2:aB (sgZ st.1 * row.getD j 0) v:=by
           refine .inr (.inr ⟨pG ?_,pG hv⟩)
           rw [Int.natAbs_mul]
           rcases gS st.1 with h | h <;> rw [h] <;> simpa using hx
         rw [e]
         refine aw 7 nd (ak (aa 4) (ak ae (aa 6) (um ⟨by omega,by omega,by decide⟩)) AS) ?_
         rw [Int.toNat_natCast]
         show PSs _ _ (dS K [.d (.lst (Ms.map dtR)),.d (.box (bxZ kv)),.d (dtR row),.x (exZ st.2),.d (.int m),.d (.int st.1),.d (.int (j:Nat)),.d (.int (gW m j)),_] _)
         refine aw 8 nd (ak ae (ak ae (ak (aa 5) ae (bK (by decide))) (aO (mkL (by decide)))) b5) ?_
         refine uZ 3 hu rfl (aa 7) (ak (qC 3 hu rfl (aa 7) ae) (ak (ak (aa 8) (aJ (aa 2) (aa 6) (aS (atR hj))) (aO s1)) (oR hu (aa 1) (aa 4) hg cS) (aO s2)) aT) ?_ (aH ⟨_,_,_,rfl⟩)
         have:sizeLine > 10000000:=by decide
         omega
     · obtain ⟨s6,s7,s8,rfl⟩:=z
       rw [dY]
       exact aH ⟨_,_,_,_,_,rfl⟩
   · obtain ⟨s4,s5,s6,s7,s8,rfl⟩:=z
     rw [List.length_map]
     exact uE 3 (aw 1 nd (aa 3) (aH ⟨hi,_,_,_,_,_,_,_,rfl⟩))
 · obtain ⟨_,s2,s3,s4,s5,s6,s7,s8,rfl⟩:=z
   rw [hlen]
   refine aI (oR hu (aa 1) (ak (ak ae (bo b (ab (aa 0) af) (wW hlen)) (um ⟨by omega,by have:=h.n7; omega,by decide⟩)) ae b5) ?_ my) rfl
   rw [Int.toNat_natCast,Int.one_mul]
   exact eD
end
noncomputable def frD (q:Rat):D:=.tup [.int q.num,.int (q.den:Nat)]
theorem cZ (x:Rat):x * (((x.den:Nat):Int):Rat)=(x.num:Rat):=by
 have h:mkRat x.num x.den=x:=by rw [<- Rat.normalize_eq_mkRat x.den_nz]; exact Rat.normalize_self x
 rw [Rat.mkRat_eq_div] at h
 have hd:((x.den:Nat):Rat) ≠ 0:=λz=>x.den_nz (Rat.natCast_eq_zero_iff.mp z)
 rw [Rat.intCast_natCast]
 conv=>lhs; lhs; rw [<- h]
 exact Rat.div_mul_cancel hd
theorem ft {t b:Int} {x:Rat} (hb:0 < b) (h:(t:Rat)=x * (b:Rat)):x.num=t / (Int.gcd t b:Int)/\((x.den:Nat):Int)=b / (Int.gcd t b:Int):=by
 have hb0:((b.toNat:Nat):Rat) ≠ 0:=λz=>by have:=Rat.natCast_eq_zero_iff.mp z; omega
 have hbb:((b:Int):Rat)=((b.toNat:Nat):Rat):=by rw [<- Rat.intCast_natCast,Int.toNat_of_nonneg (by omega)]
 have e:x=mkRat t b.toNat:=by
   rw [Rat.mkRat_eq_div,h,hbb,Rat.mul_div_cancel hb0]
 have g:b.toNat.gcd t.natAbs=Int.gcd t b:=by
   rw [Int.gcd,Nat.gcd_comm,show b.natAbs=b.toNat by omega]
 have nz:¬ b.toNat=0:=by omega
 constructor
 · rw [e,Rat.num_mkRat,if_neg nz,g]
 · rw [e,Rat.den_mkRat,if_neg nz,g,Int.natCast_ediv,Int.toNat_of_nonneg (by omega)]
theorem den_pos (q:Rat):0 < ((q.den:Nat):Int):=by have:=q.den_pos; omega
theorem ju {b:Int} (hb:0 < b):(b:Rat) ≠ 0:=λz=>by have:=Rat.intCast_eq_zero_iff.mp z; omega
noncomputable def Bd (n:Nat) (i:Int):Prop:=i.natAbs < 2 ^ n
theorem Bd.mono {m n:Nat} {i:Int} (h:Bd m i) (hm:m<=n):Bd n i:=Nat.lt_of_lt_of_le h (Nat.pow_le_pow_right (by decide) hm)
theorem Bd.log {n:Nat} {i:Int} (h:Bd n i) (hn:0 < n):i.natAbs.log2 < n:=by
 rcases Nat.eq_zero_or_pos i.natAbs with z | z
 · rw [z]; exact hn
 · exact (Nat.log2_lt (by omega)).mpr h
theorem Bd.mul {m n:Nat} {i j:Int} (h:Bd m i) (g:Bd n j):Bd (m + n) (i * j):=by
 unfold Bd at *
 rw [Int.natAbs_mul,Nat.pow_add]
 rcases Nat.eq_zero_or_pos j.natAbs with z | z
 · rw [z,Nat.mul_zero]; exact Nat.mul_pos (Nat.two_pow_pos m) (Nat.two_pow_pos n)
 · exact Nat.lt_of_lt_of_le (Nat.mul_lt_mul_of_pos_right h z) (Nat.mul_le_mul_left _ (Nat.le_of_lt g))
theorem Bd.neg {n:Nat} {i:Int} (h:Bd n i):Bd n (-i):=by unfold Bd at *; rwa [Int.natAbs_neg]
theorem Bd.aB {m n:Nat} {i j:Int} (h:Bd m i) (g:Bd n j) (hm:m<=1000000) (hn:n<=1000000):aB i j:=
 .inr (.inr ⟨(h.mono (Nat.le_succ_of_le hm)).log (by omega) |> λz=>by
   rcases Nat.eq_zero_or_pos i.natAbs with q | q
   · rw [q]; decide
   · exact Nat.lt_of_lt_of_le ((Nat.log2_lt (by omega)).mpr h) hm,by
   rcases Nat.eq_zero_or_pos j.natAbs with q | q
   · rw [q]; decide
   · exact Nat.lt_of_lt_of_le ((Nat.log2_lt (by omega)).mpr g) hn⟩)
theorem Bd.aE {n:Nat} {j:Int} (h:Bd n j) (h0:j ≠ 0) (hn:n<=9000):aE j:=⟨h0,Nat.lt_of_lt_of_le ((Nat.log2_lt (by omega)).mpr h) hn⟩
theorem Bd.of_dvd {n:Nat} {i j:Int} (h:Bd n j) (hd:i ∣ j) (h0:j ≠ 0):Bd n i:=Nat.lt_of_le_of_lt (Nat.le_of_dvd (by omega) (Int.natAbs_dvd_natAbs.mpr hd)) h
theorem Bd.ediv {n:Nat} {i:Int} (h:Bd n i) (j:Int):Bd n (i / j):=Nat.lt_of_le_of_lt (Int.natAbs_ediv_le_natAbs i j) h
theorem Bd.gcd {n:Nat} {i j:Int} (h:Bd n j) (h0:j ≠ 0):Bd n (Int.gcd i j:Int):=h.of_dvd (Int.gcd_dvd_right ..) h0
theorem i8 {i j:Int} (h0:j ≠ 0):(Int.gcd i j:Int) ≠ 0:=λz=>h0 (by have:=Int.gcd_eq_zero_iff.mp (Int.ofNat_eq_zero.mp z); exact this.2)
theorem cH {i j:Int} (t:Int):t.fdiv (Int.gcd i j:Int)=t / (Int.gcd i j:Int):=Int.fdiv_eq_ediv_of_nonneg _ (Int.natCast_nonneg _)
structure Sq (n:Nat) (q:Rat):Prop where
 num:Bd n q.num
 den:Bd n (q.den:Nat)
theorem Sq.mono {m n:Nat} {q:Rat} (h:Sq m q) (hm:m<=n):Sq n q:=⟨h.num.mono hm,h.den.mono hm⟩
theorem Sq.ft {n:Nat} {t b:Int} {x:Rat} (hb:0 < b) (h:(t:Rat)=x * (b:Rat)) (h1:Bd n t) (h2:Bd n b):Sq n x:=by
 obtain ⟨e1,e2⟩:=K60.ft hb h
 exact ⟨by rw [e1]; exact h1.ediv _,by rw [e2]; exact h2.ediv _⟩
noncomputable def whl (x:D):Bool:=nQ .int x && !nQ .bool x
noncomputable def dZ (ds:List D) (r:Sl):Prop:=∃ x,ds=[x]/\r=.d (.bl (whl x))
noncomputable def bj (ds:List D) (r:Sl):Prop:=∃ a b:Int,ds=[.int a,.int b]/\r=.d (.int (Int.gcd a b:Int))
theorem gH (i:Int):vE i=(i.natAbs:Int):=by unfold vE; omega
noncomputable def rN:D->Bool
 | .tup [.int a,.int b]=>decide (1<=b) && decide ((Int.gcd a b:Int)=1)
 | _=>false
theorem wO (q:Rat):rN (frD q)=true:=by
 have h1:=den_pos q
 have h2:Int.gcd q.num (q.den:Nat)=1:=q.reduced
 show (decide ((1:Int)<=(q.den:Nat)) && decide ((Int.gcd q.num (q.den:Nat):Int)=1))=true
 rw [h2,decide_eq_true (show (1:Int)<=(q.den:Nat) by omega)]
 rfl
theorem tK {xs:List D} (h:xs.length ≠ 2):rN (.tup xs)=false:=by
 unfold rN
 split
 · rename_i e; cases e; exact absurd rfl h
 · rfl
noncomputable def dn (ds:List D) (r:Sl):Prop:=∃ x,ds=[x]/\r=.d (.bl (rN x))
noncomputable def bV (ds:List D) (r:Sl):Prop:=∃ (t b:Int) (q:Rat),ds=[.int t,.int b]/\0 < b/\Bd 8999 b/\(t:Rat)=q * (b:Rat)/\r=.d (frD q)
noncomputable def fW (ds:List D) (r:Sl):Prop:=∃ (t b:Int) (q:Rat),ds=[.int t,.int b]/\0 < b/\Bd 8999 b/\(t:Rat)=q * (b:Rat)/\r=.d (frD q)
noncomputable def bM (ds:List D) (r:Sl):Prop:=∃ xs,ds=[.lst xs]/\r=.d (.bl (decide ((1:Int)<=(xs.length:Nat)) && decide (((xs.length:Nat):Int)<=7)))
section
variable {P:Program} {w:World} {K:PySem.W.Frag} {mg:Str->Option Value} {base:Heap} {k:Nat} {f:Addr} {fd:FuncData} {qual:Str}
theorem nF (F:Fun K "is_whole" qual (top 6) f fd) (hb:∀ x ∈ ai,mg x=none):aR P w K mg base CX0 (k + 1) f fd ["thing"] (spD K dZ):=by
 refine fnD F mE hb (by rintro _ _ ⟨_,rfl,_⟩; rfl) ?_
 rintro _ _ ⟨x,rfl,rfl⟩ cdv A outer s H E b
 exact aI (i9 (kI .int b (aa 0)) λh=>(mK (AX (kI .bool b (aa 0))))) rfl
theorem gI (F:Fun K "common_divisor" qual (top 8) f fd) (hb:∀ x ∈ ai,mg x=none):aR P w K mg base CX0 (k + 1) f fd ["one","other"] (spD K bj):=by
 refine fnD F cX hb (by rintro _ _ ⟨_,_,rfl,_⟩; rfl) ?_
 rintro _ _ ⟨x,y,rfl,rfl⟩ cdv A outer s H E b
 have nd:=cX.nd
 refine aw 2 nd (bo b (ab (aa 0) af) ny) (aw 3 nd (bo b (ab (aa 1) af) ny) ?_)
 rw [gH,gH]
 refine qy (λn t τ=>∃ (g:Nat) (s4:Sl),Nat.gcd g n=Int.gcd x y/\t=(!decide ((n:Int)=0))/\τ=[.d (.int x),.d (.int y),.d (.int g),.d (.int n),s4]) b ⟨_,_,_,_,rfl,rfl,rfl⟩ (λn t τ h=>?_) (λn τ h=>?_) λn τ h=>?_
 · obtain ⟨g,s4,_,rfl,rfl⟩:=h
   exact aZ (aa 3) ae vh
 · obtain ⟨g,s4,hg,ht,rfl⟩:=h
   have hl:n ≠ 0:=λz=>by simp [z] at ht
   have e:(g:Int).fmod n=((g % n:Nat):Int):=by rw [Int.fmod_eq_emod_of_nonneg _ (by omega)]; rfl
   refine aw 4 nd (ak (aa 2) (aa 3) (bK (by omega))) ?_
   rw [e]
   refine aw 2 nd (aa 3) (aw 3 nd (aa 4) (aH ⟨g % n,_,Nat.mod_lt g (Nat.pos_of_ne_zero hl),n,_,?_,rfl,rfl⟩))
   rw [<- hg,Nat.gcd_comm n,<- Nat.gcd_rec,Nat.gcd_comm]
 · obtain ⟨g,s4,hg,ht,rfl⟩:=h
   have hl:n=0:=by simpa using ht
   refine aI (aa 2) ?_
   rw [<- hg,hl,Nat.gcd_zero_right]
theorem jf (F:Fun K "is_fraction" qual (top 7) f fd) (hb:∀ x ∈ ai,mg x=none) (c_is_whole:Cal P w K mg base k "is_whole" dZ) (c_common_divisor:Cal P w K mg base k "common_divisor" bj):aR P w K mg base CX0 (k + 1) f fd ["thing"] (spD K dn):=by
 refine fnD F jC hb (by rintro _ _ ⟨_,rfl,_⟩; rfl) ?_
 rintro _ _ ⟨x,rfl,rfl⟩ cdv A outer s H E b
 by_cases ht:nQ .tuple x=true
 · obtain ⟨xs,rfl⟩:∃ xs,x=.tup xs:=by cases x <;> first | exact ⟨_,rfl⟩ | cases ht
   refine cK (PW.pt (rq (fU (fT (kI .tuple b (aa 0)))) λh=>(nr (aZ (bo b (ab (aa 0) af) lr) ae vh)))) (λh=>?_) λh=>?_
   · refine aI yD ?_
     have h:(!decide ((xs.length:Int)=2))=true:=h
     have:xs.length ≠ 2:=λz=>by rw [z] at h; cases h
     rw [tK this]
   · have h:(!decide ((xs.length:Int)=2))=false:=h
     have h2:xs.length=2:=by simp at h; omega
     obtain ⟨u,v,rfl⟩:∃ u v,xs=[u,v]:=by
       match xs,h2 with
       | [u,v],_=>exact ⟨u,v,rfl⟩
     refine cK (PW.pt (rq (fU (fT (x_call b c_is_whole (ab (aJ (aa 0) ae (aU (aP (i:=0) rfl))) af) ⟨_,rfl,rfl⟩))) λh=>(nr (fU (fT (x_call b c_is_whole (ab (aJ (aa 0) ae (aU (aP (i:=1) rfl))) af) ⟨_,rfl,rfl⟩)))))) (λh=>?_) λh=>?_
     · refine aI yD ?_
       have:rN (.tup [u,v])=false:=by cases u <;> cases v <;> first | rfl | cases h
       rw [this]
     · obtain ⟨i,j,rfl,rfl⟩:∃ i j,u=.int i/\v=.int j:=by cases u <;> cases v <;> first | exact ⟨_,_,rfl,rfl⟩ | cases h
       exact aI (i9 (dR (aJ (aa 0) ae (aU (aP (i:=1) rfl))) ae AD) λh=>(mK (dR (x_call b c_common_divisor (ab (aJ (aa 0) ae (aU (aP (i:=0) rfl))) (ab (aJ (aa 0) ae (aU (aP (i:=1) rfl))) af)) ⟨_,_,rfl,rfl⟩) ae gf))) rfl
 · have e:nQ .tuple x=false:=by simpa using ht
   have ef:rN x=false:=by cases x <;> first | rfl | cases e
   refine cK (PW.pt (rq (q:=true) (fU (fT (kI .tuple b (aa 0)))) λh=>(by rw [e] at h; cases h))) (λh=>?_) λh=>?_
   · refine aI yD ?_
     rw [ef]
   · rw [Bool.or_true] at h; cases h
theorem fZ (F:Fun K "in_lowest_terms" qual (top 9) f fd) (hb:∀ x ∈ ai,mg x=none) (c_common_divisor:Cal P w K mg base k "common_divisor" bj):aR P w K mg base CX0 (k + 1) f fd ["top","bottom"] (spD K bV):=by
 refine fnD F cR hb (by rintro _ _ ⟨_,_,_,rfl,_⟩; rfl) ?_
 rintro _ _ ⟨t,c,q,rfl,h0,h1,hq,rfl⟩ cdv A outer s H E b
 have nd:=cR.nd
 refine aw 2 nd (x_call b c_common_divisor (ab (aa 0) (ab (aa 1) af)) ⟨_,_,rfl,rfl⟩) ?_
 have dv:aE (Int.gcd t c:Int):=(h1.gcd (by omega)).aE (i8 (by omega)) (by decide)
 obtain ⟨e1,e2⟩:=ft h0 hq
 refine iB (aZ (aa 1) ae rG) (decide_eq_false (by omega)) (aI (cf (ab (ak (aa 0) (aa 2) (bF dv)) (ab (ak (aa 1) (aa 2) (bF dv)) af))) ?_)
 rw [cH,cH,<- e1,<- e2]
 rfl
theorem mM (F:Fun K "fraction" qual (top 10) f fd) (hb:∀ x ∈ ai,mg x=none) (c_in_lowest_terms:Cal P w K mg base k "in_lowest_terms" bV) (c_is_whole:Cal P w K mg base k "is_whole" dZ):aR P w K mg base CX0 (k + 1) f fd ["top","bottom"] (spD K fW):=by
 refine fnD F nR hb (by rintro _ _ ⟨_,_,_,rfl,_⟩; rfl) ?_
 rintro _ _ ⟨t,c,q,rfl,h0,h1,hq,rfl⟩ cdv A outer s H E b
 refine iB (PW.pt (rq (fU (fT (x_call b c_is_whole (ab (aa 0) af) ⟨_,rfl,rfl⟩))) λh=>(nr (fU (fT (x_call b c_is_whole (ab (aa 1) af) ⟨_,rfl,rfl⟩)))))) rfl ?_
 refine iB (aZ (aa 1) ae gf) (decide_eq_false (by omega)) ?_
 exact aI (x_call b c_in_lowest_terms (ab (aa 0) (ab (aa 1) af)) ⟨t,c,q,rfl,h0,h1,hq,rfl⟩) rfl
theorem hZ (F:Fun K "is_short_list" qual (top 13) f fd) (hb:∀ x ∈ ai,mg x=none) (y_MOST:∃ t,mg "MOST" = some (.int 7 t)):aR P w K mg base CX0 (k + 1) f fd ["thing"] (spD K bM):=by
 refine fnD F hV hb (by rintro _ _ ⟨_,rfl,_⟩; rfl) ?_
 rintro _ _ ⟨xs,rfl,rfl⟩ cdv A outer s H E b
 exact aI (i9 (kI .list b (aa 0)) λh=>(mK (vQ ae (bo b (ab (aa 0) af) iA) (ym y_MOST) zR zR).1)) rfl
end
noncomputable def rwQ (r:List Rat):D:=.lst (r.map frD)
noncomputable def tbQ (M:List (List Rat)):D:=.lst (M.map rwQ)
structure Tq (R C:Nat) (M:List (List Rat)):Prop where
 r1:1<=R
 r7:R<=7
 c1:1<=C
 c7:C<=7
 len:M.length=R
 row:∀ r ∈ M,r.length=C
theorem bT {α:Type} {f:α->D} {xs:List α} (d:α):∀ i (h:i < (xs.map f).length),(xs.map f)[i]=f (xs.getD i d):=λi h=>by
 have:i < xs.length:=by simpa using h
 simp [this]
theorem eP {α:Type} {f:α->D} {xs:List α} (d:α) {i:Nat} (h:i < xs.length):atI (xs.map f) (i:Int)=some (f (xs.getD i d)):=aP (by simp [h])
theorem a5 {α:Type} {xs:List α} {d:α} {i:Nat} (h:i < xs.length):xs.getD i d ∈ xs:=by simp [h]
theorem Tq.at_ {R C:Nat} {M:List (List Rat)} (h:Tq R C M) {i:Nat} (hi:i < R):(M.getD i []).length=C:=h.row _ (a5 (by rw [h.len]; exact hi))
theorem tm (n:Nat) (f:Nat->Bool) (h:∀ i,i < n->f i=true):((List.range n).map f).all id=true:=by
 rw [List.all_map,List.all_eq_true]
 intro i hi
 exact h i (List.mem_range.mp hi)
structure Qs (d v:Nat) (q:Rat):Prop where
 den:Bd d (q.den:Nat)
 val:q.num.natAbs<=2 ^ v * q.den
theorem eR {X:Cx} {xs:List D} {n:Nat} (h:xs.length=n):iS X (.builtin "len") [.lst xs] (.d (.int n)):=h ▸ iA
theorem eI {α:Type} (f:α->D) (xs:List α) (d:α) {m:Nat} (h:m=xs.length):(List.range m).map (λi=>f (xs.getD i d))=xs.map f:=by
 subst h
 refine List.ext_getElem (by simp) λi h1 h2=>?_
 have:i < xs.length:=by simpa using h2
 simp [this]
theorem ue {m:Int} {n:Nat} (i:Nat) (h:i < (iT m n).length):(iT m n)[i]=.int (m + (i:Nat)):=gp m n i h
noncomputable def i6 (ds:List D) (r:Sl):Prop:=∃ q:List Rat,ds=[rwQ q]/\1<=q.length/\q.length<=7/\r=.d (.bl true)
noncomputable def gj (ds:List D) (r:Sl):Prop:=∃ (R C:Nat) (M:List (List Rat)),ds=[tbQ M]/\Tq R C M/\r=.d (.bl true)
noncomputable def cC (ds:List D) (r:Sl):Prop:=∃ (R C:Nat) (M:List (List Rat)),ds=[tbQ M]/\Tq R C M/\r=.d .non
section
variable {P:Program} {w:World} {K:PySem.W.Frag} {mg:Str->Option Value} {base:Heap} {k:Nat} {f:Addr} {fd:FuncData} {qual:Str}
theorem rV (F:Fun K "is_row" qual (top 14) f fd) (hb:∀ x ∈ ai,mg x=none) (c_is_short_list:Cal P w K mg base k "is_short_list" bM) (c_is_fraction:Cal P w K mg base k "is_fraction" dn):aR P w K mg base CX0 (k + 1) f fd ["thing"] (spD K i6):=by
 refine fnD F qW hb (by rintro _ _ ⟨_,rfl,_⟩; rfl) ?_
 rintro _ _ ⟨q,rfl,h1,h7,rfl⟩ cdv A outer s H E b
 refine aI (i9 (x_call b c_is_short_list (ab (aa 0) af) ⟨_,rfl,rfl⟩) λh=>(mK (bo b (ab (bh (eg (cmp 0 (f:=λ_=>.bl true) b (aW (aa 0)) (bT (f:=frD) (xs:=q) 0) (by rw [List.length_map]; omega) λi hi s0 H0 fp=>(x_call (b.comp s0 H0 _ fp) c_is_fraction (ab (aa 0) af) ⟨_,rfl,by rw [wO]⟩)))) af) (ky b.calm ((List.range (q.map frD).length).map λ_=>true) (by rw [List.map_map]; rfl))))) ?_
 rw [List.length_map,decide_eq_true (by omega),decide_eq_true (by omega),tm _ _ λ_ _=>rfl]
 rfl
theorem mH (F:Fun K "is_table" qual (top 15) f fd) (hb:∀ x ∈ ai,mg x=none) (c_is_short_list:Cal P w K mg base k "is_short_list" bM) (c_is_row:Cal P w K mg base k "is_row" i6):aR P w K mg base CX0 (k + 1) f fd ["thing"] (spD K gj):=by
 refine fnD F mz hb (by rintro _ _ ⟨_,_,_,rfl,_⟩; rfl) ?_
 rintro _ _ ⟨R,C,M,rfl,t,rfl⟩ cdv A outer s H E b
 have hl:(M.map rwQ).length=R:=by rw [List.length_map,t.len]
 have r1:=t.r1
 have r7:=t.r7
 have c1:=t.c1
 have c7:=t.c7
 refine iB (PW.pt (rq (fU (fT (x_call b c_is_short_list (ab (aa 0) af) ⟨_,rfl,rfl⟩))) λh=>(nr (fU (fT (bo b (ab (bh (eg (cmp 0 (f:=λ_=>.bl true) b (aW (aa 0)) (bT (f:=rwQ) (xs:=M) []) (by rw [hl]; omega) λi hi s0 H0 fp=>(x_call (b.comp s0 H0 _ fp) c_is_row (ab (aa 0) af) ⟨_,rfl,?_,?_,rfl⟩)))) af) (ky b.calm ((List.range (M.map rwQ).length).map λ_=>true) (by rw [List.map_map]; rfl)))))))) ?_ ?_
 · rw [t.at_ (by rw [hl] at hi; exact hi)]; exact c1
 · rw [t.at_ (by rw [hl] at hi; exact hi)]; exact c7
 · rw [hl,decide_eq_true (by omega),decide_eq_true (by omega),tm _ _ λ_ _=>rfl]; rfl
 have e0:atI (M.map rwQ) 0=some (rwQ (M.getD 0 [])):=eP [] (i:=0) (by rw [t.len]; omega)
 refine aI (bo b (ab (bh (eg (cmp 0 (f:=λ_=>.bl (decide ((C:Int)=(C:Int)))) b (aW (aa 0)) (bT (f:=rwQ) (xs:=M) []) (by rw [hl]; omega) λi hi s0 H0 fp=>(dR (bo (b.comp s0 H0 _ fp) (ab (aa 0) af) (eR (n:=C) (by rw [List.length_map]; exact t.at_ (by rw [hl] at hi; exact hi)))) (bo (b.comp s0 H0 _ fp) (ab (aJ (aa 1) ae (aS e0)) af) (eR (n:=C) (by rw [List.length_map]; exact t.at_ (by omega)))) gf)))) af) (ky b.calm ((List.range (M.map rwQ).length).map λ_=>decide ((C:Int)=(C:Int))) (by rw [List.map_map]; rfl))) ?_
 rw [tm _ _ λ_ _=>decide_eq_true rfl]
theorem ka (F:Fun K "look_table" qual (top 16) f fd) (hb:∀ x ∈ ai,mg x=none) (c_is_table:Cal P w K mg base k "is_table" gj):aR P w K mg base CX0 (k + 1) f fd ["thing"] (spD K cC):=by
 refine fnD F j0 hb (by rintro _ _ ⟨_,_,_,rfl,_⟩; rfl) ?_
 rintro _ _ ⟨R,C,M,rfl,t,rfl⟩ cdv A outer s H E b
 exact iB (fU (fT (x_call b c_is_table (ab (aa 0) af) ⟨R,C,M,rfl,t,rfl⟩))) rfl (aH rfl)
end
noncomputable def scS (s:Int) (q:Rat):Int:=s / (Int.gcd s (q.den:Nat):Int) * (q.den:Nat)
noncomputable def scL (r:List Rat):Int:=r.foldl scS 1
theorem sF {s:Int} (hs:0 < s) (q:Rat):0 < scS s q/\s ∣ scS s q/\((q.den:Nat):Int) ∣ scS s q:=by
 have hq:=den_pos q
 have g0:0 < (Int.gcd s (q.den:Nat):Int):=by
   have:=i8 (i:=s) (j:=(q.den:Nat)) (by omega)
   have:=Int.natCast_nonneg (Int.gcd s (q.den:Nat))
   omega
 have d1:(Int.gcd s (q.den:Nat):Int) ∣ s:=Int.gcd_dvd_left ..
 have d2:(Int.gcd s (q.den:Nat):Int) ∣ ((q.den:Nat):Int):=Int.gcd_dvd_right ..
 have p1:0 < s / (Int.gcd s (q.den:Nat):Int):=Int.ediv_pos_of_pos_of_dvd hs (by omega) d1
 refine ⟨Int.mul_pos p1 hq,?_,Int.dvd_mul_left ..⟩
 obtain ⟨k,hk⟩:=d2
 refine ⟨k,?_⟩
 unfold scS
 conv=>lhs; rhs; rw [hk]
 rw [<- Int.mul_assoc,Int.ediv_mul_cancel d1]
theorem mG (r:List Rat) (q:Rat):scL (r++[q])=scS (scL r) q:=by unfold scL; rw [List.foldl_append]; rfl
theorem px:∀ (r:List Rat) (s:Int),0 < s->0 < r.foldl scS s/\s ∣ r.foldl scS s/\∀ q ∈ r,((q.den:Nat):Int) ∣ r.foldl scS s
 | [],s,h=>⟨h,Int.dvd_refl _,λ_ z=>nomatch z⟩
 | q :: r,s,h=>by
   obtain ⟨a1,a2,a3⟩:=sF h q
   obtain ⟨b1,b2,b3⟩:=px r _ a1
   exact ⟨b1,Int.dvd_trans a2 b2,λx hx=>(List.mem_cons.mp hx).elim (λe=>by rw [e]; exact Int.dvd_trans a3 b2) (b3 x)⟩
theorem dX (r:List Rat):0 < scL r/\∀ q ∈ r,((q.den:Nat):Int) ∣ scL r:=⟨(px r 1 (by decide)).1,(px r 1 (by decide)).2.2⟩
theorem t9 {d:Nat}:∀ (r:List Rat) (s:Int) (n:Nat),Bd n s->(∀ q ∈ r,Bd d (q.den:Nat))->Bd (n + r.length * d) (r.foldl scS s)
 | [],s,n,h,_=>by simpa using h
 | q :: r,s,n,h,hd=>by
   have h1:Bd (n + d) (scS s q):=(h.ediv _).mul (hd q (List.mem_cons_self ..))
   have:=t9 r _ _ h1 λx hx=>hd x (List.mem_cons_of_mem _ hx)
   rw [List.length_cons,Nat.succ_mul]
   rwa [show n + d + r.length * d=n + (r.length * d + d) by omega] at this
theorem dr {d:Nat} {r:List Rat} (h:∀ q ∈ r,Bd d (q.den:Nat)):Bd (1 + r.length * d) (scL r):=t9 r 1 1 (by unfold Bd; decide) h
noncomputable def eJ (ds:List D) (r:Sl):Prop:=∃ (q:List Rat) (d:Nat),ds=[rwQ q]/\q.length<=1000/\(∀ x ∈ q,Bd d (x.den:Nat))/\1 + q.length * d<=8999/\d<=8999/\r=.d (.int (scL q))
noncomputable def whR (r:List Rat) (s:Int):List Int:=r.map λq=>q.num * (s / (q.den:Nat))
theorem yw {q:Rat} {s:Int} (h:((q.den:Nat):Int) ∣ s):((q.num * (s / (q.den:Nat)):Int):Rat)=q * (s:Rat):=by
 obtain ⟨k,rfl⟩:=h
 have:=den_pos q
 rw [Int.mul_ediv_cancel_left _ (by omega),Rat.intCast_mul,Rat.intCast_mul,<- Rat.mul_assoc,cZ]
theorem xt {d v n:Nat} {q:Rat} {s:Int} (hq:Qs d v q) (h:((q.den:Nat):Int) ∣ s) (hs:Bd n s):Bd (v + n) (q.num * (s / (q.den:Nat))):=by
 obtain ⟨k,rfl⟩:=h
 have hd:=den_pos q
 rw [Int.mul_ediv_cancel_left _ (by omega)]
 unfold Bd at hs ⊢
 rw [Int.natAbs_mul,Nat.pow_add]
 rw [Int.natAbs_mul,Int.natAbs_natCast] at hs
 have h1:q.num.natAbs * k.natAbs<=2 ^ v * q.den * k.natAbs:=Nat.mul_le_mul_right _ hq.val
 rw [Nat.mul_assoc] at h1
 exact Nat.lt_of_le_of_lt h1 (Nat.mul_lt_mul_of_pos_left hs (Nat.two_pow_pos v))
noncomputable def fj (ds:List D) (r:Sl):Prop:=∃ (q:List Rat) (s:Int) (n:Nat),ds=[rwQ q,.int s]/\q.length<=1000/\(∀ x ∈ q,Sq n x)/\n<=8999/\Bd 8999 s/\r=.o ((whR q s).map .int)
noncomputable def prZ (ns:List Int):Int:=ns.foldl (· * ·) 1
theorem jN (ns:List Int) (n:Int):prZ (ns++[n])=prZ ns * n:=by unfold prZ; rw [List.foldl_append]; rfl
theorem sN {d:Nat}:∀ (r:List Int) (s:Int) (n:Nat),Bd n s->(∀ q ∈ r,Bd d q)->Bd (n + r.length * d) (r.foldl (· * ·) s)
 | [],s,n,h,_=>by simpa using h
 | q :: r,s,n,h,hd=>by
   have:=sN r _ _ (h.mul (hd q (List.mem_cons_self ..))) λx hx=>hd x (List.mem_cons_of_mem _ hx)
   rw [List.length_cons,Nat.succ_mul]
   rwa [show n + d + r.length * d=n + (r.length * d + d) by omega] at this
theorem oy {d:Nat} {r:List Int} (h:∀ q ∈ r,Bd d q):Bd (1 + r.length * d) (prZ r):=sN r 1 1 (by unfold Bd; decide) h
theorem qp:∀ (r:List Int) (s:Int),0 < s->(∀ q ∈ r,0 < q)->0 < r.foldl (· * ·) s
 | [],_,h,_=>h
 | q :: r,s,h,hq=>qp r _ (Int.mul_pos h (hq q (List.mem_cons_self ..))) λx hx=>hq x (List.mem_cons_of_mem _ hx)
theorem wN {r:List Int} (h:∀ q ∈ r,0 < q):0 < prZ r:=qp r 1 (by decide) h
noncomputable def b7 (ds:List D) (r:Sl):Prop:=∃ (q:List Int) (d:Nat),ds=[.lst (q.map .int)]/\(∀ x ∈ q,Bd d x)/\1 + q.length * d<=900000/\d<=900000/\r=.d (.int (prZ q))
noncomputable def dg (ds:List D) (r:Sl):Prop:=∃ (R:Nat) (M:List (List Rat)),ds=[tbQ M]/\Tq R R M/\r=.d .non
noncomputable def whM (M:List (List Rat)) (ss:List Int):List (List Int):=(List.range M.length).map λi=>whR (M.getD i []) (ss.getD i 0)
theorem sL {α β:Type} {f:α->D} {g:β->D} {xs:List α} {ys:List β} (d:α) (e:β) (i:Nat) (h:i < (iU (xs.map f) (ys.map g)).length):(iU (xs.map f) (ys.map g))[i]=.tup [f (xs.getD i d),g (ys.getD i e)]:=by
 rw [dC,List.length_map,List.length_map] at h
 have h1:i < xs.length:=by omega
 have h2:i < ys.length:=by omega
 simp [iU,h1,h2]
noncomputable def cF (ds:List D) (r:Sl):Prop:=∃ (M:List (List Rat)) (ss:List Int) (n:Nat),ds=[tbQ M,.lst (ss.map .int)]/\M.length=ss.length/\M.length<=1000/\(∀ r ∈ M,r.length<=1000/\∀ x ∈ r,Sq n x)/\n<=8999/\(∀ s ∈ ss,Bd 8999 s)/\r=.o ((whM M ss).map dtR)
noncomputable def pvF (G:List (List Int)) (k:Nat):Nat->Option Nat
 | 0=>none
 | t + 1=>match pvF G k t with
   | some i=>some i
   | none=>if (G.getD (k + t) []).getD k 0 ≠ 0 then some (k + t) else none
noncomputable def pvP (G:List (List Int)) (k:Nat):Option Nat:=pvF G k (G.length - k)
noncomputable def pvD:Option Nat->D
 | none=>.non
 | some i=>.int (i:Nat)
theorem mU {G:List (List Int)} {k:Nat}:∀ t,pvF G k t=none->∀ i,i < t->(G.getD (k + i) []).getD k 0=0
 | t + 1,h,i,hi=>by
   rw [pvF] at h
   cases e:pvF G k t with
   | some j=>rw [e] at h; cases h
   | none=>
     rw [e] at h
     have h:(if (G.getD (k + t) []).getD k 0 ≠ 0 then some (k + t) else none)=none:=h
     by_cases z:i < t
     · exact mU t e i z
     · obtain rfl:i=t:=by omega
       by_cases y:(G.getD (k + i) []).getD k 0=0
       · exact y
       · rw [if_pos y] at h; cases h
theorem mY {G:List (List Int)} {k:Nat}:∀ t j,pvF G k t=some j->k<=j/\j < k + t/\(G.getD j []).getD k 0 ≠ 0
 | t + 1,j,h=>by
   rw [pvF] at h
   cases e:pvF G k t with
   | some i=>
     rw [e] at h
     cases h
     have:=mY t _ e
     exact ⟨this.1,by omega,this.2.2⟩
   | none=>
     rw [e] at h
     have h:(if (G.getD (k + t) []).getD k 0 ≠ 0 then some (k + t) else none)=some j:=h
     split at h
     · rename_i y
       cases h
       exact ⟨by omega,by omega,y⟩
     · cases h
theorem m9 {G:List (List Int)} {k:Nat} {t j:Nat} (h:pvF G k t=some j):∀ u,pvF G k (t + u)=some j
 | 0=>h
 | u + 1=>by rw [<- Nat.add_assoc,pvF,m9 h u]
noncomputable def du (ds:List D) (r:Sl):Prop:=∃ (n:Nat) (G:List (List Int)) (k:Nat),ds=[.lst (G.map dtR),.int (k:Nat)]/\G.length=n/\n<=1000/\(∀ r ∈ G,r.length=n)/\k < n/\r=.d (pvD (pvP G k))
noncomputable def clR (r p:List Int) (k:Nat) (l:Int) (n:Nat):List Int:=(List.range n).map λj=>((r.getD j 0 * p.getD k 0) - (p.getD j 0 * r.getD k 0)).fdiv l
noncomputable def ir (ds:List D) (r:Sl):Prop:=∃ (n:Nat) (q p:List Int) (k:Nat) (l:Int) (B:Nat),ds=[dtR q,dtR p,.int (k:Nat),.int l]/\q.length=n/\p.length=n/\n<=1000/\k < n/\(∀ x ∈ q,Bd B x)/\(∀ x ∈ p,Bd B x)/\B<=900000/\l ≠ 0/\Bd 8999 l/\r=.o ((clR q p k l n).map .int)
noncomputable def tpD (c:List Int):D:=.tup (c.map .int)
noncomputable def lV (cs:List (List Int)):D:=.lst (cs.map tpD)
noncomputable def fN (c:List Int):Int:=c.getD (c.length - 1) 0
noncomputable def lea (t:Nat) (c:List Int):Int:=if 0 < t then fN c + 1 else 0
noncomputable def onC (n t:Nat) (c:List Int):List (List Int):=(List.range ((n:Int) - lea t c).toNat).map λk=>c++[lea t c + (k:Nat)]
noncomputable def chs (n:Nat):Nat->List (List Int)
 | 0=>[[]]
 | t + 1=>(chs n t).flatMap (onC n t)
structure Chs (n t:Nat) (c:List Int):Prop where
 len:c.length=t
 at_:∀ i,i < t->0<=c.getD i 0/\c.getD i 0 < n
theorem sP {c:List Int} {x:Int} {i:Nat}:(c++[x]).getD i 0=if i < c.length then c.getD i 0 else if i=c.length then x else 0:=by
 by_cases h:i < c.length
 · rw [if_pos h]; simp [List.getD,List.getElem?_append_left h]
 · rw [if_neg h]
   by_cases e:i=c.length
   · subst e; simp
   · rw [if_neg e]
     simp [List.getD]
     rw [List.getElem?_eq_none (by simp; omega)]
     rfl
theorem n9 {n t:Nat} {c:List Int} (h:Chs n t c):0<=lea t c/\lea t c<=n:=by
 unfold lea
 by_cases ht:0 < t
 · have:=h.at_ (t - 1) (by omega)
   rw [if_pos ht,fN,h.len]
   omega
 · rw [if_neg ht]; omega
theorem bY (n:Nat):∀ t,∀ c ∈ chs n t,Chs n t c
 | 0,c,h=>by
   rw [chs,List.mem_singleton] at h
   subst h
   exact ⟨rfl,λi hi=>absurd hi (by omega)⟩
 | t + 1,c,h=>by
   rw [chs,List.mem_flatMap] at h
   obtain ⟨d,hd,hc⟩:=h
   have ih:=bY n t d hd
   have hl:=n9 ih
   unfold onC at hc
   obtain ⟨k,hk,rfl⟩:=List.mem_map.mp hc
   rw [List.mem_range] at hk
   refine ⟨by rw [List.length_append,ih.len]; rfl,λi hi=>?_⟩
   rw [sP,ih.len]
   by_cases e:i < t
   · rw [if_pos e]; exact ih.at_ i e
   · rw [if_neg e,if_pos (by omega)]; omega
theorem lQ {n t:Nat} {c:List Int} (h:Chs n t c):(onC n t c).length<=n:=by
 have:=n9 h
 simp [onC]
 omega
theorem fb {α β:Type} (f:α->List β) (m:Nat):∀ xs:List α,(∀ x ∈ xs,(f x).length<=m)->(xs.flatMap f).length<=xs.length * m
 | [],_=>by simp
 | x :: xs,h=>by
   rw [List.flatMap_cons,List.length_append,List.length_cons,Nat.succ_mul]
   have:=h x (List.mem_cons_self ..)
   have:=fb f m xs λy hy=>h y (List.mem_cons_of_mem _ hy)
   omega
theorem qd {n:Nat} (hn:n<=7):∀ t,(chs n t).length<=7 ^ t
 | 0=>by simp [chs]
 | t + 1=>by
   rw [chs]
   have:=fb (onC n t) 7 (chs n t) λc hc=>Nat.le_trans (lQ (bY n t c hc)) hn
   have:=qd hn t
   rw [Nat.pow_succ]
   omega
noncomputable def d9 (ds:List D) (r:Sl):Prop:=∃ n t:Nat,ds=[.int n,.int t]/\n<=7/\t<=7/\r=.d (lV (chs n t))
theorem wH {cs:List (List Int)} (i:Nat) (h:i < (cs.map tpD).length):(cs.map tpD)[i]=tpD (cs.getD i []):=by
 have:i < cs.length:=by simpa using h
 simp [this]
theorem bw {α:Type} {xs:List α} {i:Nat} {d:α} (h:i < xs.length):xs.getD i d ∈ xs:=by simp [h]
theorem qb {c:List Int} (h:c ≠ []):atI (c.map D.int) (-1)=some (.int (fN c)):=by
 have hl:0 < c.length:=List.length_pos_iff.mpr h
 unfold atI ixN fN
 rw [if_neg (by decide),if_pos (by rw [List.length_map]; omega),List.length_map]
 simp only [Option.bind_some]
 have e:(-1 + (c.length:Int)).toNat=c.length - 1:=by omega
 rw [e]
 simp [(by omega:c.length - 1 < c.length)]
section
variable {P:Program} {w:World} {K:PySem.W.Frag} {mg:Str->Option Value} {base:Heap} {k:Nat} {f:Addr} {fd:FuncData} {qual:Str}
theorem mr (F:Fun K "scale_of" qual (top 21) f fd) (hb:∀ x ∈ ai,mg x=none) (c_common_divisor:Cal P w K mg base k "common_divisor" bj):aR P w K mg base CX0 (k + 1) f fd ["row"] (spD K eJ):=by
 refine fnD F iJ hb (by rintro _ _ ⟨_,_,rfl,_⟩; rfl) ?_
 rintro _ _ ⟨q,d,rfl,hl,hd,hb1,hd1,rfl⟩ cdv A outer s H E b
 have nd:=iJ.nd
 refine aw 1 nd ae ?_
 refine a6 2 (g:=λi=>frD (q.getD i 0)) (λi τ=>i<=q.length/\∃ s2,τ=[.d (rwQ q),.d (.int (scL (q.take i))),s2]) b nd (aW (aa 0)) (bT (f:=frD) (xs:=q) 0) ⟨Nat.zero_le _,.un,rfl⟩ (λi hi τ h=>?_) λτ h=>?_
 · obtain ⟨_,s2,rfl⟩:=h
   have hi:i < q.length:=by simpa using hi
   have mm:=a5 (d:=(0:Rat)) hi
   have hs:=(dX (q.take i)).1
   have bs:Bd (1 + q.length * d) (scL (q.take i)):=(dr λx hx=>hd x (List.mem_of_mem_take hx)).mono (by
     have:(q.take i).length * d<=q.length * d:=Nat.mul_le_mul_right _ (by rw [List.length_take]; omega)
     omega)
   have et:q.take (i + 1)=q.take i++[q.getD i 0]:=by rw [List.take_succ,List.getElem?_eq_getElem hi]; simp [hi]
   rw [et,mG]
   generalize scL (q.take i)=sc at hs bs ⊢
   generalize q.getD i 0=x at mm ⊢
   have hx:=den_pos x
   have dv:aE (Int.gcd sc (x.den:Nat):Int):=((hd x mm).gcd (by omega)).aE (i8 (by omega)) (by omega)
   refine aw 1 nd (ak (ak (aa 1) (x_call b c_common_divisor (ab (aa 1) (ab (aJ (aa 2) ae (aU (aP (i:=1) rfl))) af)) ⟨_,_,rfl,rfl⟩) (bF dv)) (aJ (aa 2) ae (aU (aP (i:=1) rfl))) (aO ?_)) (aH ⟨hi,.d (frD x),?_⟩)
   · rw [cH]; exact (bs.ediv _).aB (hd x mm) (by omega) (by omega)
   · rw [cH]; rfl
 · obtain ⟨_,s2,rfl⟩:=h
   rw [List.length_map,List.take_length]
   exact aI (aa 1) rfl
theorem lz (F:Fun K "whole_row" qual (top 22) f fd) (hb:∀ x ∈ ai,mg x=none):aR P w K mg base CX0 (k + 1) f fd ["row","scale"] (spD K fj):=by
 refine fnD F l4 hb (by rintro _ _ ⟨_,_,_,rfl,_⟩; rfl) ?_
 rintro _ _ ⟨q,s0,n,rfl,hl,hq,hn,hs,rfl⟩ cdv A outer s H E b
 refine aI (eg (cmp 0 (f:=λi=>.int ((q.getD i 0).num * (s0.fdiv ((q.getD i 0).den:Nat)))) b (aW (aa 0)) (bT (f:=frD) (xs:=q) 0) (by rw [List.length_map]; omega) λi hi s1 H0 fp=>?_)) ?_
 · have sq:=hq _ (a5 (d:=(0:Rat)) (by simpa using hi))
   generalize q.getD i 0=x at sq ⊢
   have hx:=den_pos x
   have e:s0.fdiv (x.den:Nat)=s0 / (x.den:Nat):=Int.fdiv_eq_ediv_of_nonneg _ (by omega)
   exact ak (aJ (aa 0) ae (aU (aP (i:=0) rfl))) (ak (aa 1) (aJ (aa 0) ae (aU (aP (i:=1) rfl))) (bF (sq.den.aE (by omega) (by omega)))) (aO (by rw [e]; exact sq.num.aB (hs.ediv _) (by omega) (by omega)))
 · refine congrArg Sl.o ((eI (λx:Rat=>D.int (x.num * (s0.fdiv (x.den:Nat)))) q 0 (List.length_map ..)).trans ?_)
   unfold whR
   rw [List.map_map]
   refine List.map_congr_left λx _=>?_
   simp only [Function.comp]
   rw [Int.fdiv_eq_ediv_of_nonneg _ (by have:=den_pos x; omega)]
theorem gy (F:Fun K "product_of_all" qual (top 24) f fd) (hb:∀ x ∈ ai,mg x=none):aR P w K mg base CX0 (k + 1) f fd ["numbers"] (spD K b7):=by
 refine fnD F cW hb (by rintro _ _ ⟨_,_,rfl,_⟩; rfl) ?_
 rintro _ _ ⟨q,d,rfl,hd,hb1,hd1,rfl⟩ cdv A outer s H E b
 have nd:=cW.nd
 refine aw 1 nd ae ?_
 refine a6 2 (g:=λi=>.int (q.getD i 0)) (λi τ=>i<=q.length/\∃ s2,τ=[.d (.lst (q.map .int)),.d (.int (prZ (q.take i))),s2]) b nd (aW (aa 0)) (bT (f:=D.int) (xs:=q) 0) ⟨Nat.zero_le _,.un,rfl⟩ (λi hi τ h=>?_) λτ h=>?_
 · obtain ⟨_,s2,rfl⟩:=h
   have hi:i < q.length:=by simpa using hi
   have mm:=a5 (d:=(0:Int)) hi
   have bs:Bd (1 + q.length * d) (prZ (q.take i)):=(oy λx hx=>hd x (List.mem_of_mem_take hx)).mono (by
     have:(q.take i).length * d<=q.length * d:=Nat.mul_le_mul_right _ (by rw [List.length_take]; omega)
     omega)
   have et:q.take (i + 1)=q.take i++[q.getD i 0]:=by rw [List.take_succ,List.getElem?_eq_getElem hi]; simp [hi]
   rw [et,jN]
   exact aw 1 nd (ak (aa 1) (aa 2) (aO (bs.aB (hd _ mm) (by omega) (by omega)))) (aH ⟨hi,_,rfl⟩)
 · obtain ⟨_,s2,rfl⟩:=h
   rw [List.length_map,List.take_length]
   exact aI (aa 1) rfl
theorem jL (F:Fun K "look_square" qual (top 20) f fd) (hb:∀ x ∈ ai,mg x=none):aR P w K mg base CX0 (k + 1) f fd ["table"] (spD K dg):=by
 refine fnD F jU hb (by rintro _ _ ⟨_,_,rfl,_⟩; rfl) ?_
 rintro _ _ ⟨R,M,rfl,t,rfl⟩ cdv A outer s H E b
 have r1:=t.r1
 have e0:atI (M.map rwQ) 0=some (rwQ (M.getD 0 [])):=eP [] (i:=0) (by rw [t.len]; omega)
 refine iB (aZ (bo b (ab (aa 0) af) (eR (n:=R) (by rw [List.length_map]; exact t.len))) (bo b (ab (aJ (aa 0) ae (aS e0)) af) (eR (n:=R) (by rw [List.length_map]; exact t.at_ (by omega)))) vh) ?_ (aH rfl)
 rw [decide_eq_true rfl]; rfl
theorem j9 (F:Fun K "whole_rows" qual (top 23) f fd) (hb:∀ x ∈ ai,mg x=none) (c_whole_row:Cal P w K mg base k "whole_row" fj):aR P w K mg base CX0 (k + 1) f fd ["table","scales"] (spD K cF):=by
 refine fnD F kb hb (by rintro _ _ ⟨_,_,_,rfl,_⟩; rfl) ?_
 rintro _ _ ⟨M,ss,n,rfl,hl,h1,hM,hn,hs,rfl⟩ cdv A outer s H E b
 have zl:(iU (M.map rwQ) (ss.map D.int)).length=M.length:=by rw [dC,List.length_map,List.length_map]; omega
 refine aI (eg (zQ 0 1 (g:=λi=>rwQ (M.getD i [])) (g':=λi=>.int (ss.getD i 0)) (f:=λi=>dtR (whR (M.getD i []) (ss.getD i 0))) b (xw b (aa 0) (aa 1)) (sL [] 0) (by rw [zl]; omega) λi hi s0 H0 fp=>?_)) ?_
 · rw [zl] at hi
   obtain ⟨g1,g2⟩:=hM _ (a5 (d:=[]) hi)
   exact bh (x_call (b.comp s0 H0 _ fp) c_whole_row (ab (aa 0) (ab (aa 1) af)) ⟨_,_,n,rfl,g1,g2,hn,hs _ (a5 (by omega)),rfl⟩)
 · unfold whM
   rw [zl,List.map_map]
   rfl
theorem jO (F:Fun K "pivot_place" qual (top 26) f fd) (hb:∀ x ∈ ai,mg x=none):aR P w K mg base CX0 (k + 1) f fd ["grid","k"] (spD K du):=by
 refine fnD F fg hb (by rintro _ _ ⟨_,_,_,rfl,_⟩; rfl) ?_
 rintro _ _ ⟨n,G,k0,rfl,hG,h1,hr,hk,rfl⟩ cdv A outer s H E b
 have nd:=fg.nd
 refine a6 2 (λi τ=>pvF G k0 i=none/\∃ s2,τ=[.d (.lst (G.map dtR)),.d (.int (k0:Nat)),s2]) b nd (mf b (aa 1) (bo b (ab (aa 0) af) (eR (n:=n) (by rw [List.length_map]; exact hG))) (by omega)) ue ⟨rfl,.un,rfl⟩ (λi hi τ h=>?_) λτ h=>?_
 · obtain ⟨h0,s2,rfl⟩:=h
   rw [aq] at hi
   have hi':k0 + i < n:=by omega
   have e:((k0:Int) + (i:Int))=((k0 + i:Nat):Int):=by omega
   rw [e]
   have a1:atI (G.map dtR) ((k0 + i:Nat):Int)=some (dtR (G.getD (k0 + i) [])):=eP [] (by omega)
   have hl:(G.getD (k0 + i) []).length=n:=hr _ (a5 (by omega))
   have a2:atI ((G.getD (k0 + i) []).map D.int) (k0:Int)=some (.int ((G.getD (k0 + i) []).getD k0 0)):=atR (by omega)
   refine cK (aZ (aJ (aJ (aa 0) (aa 2) (aS a1)) (aa 1) (aS a2)) ae vh) (λz=>?_) λz=>?_
   · refine aI (aa 2) ?_
     have z:(!decide ((G.getD (k0 + i) []).getD k0 0=0))=true:=z
     have z:(G.getD (k0 + i) []).getD k0 0 ≠ 0:=by simpa using z
     have e1:pvF G k0 (i + 1)=some (k0 + i):=by rw [pvF,h0]; exact if_pos z
     have e2:pvP G k0=some (k0 + i):=by
       unfold pvP
       have:=m9 e1 (G.length - k0 - (i + 1))
       rwa [show i + 1 + (G.length - k0 - (i + 1))=G.length - k0 by omega] at this
     rw [e2]
     rfl
   · refine aH ⟨?_,_,rfl⟩
     have z:(!decide ((G.getD (k0 + i) []).getD k0 0=0))=false:=z
     have z:(G.getD (k0 + i) []).getD k0 0=0:=by simpa using z
     rw [pvF,h0]
     exact if_neg (λy=>y z)
 · obtain ⟨h0,s2,rfl⟩:=h
   rw [aq] at h0
   refine aI nX ?_
   have:pvP G k0=none:=by
     unfold pvP
     rw [hG,<- h0]
     congr 1
     omega
   rw [this]
   rfl
theorem pj (F:Fun K "cleared" qual (top 27) f fd) (hb:∀ x ∈ ai,mg x=none):aR P w K mg base CX0 (k + 1) f fd ["row","pivot_row","k","last"] (spD K ir):=by
 refine fnD F jX hb (by rintro _ _ ⟨_,_,_,_,_,_,rfl,_⟩; rfl) ?_
 rintro _ _ ⟨n,q,p,k0,l,B,rfl,hq,hp,hn,hk,bq,bp,hB,hl,bl,rfl⟩ cdv A outer s H E b
 have nd:=jX.nd
 have zl:(iU (q.map D.int) (p.map D.int)).length=n:=by rw [dC,List.length_map,List.length_map]; omega
 refine aw 4 nd (aJ (aa 1) (aa 2) (aS (atR (by omega)))) ?_
 refine aw 5 nd (aJ (aa 0) (aa 2) (aS (atR (by omega)))) ?_
 refine aI (eg (zQ 0 1 (g:=λi=>.int (q.getD i 0)) (g':=λi=>.int (p.getD i 0)) (f:=λj=>.int (((q.getD j 0 * p.getD k0 0) - (p.getD j 0 * q.getD k0 0)).fdiv l)) b (xw b (aa 0) (aa 1)) (sL 0 0) (by rw [zl]; omega) λi hi s0 H0 fp=>?_)) ?_
 · rw [zl] at hi
   have m1:=bq _ (a5 (d:=(0:Int)) (show i < q.length by omega))
   have m2:=bp _ (a5 (d:=(0:Int)) (show k0 < p.length by omega))
   have m3:=bp _ (a5 (d:=(0:Int)) (show i < p.length by omega))
   have m4:=bq _ (a5 (d:=(0:Int)) (show k0 < q.length by omega))
   exact ak (ak (ak (aa 0) (aa 4) (aO (m1.aB m2 (by omega) (by omega)))) (ak (aa 1) (aa 2) (aO (m3.aB m4 (by omega) (by omega)))) b5) (aa 3) (bF (bl.aE hl (by decide)))
 · unfold clR
   rw [zl,List.map_map]
   rfl
theorem jZ (F:Fun K "choices_of" qual (top 17) f fd) (hb:∀ x ∈ ai,mg x=none):aR P w K mg base CX0 (k + 1) f fd ["many","size"] (spD K d9):=by
 refine fnD F fS hb (by rintro _ _ ⟨_,_,rfl,_⟩; rfl) ?_
 rintro _ _ ⟨n,t,rfl,hn,ht,rfl⟩ cdv A outer s H E b
 have nd:=fS.nd
 refine aw 2 nd (bh (fq (ab (cf af) af))) ?_
 refine a6 3 (λi τ=>∃ s3 s4 s5 s6,τ=[.d (.int n),.d (.int t),.d (lV (chs n i)),s3,s4,s5,s6]) b nd (cy b (aa 1) (by omega) (by omega)) cv ⟨.un,.un,.un,.un,rfl⟩ (λi hi τ h=>?_) λτ h=>?_
 · obtain ⟨s3,s4,s5,s6,rfl⟩:=h
   have hi:i < t:=by rw [aq] at hi; omega
   have l1:=qd hn i
   have l2:7 ^ i<=7 ^ 6:=Nat.pow_le_pow_right (by decide) (by omega)
   refine aw 4 nd (fq af) ?_
   refine a6 5 (g:=λl=>tpD ((chs n i).getD l [])) (λl τ=>∃ s5 s6,τ=[.d (.int n),.d (.int t),.d (lV (chs n i)),.d (.int (i:Nat)),.o ((((chs n i).take l).flatMap (onC n i)).map tpD),s5,s6]) b nd (aW (aa 2)) wH ⟨s5,s6,rfl⟩ (λl hl τ h=>?_) λτ h=>?_
   · obtain ⟨s5,s6,rfl⟩:=h
     have hl:l < (chs n i).length:=by simpa using hl
     have ok:=bY n i _ (bw (d:=[]) hl)
     have hle:=n9 ok
     have len1:=fb (onC n i) 7 ((chs n i).take l) λc hc=>Nat.le_trans (lQ (bY n i c (List.mem_of_mem_take hc))) hn
     rw [List.length_take] at len1
     have len2:=lQ ok
     refine aw 6 nd (xp (s:=.d (.int (lea i ((chs n i).getD l [])))) (aZ (aa 3) ae mQ) (λh=>?_) λh=>?_) ?_
     · have h:=of_decide_eq_true h
       have h0:0 < i:=by omega
       rw [show lea i ((chs n i).getD l [])=fN ((chs n i).getD l []) + 1 from if_pos h0]
       exact ak (aJ (aa 5) (ng ae) (aU (qb λz=>by have:=ok.len; rw [z] at this; simp at this; omega))) ae aT
     · have h:=of_decide_eq_false h
       rw [show lea i ((chs n i).getD l [])=0 from if_neg (by omega)]
       exact ae
     refine AL 4 (eg (cmp 0 (f:=λk=>tpD (((chs n i).getD l [])++[lea i ((chs n i).getD l []) + (k:Nat)])) b (mf b (aa 6) (aa 0) ⟨by omega,by omega,by omega,by omega⟩) (λk hk=>gp _ _ k hk) (by rw [aq]; omega) λk hk s0 H0 fp=>?_)) ?_ (aH ⟨.d (tpD ((chs n i).getD l [])),.d (.int (lea i ((chs n i).getD l []))),?_⟩)
     · have e:tpD (((chs n i).getD l [])++[lea i ((chs n i).getD l []) + (k:Nat)])=.tup ((((chs n i).getD l []).map D.int)++[.int (lea i ((chs n i).getD l []) + (k:Nat))]):=by unfold tpD; rw [List.map_append]; rfl
       rw [e]
       exact ak (aa 1) (cf (ab (aa 0) af)) (ou (by rw [List.length_map,ok.len]; show _ + 1 < _; omega))
     · rw [List.length_map,List.length_map,List.length_range,aq]; omega
     · rw [take_snoc [] hl,List.flatMap_append,List.map_append,aq]
       show [_,_,_,_,Sl.o (_++(List.range ((n:Int) - lea i ((chs n i).getD l [])).toNat).map _),_,_]=_
       simp [onC]
   · obtain ⟨s5,s6,rfl⟩:=h
     refine zh 4 (aw 2 nd (aa 4) (aH ⟨.d (.int (i:Nat)),.d (lV (chs n (i + 1))),s5,s6,?_⟩))
     rw [List.length_map,List.take_of_length_le (Nat.le_refl _)]
     rfl
 · obtain ⟨s3,s4,s5,s6,rfl⟩:=h
   refine aI (aa 2) ?_
   rw [aq,Int.toNat_natCast]
end
theorem xm {α β:Type} (g:α->β) (x:α):∀ (m:Nat) (ys:List α),(ys.map g).insertIdx m (g x)=(ys.insertIdx m x).map g
 | 0,_=>rfl
 | m + 1,[]=>rfl
 | m + 1,y :: ys=>by rw [List.map_cons,List.insertIdx_succ_cons,List.insertIdx_succ_cons,List.map_cons,xm g x m ys]
theorem oH {α:Type} (d:α) {G:List α} {k m:Nat} (h:k + m < G.length) (i:Nat):((G.eraseIdx (k + m)).insertIdx k (G.getD (k + m) d)).getD i d=G.getD (rho k m i) d:=by
 have hl:(G.eraseIdx (k + m)).length=G.length - 1:=List.length_eraseIdx_of_lt h
 simp only [List.getD_eq_getElem?_getD]
 rw [List.getElem?_insertIdx]
 unfold rho
 by_cases h1:i < k
 · rw [if_pos h1,if_pos h1,List.getElem?_eraseIdx_of_lt (by omega)]
 · rw [if_neg h1,if_neg h1]
   by_cases h2:i=k
   · rw [if_pos h2,if_pos h2,if_pos (by omega)]
     rw [List.getElem?_eq_getElem h]
     rfl
   · rw [if_neg h2,if_neg h2,List.getElem?_eraseIdx]
     by_cases h3:i<=k + m
     · rw [if_pos h3,if_pos (by omega)]
     · rw [if_neg h3,if_neg (by omega),show i - 1 + 1=i by omega]
theorem mj {k m n i:Nat} (h:k + m < n) (hi:i < n):rho k m i < n/\(k<=i->k<=rho k m i):=by
 unfold rho
 repeat' split
 all_goals omega
theorem xo {n b k p q:Nat} {Y:Nat->Nat->Rat} (hY:∀ i < n,∀ j < n,ZB b (Y i j)) (hk:k < n) (hp:p < n) (hq:q < n) (h7:n<=7):ZB ((k + 1) * (b + 3)) (bm Y k p q):=by
 unfold bm
 exact uM (by omega) λr hr c hc=>hY _ (by split <;> omega) _ (by split <;> omega)
theorem xg {B c:Nat} {x:Rat} {z:Int} (h:ZB c x) (e:(z:Rat)=x) (hc:c < B):Bd B z:=by
 obtain ⟨y,e1,e2⟩:=h
 rw [e1] at e
 rw [Rat.intCast_inj.mp e]
 exact Nat.lt_of_le_of_lt e2 (Nat.pow_lt_pow_right (by decide) hc)
structure WI (n b:Nat) (M:Nat->Nat->Rat) (k:Nat) (G:List (List Int)) (s l:Int) (Y:Nat->Nat->Rat):Prop where
 zb:∀ i < n,∀ j < n,ZB b (Y i j)
 dt:det n M=(s:Rat) * det n Y
 sg:s=1\/s=-1
 last:(l:Rat)=det k Y
 nz:det k Y ≠ 0
 len:G.length=n
 row:∀ i,i < n->(G.getD i []).length=n
 ent:∀ i,k<=i->i < n->∀ j,j < n->(((G.getD i []).getD j 0:Int):Rat)=bm Y k i j
theorem WI.zero {n b:Nat} {Ms:List (List Int)} (h1:Ms.length=n) (hr:∀ r ∈ Ms,r.length=n/\∀ x ∈ r,x.natAbs<=2 ^ b):WI n b (dtM Ms) 0 Ms 1 1 (dtM Ms):=by
 have rw':∀ i,i < n->(Ms.getD i []).length=n:=λi hi=>(hr _ (a5 (by omega))).1
 refine ⟨λi hi j hj=>⟨_,rfl,(hr _ (a5 (d:=[]) (show i < Ms.length by omega))).2 _ (a5 (d:=(0:Int)) (by rw [rw' i hi]; exact hj))⟩,?_,.inl rfl,rfl,by show (1:Rat) ≠ 0; decide,h1,rw',λi _ hi j hj=>?_⟩
 · rw [show ((1:Int):Rat)=1 from rfl,Rat.one_mul]
 · unfold bm
   rw [iX]
   rfl
theorem WI.rot {n b k m:Nat} {M Y:Nat->Nat->Rat} {G:List (List Int)} {s l:Int} (W:WI n b M k G s l Y) (h:k + m < n):WI n b M k ((G.eraseIdx (k + m)).insertIdx k (G.getD (k + m) [])) (if m % 2=1 then -s else s) l (λr=>Y (rho k m r)):=by
 have hG:k + m < G.length:=by rw [W.len]; exact h
 have e:=fD (k:=k) (n:=n) m Y h
 refine ⟨λi hi j hj=>W.zb _ (mj h hi).1 j hj,?_,?_,?_,?_,?_,λi hi=>?_,λi ki hi j hj=>?_⟩
 · rw [e,W.dt]
   unfold sgn
   by_cases z:m % 2=1
   · rw [if_pos z,if_neg (by omega),Rat.intCast_neg]
     simp [Rat.neg_mul,Rat.mul_neg]
   · rw [if_neg z,if_pos (by omega),Rat.one_mul]
 · rcases W.sg with z | z <;> rw [z] <;> split <;> first | exact .inl rfl | exact .inr rfl
 · rw [kZ]; exact W.last
 · rw [kZ]; exact W.nz
 · rw [List.length_insertIdx_of_le_length (by rw [List.length_eraseIdx_of_lt hG]; omega),List.length_eraseIdx_of_lt hG,W.len]; omega
 · rw [oH [] hG]; exact W.row _ (mj h hi).1
 · rw [oH [] hG,zo]
   exact W.ent _ ((mj h hi).2 ki) (mj h hi).1 j hj
theorem WI.clear {n b k:Nat} {M Y:Nat->Nat->Rat} {G:List (List Int)} {s l:Int} (W:WI n b M k G s l Y) (h:k < n) (h7:n<=7) {i:Nat} (ki:k < i) (hi:i < n) {j:Nat} (hj:j < n):(((clR (G.getD i []) (G.getD k []) k l n).getD j 0:Int):Rat)=bm Y (k + 1) i j:=by
 have g0:(clR (G.getD i []) (G.getD k []) k l n).getD j 0=(((G.getD i []).getD j 0 * (G.getD k []).getD k 0) - ((G.getD k []).getD j 0 * (G.getD i []).getD k 0)).fdiv l:=by
   unfold clR
   simp [hj]
 obtain ⟨z,e1,_⟩:=xo (k:=k + 1) (p:=i) (q:=j) W.zb (by omega) hi hj h7
 have st:=lx (Y:=Y) (k:=k) (i:=i) (j:=j) W.nz
 rw [<- W.ent k (Nat.le_refl _) h k h,<- W.ent i (by omega) hi j hj,<- W.ent k (Nat.le_refl _) h j hj,<- W.ent i (by omega) hi k h,e1,<- W.last] at st
 have st':l * z=(G.getD k []).getD k 0 * (G.getD i []).getD j 0 - (G.getD k []).getD j 0 * (G.getD i []).getD k 0:=by
   apply Rat.intCast_inj.mp
   rw [Rat.intCast_mul,Rat.intCast_sub,Rat.intCast_mul,Rat.intCast_mul]
   exact st
 have l0:l ≠ 0:=λq=>W.nz (by rw [<- W.last,q]; rfl)
 rw [g0,Int.mul_comm ((G.getD i []).getD j 0),<- st',e1,Int.mul_fdiv_cancel_left _ l0]
theorem WI.next {n b k:Nat} {M Y:Nat->Nat->Rat} {G G':List (List Int)} {s l:Int} (W:WI n b M k G s l Y) (h:k < n) (h7:n<=7) (hp:(G.getD k []).getD k 0 ≠ 0) (hl:G'.length=n) (hG:∀ i,i < n->G'.getD i []=if k < i then clR (G.getD i []) (G.getD k []) k l n else G.getD i []):WI n b M (k + 1) G' s ((G.getD k []).getD k 0) Y:=by
 have e:=W.ent k (Nat.le_refl _) h k h
 rw [i4] at e
 refine ⟨W.zb,W.dt,W.sg,e,λz=>hp (by rw [z] at e; exact Rat.intCast_eq_zero_iff.mp e),hl,λi hi=>?_,λi ki hi j hj=>?_⟩
 · rw [hG i hi]
   split
   · unfold clR; simp
   · exact W.row i hi
 · rw [hG i hi,if_pos (by omega)]
   exact W.clear h h7 (by omega) hi hj
theorem WI.no {n b k:Nat} {M Y:Nat->Nat->Rat} {G:List (List Int)} {s l:Int} (W:WI n b M k G s l Y) (h:k < n) (hz:∀ i,i < n - k->(G.getD (k + i) []).getD k 0=0):det n M=0:=by
 rw [W.dt,wV W.nz h λp kp hp=>?_,Rat.mul_zero]
 rw [<- W.ent p kp hp k h,<- show k + (p - k)=p by omega,hz (p - k) (by omega)]
 rfl
theorem WI.bd {n b k:Nat} {M Y:Nat->Nat->Rat} {G:List (List Int)} {s l:Int} (W:WI n b M k G s l Y) (h7:n<=7) (hb:n * (b + 3)<=8998) {i:Nat} (ki:k<=i) (hi:i < n):∀ x ∈ G.getD i [],Bd 8999 x:=λx hx=>by
 obtain ⟨j,hj,rfl⟩:=List.getElem_of_mem hx
 have hj':j < n:=by rw [<- W.row i hi]; exact hj
 have e:=W.ent i ki hi j hj'
 have e2:(G.getD i []).getD j 0=(G.getD i [])[j]:=by rw [List.getD_eq_getElem?_getD (l:=G.getD i []),List.getElem?_eq_getElem hj]; rfl
 rw [e2] at e
 refine xg (xo W.zb (by omega) hi hj' h7) e ?_
 have:(k + 1) * (b + 3)<=n * (b + 3):=Nat.mul_le_mul_right _ (by omega)
 omega
theorem WI.lbd {n b k:Nat} {M Y:Nat->Nat->Rat} {G:List (List Int)} {s l:Int} (W:WI n b M k G s l Y) (hk:k<=n) (h7:n<=7) (hb:n * (b + 3)<=8998):Bd 8999 l:=by
 refine xg (uM (b:=b) (n:=k) (M:=Y) (by omega) λi hi j hj=>W.zb i (by omega) j (by omega)) W.last ?_
 have:k * (b + 3)<=n * (b + 3):=Nat.mul_le_mul_right _ hk
 omega
noncomputable def wdZ (Ms:List (List Int)):Int:=(det Ms.length (dtM Ms)).num
theorem uy {Ms:List (List Int)} {z:Int} (h:(z:Rat)=det Ms.length (dtM Ms)):wdZ Ms=z:=by unfold wdZ; rw [<- h]; rfl
noncomputable def bJ (ds:List D) (r:Sl):Prop:=∃ (n b:Nat) (Ms:List (List Int)),ds=[.lst (Ms.map dtR)]/\Ms.length=n/\n<=7/\(∀ r ∈ Ms,r.length=n/\∀ x ∈ r,x.natAbs<=2 ^ b)/\n * (b + 3)<=8998/\r=.d (.int (wdZ Ms))
theorem sT {X:Cx} {o:Option Nat}:ck X (compareOp .Is) (pvD o) .non (.bl o.isNone):=⟨_,tL,λ_ v w H Q _ d1 d2 k=>by
 cases d2
 cases o with
 | none=>cases d1; exact ⟨rfl,by rw [decide_eq_true rfl]; exact k _ H (ah.refl _) .bl⟩
 | some i=>cases d1; exact ⟨rfl,by rw [decide_eq_false (by intro z; cases z)]; exact k _ H (ah.refl _) .bl⟩⟩
theorem Ad (o:Option Nat):wg (.d (pvD o))=true:=by cases o <;> rfl
theorem vH (ns:List Int):wg (.o (ns.map .int))=true:=by
 show (ns.map D.int).all flat=true
 rw [List.all_map,List.all_eq_true]
 intro _ _
 rfl
theorem pS {n m:Nat} (h:m < n):ixN n (m:Int)=some m:=by
 unfold ixN
 rw [if_pos (by omega),if_pos (by omega)]
 simp
section
variable {P:Program} {w:World} {K:PySem.W.Frag} {mg:Str->Option Value} {base:Heap} {k:Nat} {f:Addr} {fd:FuncData} {qual:Str}
set_option maxHeartbeats 1000000 in
theorem fB (F:Fun K "whole_determinant" qual (top 25) f fd) (hb:∀ x ∈ ai,mg x=none) (c_pivot_place:Cal P w K mg base k "pivot_place" du) (c_cleared:Cal P w K mg base k "cleared" ir):aR P w K mg base CX0 (k + 1) f fd ["rows"] (spD K bJ):=by
 refine fnD F cg hb (by rintro _ _ ⟨_,_,_,rfl,_⟩; rfl) ?_
 rintro _ _ ⟨n,b0,Ms,rfl,hl,h7,hr,hb0,rfl⟩ cdv A outer s H E b
 have nd:=cg.nd
 refine aw 1 nd (o9 b (ab (aa 0) af) oF) ?_
 refine aw 2 nd (bo b (ab (aa 0) af) (eR (n:=n) (by rw [List.length_map]; exact hl))) ?_
 refine aw 3 nd ae ?_
 refine aw 4 nd ae ?_
 refine a6 5 (λi τ=>i<=n/\∃ G sg l Y s5 s6 s7,WI n b0 (dtM Ms) i G sg l Y/\τ=[.d (.lst (Ms.map dtR)),.o (G.map dtR),.d (.int (n:Nat)),.d (.int sg),.d (.int l),s5,s6,s7]) b nd (cy b (aa 2) (by omega) (by omega)) cv ⟨Nat.zero_le _,Ms,1,1,_,.un,.un,.un,WI.zero hl hr,rfl⟩ (λi hi τ h=>?_) λτ h=>?_
 · obtain ⟨_,G,sg,l,Y,s5,s6,s7,W,rfl⟩:=h
   have hi:i < n:=by rw [aq] at hi; omega
   have gr:∀ r ∈ G,r.length=n:=λr hr'=>by
     obtain ⟨j,hj,rfl⟩:=List.getElem_of_mem hr'
     have:=W.row j (by rw [<- W.len]; exact hj)
     simpa [hj] using this
   refine aw 6 nd (u3 1 (C':=true) (s:=.d (pvD (pvP G i))) (x_call b c_pivot_place (ab (aa 1) (ab (aa 5) af)) ⟨n,G,i,rfl,W.len,by omega,gr,hi,rfl⟩) (Ad _)) ?_
   cases ep:pvP G i with
   | none=>
     refine cK (aZ (aa 6) nX (sT (o:=none))) (λ_=>?_) λz=>by cases z
     refine aI ae ?_
     unfold pvP at ep
     rw [W.len] at ep
     have:=W.no hi (mU _ ep)
     have:wdZ Ms=0:=uy (by rw [hl]; exact this.symm)
     rw [this]
   | some j=>
     unfold pvP at ep
     obtain ⟨kj,jn,hp⟩:=mY _ _ ep
     rw [W.len] at jn
     obtain ⟨m,rfl⟩:∃ m,j=i + m:=⟨j - i,by omega⟩
     have him:i + m < n:=by omega
     refine iB (aZ (aa 6) nX (sT (o:=some (i + m)))) rfl ?_
     have W2:=W.rot him
     refine iR (M:=λτ=>τ=[.d (.lst (Ms.map dtR)),.o (G.map dtR),.d (.int (n:Nat)),.d (.int (if m % 2=1 then -sg else sg)),.d (.int l),.d (.int (i:Nat)),.d (.int ((i + m:Nat):Int)),s7]) (aZ (ak (ak (aa 6) (aa 5) b5) ae (bK (by decide))) ae gf) (λz=>?_) (λz=>?_) ?_
     · have z:=of_decide_eq_true z
       have:m % 2=1:=by rw [Int.fmod_eq_emod_of_nonneg _ (by decide)] at z; omega
       rw [if_pos this]
       exact aw 3 nd (ng (aa 3)) (aH rfl)
     · have z:=of_decide_eq_false z
       have:¬ m % 2=1:=by rw [Int.fmod_eq_emod_of_nonneg _ (by decide)] at z; omega
       rw [if_neg this]
       exact aH rfl
     rintro _ rfl
     have hiG:i + m < G.length:=by rw [W.len]; exact him
     have hxj:(G.map dtR)[i + m]?=some (dtR (G.getD (i + m) [])):=by simp [hiG]
     refine Ao 1 (k:=i) (j:=i + m) (dtR (G.getD (i + m) [])) (aa 5) (aa 6) hxj (by rw [List.length_map,W.len]; exact hi) (by rw [List.length_map,W.len]; omega) ?_
     have em:((G.map dtR).eraseIdx (i + m)).insertIdx i (dtR (G.getD (i + m) []))=((G.eraseIdx (i + m)).insertIdx i (G.getD (i + m) [])).map dtR:=by rw [<- sj,xm]
     rw [em]
     have hp2:(((G.eraseIdx (i + m)).insertIdx i (G.getD (i + m) [])).getD i []).getD i 0 ≠ 0:=by
       rw [oH [] (by rw [W.len]; exact him)]
       unfold rho
       rw [if_neg (by omega),if_pos rfl]
       exact hp
     generalize (G.eraseIdx (i + m)).insertIdx i (G.getD (i + m) [])=G2 at W2 hp2 ⊢
     generalize (if m % 2=1 then -sg else sg)=sg2 at W2 ⊢
     have l0:l ≠ 0:=λq=>W2.nz (by rw [<- W2.last,q]; rfl)
     refine a6 7 (g:=λt=>.int (((i:Int) + 1) + (t:Nat))) (λt τ=>∃ G3 s7,G3.length=n/\(∀ j,j < n->G3.getD j []=if i < j/\j < i + 1 + t then clR (G2.getD j []) (G2.getD i []) i l n else G2.getD j [])/\τ=[.d (.lst (Ms.map dtR)),.o (G3.map dtR),.d (.int (n:Nat)),.d (.int sg2),.d (.int l),.d (.int (i:Nat)),.d (.int ((i + m:Nat):Int)),s7]) b nd (mf b (ak (aa 5) ae aT) (aa 2) (by omega)) ue ⟨G2,s7,W2.len,λj _=>by rw [if_neg (by omega)],rfl⟩ (λt ht τ h=>?_) λτ h=>?_
     · obtain ⟨G3,s7,g1,g2,rfl⟩:=h
       rw [aq] at ht
       have hit:i + 1 + t < n:=by omega
       have ei:((i:Int) + 1) + (t:Nat)=((i + 1 + t:Nat):Int):=by omega
       rw [ei]
       have r3:G3.getD (i + 1 + t) []=G2.getD (i + 1 + t) []:=by rw [g2 _ hit,if_neg (by omega)]
       have r4:G3.getD i []=G2.getD i []:=by rw [g2 i hi,if_neg (by omega)]
       have a1:atI (G3.map dtR) ((i + 1 + t:Nat):Int)=some (dtR (G2.getD (i + 1 + t) [])):=by rw [<- r3]; exact eP [] (by omega)
       have a2:atI (G3.map dtR) (i:Int)=some (dtR (G2.getD i [])):=by rw [<- r4]; exact eP [] (by omega)
       refine AW 1 (xs:=G3.map dtR) (j:=i + 1 + t) (x:=dtR (clR (G2.getD (i + 1 + t) []) (G2.getD i []) i l n)) (aa 7) (bh (u3 1 (C':=true) (s:=.o ((clR (G2.getD (i + 1 + t) []) (G2.getD i []) i l n).map .int)) (x_call b c_cleared (ab (aJ (aa 1) (aa 7) (aS a1)) (ab (aJ (aa 1) (aa 5) (aS a2)) (ab (aa 5) (ab (aa 4) af)))) ⟨n,_,_,i,l,8999,rfl,W2.row _ hit,W2.row _ hi,by omega,hi,W2.bd h7 hb0 (by omega) hit,W2.bd h7 hb0 (Nat.le_refl _) hi,by decide,l0,W2.lbd (by omega) h7 hb0,rfl⟩) (vH _))) (pS (by rw [List.length_map,g1]; exact hit)) (aH ⟨G3.set (i + 1 + t) (clR (G2.getD (i + 1 + t) []) (G2.getD i []) i l n),.d (.int ((i + 1 + t:Nat):Int)),by rw [List.length_set]; exact g1,λj hj=>?_,by rw [List.map_set]; rfl⟩)
       by_cases z:j=i + 1 + t
       · subst z
         rw [if_pos (by omega)]
         simp [g1,hit]
       · have:(G3.set (i + 1 + t) (clR (G2.getD (i + 1 + t) []) (G2.getD i []) i l n)).getD j []=G3.getD j []:=by
           simp [List.getD_eq_getElem?_getD,List.getElem?_set_ne (Ne.symm z)]
         rw [this,g2 j hj]
         by_cases y:i < j/\j < i + 1 + t
         · rw [if_pos y,if_pos (by omega)]
         · rw [if_neg y,if_neg (by omega)]
     · obtain ⟨G3,s7,g1,g2,rfl⟩:=h
       rw [aq] at g2
       have r4:G3.getD i []=G2.getD i []:=by rw [g2 i hi,if_neg (by omega)]
       have a2:atI (G3.map dtR) (i:Int)=some (dtR (G2.getD i [])):=by rw [<- r4]; exact eP [] (by omega)
       have W3:=W2.next (G':=G3) hi h7 hp2 g1 λj hj=>by
         rw [g2 j hj]
         by_cases y:i < j
         · rw [if_pos (by omega),if_pos y]
         · rw [if_neg (by omega),if_neg y]
       exact aw 4 nd (u3 1 (C':=true) (s:=.d (.int ((G2.getD i []).getD i 0))) (aJ (aJ (aa 1) (aa 5) (aS a2)) (aa 5) (aS (atR (by rw [W2.row i hi]; exact hi)))) rfl) (aH ⟨hi,G3,sg2,_,_,_,_,_,W3,rfl⟩)
 · obtain ⟨_,G,sg,l,Y,s5,s6,s7,W,rfl⟩:=h
   rw [aq,Int.toNat_natCast] at W
   refine aI (ak (aa 3) (aa 4) (aO (mkL (by rcases W.sg with z | z <;> rw [z] <;> decide)))) ?_
   rw [uy (z:=sg * l) (by rw [hl,Rat.intCast_mul,W.last,W.dt])]
end
noncomputable def qM (M:List (List Rat)) (i j:Nat):Rat:=(M.getD i []).getD j 0
structure Bz (m d v:Nat):Prop where
 b1:1 + m * d<=8999
 b2:m * (v + (1 + m * d) + 3)<=8998
 b3:1 + m * (1 + m * d)<=8999
 b4:v + d<=8999
theorem Qs.sq {d v:Nat} {q:Rat} (h:Qs d v q):Sq (v + d) q:=by
 refine ⟨?_,h.den.mono (by omega)⟩
 have h1:=h.den
 unfold Bd at h1 ⊢
 rw [Int.natAbs_natCast] at h1
 rw [Nat.pow_add]
 exact Nat.lt_of_le_of_lt h.val (Nat.mul_lt_mul_of_pos_left h1 (Nat.two_pow_pos v))
theorem qx (ns:List Int):∀ t,t<=ns.length->((prZ (ns.take t):Int):Rat)=gJ (λi=>((ns.getD i 0:Int):Rat)) t
 | 0,_=>rfl
 | t + 1,h=>by
   have et:ns.take (t + 1)=ns.take t++[ns.getD t 0]:=by rw [List.take_succ,List.getElem?_eq_getElem (by omega)]; simp [show t < ns.length by omega]
   rw [et,jN,Rat.intCast_mul,qx ns t (by omega),gJ]
theorem tR {M:List (List Rat)} {ss:List Int} {i j:Nat} (hi:i < M.length) (hj:j < (M.getD i []).length):((whM M ss).getD i []).getD j 0=((M.getD i []).getD j 0).num * (ss.getD i 0 / (((M.getD i []).getD j 0).den:Nat)):=by
 have e:(whM M ss).getD i []=whR (M.getD i []) (ss.getD i 0):=by unfold whM; simp [hi]
 rw [e]
 unfold whR
 rw [List.getD_eq_getElem?_getD,List.getElem?_map,List.getElem?_eq_getElem hj,List.getD_eq_getElem?_getD (l:=M.getD i []),List.getElem?_eq_getElem hj]
 rfl
theorem zS {R d v:Nat} {M:List (List Rat)} (t:Tq R R M) (hq:∀ r ∈ M,∀ x ∈ r,Qs d v x) (z:Bz R d v):(whM M (M.map scL)).length=R/\(∀ r ∈ whM M (M.map scL),r.length=R/\∀ x ∈ r,x.natAbs<=2 ^ (v + (1 + R * d)))/\0 < prZ (M.map scL)/\Bd 8999 (prZ (M.map scL))/\((wdZ (whM M (M.map scL)):Int):Rat)=det R (qM M) * ((prZ (M.map scL):Int):Rat):=by
 have l1:(whM M (M.map scL)).length=R:=by unfold whM; simp [t.len]
 have sc:∀ i,i < R->(M.map scL).getD i 0=scL (M.getD i []):=λi hi=>by simp [show i < M.length by rw [t.len]; exact hi]
 have rowm:∀ r ∈ whM M (M.map scL),r.length=R/\∀ x ∈ r,x.natAbs<=2 ^ (v + (1 + R * d)):=λr hr=>by
   unfold whM at hr
   obtain ⟨i,hi,rfl⟩:=List.mem_map.mp hr
   rw [List.mem_range,t.len] at hi
   have mi:M.getD i [] ∈ M:=a5 (by rw [t.len]; exact hi)
   refine ⟨by unfold whR; rw [List.length_map]; exact t.at_ hi,λx hx=>?_⟩
   unfold whR at hx
   obtain ⟨q,hq',rfl⟩:=List.mem_map.mp hx
   rw [sc i hi]
   have:=dr (d:=d) (r:=M.getD i []) λx hx=>(hq _ mi x hx).den
   rw [t.at_ hi] at this
   exact Nat.le_of_lt (xt (hq _ mi q hq') ((dX _).2 q hq') this)
 have bs:∀ s ∈ M.map scL,0 < s/\Bd (1 + R * d) s:=λs hs=>by
   obtain ⟨r,hr,rfl⟩:=List.mem_map.mp hs
   have:=dr (d:=d) (r:=r) λx hx=>(hq _ hr x hx).den
   rw [t.row r hr] at this
   exact ⟨(dX r).1,this⟩
 have bp:=oy (d:=1 + R * d) (r:=M.map scL) λs hs=>(bs s hs).2
 rw [List.length_map,t.len] at bp
 refine ⟨l1,rowm,wN λs hs=>(bs s hs).1,bp.mono z.b3,?_⟩
 have zb:∀ i < R,∀ j < R,ZB (v + (1 + R * d)) (dtM (whM M (M.map scL)) i j):=λi hi j hj=>by
   have mi:=a5 (xs:=whM M (M.map scL)) (d:=[]) (i:=i) (by rw [l1]; exact hi)
   exact ⟨_,rfl,(rowm _ mi).2 _ (a5 (by rw [(rowm _ mi).1]; exact hj))⟩
 obtain ⟨w,e1,_⟩:=uM (n:=R) (by have:=t.r7; omega) zb
 have e2:wdZ (whM M (M.map scL))=w:=uy (by rw [l1,e1])
 rw [e2,<- e1]
 have pr:=qx (M.map scL) R (by rw [List.length_map,t.len]; exact Nat.le_refl _)
 rw [List.take_of_length_le (by rw [List.length_map,t.len]; exact Nat.le_refl _)] at pr
 rw [pr,Rat.mul_comm,<- hE (n:=R) _ (qM M) R (Nat.le_refl _)]
 refine ax λi hi j hj=>?_
 rw [if_pos hi]
 have hj':j < (M.getD i []).length:=by rw [t.at_ hi]; exact hj
 unfold dtM
 rw [tR (by rw [t.len]; exact hi) hj',sc i hi,yw ((dX _).2 _ (a5 hj')),Rat.mul_comm]
 rfl
noncomputable def bH (ds:List D) (r:Sl):Prop:=∃ (R d v:Nat) (M:List (List Rat)),ds=[tbQ M]/\Tq R R M/\(∀ r ∈ M,∀ x ∈ r,Qs d v x)/\Bz R d v/\r=.d (frD (det R (qM M)))
section
variable {P:Program} {w:World} {K:PySem.W.Frag} {mg:Str->Option Value} {base:Heap} {k:Nat} {f:Addr} {fd:FuncData} {qual:Str}
theorem eX (F:Fun K "square_determinant" qual (top 19) f fd) (hb:∀ x ∈ ai,mg x=none) (c_look_square:Cal P w K mg base k "look_square" dg) (c_fraction:Cal P w K mg base k "fraction" fW) (c_scale_of:Cal P w K mg base k "scale_of" eJ) (c_whole_determinant:Cal P w K mg base k "whole_determinant" bJ) (c_product_of_all:Cal P w K mg base k "product_of_all" b7) (c_whole_rows:Cal P w K mg base k "whole_rows" cF):aR P w K mg base CX0 (k + 1) f fd ["table"] (spD K bH):=by
 refine fnD F bZ hb (by rintro _ _ ⟨_,_,_,_,rfl,_⟩; rfl) ?_
 rintro _ _ ⟨R,d,v,M,rfl,t,hq,z,rfl⟩ cdv A outer s H E b
 have nd:=bZ.nd
 have r7:=t.r7
 obtain ⟨o1,o2,o3,o4,o5⟩:=zS t hq z
 refine ow (x_call b c_look_square (ab (aa 0) af) ⟨R,M,rfl,t,rfl⟩) ?_
 refine jA 1 nd (s:=.d (.lst ((M.map scL).map .int))) (cmp 0 (g:=λi=>rwQ (M.getD i [])) (f:=λi=>.int (scL (M.getD i []))) b (aW (aa 0)) (bT (f:=rwQ) (xs:=M) []) (by rw [List.length_map,t.len]; omega) λi hi s0 H0 fp=>(x_call (b.comp s0 H0 _ fp) c_scale_of (ab (aa 0) af) ⟨_,d,rfl,?_,?_,?_,?_,rfl⟩)) (.inr ?_) ?_
 · rw [t.at_ (by simpa [t.len] using hi)]; omega
 · exact λx hx=>(hq _ (a5 (by simpa using hi)) x hx).den
 · rw [t.at_ (by simpa [t.len] using hi)]; exact z.b1
 · have:=z.b4; omega
 · exact congrArg (λl=>Sl.d (D.lst l)) (((eI (λr:List Rat=>D.int (scL r)) M [] (List.length_map ..)).trans (by rw [List.map_map]; rfl)).symm)
 refine aI (x_call b c_fraction (ab (x_call b c_whole_determinant (ab (bh (x_call b c_whole_rows (ab (aa 0) (ab (aa 1) af)) ⟨M,M.map scL,v + d,rfl,by rw [List.length_map],by rw [t.len]; omega,λr hr=>⟨by rw [t.row r hr]; omega,λx hx=>(hq r hr x hx).sq⟩,z.b4,?_,rfl⟩)) af) ⟨R,v + (1 + R * d),_,rfl,o1,r7,o2,z.b2,rfl⟩) (ab (x_call b c_product_of_all (ab (aa 1) af) ⟨M.map scL,1 + R * d,rfl,?_,?_,?_,rfl⟩) af)) ⟨_,_,det R (qM M),rfl,o3,o4,o5,rfl⟩) rfl
 · intro s hs
   obtain ⟨r,hr,rfl⟩:=List.mem_map.mp hs
   have:=dr (d:=d) (r:=r) λx hx=>(hq _ hr x hx).den
   rw [t.row r hr] at this
   exact this.mono z.b1
 · intro s hs
   obtain ⟨r,hr,rfl⟩:=List.mem_map.mp hs
   have:=dr (d:=d) (r:=r) λx hx=>(hq _ hr x hx).den
   rw [t.row r hr] at this
   exact this
 · rw [List.length_map,t.len]; have:=z.b3; omega
 · have:=z.b1; omega
end
noncomputable def cnS (i j:Nat):Nat:=min i j + 1
noncomputable def cnM {α:Type} (M:List (List α)) (i j:Nat):List (List α):=((M.take (i + 1)).drop (i + 1 - cnS i j)).map λr=>(r.take (j + 1)).drop (j + 1 - cnS i j)
noncomputable def coQ (M:List (List Rat)) (i j:Nat):Rat:=sld (qM M) (i + 1 - cnS i j) (j + 1 - cnS i j) (cnS i j)
theorem xJ {R C i j:Nat} {M:List (List Rat)} (t:Tq R C M) (hi:i < R) (hj:j < C):Tq (cnS i j) (cnS i j) (cnM M i j):=by
 have h1:=t.r7
 have h2:=t.c7
 have hs:cnS i j<=i + 1/\cnS i j<=j + 1/\1<=cnS i j:=by unfold cnS; omega
 refine ⟨hs.2.2,by omega,hs.2.2,by omega,?_,λr hr=>?_⟩
 · unfold cnM
   rw [List.length_map,List.length_drop,List.length_take,t.len]
   omega
 · unfold cnM at hr
   obtain ⟨q,hq,rfl⟩:=List.mem_map.mp hr
   have:=t.row q (List.mem_of_mem_take (List.mem_of_mem_drop hq))
   rw [List.length_drop,List.length_take,this]
   omega
theorem zL {d v i j:Nat} {M:List (List Rat)} (hq:∀ r ∈ M,∀ x ∈ r,Qs d v x):∀ r ∈ cnM M i j,∀ x ∈ r,Qs d v x:=λr hr x hx=>by
 unfold cnM at hr
 obtain ⟨q,hq',rfl⟩:=List.mem_map.mp hr
 exact hq q (List.mem_of_mem_take (List.mem_of_mem_drop hq')) x (List.mem_of_mem_take (List.mem_of_mem_drop hx))
theorem y3 {R C i j:Nat} {M:List (List Rat)} (t:Tq R C M) (hi:i < R) (hj:j < C):det (cnS i j) (qM (cnM M i j))=coQ M i j:=by
 have hs:cnS i j<=i + 1/\cnS i j<=j + 1/\1<=cnS i j:=by unfold cnS; omega
 have hl:=t.len
 unfold coQ sld mi
 refine ax λr hr c hc=>?_
 have er:i + 1 - cnS i j + r < M.length:=by omega
 have e1:(cnM M i j).getD r []=((M.getD (i + 1 - cnS i j + r) []).take (j + 1)).drop (j + 1 - cnS i j):=by
   unfold cnM
   simp only [List.getD_eq_getElem?_getD,List.getElem?_map,List.getElem?_drop,List.getElem?_take]
   rw [if_pos (by omega),List.getElem?_eq_getElem er]
   rfl
 unfold qM
 rw [e1]
 simp only [List.getD_eq_getElem?_getD,List.getElem?_drop,List.getElem?_take]
 rw [if_pos (by omega)]
noncomputable def c8 (ds:List D) (r:Sl):Prop:=∃ (R C i j:Nat) (M:List (List Rat)),ds=[tbQ M,.int (i:Nat),.int (j:Nat)]/\Tq R C M/\i < R/\j < C/\r=.o ((cnM M i j).map rwQ)
theorem sH (i j:Nat):(if ((j:Nat):Int) < (i:Nat) then ((j:Nat):Int) else (i:Nat)) + 1=((cnS i j:Nat):Int):=by
 unfold cnS
 split <;> omega
theorem pD {α:Type} {f:α->D} (xs:List α) {i s:Nat} (h:s<=i + 1):Hy.cutD (xs.map f) (some ((i:Int) + 1 - (s:Nat))) (some ((i:Int) + 1))=((xs.take (i + 1)).drop (i + 1 - s)).map f:=by
 rw [show (i:Int) + 1 - (s:Nat)=((i + 1 - s:Nat):Int) by omega,show (i:Int) + 1=((i + 1:Nat):Int) by omega,Hy.qe,List.map_drop,List.map_take]
noncomputable def b6 (ds:List D) (r:Sl):Prop:=∃ (R C d v i:Nat) (M:List (List Rat)),ds=[tbQ M,.int (i:Nat)]/\Tq R C M/\(∀ r ∈ M,∀ x ∈ r,Qs d v x)/\(∀ n,n<=7->Bz n d v)/\i < R/\r=.o (((List.range C).map (coQ M i)).map frD)
noncomputable def ij (ds:List D) (r:Sl):Prop:=∃ (R C d v:Nat) (M:List (List Rat)),ds=[tbQ M]/\Tq R C M/\(∀ r ∈ M,∀ x ∈ r,Qs d v x)/\(∀ n,n<=7->Bz n d v)/\r=.o (((List.range R).map λi=>(List.range C).map (coQ M i)).map rwQ)
section
variable {P:Program} {w:World} {K:PySem.W.Frag} {mg:Str->Option Value} {base:Heap} {k:Nat} {f:Addr} {fd:FuncData} {qual:Str}
theorem js (F:Fun K "corner_part" qual (top 36) f fd) (hb:∀ x ∈ ai,mg x=none):aR P w K mg base CX0 (k + 1) f fd ["table","i","j"] (spD K c8):=by
 refine fnD F fm hb (by rintro _ _ ⟨_,_,_,_,_,rfl,_⟩; rfl) ?_
 rintro _ _ ⟨R,C,i,j,M,rfl,t,hi,hj,rfl⟩ cdv A outer s H E b
 have nd:=fm.nd
 have hs:cnS i j<=i + 1/\cnS i j<=j + 1/\1<=cnS i j:=by unfold cnS; omega
 refine aw 3 nd (ak (bo b (ab (aa 1) (ab (aa 2) af)) (pO b.calm)) ae aT) ?_
 rw [sH]
 have t2:=xJ t hi hj
 have ln:((M.take (i + 1)).drop (i + 1 - cnS i j)).length=cnS i j:=by
   have:=t2.len
   unfold cnM at this
   rwa [List.length_map] at this
 refine aI (eg (cmp 0 (g:=λl=>rwQ (((M.take (i + 1)).drop (i + 1 - cnS i j)).getD l [])) (f:=λl=>rwQ ((((((M.take (i + 1)).drop (i + 1 - cnS i j)).getD l []).take (j + 1)).drop (j + 1 - cnS i j)))) b (aW (bh (x:=.lst (((M.take (i + 1)).drop (i + 1 - cnS i j)).map rwQ)) (rm (aa 0) (bN (ak (ak (aa 1) ae aT) (aa 3) b5)) (bN (ak (aa 1) ae aT))) (congrArg (λl=>some (D.lst l)) (pD M hs.1)))) (bT (f:=rwQ) []) (by rw [List.length_map,ln]; have:=t2.r7; omega) λl hl s0 H0 fp=>?_)) ?_
 · exact bh (rm (aa 0) (bN (ak (ak (aa 1) ae aT) (aa 2) b5)) (bN (ak (aa 1) ae aT))) (congrArg (λl=>some (D.lst l)) (pD _ hs.2.1))
 · refine congrArg Sl.o ((eI (λr:List Rat=>rwQ ((r.take (j + 1)).drop (j + 1 - cnS i j))) ((M.take (i + 1)).drop (i + 1 - cnS i j)) [] (List.length_map ..)).trans ?_)
   unfold cnM
   rw [List.map_map]
   rfl
theorem gz (F:Fun K "corners_in_row" qual (top 35) f fd) (hb:∀ x ∈ ai,mg x=none) (c_square_determinant:Cal P w K mg base k "square_determinant" bH) (c_corner_part:Cal P w K mg base k "corner_part" c8):aR P w K mg base CX0 (k + 1) f fd ["table","i"] (spD K b6):=by
 refine fnD F gP hb (by rintro _ _ ⟨_,_,_,_,_,_,rfl,_⟩; rfl) ?_
 rintro _ _ ⟨R,C,d,v,i,M,rfl,t,hq,bz,hi,rfl⟩ cdv A outer s H E b
 have r1:=t.r1
 have c7:=t.c7
 have e0:atI (M.map rwQ) 0=some (rwQ (M.getD 0 [])):=eP [] (i:=0) (by rw [t.len]; omega)
 refine aI (eg (cmp 0 (f:=λj=>frD (coQ M i j)) b (cy b (bo b (ab (aJ (aa 0) ae (aS e0)) af) (eR (n:=C) (by rw [List.length_map]; exact t.at_ (by omega)))) (by omega) (by omega)) cv (by rw [aq]; omega) λj hj s0 H0 fp=>?_)) ?_
 · have hj:j < C:=by rw [aq] at hj; omega
   have t2:=xJ t hi hj
   refine x_call (b.comp s0 H0 _ fp) c_square_determinant (ab (bh (x:=tbQ (cnM M i j)) (x_call (b.comp s0 H0 _ fp) c_corner_part (ab (aa 2) (ab (aa 1) (ab (aa 0) af))) ⟨R,C,i,j,M,rfl,t,hi,hj,rfl⟩)) af) ⟨cnS i j,d,v,cnM M i j,rfl,t2,zL hq,bz _ t2.r7,by rw [y3 t hi hj]⟩
 · rw [aq,Int.toNat_natCast,List.map_map]
   rfl
theorem oJ (F:Fun K "corners" qual (top 34) f fd) (hb:∀ x ∈ ai,mg x=none) (c_look_table:Cal P w K mg base k "look_table" cC) (c_corners_in_row:Cal P w K mg base k "corners_in_row" b6):aR P w K mg base CX0 (k + 1) f fd ["table"] (spD K ij):=by
 refine fnD F oP hb (by rintro _ _ ⟨_,_,_,_,_,rfl,_⟩; rfl) ?_
 rintro _ _ ⟨R,C,d,v,M,rfl,t,hq,bz,rfl⟩ cdv A outer s H E b
 have r7:=t.r7
 refine ow (x_call b c_look_table (ab (aa 0) af) ⟨R,C,M,rfl,t,rfl⟩) ?_
 refine aI (eg (cmp 0 (f:=λi=>rwQ ((List.range C).map (coQ M i))) b (cy b (bo b (ab (aa 0) af) (eR (n:=R) (by rw [List.length_map]; exact t.len))) (by omega) (by omega)) cv (by rw [aq]; omega) λi hi s0 H0 fp=>?_)) ?_
 · have hi:i < R:=by rw [aq] at hi; omega
   exact bh (x_call (b.comp s0 H0 _ fp) c_corners_in_row (ab (aa 1) (ab (aa 0) af)) ⟨R,C,d,v,i,M,rfl,t,hq,bz,hi,rfl⟩)
 · rw [aq,Int.toNat_natCast,List.map_map]
   rfl
end
structure Rz (R C b:Nat) (Ms:List (List Int)):Prop where
 len:Ms.length=R
 row:∀ r ∈ Ms,r.length=C/\∀ x ∈ r,x.natAbs<=2 ^ b
 r7:R<=7
 c7:C<=7
 b1:7 * (b + 3)<=3800
theorem Rz.dt {R C b i j:Nat} {Ms:List (List Int)} (h:Rz R C b Ms) (hi:i < R) (hj:j < C):Dt (cnS i j) b (cnM Ms i j):=by
 have hs:cnS i j<=i + 1/\cnS i j<=j + 1/\1<=cnS i j:=by unfold cnS; omega
 have h7:=h.r7
 have h1:=h.b1
 have n7:cnS i j<=7:=by omega
 refine ⟨n7,?_,λr hr=>?_,Nat.le_trans (Nat.mul_le_mul_right _ n7) h1,by omega⟩
 · unfold cnM
   rw [List.length_map,List.length_drop,List.length_take,h.len]
   omega
 · unfold cnM at hr
   obtain ⟨q,hq,rfl⟩:=List.mem_map.mp hr
   obtain ⟨q1,q2⟩:=h.row q (List.mem_of_mem_take (List.mem_of_mem_drop hq))
   refine ⟨?_,λx hx=>q2 x (List.mem_of_mem_take (List.mem_of_mem_drop hx))⟩
   rw [List.length_drop,List.length_take,q1]
   omega
theorem Rz.det {R C b i j:Nat} {Ms:List (List Int)} (h:Rz R C b Ms) (hi:i < R) (hj:j < C):((dtZ (cnM Ms i j):Int):Rat)=sld (dtM Ms) (i + 1 - cnS i j) (j + 1 - cnS i j) (cnS i j):=by
 have hs:cnS i j<=i + 1/\cnS i j<=j + 1/\1<=cnS i j:=by unfold cnS; omega
 have hl:=h.len
 rw [(h.dt hi hj).ok.2.2]
 unfold sld mi
 refine ax λr hr c hc=>?_
 have er:i + 1 - cnS i j + r < Ms.length:=by omega
 have e1:(cnM Ms i j).getD r []=((Ms.getD (i + 1 - cnS i j + r) []).take (j + 1)).drop (j + 1 - cnS i j):=by
   unfold cnM
   simp only [List.getD_eq_getElem?_getD,List.getElem?_map,List.getElem?_drop,List.getElem?_take]
   rw [if_pos (by omega),List.getElem?_eq_getElem er]
   rfl
 unfold dtM
 rw [e1]
 simp only [List.getD_eq_getElem?_getD,List.getElem?_drop,List.getElem?_take]
 rw [if_pos (by omega)]
noncomputable def fX (ds:List D) (r:Sl):Prop:=∃ (R C b i j:Nat) (Ms:List (List Int)),ds=[.lst (Ms.map dtR),.int (i:Nat),.int (j:Nat)]/\Rz R C b Ms/\i < R/\j < C/\r=.d (.int (dtZ (cnM Ms i j)))
theorem qz {α:Type} {f:α->D} (xs:List α) {i s:Nat} (h:s<=i + 1):Hy.cutD (xs.map f) (some ((i:Int) - (s:Nat) + 1)) (some ((i:Int) + 1))=((xs.take (i + 1)).drop (i + 1 - s)).map f:=by
 rw [<- pD xs h,show (i:Int) - (s:Nat) + 1=(i:Int) + 1 - (s:Nat) by omega]
section
variable {P:Program} {w:World} {K:PySem.W.Frag} {mg:Str->Option Value} {base:Heap} {k:Nat} {f:Addr} {fd:FuncData} {qual:Str}
theorem mF (F:Fun K "_law_corner" qual (top 54) f fd) (hb:∀ x ∈ ai,mg x=none) (c_l_det:Cal P w K mg base k "_law_det" lP):aR P w K mg base CX0 (k + 1) f fd ["_law_rows_here","_law_i","_law_j"] (spD K fX):=by
 refine fnD F iK hb (by rintro _ _ ⟨_,_,_,_,_,_,rfl,_⟩; rfl) ?_
 rintro _ _ ⟨R,C,b0,i,j,Ms,rfl,h,hi,hj,rfl⟩ cdv A outer s H E b
 have nd:=iK.nd
 have hs:cnS i j<=i + 1/\cnS i j<=j + 1/\1<=cnS i j:=by unfold cnS; omega
 refine aw 3 nd (ak (bo b (ab (aa 1) (ab (aa 2) af)) (pO b.calm)) ae aT) ?_
 rw [sH]
 have dt:=h.dt hi hj
 have ln:((Ms.take (i + 1)).drop (i + 1 - cnS i j)).length=cnS i j:=by
   have:=dt.len
   unfold cnM at this
   rwa [List.length_map] at this
 refine aI (x_call b c_l_det (ab (bh (x:=.lst ((cnM Ms i j).map dtR)) (eg (cmp 0 (g:=λl=>dtR (((Ms.take (i + 1)).drop (i + 1 - cnS i j)).getD l [])) (f:=λl=>dtR ((((((Ms.take (i + 1)).drop (i + 1 - cnS i j)).getD l []).take (j + 1)).drop (j + 1 - cnS i j)))) b (aW (bh (x:=.lst (((Ms.take (i + 1)).drop (i + 1 - cnS i j)).map dtR)) (rm (aa 0) (bN (ak (ak (aa 1) (aa 3) b5) ae aT)) (bN (ak (aa 1) ae aT))) (congrArg (λl=>some (D.lst l)) (qz Ms hs.1)))) (bT (f:=dtR) []) (by rw [List.length_map,ln]; have:=dt.n7; omega) λl hl s0 H0 fp=>?_)) ?_) af) ⟨cnS i j,b0,cnM Ms i j,rfl,dt,rfl⟩) rfl
 · exact bh (rm (aa 0) (bN (ak (ak (aa 1) (aa 2) b5) ae aT)) (bN (ak (aa 1) ae aT))) (congrArg (λl=>some (D.lst l)) (qz _ hs.2.1))
 · refine congrArg (λl=>some (D.lst l)) ((eI (λr:List Int=>dtR ((r.take (j + 1)).drop (j + 1 - cnS i j))) ((Ms.take (i + 1)).drop (i + 1 - cnS i j)) [] (List.length_map ..)).trans ?_)
   unfold cnM
   rw [List.map_map]
   rfl
end
noncomputable def cU (ds:List D) (r:Sl):Prop:=∃ a b:Int,ds=[.int a,.int b]/\r=.d (.int (Int.gcd a b:Int))
noncomputable def dB (ds:List D) (r:Sl):Prop:=∃ (t b:Int) (q:Rat),ds=[.int t,.int b]/\0 < b/\Bd 8999 b/\(t:Rat)=q * (b:Rat)/\r=.d (frD q)
noncomputable def gE (ds:List D) (r:Sl):Prop:=∃ (ns:List Int) (k:Nat),ds=[.lst (ns.map .int),.int k]/\r=.d (.int (ns.getD k 0))
theorem Qs.of {t b:Int} {q:Rat} {d v:Nat} (hb:0 < b) (h:(t:Rat)=q * (b:Rat)) (hd:Bd d b) (hv:t.natAbs<=2 ^ v):Qs d v q:=by
 obtain ⟨e1,e2⟩:=ft hb h
 refine ⟨by rw [e2]; exact hd.ediv _,?_⟩
 have g:=Int.gcd_dvd_left (a:=t) (b:=b)
 have h1:q.num.natAbs<=t.natAbs:=by rw [e1]; exact Int.natAbs_ediv_le_natAbs ..
 exact Nat.le_trans h1 (Nat.le_trans hv (Nat.le_mul_of_pos_right _ q.den_pos))
noncomputable def nmT (kd:Nat) (p:Int):Int:=if kd=1 then p.fmod 5 - 2 else if kd=3 then (p.fdiv 2).fmod (10 ^ 40) * (1 - 2 * p.fmod 2) else if kd=2 then p.fmod 10 else p.fmod 19 - 9
noncomputable def nmB (kd:Nat) (p:Int):Int:=if kd=1 then 1 else if kd=3 then 1 + (p.fdiv (2 * 10 ^ 40)).fmod (10 ^ 40 - 1) else if kd=2 then 1 + (p.fdiv 10).fmod 6 else 1 + (p.fdiv 19).fmod 6
noncomputable def nmQ (kd:Nat) (p:Int):Rat:=if kd=1 then ((p.fmod 5 - 2:Int):Rat) else ((nmT kd p:Int):Rat) / ((nmB kd p:Int):Rat)
noncomputable def kD (kd:Nat):Nat:=if kd=3 then 133 else 3
noncomputable def kV (kd:Nat):Nat:=if kd=3 then 133 else 4
theorem fmn {a b:Int} (h:0 < b):0<=a.fmod b/\a.fmod b < b:=⟨Int.fmod_nonneg_of_pos a h,Int.fmod_lt_of_pos a h⟩
theorem u6 {kd:Nat} (p:Int):0 < nmB kd p/\Bd (kD kd) (nmB kd p):=by
 unfold nmB kD
 by_cases h1:kd=1
 · rw [if_pos h1,if_neg (by omega)]; exact ⟨by decide,by unfold Bd; decide⟩
 · rw [if_neg h1]
   by_cases h3:kd=3
   · rw [if_pos h3,if_pos h3]
     have:=fmn (a:=p.fdiv (2 * 10 ^ 40)) (b:=10 ^ 40 - 1) (by decide)
     refine ⟨by omega,?_⟩
     unfold Bd
     have:(10:Int) ^ 40 < 2 ^ 133:=by decide
     have e:((2 ^ 133:Nat):Int)=2 ^ 133:=by decide
     omega
   · rw [if_neg h3,if_neg h3]
     by_cases h2:kd=2
     · rw [if_pos h2]
       have:=fmn (a:=p.fdiv 10) (b:=6) (by decide)
       exact ⟨by omega,by unfold Bd; omega⟩
     · rw [if_neg h2]
       have:=fmn (a:=p.fdiv 19) (b:=6) (by decide)
       exact ⟨by omega,by unfold Bd; omega⟩
theorem yM {kd:Nat} (p:Int):(nmT kd p).natAbs<=2 ^ kV kd:=by
 unfold nmT kV
 by_cases h1:kd=1
 · rw [if_pos h1,if_neg (by omega)]
   have:=fmn (a:=p) (b:=5) (by decide)
   omega
 · rw [if_neg h1]
   by_cases h3:kd=3
   · rw [if_pos h3,if_pos h3]
     have h4:=fmn (a:=p.fdiv 2) (b:=10 ^ 40) (by decide)
     have h5:=fmn (a:=p) (b:=2) (by decide)
     have:(10:Int) ^ 40 < 2 ^ 133:=by decide
     have e:((2 ^ 133:Nat):Int)=2 ^ 133:=by decide
     rw [Int.natAbs_mul,show (1 - 2 * p.fmod 2).natAbs=1 by omega,Nat.mul_one]
     omega
   · rw [if_neg h3,if_neg h3]
     by_cases h2:kd=2
     · rw [if_pos h2]
       have:=fmn (a:=p) (b:=10) (by decide)
       omega
     · rw [if_neg h2]
       have:=fmn (a:=p) (b:=19) (by decide)
       omega
theorem tJ {kd:Nat} (p:Int):((nmT kd p:Int):Rat)=nmQ kd p * ((nmB kd p:Int):Rat):=by
 unfold nmQ
 by_cases h1:kd=1
 · rw [if_pos h1]
   unfold nmT nmB
   rw [if_pos h1,if_pos h1]
   exact (Rat.mul_one _).symm
 · rw [if_neg h1]
   exact (Rat.div_mul_cancel (ju (u6 p).1)).symm
noncomputable def fV (ds:List D) (r:Sl):Prop:=∃ (kd:Nat) (p:Int),ds=[.int (kd:Nat),.int p]/\kd < 4/\r=.d (frD (nmQ kd p))
theorem m40:aB ((2:Int) * 10 ^ 40) (10 ^ 40):=(show Bd 140 ((2:Int) * 10 ^ 40) by unfold Bd; decide).aB (show Bd 140 ((10:Int) ^ 40) by unfold Bd; decide) (by decide) (by decide)
theorem Bj:aE ((2:Int) * 10 ^ 40):=(show Bd 140 ((2:Int) * 10 ^ 40) by unfold Bd; decide).aE (by decide) (by decide)
theorem vM {a b:Int} (h:0 < a) (g:0 < b):0 < a * b:=Int.mul_pos h g
noncomputable def jV (ds:List D) (r:Sl):Prop:=∃ (m n:Nat) (p q:Rat),ds=[frD p,frD q]/\Sq m p/\Sq n q/\m + n<=8999/\r=.d (frD (p + q))
theorem ux (p q:Rat):((p.num * ((q.den:Nat):Int) + q.num * ((p.den:Nat):Int):Int):Rat)=(p + q) * (((p.den:Nat):Int) * ((q.den:Nat):Int):Int):=by
 rw [Rat.intCast_add,Rat.intCast_mul,Rat.intCast_mul,Rat.intCast_mul,<- cZ p,<- cZ q]
 grind
noncomputable def jR (ds:List D) (r:Sl):Prop:=∃ p q t:Rat,ds=[frD p,frD q,frD t]/\t ≠ 0/\Sq 2900 p/\Sq 2900 q/\Sq 2900 t/\r=.d (frD (p * q / t))
theorem qS {p q t:Rat} (h:t ≠ 0):((p.num * q.num * (t.den:Nat):Int):Rat)=p * q / t * (((p.den:Nat) * (q.den:Nat) * t.num:Int):Rat):=by
 rw [Rat.intCast_mul,Rat.intCast_mul,Rat.intCast_mul,Rat.intCast_mul,<- cZ p,<- cZ q,<- cZ t]
 have:t * t⁻¹=1:=Rat.mul_inv_cancel t h
 rw [Rat.div_def]
 generalize t⁻¹=i at this ⊢
 grind
section
variable {P:Program} {w:World} {K:PySem.W.Frag} {mg:Str->Option Value} {base:Heap} {k:Nat} {f:Addr} {fd:FuncData} {qual:Str}
theorem lF (F:Fun K "_law_divisor" qual (top 40) f fd) (hb:∀ x ∈ ai,mg x=none):aR P w K mg base CX0 (k + 1) f fd ["_law_one","_law_other"] (spD K cU):=by
 refine fnD F gw hb (by rintro _ _ ⟨_,_,rfl,_⟩; rfl) ?_
 rintro _ _ ⟨x,y,rfl,rfl⟩ cdv A outer s H E b
 have nd:=gw.nd
 refine aw 0 nd (bo b (ab (aa 0) af) ny) (aw 1 nd (bo b (ab (aa 1) af) ny) ?_)
 rw [gH,gH]
 refine qy (λn t τ=>∃ (g:Nat) (s2:Sl),Nat.gcd g n=Int.gcd x y/\t=(decide ((0:Int) < n))/\τ=[.d (.int g),.d (.int n),s2]) b ⟨_,_,_,_,rfl,rfl,rfl⟩ (λn t τ h=>?_) (λn τ h=>?_) λn τ h=>?_
 · obtain ⟨g,s2,_,rfl,rfl⟩:=h
   exact aZ (aa 1) ae mQ
 · obtain ⟨g,s2,hg,ht,rfl⟩:=h
   have hl:n ≠ 0:=λz=>by simp [z] at ht
   have e:(g:Int).fmod n=((g % n:Nat):Int):=by rw [Int.fmod_eq_emod_of_nonneg _ (by omega)]; rfl
   refine aw 2 nd (ak (aa 0) (aa 1) (bK (by omega))) ?_
   rw [e]
   refine aw 0 nd (aa 1) (aw 1 nd (aa 2) (aH ⟨g % n,_,Nat.mod_lt g (Nat.pos_of_ne_zero hl),n,_,?_,rfl,rfl⟩))
   rw [<- hg,Nat.gcd_comm n,<- Nat.gcd_rec,Nat.gcd_comm]
 · obtain ⟨g,s2,hg,ht,rfl⟩:=h
   have hl:n=0:=by have:=of_decide_eq_false ht.symm; omega
   refine aI (aa 0) ?_
   rw [<- hg,hl,Nat.gcd_zero_right]
theorem rL (F:Fun K "_law_made" qual (top 41) f fd) (hb:∀ x ∈ ai,mg x=none) (c_l_divisor:Cal P w K mg base k "_law_divisor" cU):aR P w K mg base CX0 (k + 1) f fd ["_law_top","_law_bottom"] (spD K dB):=by
 refine fnD F km hb (by rintro _ _ ⟨_,_,_,rfl,_⟩; rfl) ?_
 rintro _ _ ⟨t,c,q,rfl,h0,h1,hq,rfl⟩ cdv A outer s H E b
 have nd:=km.nd
 have dv:aE (Int.gcd t c:Int):=(h1.gcd (by omega)).aE (i8 (by omega)) (by decide)
 obtain ⟨e1,e2⟩:=ft h0 hq
 refine aw 2 nd (x_call b c_l_divisor (ab (aa 0) (ab (aa 1) af)) ⟨_,_,rfl,rfl⟩) (aI (cf (ab (ak (aa 0) (aa 2) (bF dv)) (ab (ak (aa 1) (aa 2) (bF dv)) af))) ?_)
 rw [cH,cH,<- e1,<- e2]
 rfl
theorem rR (F:Fun K "_law_cell" qual (top 38) f fd) (hb:∀ x ∈ ai,mg x=none):aR P w K mg base CX0 (k + 1) f fd ["_law_script","_law_k"] (spD K gE):=by
 refine fnD F rD hb (by rintro _ _ ⟨_,_,rfl,_⟩; rfl) ?_
 rintro _ _ ⟨ns,n,rfl,rfl⟩ cdv A outer s H E b
 refine cK (aZ (aa 1) (bo b (ab (aa 0) af) iA) rG) (λh=>?_) λh=>?_
 · have h:=of_decide_eq_true h
   rw [List.length_map] at h
   exact aI (aJ (aa 0) (aa 1) (aS (oD (by omega) (by omega)))) rfl
 · have h:=of_decide_eq_false h
   rw [List.length_map] at h
   refine aI ae ?_
   show Sl.d (.int 0)=_
   rw [getD_none (by omega)]
theorem nV (F:Fun K "_law_number" qual (top 42) f fd) (hb:∀ x ∈ ai,mg x=none) (c_l_made:Cal P w K mg base k "_law_made" dB):aR P w K mg base CX0 (k + 1) f fd ["_law_kind","_law_part_here"] (spD K fV):=by
 refine fnD F iI hb (by rintro _ _ ⟨_,_,rfl,_⟩; rfl) ?_
 rintro _ _ ⟨kd,p,rfl,h4,rfl⟩ cdv A outer s H E b
 have nd:=iI.nd
 obtain ⟨b0,b1⟩:=u6 (kd:=kd) p
 have b2:Bd 8999 (nmB kd p):=b1.mono (by unfold kD; split <;> decide)
 have hm:=tJ (kd:=kd) p
 refine cK (aZ (aa 0) ae gf) (λh=>?_) λh=>?_
 · have h1:kd=1:=by have:=of_decide_eq_true h; omega
   refine aI (cf (ab (ak (ak (aa 1) ae (bK (by decide))) ae b5) (ab ae af))) ?_
   unfold nmQ
   rw [if_pos h1]
   rfl
 have n1:¬ kd=1:=by have:=of_decide_eq_false h; omega
 refine cK (aZ (aa 0) ae gf) (λh=>?_) λh=>?_
 · have h3:kd=3:=by have:=of_decide_eq_true h; omega
   have eT:nmT kd p=(p.fdiv 2).fmod (10 ^ 40) * (1 - 2 * p.fmod 2):=by unfold nmT; rw [if_neg n1,if_pos h3]
   have eB:nmB kd p=1 + (p.fdiv (2 * 10 ^ 40)).fmod (10 ^ 40 - 1):=by unfold nmB; rw [if_neg n1,if_pos h3]
   rw [eT] at hm
   rw [eB] at hm b0 b2
   refine aw 2 nd (ak (ak (ak (aa 1) ae (bF (mkD (by decide) (by decide)))) (ak ae ae (kz ⟨by decide,by decide,by decide⟩)) (bK (by decide))) (ak ae (ak ae (ak (aa 1) ae (bK (by decide))) (aO (mkL (by decide)))) b5) (aO (mkR ?_))) ?_
   · have:=fmn (a:=p) (b:=2) (by decide); omega
   exact aI (x_call b c_l_made (ab (aa 2) (ab (ak ae (ak (ak (aa 1) (ak ae (ak ae ae (kz ⟨by decide,by decide,by decide⟩)) (aO (mkL (by decide)))) (bF Bj)) (ak (ak ae ae (kz ⟨by decide,by decide,by decide⟩)) ae b5) (bK (by decide))) aT) af)) ⟨_,_,nmQ kd p,rfl,b0,b2,hm,rfl⟩) rfl
 have n3:¬ kd=3:=by have:=of_decide_eq_false h; omega
 refine cK (aZ (aa 0) ae gf) (λh=>?_) λh=>?_
 · have h2:kd=2:=by have:=of_decide_eq_true h; omega
   have eT:nmT kd p=p.fmod 10:=by unfold nmT; rw [if_neg n1,if_neg n3,if_pos h2]
   have eB:nmB kd p=1 + (p.fdiv 10).fmod 6:=by unfold nmB; rw [if_neg n1,if_neg n3,if_pos h2]
   rw [eT] at hm
   rw [eB] at hm b0 b2
   exact aI (x_call b c_l_made (ab (ak (aa 1) ae (bK (by decide))) (ab (ak ae (ak (ak (aa 1) ae (bF (mkD (by decide) (by decide)))) ae (bK (by decide))) aT) af)) ⟨_,_,nmQ kd p,rfl,b0,b2,hm,rfl⟩) rfl
 · have n2:¬ kd=2:=by have:=of_decide_eq_false h; omega
   have eT:nmT kd p=p.fmod 19 - 9:=by unfold nmT; rw [if_neg n1,if_neg n3,if_neg n2]
   have eB:nmB kd p=1 + (p.fdiv 19).fmod 6:=by unfold nmB; rw [if_neg n1,if_neg n3,if_neg n2]
   rw [eT] at hm
   rw [eB] at hm b0 b2
   exact aI (x_call b c_l_made (ab (ak (ak (aa 1) ae (bK (by decide))) ae b5) (ab (ak ae (ak (ak (aa 1) ae (bF (mkD (by decide) (by decide)))) ae (bK (by decide))) aT) af)) ⟨_,_,nmQ kd p,rfl,b0,b2,hm,rfl⟩) rfl
theorem qZ (F:Fun K "_law_plus" qual (top 49) f fd) (hb:∀ x ∈ ai,mg x=none) (c_l_made:Cal P w K mg base k "_law_made" dB):aR P w K mg base CX0 (k + 1) f fd ["_law_one","_law_other"] (spD K jV):=by
 refine fnD F se hb (by rintro _ _ ⟨_,_,_,_,rfl,_⟩; rfl) ?_
 rintro _ _ ⟨m,n,p,q,rfl,h1,h2,hl,rfl⟩ cdv A outer s H E b
 exact aI (x_call b c_l_made (ab (ak (ak (aJ (aa 0) ae (aU (aP (i:=0) rfl))) (aJ (aa 1) ae (aU (aP (i:=1) rfl))) (aO (h1.num.aB h2.den (by omega) (by omega)))) (ak (aJ (aa 1) ae (aU (aP (i:=0) rfl))) (aJ (aa 0) ae (aU (aP (i:=1) rfl))) (aO (h2.num.aB h1.den (by omega) (by omega)))) aT) (ab (ak (aJ (aa 0) ae (aU (aP (i:=1) rfl))) (aJ (aa 1) ae (aU (aP (i:=1) rfl))) (aO (h1.den.aB h2.den (by omega) (by omega)))) af)) ⟨_,_,_,rfl,vM (den_pos p) (den_pos q),(h1.den.mul h2.den).mono hl,ux p q,rfl⟩) rfl
theorem rP (F:Fun K "_law_part" qual (top 50) f fd) (hb:∀ x ∈ ai,mg x=none) (c_l_made:Cal P w K mg base k "_law_made" dB):aR P w K mg base CX0 (k + 1) f fd ["_law_one","_law_other","_law_third"] (spD K jR):=by
 refine fnD F kC hb (by rintro _ _ ⟨_,_,_,rfl,_⟩; rfl) ?_
 rintro _ _ ⟨p,q,t,rfl,h0,sp,sq,st,rfl⟩ cdv A outer s H E b
 have nd:=kC.nd
 have e:=qS (p:=p) (q:=q) h0
 have m1:=sp.1.aB sq.1 (by decide) (by decide)
 have m2:=(sp.1.mul sq.1).aB st.2 (by decide) (by decide)
 have m3:=sp.2.aB sq.2 (by decide) (by decide)
 have m4:=(sp.2.mul sq.2).aB st.1 (by decide) (by decide)
 have bb:=((sp.2.mul sq.2).mul st.1).mono (show 2900 + 2900 + 2900<=8999 by decide)
 have b0:((p.den:Nat):Int) * (q.den:Nat) * t.num ≠ 0:=by
   have h1:=p.den_nz
   have h2:=q.den_nz
   have h3:t.num ≠ 0:=λz=>h0 (Rat.num_eq_zero.mp z)
   exact Int.mul_ne_zero (Int.mul_ne_zero (by omega) (by omega)) h3
 refine aw 3 nd (ak (ak (aJ (aa 0) ae (aU (aP (i:=0) rfl))) (aJ (aa 1) ae (aU (aP (i:=0) rfl))) (aO m1)) (aJ (aa 2) ae (aU (aP (i:=1) rfl))) (aO m2)) ?_
 refine aw 4 nd (ak (ak (aJ (aa 0) ae (aU (aP (i:=1) rfl))) (aJ (aa 1) ae (aU (aP (i:=1) rfl))) (aO m3)) (aJ (aa 2) ae (aU (aP (i:=0) rfl))) (aO m4)) ?_
 generalize p.num * q.num * ((t.den:Nat):Int)=u at e ⊢
 generalize ((p.den:Nat):Int) * ((q.den:Nat):Int) * t.num=v at e bb b0 ⊢
 refine cK (aZ (aa 4) ae rG) (λh=>?_) λh=>?_
 · have h:=of_decide_eq_true h
   have e1:0 - u=-u:=Int.zero_sub u
   have e2:0 - v=-v:=Int.zero_sub v
   exact aI (x_call b c_l_made (ab (ak ae (aa 3) b5) (ab (ak ae (aa 4) b5) af)) ⟨_,_,p * q / t,rfl,by omega,by rw [e2]; exact bb.neg,by rw [e1,e2,Rat.intCast_neg,Rat.intCast_neg,e,Rat.mul_neg],rfl⟩) rfl
 · have h:=of_decide_eq_false h
   exact aI (x_call b c_l_made (ab (aa 3) (ab (aa 4) af)) ⟨_,_,p * q / t,rfl,by omega,bb,e,rfl⟩) rfl
end
noncomputable abbrev kT:Ev.KD (List Int):=Ev.ya Ev.AU
noncomputable abbrev kTT:Ev.KD (List Int × List Int):=Ev.xU kT kT
theorem hdT:kT.dep<=7:=by show 1<=7; decide
theorem kf:kTT.dep<=7:=by show 2<=7; decide
theorem b8 {F:PySem.W.Frag} (c:List Int) (H:Hp) (v:V) (h:Den F H v (kT.toD c)):∃ b,v=.ref b:=by
 generalize e:kT.toD c=x at h
 cases h with
 | tup=>exact ⟨_,rfl⟩
 | _=>cases e
theorem pW {F:PySem.W.Frag} (c:List Int × List Int) (H:Hp) (v:V) (h:Den F H v (kTT.toD c)):∃ b,v=.ref b:=by
 generalize e:kTT.toD c=x at h
 cases h with
 | tup=>exact ⟨_,rfl⟩
 | _=>cases e
section
variable {κ:Type} [DecidableEq κ]
theorem iq (p:κ × D) (m:List (κ × D)) (k:κ):getM (p :: m) k=if p.1=k then some p.2 else getM m k:=by
 unfold getM
 rw [List.find?_cons]
 by_cases e:p.1=k
 · simp [e]
 · simp [e]
theorem kH (k k':κ) (x:D):∀ m:List (κ × D),getM (m.map λy=>if y.1=k then (y.1,x) else y) k'=if k=k'/\(getM m k).isSome then some x else getM m k'
 | []=>by simp [getM]
 | p :: m=>by
   rw [List.map_cons,iq,kH k k' x m,iq,iq]
   by_cases e:p.1=k
   · rw [if_pos e,if_pos e]
     by_cases e':k=k'
     · simp [e,e']
     · simp [e,e']
   · rw [if_neg e,if_neg e]
     by_cases e':p.1=k'
     · simp [e',show ¬ k=k' from λz=>e (e'.trans z.symm)]
     · simp [e']
theorem mW (m:List (κ × D)) (k k':κ) (x:D):getM (eZ m k x) k'=if k=k' then some x else getM m k':=by
 unfold eZ
 by_cases h:(getM m k).isSome
 · rw [if_pos h,kH]
   simp [h]
 · rw [if_neg h]
   have h:getM m k=none:=by simpa using h
   unfold getM at *
   rw [List.find?_append]
   by_cases e:k=k'
   · subst e
     have h:m.find? (λx=>decide (x.1=k))=none:=by simpa using h
     rw [h]
     simp
   · simp [e]
noncomputable def mkM (v:κ->D) (ks:List κ):List (κ × D):=ks.foldl (λm k=>eZ m k (v k)) []
theorem gB (v:κ->D) (ks:List κ) (k:κ):mkM v (ks++[k])=eZ (mkM v ks) k (v k):=by unfold mkM; rw [List.foldl_append]; rfl
theorem kh (v:κ->D) (k:κ):∀ (ks:List κ) (m:List (κ × D)),getM (ks.foldl (λm k=>eZ m k (v k)) m) k=if k ∈ ks then some (v k) else getM m k
 | [],m=>by simp
 | k0 :: ks,m=>by
   rw [List.foldl_cons,kh v k ks,mW]
   by_cases h:k ∈ ks
   · simp [h]
   · by_cases e:k0=k
     · simp [e]
     · simp [h,e,show ¬ k=k0 from λz=>e z.symm]
theorem cT {v:κ->D} {ks:List κ} {k:κ} (h:k ∈ ks):getM (mkM v ks) k=some (v k):=by unfold mkM; rw [kh,if_pos h]
theorem uS (m:List (κ × D)) (k:κ) (x:D):(eZ m k x).length<=m.length + 1:=by
 unfold eZ
 split <;> simp
theorem kE (v:κ->D):∀ (ks:List κ) (m:List (κ × D)),(ks.foldl (λm k=>eZ m k (v k)) m).length<=m.length + ks.length
 | [],m=>by simp
 | k :: ks,m=>by
   rw [List.foldl_cons]
   have:=kE v ks (eZ m k (v k))
   have:=uS m k (v k)
   rw [List.length_cons]
   omega
theorem fG (v:κ->D) (ks:List κ):(mkM v ks).length<=ks.length:=by unfold mkM; simpa using kE v ks []
theorem t5 {m:List (κ × D)} {k:κ} {x:D} {p:κ × D} (h:p ∈ eZ m k x):p=(k,x)\/p ∈ m:=by
 unfold eZ at h
 split at h
 · obtain ⟨q,hq,e⟩:=List.mem_map.mp h
   by_cases z:q.1=k
   · rw [if_pos z] at e; exact .inl (by rw [<- e,z])
   · rw [if_neg z] at e; exact .inr (e ▸ hq)
 · rcases List.mem_append.mp h with h | h
   · exact .inr h
   · exact .inl (List.mem_singleton.mp h)
theorem kg (v:κ->D) {p:κ × D}:∀ (ks:List κ) (m:List (κ × D)),p ∈ ks.foldl (λm k=>eZ m k (v k)) m->(p.1 ∈ ks/\p.2=v p.1)\/p ∈ m
 | [],m,h=>.inr h
 | k :: ks,m,h=>by
   rw [List.foldl_cons] at h
   rcases kg v ks _ h with ⟨h1,h2⟩ | h
   · exact .inl ⟨List.mem_cons_of_mem _ h1,h2⟩
   · rcases t5 h with e | h
     · exact .inl (by rw [e]; exact ⟨List.mem_cons_self ..,rfl⟩)
     · exact .inr h
theorem fH {v:κ->D} {ks:List κ} {p:κ × D} (h:p ∈ mkM v ks):p.1 ∈ ks/\p.2=v p.1:=(kg v ks [] h).elim id λz=>nomatch z
theorem nk {m:List (κ × D)} {k:κ} {x:D} (h:getM m k=some x):(k,x) ∈ m:=by
 unfold getM at h
 obtain ⟨p,h1,h2⟩:=Option.map_eq_some_iff.mp h
 have e:p.1=k:=by have:=List.find?_some h1; simpa using this
 rw [<- h2,<- e]
 exact List.mem_of_find?_eq_some h1
end
noncomputable def ers (c:List Int) (k:Nat):List Int:=c.take k++c.drop (k + 1)
noncomputable def alP (f:List Int->Int) (row c:List Int) (k:Nat):Int:=row.getD (c.getD k 0).toNat 0 * f (ers c k)
noncomputable def alS (f:List Int->Int) (row c:List Int):Nat->Int
 | 0=>0
 | k + 1=>if Int.fmod ((c.length:Int) - (k:Nat)) 2=0 then alS f row c k - alP f row c k else alS f row c k + alP f row c k
noncomputable def alR (f:List Int->Int) (row c:List Int):Int:=alS f row c c.length
theorem AI (c:List Int) (k:Nat):kT.toD (ers c k)=.tup (Hy.cutD (c.map D.int) none (some (k:Int))++Hy.cutD (c.map D.int) (some ((k:Int) + 1)) none):=by
 rw [show ((k:Int) + 1)=((k + 1:Nat):Int) from rfl,zy]
 have e:Hy.cutD (c.map D.int) (some ((k + 1:Nat):Int)) none=(c.map D.int).drop (k + 1):=by
   unfold Hy.cutD
   rw [HT.fJ,HT.jd]
   rcases Nat.le_total (k + 1) (c.map D.int).length with h | h
   · rw [Nat.min_eq_left h,List.take_of_length_le (by rw [List.length_drop]; exact Nat.le_refl _)]
   · rw [Nat.min_eq_right h,List.drop_of_length_le (Nat.le_refl _),List.drop_of_length_le h,List.take_nil]
 rw [e]
 show D.tup ((ers c k).map D.int)=_
 unfold ers
 rw [List.map_append,List.map_take,List.map_drop]
noncomputable def b9 (P:Program) (w:World) (ds:List D) (r:Sl):Prop:=∃ (m:List (List Int × D)) (f:List Int->Int) (row c:List Int) (n p:Nat),ds=[bxD kT hdT P w m,dtR row,tpD c]/\c.length<=7/\(∀ k,k < c.length->0<=c.getD k 0/\c.getD k 0 < row.length)/\(∀ k,k < c.length->getM m (ers c k)=some (.int (f (ers c k)))/\Bd p (f (ers c k)))/\(∀ x ∈ row,Bd n x)/\n<=10000/\p<=10000/\r=.d (.int (alR f row c))
section
variable {P:Program} {w:World} {K:PySem.W.Frag} {mg:Str->Option Value} {base:Heap} {k:Nat} {f:Addr} {fd:FuncData} {qual:Str}
theorem gn (F:Fun K "along_last_row" qual (top 32) f fd) (hb:∀ x ∈ ai,mg x=none):aR P w K mg base CX0 (k + 1) f fd ["known","row","columns"] (spD K (b9 P w)):=by
 refine fnD F cV hb (by rintro _ _ ⟨_,_,_,_,_,_,rfl,_⟩; rfl) ?_
 rintro _ _ ⟨m,g,row,c,n,p,rfl,h7,hc,hg,hr,hn,hp,rfl⟩ cdv A outer s H E b
 have nd:=cV.nd
 have hu:(Xc P w K mg base ["known","row","columns","total","k","part"] qual (top 32) f cdv A outer s H E).A.units + 16 < cLine:=Nat.lt_of_le_of_lt (Nat.add_le_add_left (by decide:16<=64) _) b.room.units
 have lc:(c.map D.int).length=c.length:=List.length_map ..
 refine aw 3 nd ae ?_
 refine a6 4 (λi τ=>i<=c.length/\∃ s4 s5,τ=[.d (bxD kT hdT P w m),.d (dtR row),.d (tpD c),.d (.int (alS g row c i)),s4,s5]) b nd (cy b (bo b (ab (aa 2) af) lr) (by omega) (by omega)) cv ⟨Nat.zero_le _,.un,.un,rfl⟩ (λi hi τ h=>?_) λτ h=>?_
 · obtain ⟨_,s4,s5,rfl⟩:=h
   have hi:i < c.length:=by rw [aq,lc] at hi; omega
   obtain ⟨c1,c2⟩:=hc i hi
   obtain ⟨g1,g2⟩:=hg i hi
   have ht:(c.getD i 0).toNat < row.length:=by omega
   refine aw 5 nd (ak (aJ (aa 1) (aJ (aa 2) (aa 4) (aU (atR hi))) (aS (oD c1 ht))) (pC (a:=kT) (hd:=hdT) (m:=m) (key:=ers c i) hu (aa 0) (by
     rw [AI]
     exact ak (tj (aa 2) oE (bN (aa 4)) (by rw [HT.fJ,lc]; omega)) (tj (aa 2) (bN (ak (aa 4) ae aT)) oE (by rw [show ((i:Int) + 1)=((i + 1:Nat):Int) from rfl,HT.fJ,lc]; omega)) (ou (by
       have l1:∀ l u,(Hy.cutD (c.map D.int) l u).length<=7:=λl u=>by unfold Hy.cutD; rw [List.length_take,List.length_drop,lc]; omega
       have:=l1 none (some (i:Int))
       have:=l1 (some ((i:Int) + 1)) none
       omega))) g1 (b8 _) my) (aO ((hr _ (bw ht)).aB g2 (by omega) (by omega)))) ?_
   refine aw 3 nd (xp (s:=.d (.int (alS g row c (i + 1)))) (aZ (ak (ak (bo b (ab (aa 2) af) lr) (aa 4) b5) ae (bK (by decide))) ae gf) (λh=>?_) λh=>?_) (aH ⟨hi,_,_,rfl⟩)
   · have h:=of_decide_eq_true h
     rw [lc] at h
     rw [alS,if_pos h]
     exact ak (aa 3) (aa 5) b5
   · have h:=of_decide_eq_false h
     rw [lc] at h
     rw [alS,if_neg h]
     exact ak (aa 3) (aa 5) aT
 · obtain ⟨_,s4,s5,rfl⟩:=h
   refine aI (aa 3) ?_
   rw [aq,lc,Int.toNat_natCast]
   rfl
end
noncomputable def orM (f:List Int->Int) (row:List Int) (cs:List (List Int)):List (List Int × D):=mkM (λc=>D.int (alR f row c)) cs
noncomputable def cI (P:Program) (w:World) (ds:List D) (r:Sl):Prop:=∃ (m:List (List Int × D)) (f:List Int->Int) (row:List Int) (cs:List (List Int)) (n p:Nat),ds=[bxD kT hdT P w m,dtR row,lV cs]/\cs.length<=100000/\(∀ c ∈ cs,c.length<=7/\(∀ k,k < c.length->0<=c.getD k 0/\c.getD k 0 < row.length)/\(∀ k,k < c.length->getM m (ers c k)=some (.int (f (ers c k)))/\Bd p (f (ers c k))))/\(∀ x ∈ row,Bd n x)/\n<=10000/\p<=10000/\r=.d (bxD kT hdT P w (orM f row cs))
section
variable {P:Program} {w:World} {K:PySem.W.Frag} {mg:Str->Option Value} {base:Heap} {k:Nat} {f:Addr} {fd:FuncData} {qual:Str}
theorem iQ (F:Fun K "one_row_more" qual (top 31) f fd) (hb:∀ x ∈ ai,mg x=none) (c_along_last_row:Cal P w K mg base k "along_last_row" (b9 P w)):aR P w K mg base CX0 (k + 1) f fd ["known","row","column_choices"] (spD K (cI P w)):=by
 refine fnD F eW hb (by rintro _ _ ⟨_,_,_,_,_,_,rfl,_⟩; rfl) ?_
 rintro _ _ ⟨m,g,row,cs,n,p,rfl,h1,hc,hr,hn,hp,rfl⟩ cdv A outer s H E b
 have nd:=eW.nd
 have hu:(Xc P w K mg base ["known","row","column_choices","found","columns"] qual (top 31) f cdv A outer s H E).A.units + 16 < cLine:=Nat.lt_of_le_of_lt (Nat.add_le_add_left (by decide:16<=64) _) b.room.units
 refine aw 3 nd (ot (a:=kT) (hd:=hdT)) ?_
 refine a6 4 (g:=λi=>tpD (cs.getD i [])) (λi τ=>∃ s4,τ=[.d (bxD kT hdT P w m),.d (dtR row),.d (lV cs),.x (exK kT hdT P w (orM g row (cs.take i))),s4]) b nd (aW (aa 2)) wH ⟨.un,rfl⟩ (λi hi τ h=>?_) λτ h=>?_
 · obtain ⟨s4,rfl⟩:=h
   have hi:i < cs.length:=by simpa using hi
   obtain ⟨c1,c2,c3⟩:=hc _ (bw (d:=[]) hi)
   have ln:=fG (λc=>D.int (alR g row c)) (cs.take i)
   rw [List.length_take] at ln
   refine lA 3 (a:=kT) (hd:=hdT) (key:=cs.getD i []) (x:=.int (alR g row (cs.getD i []))) hu rfl (aa 4) (x_call b c_along_last_row (ab (aa 0) (ab (aa 1) (ab (aa 4) af))) ⟨m,g,row,_,n,p,rfl,c1,c2,c3,hr,hn,hp,rfl⟩) (Nat.le_trans ln (by unfold sizeLine; omega)) (b8 _) (aH ⟨.d (tpD (cs.getD i [])),?_⟩)
   rw [take_snoc [] hi]
   unfold orM
   rw [gB]
   rfl
 · obtain ⟨s4,rfl⟩:=h
   refine xA 3 (a:=kT) (hd:=hdT) (aI (aa 3) ?_)
   rw [List.length_map,List.take_of_length_le (Nat.le_refl _)]
   rfl
end
theorem yu:∀ n,n < 8->∀ t,t < 7->((chs n (t + 1)).all λc=>(chs n t).contains (c.take t) && (List.range (t + 1)).all λk=>(chs n t).contains (ers c k))=true:=by decide +kernel
theorem lj:∀ n,n < 8->∀ t,t < 8->(chs n t).length<=35:=by decide +kernel
theorem mn {n t:Nat} {c:List Int} (hn:n<=7) (ht:t < 7) (h:c ∈ chs n (t + 1)):c.take t ∈ chs n t/\∀ k,k < t + 1->ers c k ∈ chs n t:=by
 have:=List.all_eq_true.mp (yu n (by omega) t ht) c h
 rw [Bool.and_eq_true] at this
 obtain ⟨h1,h2⟩:=this
 refine ⟨by simpa using h1,λk hk=>?_⟩
 have:=List.all_eq_true.mp h2 k (List.mem_range.mpr hk)
 simpa using this
noncomputable def dtm (R:List (List Int)):Nat->List Int->List Int->Int
 | 0,_,_=>1
 | t + 1,ls,c=>alR (dtm R t (ls.take t)) (R.getD (fN ls).toNat []) c
structure Rw (m n b:Nat) (R:List (List Int)):Prop where
 len:R.length=m
 row:∀ r ∈ R,r.length=n/\∀ x ∈ r,Bd b x
 m1:1<=m/\m<=7
 n1:1<=n/\n<=7
 b1:b<=1400
theorem uW {f:List Int->Int} {row c:List Int} {N:Nat}:∀ k,(∀ i,i < k->(alP f row c i).natAbs<=N)->(alS f row c k).natAbs<=k * N
 | 0,_=>by simp [alS]
 | k + 1,h=>by
   have ih:=uW k λi hi=>h i (by omega)
   have h1:=h k (by omega)
   rw [alS,Nat.succ_mul]
   split <;> omega
theorem y6 {f:List Int->Int} {row c:List Int} {n p:Nat} (h7:c.length<=7) (hr:∀ x ∈ row,Bd n x) (hf:∀ k,k < c.length->Bd p (f (ers c k))):Bd (n + p + 3) (alR f row c):=by
 have h:=uW (f:=f) (row:=row) (c:=c) (N:=2 ^ (n + p)) c.length λi hi=>by
   have h1:Bd n (row.getD (c.getD i 0).toNat 0):=by
     by_cases h:(c.getD i 0).toNat < row.length
     · exact hr _ (bw h)
     · rw [getD_none (by omega)]
       exact Nat.two_pow_pos n
   exact Nat.le_of_lt (h1.mul (hf i hi))
 unfold Bd alR
 have e:2 ^ (n + p + 3)=8 * 2 ^ (n + p):=by rw [Nat.pow_add]; omega
 have p0:=Nat.two_pow_pos (n + p)
 have:c.length * 2 ^ (n + p)<=7 * 2 ^ (n + p):=Nat.mul_le_mul_right _ h7
 omega
theorem sJ {m n b:Nat} {R:List (List Int)} (h:Rw m n b R):∀ t,t<=7->∀ ls c,c ∈ chs n t->Bd (1 + t * (b + 3)) (dtm R t ls c)
 | 0,_,_,_,_=>by unfold Bd dtm; rw [Nat.zero_mul]; decide
 | t + 1,ht,ls,c,hc=>by
   have l:=(bY n _ c hc).len
   have:=y6 (f:=dtm R t (ls.take t)) (row:=R.getD (fN ls).toNat []) (c:=c) (n:=b) (p:=1 + t * (b + 3)) (by omega) (λx hx=>by
     by_cases hl:(fN ls).toNat < R.length
     · exact (h.row _ (bw hl)).2 x hx
     · rw [getD_none (by omega)] at hx
       cases hx) λk hk=>sJ h t (by omega) _ _ ((mn h.n1.2 (by omega) hc).2 k (by omega))
   rw [dtm]
   refine this.mono ?_
   rw [Nat.succ_mul]
   omega
noncomputable def kc (P:Program) (w:World) (R:List (List Int)) (n t:Nat) (ls:List Int):D:=bxD kT hdT P w (mkM (λc=>D.int (dtm R t ls c)) (chs n t))
noncomputable def knM (P:Program) (w:World) (R:List (List Int)) (m n t:Nat):List (List Int × D):=mkM (kc P w R n t) (chs m t)
noncomputable def ky1 (n t:Nat) (ls:List Int):List (List Int × List Int):=(chs n t).map λc=>(ls,c)
noncomputable def kys (m n i:Nat):List (List Int × List Int):=(List.range i).flatMap λt=>(chs m (t + 1)).flatMap (ky1 n (t + 1))
noncomputable def vD (R:List (List Int)) (p:List Int × List Int):Int:=dtm R p.1.length p.1 p.2
noncomputable def fdM (R:List (List Int)) (ks:List (List Int × List Int)):List ((List Int × List Int) × D):=mkM (λp=>D.int (vD R p)) ks
theorem su {n t:Nat} (hn:n<=7) (ht:t<=7):∀ ls:List (List Int),ls.length<=35->(ls.flatMap (ky1 n t)).length<=1225:=λls hl=>by
 have:=fb (ky1 n t) 35 ls λx _=>by unfold ky1; rw [List.length_map]; exact lj n (by omega) t (by omega)
 omega
theorem kys_len {m n i:Nat} (hm:m<=7) (hn:n<=7) (hi:i<=7):(kys m n i).length<=8575:=by
 have:=fb (λt=>(chs m (t + 1)).flatMap (ky1 n (t + 1))) 1225 (List.range i) λt ht=>su hn (by have:=List.mem_range.mp ht; omega) _ (lj m (by omega) _ (by have:=List.mem_range.mp ht; omega))
 rw [List.length_range] at this
 unfold kys
 omega
noncomputable def bO (P:Program) (w:World) (ds:List D) (r:Sl):Prop:=∃ (R:List (List Int)) (m n b:Nat),ds=[.lst (R.map dtR)]/\Rw m n b R/\r=.d (.box (bxW kTT kf P w (fdM R (kys m n (min m n)))))
theorem lJ {R:List (List Int)} {i:Int} (h0:0<=i) (h:i.toNat < R.length):atI (R.map dtR) i=some (dtR (R.getD i.toNat [])):=by
 obtain ⟨n,rfl⟩:=Int.eq_ofNat_of_zero_le h0
 exact aP (by
   have h:n < R.length:=h
   simp [h])
theorem zw (c:List Int) (t:Nat) (h:c.length=t + 1):D.tup (Hy.cutD (c.map D.int) none (some (-1)))=kT.toD (c.take t):=by
 unfold Hy.cutD
 have e:HT.sIx (c.map D.int).length (c.map D.int).length (some (-1))=t:=by
   unfold HT.sIx
   simp only []
   rw [if_pos (by decide),List.length_map,h]
   omega
 rw [e,HT.jd,List.drop_zero,Nat.sub_zero,<- List.map_take]
 rfl
theorem kn0 (P:Program) (w:World) (R:List (List Int)) (m n:Nat):knM P w R m n 0=[([],bxD kT hdT P w [([],.int 1)])]:=rfl
section
variable {P:Program} {w:World} {K:PySem.W.Frag} {mg:Str->Option Value} {base:Heap} {k:Nat} {f:Addr} {fd:FuncData} {qual:Str}
set_option maxHeartbeats 1000000 in
theorem fK (F:Fun K "all_determinants" qual (top 30) f fd) (hb:∀ x ∈ ai,mg x=none) (c_choices_of:Cal P w K mg base k "choices_of" d9) (c_one_row_more:Cal P w K mg base k "one_row_more" (cI P w)):aR P w K mg base CX0 (k + 1) f fd ["rows"] (spD K (bO P w)):=by
 refine fnD F cw hb (by rintro _ _ ⟨_,_,_,_,rfl,_⟩; rfl) ?_
 rintro _ _ ⟨R,m,n,b0,rfl,ok,rfl⟩ cdv A outer s H E b
 have nd:=cw.nd
 have hu:(Xc P w K mg base ["rows","found","known","size","fresh","column_choices","some","columns"] qual (top 30) f cdv A outer s H E).A.units + 16 < cLine:=Nat.lt_of_le_of_lt (Nat.add_le_add_left (by decide:16<=64) _) b.room.units
 obtain ⟨⟨m1,m7⟩,n1,n7⟩:=And.intro ok.m1 ok.n1
 have lR:(R.map dtR).length=m:=by rw [List.length_map,ok.len]
 have r0:(R.getD 0 []).length=n:=(ok.row _ (bw (by rw [ok.len]; omega))).1
 have lr0:((R.getD 0 []).map D.int).length=n:=by rw [List.length_map,r0]
 have a0:atI (R.map dtR) 0=some (dtR (R.getD 0 [])):=lJ (i:=0) (by decide) (by rw [ok.len]; show 0 < m; omega)
 have hmin:(if ((((R.getD 0 []).map D.int).length:Nat):Int) < ((R.map dtR).length:Nat) then ((((R.getD 0 []).map D.int).length:Nat):Int) else ((R.map dtR).length:Nat))=((min m n:Nat):Int):=by
   rw [lR,lr0]
   split <;> omega
 refine aw 1 nd (ot (a:=kTT) (hd:=kf)) ?_
 generalize e:Expr.Dict [some (Expr.Tuple [] 0 _)] _ _=ex
 refine aw 2 nd (s:=.d (bxD kT hdT P w [([],bxD kT hdT P w [([],.int 1)])])) ?_ ?_ (hs:=by subst e; rfl)
 · subst e
   generalize e:Expr.Dict [some (Expr.Tuple [] 0 _)] [Expr.Constant _ _ _] _=ex
   refine xv (a:=kT) (hd:=hdT) (oU (a:=kT) (hd:=hdT) (key:=[]) (x:=bxD kT hdT P w [([],.int 1)]) hu ?_ ?_ (b8 []))
   · show PE _ _ (dE _ _ _ (.d (.tup [])))
     exact cf af
   · subst e
     refine xv (a:=kT) (hd:=hdT) (m:=[([],.int 1)]) (oU (a:=kT) (hd:=hdT) (key:=[]) (x:=.int 1) hu ?_ ae (b8 []))
     show PE _ _ (dE _ _ _ (.d (.tup [])))
     exact cf af
 refine a6 3 (g:=λi=>.int (1 + (i:Nat))) (λi τ=>i<=min m n/\∃ s3 s4 s5 s6 s7,τ=[.d (.lst (R.map dtR)),.x (exK kTT kf P w (fdM R (kys m n i))),.d (bxD kT hdT P w (knM P w R m n i)),s3,s4,s5,s6,s7]) b nd (mf b ae (ak (bo b (ab (bo b (ab (aa 0) af) iA) (ab (bo b (ab (aJ (aa 0) ae (aS a0)) af) iA) af)) (pO b.calm)) ae aT) (by rw [hmin]; omega)) (λk hk=>gp _ _ k hk) ⟨Nat.zero_le _,.un,.un,.un,.un,.un,by rw [kn0]; rfl⟩ (λi hi τ h=>?_) λτ h=>?_
 · obtain ⟨_,s3,s4,s5,s6,s7,rfl⟩:=h
   have hi:i < min m n:=by rw [aq,hmin] at hi; omega
   have e1:(1 + (i:Nat):Int)=((i + 1:Nat):Int):=by omega
   rw [e1]
   refine aw 4 nd (ot (a:=kT) (hd:=hdT)) ?_
   refine aw 5 nd (x_call b c_choices_of (ab (bo b (ab (aJ (aa 0) ae (aS a0)) af) iA) (ab (aa 3) af)) ⟨n,i + 1,by rw [lr0],n7,by omega,rfl⟩) ?_
   refine a6 6 (g:=λl=>tpD ((chs m (i + 1)).getD l [])) (λl τ=>∃ s6 s7,τ=[.d (.lst (R.map dtR)),.x (exK kTT kf P w (fdM R (kys m n i++((chs m (i + 1)).take l).flatMap (ky1 n (i + 1))))),.d (bxD kT hdT P w (knM P w R m n i)),.d (.int ((i + 1:Nat):Int)),.x (exK kT hdT P w (mkM (kc P w R n (i + 1)) ((chs m (i + 1)).take l))),.d (lV (chs n (i + 1))),s6,s7]) b nd (aW (x_call b c_choices_of (ab (bo b (ab (aa 0) af) iA) (ab (aa 3) af)) ⟨m,i + 1,by rw [lR],m7,by omega,rfl⟩)) wH ⟨s6,s7,by simp [mkM]; rfl⟩ (λl hl τ h=>?_) λτ h=>?_
   · obtain ⟨s6,s7,rfl⟩:=h
     have hl:l < (chs m (i + 1)).length:=by simpa using hl
     have hs:=bw (d:=[]) hl
     generalize hls:(chs m (i + 1)).getD l []=ls at hs
     have okl:=bY m _ ls hs
     have l35:=lj m (by omega) (i + 1) (by omega)
     have n35:=lj n (by omega) (i + 1) (by omega)
     have lf:=fG (kc P w R n (i + 1)) ((chs m (i + 1)).take l)
     rw [List.length_take] at lf
     have ne:ls ≠ []:=λz=>by have:=okl.len; rw [z] at this; cases this
     have last:0<=fN ls/\fN ls < m:=by
       have:=okl.at_ i (by omega)
       unfold fN
       rw [okl.len]
       exact this
     have hlr:(fN ls).toNat < R.length:=by rw [ok.len]; omega
     have hrow:=ok.row _ (bw (d:=[]) hlr)
     have pre:=(mn m7 (by omega) hs).1
     have key:kT.toD (ls.take i)=D.tup (Hy.cutD (ls.map D.int) none (some (-1))):=(zw ls i okl.len).symm
     refine lA 4 (a:=kT) (hd:=hdT) (key:=ls) (x:=kc P w R n (i + 1) ls) hu rfl (aa 6) (x_call b c_one_row_more (ab (pC (a:=kT) (hd:=hdT) (m:=knM P w R m n i) (key:=ls.take i) (x:=kc P w R n i (ls.take i)) hu (aa 2) (by
       rw [key]
       refine tj (aa 6) oE (bN (ng ae)) ?_
       rintro ⟨_,z⟩
       have e:HT.sIx (ls.map D.int).length (ls.map D.int).length (some (-1))=i:=by
         unfold HT.sIx
         simp only []
         rw [if_pos (by decide),List.length_map,okl.len]
         omega
       rw [e,List.length_map,okl.len] at z
       omega) (cT pre) (b8 _) λ_ _=>rfl) (ab (aJ (aa 0) (aJ (aa 6) (ng ae) (aU (qb ne))) (aS (lJ last.1 hlr))) (ab (aa 5) af))) ⟨_,dtm R i (ls.take i),_,_,b0,1 + i * (b0 + 3),rfl,by omega,λc hc=>?_,hrow.2,by have:=ok.b1; omega,?_,rfl⟩) (Nat.le_trans lf (by unfold sizeLine; omega)) (b8 _) ?_
     · have okc:=bY n _ c hc
       refine ⟨by rw [okc.len]; omega,λk hk=>?_,λk hk=>?_⟩
       · rw [hrow.1]
         exact okc.at_ k (by rw [okc.len] at hk; exact hk)
       · have hk:k < i + 1:=by rw [okc.len] at hk; exact hk
         have:=(mn n7 (by omega) hc).2 k hk
         exact ⟨cT this,sJ ok i (by omega) _ _ this⟩
     · have:=ok.b1
       have:i * (b0 + 3)<=6 * (b0 + 3):=Nat.mul_le_mul_right _ (by omega)
       omega
     have kl:=kys_len (i:=i) m7 n7 (by omega)
     have kk:=su (t:=i + 1) n7 (by omega) ((chs m (i + 1)).take l) (by rw [List.length_take]; omega)
     refine a6 7 (g:=λj=>tpD ((chs n (i + 1)).getD j [])) (λj τ=>∃ s7,τ=[.d (.lst (R.map dtR)),.x (exK kTT kf P w (fdM R (kys m n i++((chs m (i + 1)).take l).flatMap (ky1 n (i + 1))++((chs n (i + 1)).take j).map λc=>(ls,c)))),.d (bxD kT hdT P w (knM P w R m n i)),.d (.int ((i + 1:Nat):Int)),.x (exK kT hdT P w (eZ (mkM (kc P w R n (i + 1)) ((chs m (i + 1)).take l)) ls (kc P w R n (i + 1) ls))),.d (lV (chs n (i + 1))),.d (tpD ls),s7]) b nd (aW (aa 5)) wH ⟨s7,by simp; rfl⟩ (λj hj τ h=>?_) λτ h=>?_
     · obtain ⟨s7,rfl⟩:=h
       have hj:j < (chs n (i + 1)).length:=by simpa using hj
       have hc:=bw (d:=[]) hj
       generalize hcs:(chs n (i + 1)).getD j []=c at hc
       have gF:getM (eZ (mkM (kc P w R n (i + 1)) ((chs m (i + 1)).take l)) ls (kc P w R n (i + 1) ls)) ls=some (kc P w R n (i + 1) ls):=by rw [mW,if_pos rfl]
       refine lA 1 (a:=kTT) (hd:=kf) (key:=(ls,c)) (x:=.int (vD R (ls,c))) hu rfl (cf (ab (aa 6) (ab (aa 7) af))) (pC (a:=kT) (hd:=hdT) (key:=c) hu (pz 4 (a:=kT) (hd:=hdT) (key:=ls) hu rfl (aa 6) gF (b8 _) cS) (aa 7) ?_ (b8 _) cS) ?_ (pW _) (aH ⟨.d (tpD c),?_⟩)
       · rw [cT hc]
         show _=some (D.int (dtm R ls.length ls c))
         rw [okl.len]
       · refine Nat.le_trans (fG _ _) ?_
         rw [List.length_append,List.length_append,List.length_map,List.length_take]
         unfold sizeLine
         omega
       · rw [take_snoc [] hj,hcs,List.map_append,<- List.append_assoc]
         unfold fdM
         rw [List.map_singleton,gB]
         rfl
     · obtain ⟨s7,rfl⟩:=h
       refine aH ⟨.d (tpD ls),s7,?_⟩
       rw [take_snoc [] hl,hls,gB,List.flatMap_append,List.length_map,List.take_of_length_le (Nat.le_refl _),List.append_assoc]
       simp [ky1]
   · obtain ⟨s6,s7,rfl⟩:=h
     refine xA 4 (a:=kT) (hd:=hdT) (aw 2 nd (aa 4) (aH ⟨hi,.d (.int ((i + 1:Nat):Int)),.d (bxD kT hdT P w (knM P w R m n (i + 1))),.d (lV (chs n (i + 1))),s6,s7,?_⟩))
     rw [List.length_map,List.take_of_length_le (Nat.le_refl _)]
     have e:kys m n (i + 1)=kys m n i++(chs m (i + 1)).flatMap (ky1 n (i + 1)):=by unfold kys; rw [List.range_succ,List.flatMap_append]; simp
     rw [e]
     rfl
 · obtain ⟨_,s3,s4,s5,s6,s7,rfl⟩:=h
   refine xD 1 (a:=kTT) (hd:=kf) (aI (aa 1) ?_)
   rw [aq,hmin]
   show Sl.d (.box (bxW kTT kf P w (fdM R (kys m n ((((min m n:Nat):Int) + 1) - 1).toNat))))=_
   rw [Int.add_sub_cancel,Int.toNat_natCast]
end
theorem rw_ok {m n d v:Nat} {M:List (List Rat)} (t:Tq m n M) (hq:∀ r ∈ M,∀ x ∈ r,Qs d v x) (hb:v + (1 + n * d)<=1400):Rw m n (v + (1 + n * d)) (whM M (M.map scL)):=by
 refine ⟨by unfold whM; simp [t.len],λr hr=>?_,⟨t.r1,t.r7⟩,⟨t.c1,t.c7⟩,hb⟩
 unfold whM at hr
 obtain ⟨i,hi,rfl⟩:=List.mem_map.mp hr
 rw [List.mem_range] at hi
 have mi:M.getD i [] ∈ M:=a5 hi
 refine ⟨by unfold whR; rw [List.length_map]; exact t.row _ mi,λx hx=>?_⟩
 unfold whR at hx
 obtain ⟨q,hq',rfl⟩:=List.mem_map.mp hx
 have e:(M.map scL).getD i 0=scL (M.getD i []):=by simp [hi]
 rw [e]
 have:=dr (d:=d) (r:=M.getD i []) λx hx=>(hq _ mi x hx).den
 rw [t.row _ mi] at this
 exact xt (hq _ mi q hq') ((dX _).2 q hq') this
noncomputable def fuO (R:List (List Int)) (m n:Nat) (t:Int):Option (List Int × List Int):=(((fdM R (kys m n (min m n))).map (·.1)).find? λp=>decide (vD R p < t))
noncomputable def fuD:Option (List Int × List Int)->D
 | none=>.non
 | some p=>.tup [.lst (p.1.map .int),.lst (p.2.map .int)]
theorem p7 {R:List (List Int)} {m n:Nat} {t:Int}:fuO R m n t=none ↔ ∀ p ∈ kys m n (min m n),t<=vD R p:=by
 unfold fuO
 rw [List.find?_eq_none]
 constructor
 · intro h p hp
   have:=h p (List.mem_map.mpr ⟨_,nk (cT (v:=λp=>D.int (vD R p)) hp),rfl⟩)
   have:=of_decide_eq_false (by simpa using this:decide (vD R p < t)=false)
   omega
 · intro h p hp
   obtain ⟨q,hq,rfl⟩:=List.mem_map.mp hp
   have:=h _ (fH hq).1
   simp
   omega
theorem yx {X:Cx} {o:Option (List Int × List Int)}:ck X (compareOp .Is) (fuD o) .non (.bl o.isNone):=⟨_,tL,λ_ v w H Q _ d1 d2 k=>by
 cases d2
 cases o with
 | none=>cases d1; exact ⟨rfl,by rw [decide_eq_true rfl]; exact k _ H (ah.refl _) .bl⟩
 | some i=>cases d1; exact ⟨rfl,by rw [decide_eq_false (by intro z; cases z)]; exact k _ H (ah.refl _) .bl⟩⟩
noncomputable def di (ds:List D) (r:Sl):Prop:=∃ (m n d v:Nat) (M:List (List Rat)) (t:Int),ds=[tbQ M,.int t]/\Tq m n M/\(∀ r ∈ M,∀ x ∈ r,Qs d v x)/\v + (1 + n * d)<=1400/\r=.d (fuD (fuO (whM M (M.map scL)) m n t))
noncomputable def fh (ds:List D) (r:Sl):Prop:=∃ (m n d v:Nat) (M:List (List Rat)),ds=[tbQ M]/\Tq m n M/\(∀ r ∈ M,∀ x ∈ r,Qs d v x)/\v + (1 + n * d)<=1400/\r=.d (.bl (fuO (whM M (M.map scL)) m n 1).isNone)
section
variable {P:Program} {w:World} {K:PySem.W.Frag} {mg:Str->Option Value} {base:Heap} {k:Nat} {f:Addr} {fd:FuncData} {qual:Str}
set_option maxHeartbeats 1000000 in
theorem jJ (F:Fun K "first_under" qual (top 29) f fd) (hb:∀ x ∈ ai,mg x=none) (c_all_determinants:Cal P w K mg base k "all_determinants" (bO P w)) (c_whole_rows:Cal P w K mg base k "whole_rows" cF) (c_scale_of:Cal P w K mg base k "scale_of" eJ):aR P w K mg base CX0 (k + 1) f fd ["table","bound"] (spD K di):=by
 refine fnD F fy hb (by rintro _ _ ⟨_,_,_,_,_,_,rfl,_⟩; rfl) ?_
 rintro _ _ ⟨m,n,d,v,M,t,rfl,tq,hq,hz,rfl⟩ cdv A outer s H E b
 have nd:=fy.nd
 have hu:(Xc P w K mg base ["table","bound","found","choices"] qual (top 29) f cdv A outer s H E).A.units + 16 < cLine:=Nat.lt_of_le_of_lt (Nat.add_le_add_left (by decide:16<=64) _) b.room.units
 have r7:=tq.r7
 have c7:=tq.c7
 have nd1:d<=n * d:=Nat.le_mul_of_pos_left d tq.c1
 have ok:=rw_ok tq hq hz
 generalize hRR:whM M (M.map scL)=R at ok
 have es:(D.lst ((M.map scL).map .int))=.lst ((List.range (M.map rwQ).length).map λi=>D.int (scL (M.getD i []))):=by
   exact congrArg D.lst (((eI (λr:List Rat=>D.int (scL r)) M [] (List.length_map ..)).trans (by rw [List.map_map]; rfl)).symm)
 refine aw 2 nd (x_call b c_all_determinants (ab (bh (x_call b c_whole_rows (ab (aa 0) (ab (bh (eg (cmp 0 (g:=λi=>rwQ (M.getD i [])) (f:=λi=>.int (scL (M.getD i []))) b (aW (aa 0)) (bT (f:=rwQ) (xs:=M) []) (by rw [List.length_map,tq.len]; omega) λi hi s0 H0 fp=>(x_call (b.comp s0 H0 _ fp) c_scale_of (ab (aa 0) af) ⟨_,d,rfl,?_,?_,?_,?_,rfl⟩)))) af)) ⟨M,M.map scL,v + d,by rw [es],by rw [List.length_map],by rw [tq.len]; omega,λr hr=>⟨by rw [tq.row r hr]; omega,λx hx=>(hq r hr x hx).sq⟩,by omega,?_,rfl⟩)) af) ⟨R,m,n,_,by rw [hRR],ok,rfl⟩) ?_
 · rw [tq.row _ (a5 (by simpa using hi))]; omega
 · exact λx hx=>(hq _ (a5 (by simpa using hi)) x hx).den
 · rw [tq.row _ (a5 (by simpa using hi))]; omega
 · omega
 · intro s hs
   obtain ⟨r,hr,rfl⟩:=List.mem_map.mp hs
   have:=dr (d:=d) (r:=r) λx hx=>(hq _ hr x hx).den
   rw [tq.row r hr] at this
   exact this.mono (by omega)
 have hall:∀ p ∈ (fdM R (kys m n (min m n))).map (·.1),getM (fdM R (kys m n (min m n))) p=some (.int (vD R p)):=λp hp=>by
   obtain ⟨q,hq,rfl⟩:=List.mem_map.mp hp
   exact cT (fH hq).1
 unfold fuO
 generalize hks:(fdM R (kys m n (min m n))).map (·.1)=ks at hall
 have em:(fdM R (kys m n (min m n))).map (λp=>kTT.toD p.1)=ks.map kTT.toD:=by rw [<- hks,List.map_map]; rfl
 refine a6 3 (g:=λi=>kTT.toD (ks.getD i ([],[]))) (λi τ=>(ks.take i).find? (λp=>decide (vD R p < t))=none/\∃ s3,τ=[.d (tbQ M),.d (.int t),.d (.box (bxW kTT kf P w (fdM R (kys m n (min m n))))),s3]) b nd (em ▸ qF (aa 2)) (bT (f:=kTT.toD) (xs:=ks) ([],[])) ⟨rfl,.un,rfl⟩ (λi hi τ h=>?_) λτ h=>?_
 · obtain ⟨h0,s3,rfl⟩:=h
   have hi:i < ks.length:=by simpa using hi
   have mi:ks.getD i ([],[]) ∈ ks:=a5 hi
   have g:=hall _ mi
   have es:ks.take (i + 1)=ks.take i++[ks.getD i ([],[])]:=take_snoc _ hi
   generalize hp:ks.getD i ([],[])=p at g es
   refine cK (aZ (uO (a:=kTT) (hd:=kf) (key:=p) hu (aa 2) (aa 3) g (pW _) cS) (aa 1) rG) (λh=>?_) λh=>?_
   · have e:ks.find? (λp=>decide (vD R p < t))=some p:=by
       have e1:ks=ks.take i++p :: ks.drop (i + 1):=by
         have:=List.take_append_drop (i + 1) ks
         rw [es,List.append_assoc] at this
         exact this.symm
       rw [e1,List.find?_append,h0,List.find?_cons,h]
       rfl
     rw [e]
     exact aI (cf (ab (bh (o9 b (ab (aJ (aa 3) ae (aU rfl)) af) pI)) (ab (bh (o9 b (ab (aJ (aa 3) ae (aU rfl)) af) pI)) af))) rfl
   · refine aH ⟨?_,_,rfl⟩
     rw [es,List.find?_append,h0,List.find?_cons,h]
     rfl
 · obtain ⟨h0,s3,rfl⟩:=h
   rw [List.length_map,List.take_of_length_le (Nat.le_refl _)] at h0
   rw [h0]
   exact aI nX rfl
theorem l7 (F:Fun K "is_strict" qual (top 28) f fd) (hb:∀ x ∈ ai,mg x=none) (c_look_table:Cal P w K mg base k "look_table" cC) (c_first_under:Cal P w K mg base k "first_under" di):aR P w K mg base CX0 (k + 1) f fd ["table"] (spD K fh):=by
 refine fnD F mh hb (by rintro _ _ ⟨_,_,_,_,_,rfl,_⟩; rfl) ?_
 rintro _ _ ⟨m,n,d,v,M,rfl,t,hq,hz,rfl⟩ cdv A outer s H E b
 refine ow (x_call b c_look_table (ab (aa 0) af) ⟨m,n,M,rfl,t,rfl⟩) ?_
 exact aI (dR (x_call b c_first_under (ab (aa 0) (ab ae af)) ⟨m,n,d,v,M,1,rfl,t,hq,hz,rfl⟩) nX yx) rfl
end
noncomputable def bx (n:Nat) (rs:List (List Int)):List (Int × Int):=rs.foldl (λkv r=>aV n r kv kv.length) [(0,1)]
theorem dW (n:Nat) (rs:List (List Int)) (r:List Int):bx n (rs++[r])=aV n r (bx n rs) (bx n rs).length:=by unfold bx; rw [List.foldl_append]; rfl
theorem nW (n:Nat) (rs:List (List Int)):∀ i,i<=rs.length->RI n i (dtM rs) (bx n (rs.take i))
 | 0,_=>RI.zero n _
 | i + 1,h=>by
   have e:rs.take (i + 1)=rs.take i++[rs.getD i []]:=take_snoc _ (by omega)
   rw [e,dW]
   exact (nW n rs i (by omega)).step λj _=>rfl
theorem hJ (n:Nat) (rs:List (List Int)):RI n rs.length (dtM rs) (bx n rs):=by
 have:=nW n rs rs.length (Nat.le_refl _)
 rwa [List.take_of_length_le (Nat.le_refl _)] at this
theorem gY (n:Nat) (rs:List (List Int)):∀ i,i<=rs.length->(bx n (rs.take i)).length<=n ^ i
 | 0,_=>Nat.le_refl 1
 | i + 1,h=>by
   have e:rs.take (i + 1)=rs.take i++[rs.getD i []]:=take_snoc _ (by omega)
   rw [e,dW,Nat.pow_succ]
   exact Nat.le_trans (dQ _ _ _ _) (Nat.mul_le_mul_right _ (gY n rs i (by omega)))
theorem uF {kv:List (Int × Int)} {k v:Int} {q:Int × Int} (h:q ∈ eG kv k v):q.2=v\/q ∈ kv:=by
 unfold eG at h
 split at h
 · obtain ⟨p,hp,e⟩:=List.mem_map.mp h
   by_cases z:p.1=k
   · rw [if_pos z] at e; exact .inl (by rw [<- e])
   · rw [if_neg z] at e; exact .inr (e ▸ hp)
 · rcases List.mem_append.mp h with h | h
   · exact .inr h
   · exact .inl (by rw [List.mem_singleton.mp h])
theorem v5 {kv:List (Int × Int)} {k:Int} {N:Nat} (h:∀ q ∈ kv,q.2.natAbs<=N):((ba kv k).getD 0).natAbs<=N:=by
 cases e:ba kv k with
 | none=>simp
 | some v=>
   unfold ba at e
   obtain ⟨p,h1,h2⟩:=Option.map_eq_some_iff.mp e
   rw [<- h2]
   exact h p (List.mem_of_find?_eq_some h1)
theorem qm {n:Nat} {row:List Int} {k v:Int} {kv:List (Int × Int)} {N W:Nat} (hW:∀ j,(row.getD j 0 * v).natAbs<=W) (h:∀ q ∈ kv,q.2.natAbs<=N):∀ c,∀ q ∈ (bt n row k v kv c).2,q.2.natAbs<=N + c * W
 | 0,q,hq=>by have:=h q hq; omega
 | c + 1,q,hq=>by
   have ih:=qm (n:=n) (k:=k) hW h c
   rw [bt,e7] at hq
   rw [Nat.succ_mul]
   split at hq
   · have:=ih q hq; omega
   · rcases uF hq with e | hq
     · have h1:=v5 (k:=gW k (n - 1 - c)) ih
       have h2:(sgZ (bt n row k v kv c).1 * row.getD (n - 1 - c) 0 * v).natAbs<=W:=by
         rw [Int.mul_assoc,Int.natAbs_mul]
         have:=hW (n - 1 - c)
         rcases gS (bt n row k v kv c).1 with z | z <;> rw [z] <;> simpa using this
       rw [e]
       omega
     · have:=ih q hq; omega
theorem mS {n:Nat} {row:List Int} {kv:List (Int × Int)} {W:Nat} (hW:∀ j q,q ∈ kv->(row.getD j 0 * q.2).natAbs<=W):∀ t,∀ q ∈ aV n row kv t,q.2.natAbs<=t * n * W
 | 0,q,hq=>nomatch hq
 | t + 1,q,hq=>by
   rw [aV] at hq
   have ih:=mS (n:=n) hW t
   have:=qm (N:=t * n * W) (W:=W) (λj=>by
     cases e:ba kv (kv.getD t (0,0)).1 with
     | none=>simp
     | some v=>
       unfold ba at e
       obtain ⟨p,h1,h2⟩:=Option.map_eq_some_iff.mp e
       rw [Option.getD_some,<- h2]
       exact hW j p (List.mem_of_find?_eq_some h1)) ih n q hq
   rw [Nat.succ_mul,Nat.add_mul]
   exact this
theorem mP {n b:Nat} {rs:List (List Int)} (hn:n<=7) (hl:rs.length<=7) (hr:∀ r ∈ rs,∀ x ∈ r,Bd b x):∀ i,i<=rs.length->∀ q ∈ bx n (rs.take i),Bd (1 + i * (b + 24)) q.2
 | 0,_,q,hq=>by
   cases List.mem_singleton.mp hq
   unfold Bd
   rw [Nat.zero_mul]
   decide
 | i + 1,h,q,hq=>by
   have e:rs.take (i + 1)=rs.take i++[rs.getD i []]:=take_snoc _ (by omega)
   rw [e,dW] at hq
   have ih:=mP hn hl hr i (by omega)
   have hl1:=gY n rs i (by omega)
   have hl2:n ^ i<=7 ^ 7:=Nat.le_trans (Nat.pow_le_pow_left hn i) (Nat.pow_le_pow_right (by decide) (by omega))
   have:=mS (n:=n) (row:=rs.getD i []) (W:=2 ^ (b + (1 + i * (b + 24)))) (λj q hq=>by
     have h1:Bd b ((rs.getD i []).getD j 0):=by
       by_cases hj:j < (rs.getD i []).length
       · exact hr _ (bw (by omega)) _ (bw hj)
       · rw [getD_none (by omega)]; exact Nat.two_pow_pos b
     exact Nat.le_of_lt (h1.mul (ih q hq))) _ q hq
   unfold Bd
   have e2:1 + (i + 1) * (b + 24)=(b + (1 + i * (b + 24))) + 24:=by rw [Nat.succ_mul]; omega
   rw [e2,Nat.pow_add]
   have p0:=Nat.two_pow_pos (b + (1 + i * (b + 24)))
   have h7:(7:Nat) ^ 7=823543:=by decide
   have:(bx n (rs.take i)).length * n<=823543 * 7:=Nat.mul_le_mul (by omega) hn
   have l2:(bx n (rs.take i)).length * n * 2 ^ (b + (1 + i * (b + 24)))<=823543 * 7 * 2 ^ (b + (1 + i * (b + 24))):=Nat.mul_le_mul_right _ this
   have l3:823543 * 7 * 2 ^ (b + (1 + i * (b + 24))) < 2 ^ (b + (1 + i * (b + 24))) * 2 ^ 24:=by
     rw [Nat.mul_comm]
     exact Nat.mul_lt_mul_of_pos_left (by decide) p0
   omega
noncomputable def lnR (R:List (List Int)) (ls:List Int):List (List Int):=ls.map λi=>R.getD i.toNat []
noncomputable def vMn (R:List (List Int)) (n:Nat) (ls:List Int):D:=.box (bxZ (bx n (lnR R ls)))
noncomputable def nxK (n i:Nat) (ks:List (List Int)):List (List Int):=(ks.filter λls=>decide (ls.length < n)).map λls=>ls++[(i:Int)]
noncomputable def lks (R:List (List Int)) (n:Nat):Nat->List (List Int)
 | 0=>[[]]
 | i + 1=>lks R n i++nxK n i ((mkM (vMn R n) (lks R n i)).map (·.1))
theorem pF (n i:Nat) (ks:List (List Int)):(nxK n i ks).length<=ks.length:=by
 unfold nxK
 rw [List.length_map]
 exact List.length_filter_le ..
theorem qu (R:List (List Int)) (n:Nat):∀ i,(lks R n i).length<=2 ^ i
 | 0=>Nat.le_refl 1
 | i + 1=>by
   have h1:=qu R n i
   have h2:=pF n i ((mkM (vMn R n) (lks R n i)).map (·.1))
   have h3:=fG (vMn R n) (lks R n i)
   rw [List.length_map] at h2
   rw [lks,List.length_append,Nat.pow_succ]
   omega
structure Ls (n i:Nat) (ls:List Int):Prop where
 len:ls.length<=n
 at_:∀ x ∈ ls,0<=x/\x < i
theorem x5 {n i:Nat} {ks:List (List Int)} (h:∀ ls ∈ ks,Ls n i ls):∀ ls ∈ nxK n i ks,Ls n (i + 1) ls:=λls hs=>by
 unfold nxK at hs
 obtain ⟨l,hl,rfl⟩:=List.mem_map.mp hs
 rw [List.mem_filter] at hl
 have h1:=h l hl.1
 have h2:=of_decide_eq_true hl.2
 refine ⟨by rw [List.length_append,List.length_singleton]; omega,λx hx=>?_⟩
 rcases List.mem_append.mp hx with hx | hx
 · have:=h1.at_ x hx; omega
 · rw [List.mem_singleton.mp hx]; omega
theorem lks_ok (R:List (List Int)) (n:Nat):∀ i,∀ ls ∈ lks R n i,Ls n i ls
 | 0,ls,h=>by
   rw [List.mem_singleton.mp h]
   exact ⟨Nat.zero_le _,λ_ z=>nomatch z⟩
 | i + 1,ls,h=>by
   have ih:=lks_ok R n i
   rcases List.mem_append.mp h with h | h
   · have:=ih ls h
     exact ⟨this.len,λx hx=>by have:=this.at_ x hx; omega⟩
   · refine x5 (λl hl=>?_) ls h
     obtain ⟨q,hq,rfl⟩:=List.mem_map.mp hl
     exact ih _ (fH hq).1
noncomputable def gh (P:Program) (w:World) (ds:List D) (r:Sl):Prop:=∃ (R:List (List Int)) (m n b:Nat),ds=[.lst (R.map dtR)]/\Rw m n b R/\r=.d (.box (bxW kT hdT P w (mkM (vMn R n) (lks R n m))))
theorem mn0 (R:List (List Int)) (n:Nat):mkM (vMn R n) (lks R n 0)=[([],D.box (bxZ [(0,1)]))]:=rfl
theorem uY (R:List (List Int)) (n i:Nat) (ls:List Int):vMn R n (ls++[(i:Int)])=.box (bxZ (aV n (R.getD i []) (bx n (lnR R ls)) (bx n (lnR R ls)).length)):=by
 unfold vMn
 have e:lnR R (ls++[(i:Int)])=lnR R ls++[R.getD i []]:=by unfold lnR; rw [List.map_append]; rfl
 rw [e,dW]
theorem uA (n i:Nat) (ks:List (List Int)) (ls:List Int):nxK n i (ks++[ls])=nxK n i ks++if ls.length < n then [ls++[(i:Int)]] else []:=by
 unfold nxK
 rw [List.filter_append,List.map_append]
 congr 1
 by_cases h:ls.length < n
 · rw [if_pos h,List.filter_cons,if_pos (by simpa using h)]; rfl
 · rw [if_neg h,List.filter_cons,if_neg (by simpa using h)]; rfl
section
variable {P:Program} {w:World} {K:PySem.W.Frag} {mg:Str->Option Value} {base:Heap} {k:Nat} {f:Addr} {fd:FuncData} {qual:Str}
set_option maxHeartbeats 1000000 in
theorem mZ (F:Fun K "_law_minors" qual (top 47) f fd) (hb:∀ x ∈ ai,mg x=none):aR P w K mg base CX0 (k + 1) f fd ["_law_rows_here"] (spD K (gh P w)):=by
 refine fnD F iL hb (by rintro _ _ ⟨_,_,_,_,rfl,_⟩; rfl) ?_
 rintro _ _ ⟨R,m,n,b0,rfl,ok,rfl⟩ cdv A outer s H E b
 have nd:=iL.nd
 have hu:(Xc P w K mg base ["_law_rows_here","_law_wide","_law_made_here","_law_i","_law_lines","_law_longer","_law_mask","_law_behind_it","_law_j","_law_key","_law_part"] qual (top 47) f cdv A outer s H E).A.units + 16 < cLine:=Nat.lt_of_le_of_lt (Nat.add_le_add_left (by decide:16<=64) _) b.room.units
 have hu1:(Xc P w K mg base ["_law_rows_here","_law_wide","_law_made_here","_law_i","_law_lines","_law_longer","_law_mask","_law_behind_it","_law_j","_law_key","_law_part"] qual (top 47) f cdv A outer s H E).A.units + 1 < cLine:=Nat.lt_of_le_of_lt (Nat.add_le_add_left (by decide:1<=64) _) b.room.units
 obtain ⟨⟨m1,m7⟩,n1,n7⟩:=And.intro ok.m1 ok.n1
 have lR:(R.map dtR).length=m:=by rw [List.length_map,ok.len]
 have r0:(R.getD 0 []).length=n:=(ok.row _ (bw (by rw [ok.len]; omega))).1
 have lr0:((R.getD 0 []).map D.int).length=n:=by rw [List.length_map,r0]
 have a0:atI (R.map dtR) 0=some (dtR (R.getD 0 [])):=lJ (i:=0) (by decide) (by rw [ok.len]; show 0 < m; omega)
 refine aw 1 nd (bo b (ab (aJ (aa 0) ae (aS a0)) af) (wW lr0)) ?_
 generalize e:Expr.Dict [some (Expr.Tuple [] 0 _)] _ _=ex
 refine aw 2 nd (s:=.x (exK kT hdT P w [([],D.box (bxZ [(0,1)]))])) ?_ ?_ (hs:=by subst e; rfl)
 · subst e
   generalize e:Expr.Dict [some (Expr.Constant _ _ _)] _ _=ex
   refine oU (a:=kT) (hd:=hdT) (key:=[]) (x:=D.box (bxZ [(0,1)])) hu ?_ ?_ (b8 [])
   · show PE _ _ (dE _ _ _ (.d (.tup [])))
     exact cf af
   · subst e
     exact Ak uc
 refine a6 3 (λi τ=>i<=m/\∃ s3 s4 s5 s6 s7 s8 s9 s10,τ=[.d (.lst (R.map dtR)),.d (.int n),.x (exK kT hdT P w (mkM (vMn R n) (lks R n i))),s3,s4,s5,s6,s7,s8,s9,s10]) b nd (cy b (bo b (ab (aa 0) af) (wW lR)) (by omega) (by omega)) cv ⟨Nat.zero_le _,.un,.un,.un,.un,.un,.un,.un,.un,by rw [mn0]; rfl⟩ (λi hi τ h=>?_) λτ h=>?_
 · obtain ⟨_,s3,s4,s5,s6,s7,s8,s9,s10,rfl⟩:=h
   have hi:i < m:=by rw [aq] at hi; omega
   have hiR:i < R.length:=by rw [ok.len]; exact hi
   have hrow:=ok.row _ (bw (d:=[]) hiR)
   have aRi:atI (R.map dtR) (i:Int)=some (dtR (R.getD i [])):=lJ (i:=(i:Int)) (by omega) (by omega)
   have kl:=fG (vMn R n) (lks R n i)
   have ll:=qu R n i
   have p2:2 ^ i<=2 ^ 7:=Nat.pow_le_pow_right (by decide) (by omega)
   have hks:∀ ls ∈ (mkM (vMn R n) (lks R n i)).map (·.1),ls ∈ lks R n i:=λls h=>by
     obtain ⟨q,hq,rfl⟩:=List.mem_map.mp h
     exact (fH hq).1
   have lkl:((mkM (vMn R n) (lks R n i)).map (·.1)).length<=128:=by rw [List.length_map]; omega
   have eL:lks R n (i + 1)=lks R n i++nxK n i ((mkM (vMn R n) (lks R n i)).map (·.1)):=rfl
   have em:(mkM (vMn R n) (lks R n i)).map (λp=>kT.toD p.1)=((mkM (vMn R n) (lks R n i)).map (·.1)).map kT.toD:=by rw [List.map_map]; rfl
   refine a6 4 (g:=λl=>kT.toD (((mkM (vMn R n) (lks R n i)).map (·.1)).getD l [])) (λl τ=>∃ s4 s5 s6 s7 s8 s9 s10,τ=[.d (.lst (R.map dtR)),.d (.int n),.x (exK kT hdT P w (mkM (vMn R n) (lks R n i++nxK n i (((mkM (vMn R n) (lks R n i)).map (·.1)).take l)))),.d (.int (i:Nat)),s4,s5,s6,s7,s8,s9,s10]) b nd (em ▸ aW (bh (wY 2 (a:=kT) (hd:=hdT) b rfl (Nat.le_trans kl (Nat.le_trans ll (Nat.le_trans p2 (by decide))))))) (bT (f:=kT.toD) []) ⟨s4,s5,s6,s7,s8,s9,s10,by rw [List.take_zero]; show _=[_,_,Sl.x (exK kT hdT P w (mkM (vMn R n) (lks R n i++[]))),_,_,_,_,_,_,_,_]; rw [List.append_nil]; rfl⟩ (λl hl τ h=>?_) λτ h=>?_
   · obtain ⟨s4,s5,s6,s7,s8,s9,s10,rfl⟩:=h
     generalize (mkM (vMn R n) (lks R n i)).map (·.1)=ks at hl hks lkl
     have hl:l < ks.length:=by simpa using hl
     have hs:=hks _ (bw (d:=[]) hl)
     have es:ks.take (l + 1)=ks.take l++[ks.getD l []]:=take_snoc _ hl
     rw [es,uA]
     generalize ks.getD l []=ls at hs
     have okl:=lks_ok R n i ls hs
     have nl:=pF n i (ks.take l)
     rw [List.length_take] at nl
     generalize nxK n i (ks.take l)=nx at nl
     have gK:getM (mkM (vMn R n) (lks R n i++nx)) ls=some (.box (bxZ (bx n (lnR R ls)))):=cT (v:=vMn R n) (List.mem_append_left _ hs)
     have ml:=fG (vMn R n) (lks R n i++nx)
     rw [List.length_append] at ml
     have lnl:(lnR R ls).length=ls.length:=by unfold lnR; rw [List.length_map]
     have RIk:=hJ n (lnR R ls)
     have kvl:=gY n (lnR R ls) _ (Nat.le_refl _)
     have kvb:=mP (n:=n) (b:=b0) (rs:=lnR R ls) n7 (by have:=okl.len; omega) (λr hr x hx=>by
       unfold lnR at hr
       obtain ⟨y,hy,rfl⟩:=List.mem_map.mp hr
       have:=okl.at_ y hy
       exact (ok.row _ (bw (by rw [ok.len]; omega))).2 x hx) _ (Nat.le_refl _)
     rw [List.take_of_length_le (Nat.le_refl _)] at kvl kvb
     have kv7:n ^ (lnR R ls).length<=7 ^ 7:=Nat.le_trans (Nat.pow_le_pow_left n7 _) (Nat.pow_le_pow_right (by decide) (by have:=okl.len; omega))
     have h77:(7:Nat) ^ 7=823543:=by decide
     have vS:=uY R n i ls
     generalize bx n (lnR R ls)=kv at gK RIk kvl kvb vS
     generalize hRow:R.getD i []=row at hrow aRi vS
     refine aw 5 nd sA ?_
     refine a6 6 (g:=λt=>.int (kv.getD t (0,0)).1) (λt τ=>∃ s6 s7 s8 s9 s10,τ=[.d (.lst (R.map dtR)),.d (.int n),.x (exK kT hdT P w (mkM (vMn R n) (lks R n i++nx))),.d (.int (i:Nat)),.d (kT.toD ls),.x (exZ (aV n row kv t)),s6,s7,s8,s9,s10]) b nd (qQ (pz 2 (a:=kT) (hd:=hdT) (key:=ls) hu rfl (aa 4) gK (b8 _) cS)) qL ⟨s6,s7,s8,s9,s10,rfl⟩ (λt ht τ z=>?_) λτ z=>?_
     · obtain ⟨s6,s7,s8,s9,s10,rfl⟩:=z
       have ht:t < kv.length:=by simpa using ht
       have hq:kv.getD t (0,0) ∈ kv:=bw ht
       have hg:ba kv (kv.getD t (0,0)).1=some (kv.getD t (0,0)).2:=jK RIk.nd hq
       have hv:=kvb _ hq
       have hml:=dQ n row kv t
       have hml2:t * n<=823543 * 7:=Nat.mul_le_mul (by omega) n7
       have eM:aV n row kv (t + 1)=(bt n row (kv.getD t (0,0)).1 (kv.getD t (0,0)).2 (aV n row kv t) n).2:=by rw [aV,hg]; rfl
       rw [eM]
       generalize aV n row kv t=lk at hml
       generalize (kv.getD t (0,0)).1=mk at hg
       generalize (kv.getD t (0,0)).2=v at hg hv
       refine aw 7 nd ae ?_
       refine a6 8 (g:=λc=>.int ((n - 1 - c:Nat):Int)) (λc τ=>∃ s8 s9 s10,τ=[.d (.lst (R.map dtR)),.d (.int n),.x (exK kT hdT P w (mkM (vMn R n) (lks R n i++nx))),.d (.int (i:Nat)),.d (kT.toD ls),.x (exZ (bt n row mk v lk c).2),.d (.int mk),.d (.int (bt n row mk v lk c).1),s8,s9,s10]) b nd (AZ (n:=n) b (aa 1) (by omega)) zY ⟨s8,s9,s10,rfl⟩ (λc hc τ z=>?_) λτ z=>?_
       · obtain ⟨s8,s9,s10,rfl⟩:=z
         have hc:c < n:=by rw [dY] at hc; exact hc
         have hcl:=gU n row mk v lk c
         have hj:n - 1 - c < row.length:=by rw [hrow.1]; omega
         have eC:bt n row mk v lk (c + 1)=e7 row mk v (n - 1 - c) (bt n row mk v lk c):=rfl
         rw [eC]
         generalize bt n row mk v lk c=st at hcl
         generalize n - 1 - c=j at hj
         have j7:j < 7:=by have:=hrow.1; omega
         refine iR (M:=λτ=>∃ s8 s9 s10,τ=[.d (.lst (R.map dtR)),.d (.int n),.x (exK kT hdT P w (mkM (vMn R n) (lks R n i++nx))),.d (.int (i:Nat)),.d (kT.toD ls),.x (exZ (e7 row mk v j st).2),.d (.int mk),.d (.int (e7 row mk v j st).1),s8,s9,s10]) (aZ (ak (ak (aa 6) (aa 8) (xG (by omega))) ae xl) ae gf) (λz=>?_) (λz=>?_) λτ z=>by
           obtain ⟨s8,s9,s10,rfl⟩:=z
           exact aH ⟨s8,s9,s10,rfl⟩
         · have z:jF mk j=true:=by
             unfold jF
             rw [Int.toNat_natCast] at z
             exact z
           have e:e7 row mk v j st=(st.1 + 1,st.2):=by unfold e7; rw [if_pos z]
           rw [e]
           exact aw 7 nd (ak (aa 7) ae aT) (aH ⟨_,_,_,rfl⟩)
         · have z:jF mk j=false:=by
             unfold jF
             rw [Int.toNat_natCast] at z
             exact z
           have e:e7 row mk v j st=(st.1,eG st.2 (gW mk j) ((ba st.2 (gW mk j)).getD 0 + sgZ st.1 * row.getD j 0 * v)):=by unfold e7; rw [if_neg (by rw [z]; decide)]
           have hx:Bd b0 (row.getD j 0):=hrow.2 _ (bw hj)
           have s2:aB (row.getD j 0) v:=hx.aB hv (by have:=ok.b1; omega) (by
             have:=ok.b1
             have:(lnR R ls).length * (b0 + 24)<=7 * (b0 + 24):=Nat.mul_le_mul_right _ (by have:=okl.len; omega)
             omega)
           rw [e]
           refine aw 9 nd (ak (aa 6) (ak ae (aa 8) (um ⟨by omega,by omega,by decide⟩)) AS) ?_
           rw [Int.toNat_natCast]
           show PSs _ _ (dS K [.d (.lst (R.map dtR)),.d (.int n),.x (exK kT hdT P w (mkM (vMn R n) (lks R n i++nx))),.d (.int (i:Nat)),.d (kT.toD ls),.x (exZ st.2),.d (.int mk),.d (.int st.1),.d (.int (j:Nat)),.d (.int (gW mk j)),_] _)
           refine aw 10 nd (ak (aJ (aJ (aa 0) (aa 3) (aS aRi)) (aa 8) (aS (atR hj))) (oR hu1 (pz 2 (a:=kT) (hd:=hdT) (key:=ls) hu rfl (aa 4) gK (b8 _) cS) (aa 6) hg cS) (aO s2)) ?_
           refine iR (M:=λτ=>τ=[.d (.lst (R.map dtR)),.d (.int n),.x (exK kT hdT P w (mkM (vMn R n) (lks R n i++nx))),.d (.int (i:Nat)),.d (kT.toD ls),.x (exZ st.2),.d (.int mk),.d (.int st.1),.d (.int (j:Nat)),.d (.int (gW mk j)),.d (.int (sgZ st.1 * row.getD j 0 * v))]) (aZ (ak (aa 7) ae (bK (by decide))) ae gf) (λz=>?_) (λz=>?_) λτ z=>?_
           · have z:=of_decide_eq_true z
             have e2:sgZ st.1=-1:=by unfold sgZ; rw [z]; rfl
             rw [e2,Int.mul_assoc,Int.neg_mul,Int.one_mul]
             exact aw 10 nd (ng (aa 10)) (aH rfl)
           · have z:=of_decide_eq_false z
             have e2:sgZ st.1=1:=by
               rcases gS st.1 with h | h
               · exact h
               · unfold sgZ at h; omega
             rw [e2,Int.one_mul]
             exact aH rfl
           · rw [z]
             refine uZ 5 hu1 rfl (aa 9) (ak (qC 5 hu1 rfl (aa 9) ae) (aa 10) aT) ?_ (aH ⟨_,_,_,rfl⟩)
             have:sizeLine > 10000000:=by decide
             omega
       · obtain ⟨s8,s9,s10,rfl⟩:=z
         rw [dY]
         exact aH ⟨_,_,_,_,_,rfl⟩
     · obtain ⟨s6,s7,s8,s9,s10,rfl⟩:=z
       rw [List.length_map]
       refine uE 5 ?_
       refine iR (M:=λτ=>∃ s4 s5 s6 s7 s8 s9 s10,τ=[.d (.lst (R.map dtR)),.d (.int n),.x (exK kT hdT P w (mkM (vMn R n) (lks R n i++(nx++if ls.length < n then [ls++[(i:Int)]] else [])))),.d (.int (i:Nat)),s4,s5,s6,s7,s8,s9,s10]) (aZ (bo b (ab (aa 4) af) lr) (aa 1) rG) (λz=>?_) (λz=>?_) λτ z=>aH z
       · have z:=of_decide_eq_true z
         rw [List.length_map] at z
         rw [if_pos (by omega),<- List.append_assoc,gB,vS]
         refine lA 2 (a:=kT) (hd:=hdT) (key:=ls++[(i:Int)]) hu rfl ?_ (aa 5) (Nat.le_trans ml ?_) (b8 _) (aH ⟨_,_,_,_,_,_,_,rfl⟩)
         · have e:kT.toD (ls++[(i:Int)])=.tup (ls.map D.int++[.int (i:Nat)]):=by show D.tup ((ls++[(i:Int)]).map D.int)=_; rw [List.map_append]; rfl
           rw [e]
           exact ak (aa 4) (cf (ab (aa 3) af)) (ou (by rw [List.length_map]; have:=okl.len; show _ + 1 < _; omega))
         · have:sizeLine > 10000000:=by decide
           omega
       · have z:=of_decide_eq_false z
         rw [List.length_map] at z
         rw [if_neg (by omega),List.append_nil]
         exact aH ⟨_,_,_,_,_,_,_,rfl⟩
   · obtain ⟨s4,s5,s6,s7,s8,s9,s10,rfl⟩:=h
     refine aH ⟨hi,.d (.int (i:Nat)),s4,s5,s6,s7,s8,s9,s10,?_⟩
     rw [eL,List.length_map,List.take_of_length_le (Nat.le_refl _)]
 · obtain ⟨_,s3,s4,s5,s6,s7,s8,s9,s10,rfl⟩:=h
   refine xD 2 (a:=kT) (hd:=hdT) (aI (aa 2) ?_)
   rw [aq,Int.toNat_natCast]
   rfl
end
noncomputable def sg1 (x:Int):Int:=if 0 < x then 1 else if x < 0 then -1 else 0
noncomputable def lsV (a:Int) (kv:List (Int × Int)):Int:=kv.foldl (λa p=>min a (sg1 p.2)) a
noncomputable def lsA (R:List (List Int)) (n:Nat) (a:Int) (ks:List (List Int)):Int:=ks.foldl (λa ls=>lsV a (bx n (lnR R ls))) a
theorem va (a:Int) (kv:List (Int × Int)) (p:Int × Int):lsV a (kv++[p])=min (lsV a kv) (sg1 p.2):=by unfold lsV; rw [List.foldl_append]; rfl
theorem tH (R:List (List Int)) (n:Nat) (a:Int) (ks:List (List Int)) (ls:List Int):lsA R n a (ks++[ls])=lsV (lsA R n a ks) (bx n (lnR R ls)):=by unfold lsA; rw [List.foldl_append]; rfl
noncomputable def cP (ds:List D) (r:Sl):Prop:=∃ (R:List (List Int)) (m n b:Nat),ds=[.lst (R.map dtR)]/\Rw m n b R/\r=.d (.int (lsA R n 1 ((mkM (vMn R n) (lks R n m)).map (·.1))))
theorem vR {m:List (Int × Int)}:∀ i (h:i < (m.map λp=>D.int p.2).length),(m.map λp=>D.int p.2)[i]=.int (m.getD i (0,0)).2:=λi h=>by
 have:i < m.length:=by simpa using h
 simp [this]
section
variable {P:Program} {w:World} {K:PySem.W.Frag} {mg:Str->Option Value} {base:Heap} {k:Nat} {f:Addr} {fd:FuncData} {qual:Str}
set_option maxHeartbeats 1000000 in
theorem iN (F:Fun K "_law_least_sign" qual (top 48) f fd) (hb:∀ x ∈ ai,mg x=none) (c_l_minors:Cal P w K mg base k "_law_minors" (gh P w)):aR P w K mg base CX0 (k + 1) f fd ["_law_rows_here"] (spD K cP):=by
 refine fnD F eQ hb (by rintro _ _ ⟨_,_,_,_,rfl,_⟩; rfl) ?_
 rintro _ _ ⟨R,m,n,b0,rfl,ok,rfl⟩ cdv A outer s H E b
 have nd:=eQ.nd
 have hu:(Xc P w K mg base ["_law_rows_here","_law_least","_law_made_here","_law_lines","_law_worth"] qual (top 48) f cdv A outer s H E).A.units + 16 < cLine:=Nat.lt_of_le_of_lt (Nat.add_le_add_left (by decide:16<=64) _) b.room.units
 refine aw 1 nd ae ?_
 refine aw 2 nd (x_call b c_l_minors (ab (aa 0) af) ⟨R,m,n,b0,rfl,ok,rfl⟩) ?_
 have hall:∀ ls ∈ (mkM (vMn R n) (lks R n m)).map (·.1),getM (mkM (vMn R n) (lks R n m)) ls=some (.box (bxZ (bx n (lnR R ls)))):=λls h=>by
   obtain ⟨q,hq,rfl⟩:=List.mem_map.mp h
   exact cT (v:=vMn R n) (fH hq).1
 generalize hks:(mkM (vMn R n) (lks R n m)).map (·.1)=ks at hall
 have em:(mkM (vMn R n) (lks R n m)).map (λp=>kT.toD p.1)=ks.map kT.toD:=by rw [<- hks,List.map_map]; rfl
 refine a6 3 (g:=λi=>kT.toD (ks.getD i [])) (λi τ=>∃ s3 s4,τ=[.d (.lst (R.map dtR)),.d (.int (lsA R n 1 (ks.take i))),.d (.box (bxW kT hdT P w (mkM (vMn R n) (lks R n m)))),s3,s4]) b nd (em ▸ qF (aa 2)) (bT (f:=kT.toD) (xs:=ks) []) ⟨.un,.un,rfl⟩ (λi hi τ h=>?_) λτ h=>?_
 · obtain ⟨s3,s4,rfl⟩:=h
   have hi:i < ks.length:=by simpa using hi
   have gK:=hall _ (bw (d:=[]) hi)
   have es:ks.take (i + 1)=ks.take i++[ks.getD i []]:=take_snoc _ hi
   rw [es,tH]
   generalize ks.getD i []=ls at gK
   generalize lsA R n 1 (ks.take i)=a0
   generalize bx n (lnR R ls)=kv at gK
   refine a6 4 (g:=λt=>.int (kv.getD t (0,0)).2) (λt τ=>∃ s4,τ=[.d (.lst (R.map dtR)),.d (.int (lsV a0 (kv.take t))),.d (.box (bxW kT hdT P w (mkM (vMn R n) (lks R n m)))),.d (kT.toD ls),s4]) b nd (vO (uO (a:=kT) (hd:=hdT) (key:=ls) hu (aa 2) (aa 3) gK (b8 _) cS)) vR ⟨s4,rfl⟩ (λt ht τ z=>?_) λτ z=>?_
   · obtain ⟨s4,rfl⟩:=z
     have ht:t < kv.length:=by simpa using ht
     have es:kv.take (t + 1)=kv.take t++[kv.getD t (0,0)]:=take_snoc _ ht
     rw [es,va]
     generalize (kv.getD t (0,0)).2=x
     refine aw 1 nd (bo b (ab (aa 1) (ab (ak (o9 b (ab (dR (aa 4) ae mQ) af) xq) (o9 b (ab (dR (aa 4) ae rG) af) xq) b5) af)) (pO b.calm)) (aH ⟨.d (.int x),?_⟩)
     have e:(if ((if decide (x > 0)=true then (1:Int) else 0) - (if decide (x < 0)=true then (1:Int) else 0)) < lsV a0 (kv.take t) then ((if decide (x > 0)=true then (1:Int) else 0) - (if decide (x < 0)=true then (1:Int) else 0)) else lsV a0 (kv.take t))=min (lsV a0 (kv.take t)) (sg1 x):=by
       have e1:((if decide (x > 0)=true then (1:Int) else 0) - (if decide (x < 0)=true then (1:Int) else 0))=sg1 x:=by
         unfold sg1
         simp only [decide_eq_true_eq]
         split <;> split <;> (try split) <;> omega
       rw [e1]
       split <;> omega
     exact congrArg (λy=>[Sl.d (.lst (R.map dtR)),Sl.d (.int y),Sl.d (.box (bxW kT hdT P w (mkM (vMn R n) (lks R n m)))),Sl.d (kT.toD ls),Sl.d (.int x)]) e
   · obtain ⟨s4,rfl⟩:=z
     refine aH ⟨.d (kT.toD ls),s4,?_⟩
     rw [List.length_map,List.take_of_length_le (Nat.le_refl _)]
 · obtain ⟨s3,s4,rfl⟩:=h
   refine aI (aa 1) ?_
   rw [List.length_map,List.take_of_length_le (Nat.le_refl _)]
end
theorem pL {f:List Int->Int} {row c:List Int} {g:Nat->Rat} {m:Nat} (hl:c.length=m + 1) (hg:∀ k,k < m + 1->((alP f row c k:Int):Rat)=g k):∀ k,k<=m + 1->((alS f row c k:Int):Rat)=aD (λk=>sgn (m - k) * g k) k
 | 0,_=>rfl
 | k + 1,h=>by
   have ih:=pL hl hg k (by omega)
   rw [alS,aD,<- ih,<- hg k (by omega),hl]
   unfold sgn
   rw [Int.fmod_eq_emod_of_nonneg _ (by decide)]
   by_cases z:(m - k) % 2=0
   · rw [if_pos z,if_neg (by omega),Rat.intCast_add,Rat.one_mul]
   · rw [if_neg z,if_pos (by omega),Rat.intCast_sub,Rat.sub_eq_add_neg,Rat.neg_mul,Rat.one_mul]
theorem oV {M M':Nat->Nat->Rat} {L:List Nat} (h:∀ r,r < L.length->∀ j,M r j=M' r j):cj M L=cj M' L:=by
 unfold cj
 exact ax λr hr q _=>h r hr _
theorem uI (R:List (List Int)) (ls:List Int) (t r j:Nat) (h:r < t):dtM (lnR R (ls.take t)) r j=dtM (lnR R ls) r j:=by
 have e:(lnR R (ls.take t)).getD r []=(lnR R ls).getD r []:=by
   unfold lnR
   rw [List.map_take,List.getD_eq_getElem?_getD,List.getD_eq_getElem?_getD,List.getElem?_take_of_lt h]
 unfold dtM
 rw [e]
theorem pX (c:List Int) (k:Nat):(ers c k).map Int.toNat=(c.map Int.toNat).eraseIdx k:=by
 unfold ers
 rw [List.eraseIdx_eq_take_drop_succ,List.map_append,List.map_take,List.map_drop]
theorem iZ (R:List (List Int)):∀ (t:Nat) (ls c:List Int),ls.length=t->c.length=t->((dtm R t ls c:Int):Rat)=cj (dtM (lnR R ls)) (c.map Int.toNat)
 | 0,ls,c,_,hc=>by
   cases List.length_eq_zero_iff.mp hc
   rfl
 | t + 1,ls,c,hl,hc=>by
   have hL:(c.map Int.toNat).length=t + 1:=by rw [List.length_map,hc]
   rw [i5 hL,dtm]
   unfold alR
   rw [hc]
   have:=pL (f:=dtm R t (ls.take t)) (row:=R.getD (fN ls).toNat []) (c:=c) (g:=λk=>dtM (lnR R ls) t ((c.map Int.toNat).getD k 0) * cj (dtM (lnR R ls)) ((c.map Int.toNat).eraseIdx k)) hc (λk hk=>by
     unfold alP
     have e1:(c.map Int.toNat).getD k 0=(c.getD k 0).toNat:=by simp [show k < c.length by omega]
     have e2:(lnR R ls).getD t []=R.getD (fN ls).toNat []:=by
       unfold lnR fN
       rw [hl]
       simp [show t < ls.length by omega]
     have l2:(ers c k).length=t:=by
       have:=congrArg List.length (pX c k)
       rw [List.length_map,List.length_eraseIdx_of_lt (by omega),hL] at this
       exact this
     rw [Rat.intCast_mul,iZ R t (ls.take t) (ers c k) (by rw [List.length_take,hl]; omega) l2,pX]
     rw [e1]
     have e3:dtM (lnR R ls) t (c.getD k 0).toNat=(((R.getD (fN ls).toNat []).getD (c.getD k 0).toNat 0:Int):Rat):=by unfold dtM; rw [e2]
     rw [e3]
     refine congrArg _ (oV λr hr j=>uI R ls t r j ?_)
     rw [List.length_eraseIdx_of_lt (by omega),hL] at hr
     omega) (t + 1) (Nat.le_refl _)
   rw [this]
   refine aC λk hk=>?_
   rw [Rat.mul_assoc]
section
variable {P:Program} {w:World} {K:PySem.W.Frag} {mg:Str->Option Value} {base:Heap} {k:Nat} {f:Addr} {fd:FuncData} {qual:Str}
end
noncomputable def lkP (n:Nat):Nat->List (List Int)
 | 0=>[[]]
 | i + 1=>lkP n i++nxK n i (lkP n i)
theorem jE {κ:Type} [DecidableEq κ] {v:κ->D} {ks:List κ} {k:κ}:k ∈ (mkM v ks).map (·.1) ↔ k ∈ ks:=by
 constructor
 · intro h
   obtain ⟨q,hq,rfl⟩:=List.mem_map.mp h
   exact (fH hq).1
 · intro h
   exact List.mem_map.mpr ⟨_,nk (cT (v:=v) h),rfl⟩
theorem qH {n i:Nat} {ks:List (List Int)} {ls:List Int}:ls ∈ nxK n i ks ↔ ∃ l,l ∈ ks/\l.length < n/\l++[(i:Int)]=ls:=by
 unfold nxK
 rw [List.mem_map]
 constructor
 · rintro ⟨l,h,e⟩
   rw [List.mem_filter] at h
   exact ⟨l,h.1,of_decide_eq_true h.2,e⟩
 · rintro ⟨l,h,z,e⟩
   exact ⟨l,List.mem_filter.mpr ⟨h,decide_eq_true z⟩,e⟩
theorem k7 (R:List (List Int)) (n:Nat):∀ i (ls:List Int),ls ∈ lks R n i ↔ ls ∈ lkP n i
 | 0,_=>Iff.rfl
 | i + 1,ls=>by
   have ih:=k7 R n i
   rw [lks,lkP,List.mem_append,List.mem_append,qH,qH,ih]
   refine or_congr Iff.rfl (exists_congr λl=>?_)
   rw [jE,ih]
theorem zE:∀ n,n < 8->∀ m,m < 8->(((lkP n m).all λls=>(chs m ls.length).contains ls && decide (ls.length<=min m n)) && (List.range (min m n + 1)).all λt=>(chs m t).all λls=>(lkP n m).contains ls)=true:=by decide +kernel
theorem x6:∀ n,n < 8->(((List.range (2 ^ n)).all λS=>(chs n (cols n S).length).contains ((cols n S).map Int.ofNat)) && (List.range 8).all λt=>(chs n t).all λc=>(List.range (2 ^ n)).any λS=>decide (cols n S=c.map Int.toNat))=true:=by decide +kernel
theorem iV {m n k:Nat} {ls c:List Int}:(ls,c) ∈ kys m n k ↔ ∃ s,s < k/\ls ∈ chs m (s + 1)/\c ∈ chs n (s + 1):=by
 unfold kys ky1
 constructor
 · intro h
   obtain ⟨s,hs,h⟩:=List.mem_flatMap.mp h
   obtain ⟨l,hl,h⟩:=List.mem_flatMap.mp h
   obtain ⟨d,hd,e⟩:=List.mem_map.mp h
   cases e
   exact ⟨s,List.mem_range.mp hs,hl,hd⟩
 · rintro ⟨s,hs,h1,h2⟩
   exact List.mem_flatMap.mpr ⟨s,List.mem_range.mpr hs,List.mem_flatMap.mpr ⟨ls,h1,List.mem_map.mpr ⟨c,h2,rfl⟩⟩⟩
theorem sO {x y:Int} (h:(x:Rat)=(y:Rat)):x=y:=by exact_mod_cast h
theorem nB {R:List (List Int)} {m n b:Nat} (ok:Rw m n b R) {t:Int} (ht:t<=1):(∀ p ∈ kys m n (min m n),t<=vD R p) ↔ ∀ ls ∈ lks R n m,∀ q ∈ bx n (lnR R ls),t<=q.2:=by
 have m7:=ok.m1.2
 have n7:=ok.n1.2
 have f1:=Bool.and_eq_true_iff.mp (zE n (by omega) m (by omega))
 have f2:=Bool.and_eq_true_iff.mp (x6 n (by omega))
 constructor
 · intro h ls hls q hq
   have hP:=List.all_eq_true.mp f1.1 ls ((k7 R n m ls).mp hls)
   rw [Bool.and_eq_true] at hP
   have hc:ls ∈ chs m ls.length:=by simpa using hP.1
   have hl:=of_decide_eq_true hP.2
   have RIk:=hJ n (lnR R ls)
   have lnl:(lnR R ls).length=ls.length:=by unfold lnR; rw [List.length_map]
   rw [lnl] at RIk
   obtain ⟨S,e1,e2,e3⟩:=RIk.key q.1 (List.mem_map.mpr ⟨q,hq,rfl⟩)
   have hg:=jK RIk.nd hq
   have hv:=(RIk.all S e2 e3).2
   unfold gv at hv
   rw [<- e1,hg,Option.getD_some] at hv
   have hcc:(cols n S).map Int.ofNat ∈ chs n ls.length:=by
     have:=List.all_eq_true.mp f2.1 S (List.mem_range.mpr e2)
     rw [e3] at this
     simpa using this
   have et:((cols n S).map Int.ofNat).map Int.toNat=cols n S:=by
     rw [List.map_map]
     exact (List.map_congr_left λx _=>rfl).trans (List.map_id _)
   have hd:=iZ R ls.length ls ((cols n S).map Int.ofNat) rfl (by rw [List.length_map,e3])
   rw [et,<- hv] at hd
   have e:=sO hd
   rw [<- e]
   cases hl0:ls.length with
   | zero=>exact ht
   | succ s=>
     have:=h (ls,(cols n S).map Int.ofNat) (iV.mpr ⟨s,by omega,by rw [<- hl0]; exact hc,by rw [<- hl0]; exact hcc⟩)
     unfold vD at this
     rw [hl0] at this
     exact this
 · rintro h ⟨ls,c⟩ hp
   obtain ⟨s,hs,h1,h2⟩:=iV.mp hp
   have l1:=(bY m _ ls h1).len
   have l2:=(bY n _ c h2).len
   have hls:ls ∈ lks R n m:=(k7 R n m ls).mpr (by
     have:=List.all_eq_true.mp (List.all_eq_true.mp f1.2 (s + 1) (List.mem_range.mpr (by omega))) ls h1
     simpa using this)
   obtain ⟨S,hS,eS⟩:=List.any_eq_true.mp (List.all_eq_true.mp (List.all_eq_true.mp f2.2 (s + 1) (List.mem_range.mpr (by omega))) c h2)
   have eS:=of_decide_eq_true eS
   have RIk:=hJ n (lnR R ls)
   have lnl:(lnR R ls).length=ls.length:=by unfold lnR; rw [List.length_map]
   rw [lnl,l1] at RIk
   obtain ⟨a1,a2⟩:=RIk.all S (List.mem_range.mp hS) (by rw [eS,List.length_map,l2])
   have hd:=iZ R (s + 1) ls c l1 l2
   rw [<- eS,<- a2] at hd
   unfold gv at hd
   have e:=sO hd
   show t<=dtm R ls.length ls c
   rw [l1,e]
   cases hg:ba (bx n (lnR R ls)) (S:Int) with
   | none=>exact absurd hg a1
   | some v=>
     rw [Option.getD_some]
     unfold ba at hg
     obtain ⟨p,h3,h4⟩:=Option.map_eq_some_iff.mp hg
     rw [<- h4]
     exact h ls hls p (List.mem_of_find?_eq_some h3)
section
variable {P:Program} {w:World} {K:PySem.W.Frag} {mg:Str->Option Value} {base:Heap} {k:Nat} {f:Addr} {fd:FuncData} {qual:Str}
end
theorem zX:∀ n,n < 8->∀ t,t < 8->((chs n t).all λc=>(List.range (t - 1)).all λi=>decide (c.getD i 0 < c.getD (i + 1) 0))=true:=by decide +kernel
theorem tT:∀ n,n < 8->∀ t,t < 8->((List.range 8).all λa=>decide (n < a + t) || (chs n t).contains ((List.range t).map λi=>((a + i:Nat):Int)))=true:=by decide +kernel
theorem xr {R:List (List Int)} {ls c:List Int} {t:Nat} (hl:ls.length=t) (hc:c.length=t):((vD R (ls,c):Int):Rat)=mi (dtM R) t (λr=>(ls.getD r 0).toNat) (λj=>(c.getD j 0).toNat):=by
 unfold vD
 show ((dtm R ls.length ls c:Int):Rat)=_
 rw [iZ R ls.length ls c rfl (by omega)]
 unfold cj mi
 rw [List.length_map,hc]
 refine ax λi hi j hj=>?_
 unfold dtM lnR
 have e1:(ls.map λi=>R.getD i.toNat []).getD i []=R.getD (ls.getD i 0).toNat []:=by simp [show i < ls.length by omega]
 have e2:(c.map Int.toNat).getD j 0=(c.getD j 0).toNat:=by simp [show j < c.length by omega]
 rw [e1,e2]
theorem qP {n t:Nat} (hn:n<=7) (ht:t<=7) {c:List Int} (h:c ∈ chs n t):Inc t λi=>(c.getD i 0).toNat:=λi hi=>by
 have u:=List.all_eq_true.mp (List.all_eq_true.mp (zX n (by omega) t (by omega)) c h) i (List.mem_range.mpr (by omega))
 have u:=of_decide_eq_true u
 have:=((bY n t c h).at_ i (by omega)).1
 show (c.getD i 0).toNat < (c.getD (i + 1) 0).toNat
 omega
theorem jP {R:List (List Int)} {m n b:Nat} (ok:Rw m n b R):(∀ p ∈ kys m n (min m n),1<=vD R p) ↔ ∀ k a b',1<=k->a + k<=m->b' + k<=n->(a=0\/b'=0)->0 < sld (dtM R) a b' k:=by
 have m7:=ok.m1.2
 have n7:=ok.n1.2
 constructor
 · intro h k a b' hk ha hb _
   have s1:=List.all_eq_true.mp (tT m (by omega) k (by omega)) a (List.mem_range.mpr (by omega))
   have s2:=List.all_eq_true.mp (tT n (by omega) k (by omega)) b' (List.mem_range.mpr (by omega))
   rw [decide_eq_false (by omega),Bool.false_or] at s1 s2
   have c1:(List.range k).map (λi=>((a + i:Nat):Int)) ∈ chs m k:=by simpa using s1
   have c2:(List.range k).map (λi=>((b' + i:Nat):Int)) ∈ chs n k:=by simpa using s2
   have hv:=h _ (iV.mpr ⟨k - 1,by omega,by rw [show k - 1 + 1=k by omega]; exact c1,by rw [show k - 1 + 1=k by omega]; exact c2⟩)
   have e:=xr (R:=R) (t:=k) (bY m _ _ c1).len (bY n _ _ c2).len
   have e2:sld (dtM R) a b' k=((vD R ((List.range k).map (λi=>((a + i:Nat):Int)),(List.range k).map (λi=>((b' + i:Nat):Int))):Int):Rat):=by
     rw [e]
     unfold sld
     refine mO (λi hi=>?_) λi hi=>?_ <;> (simp [hi]; omega)
   rw [e2]
   exact (show ((0:Int):Rat) < _ from Rat.intCast_lt_intCast.mpr (by omega))
 · rintro h ⟨ls,c⟩ hp
   obtain ⟨s,hs,h1,h2⟩:=iV.mp hp
   have o1:=bY m _ ls h1
   have o2:=bY n _ c h2
   have e:=xr (R:=R) (t:=s + 1) o1.len o2.len
   have g1:=o1.at_ s (by omega)
   have g2:=o2.at_ s (by omega)
   have:=tp (M:=dtM R) (n:=m) (m:=n) h (k:=s + 1) (qP (by omega) (by omega) h1) (qP (by omega) (by omega) h2) (λ_=>by show (ls.getD s 0).toNat < m; omega) (λ_=>by show (c.getD s 0).toNat < n; omega)
   rw [<- e] at this
   have:=Rat.intCast_lt_intCast.mp (show ((0:Int):Rat) < _ from this)
   omega
section
variable {P:Program} {w:World} {K:PySem.W.Frag} {mg:Str->Option Value} {base:Heap} {k:Nat} {f:Addr} {fd:FuncData} {qual:Str}
end
theorem uX {t:Int}:∀ (kv:List (Int × Int)) (a:Int),t<=lsV a kv ↔ t<=a/\∀ q ∈ kv,t<=sg1 q.2
 | [],a=>by simp [lsV]
 | p :: kv,a=>by
   have ih:=uX (t:=t) kv (min a (sg1 p.2))
   show t<=lsV (min a (sg1 p.2)) kv ↔ _
   rw [ih]
   constructor
   · rintro ⟨h1,h2⟩
     exact ⟨by omega,λq hq=>by
       rcases List.mem_cons.mp hq with rfl | hq
       · omega
       · exact h2 q hq⟩
   · rintro ⟨h1,h2⟩
     have:=h2 p (List.mem_cons_self ..)
     exact ⟨by omega,λq hq=>h2 q (List.mem_cons_of_mem _ hq)⟩
theorem vk {R:List (List Int)} {n:Nat} {t:Int}:∀ (ks:List (List Int)) (a:Int),t<=lsA R n a ks ↔ t<=a/\∀ ls ∈ ks,∀ q ∈ bx n (lnR R ls),t<=sg1 q.2
 | [],a=>by simp [lsA]
 | ls :: ks,a=>by
   have ih:=vk (R:=R) (n:=n) (t:=t) ks (lsV a (bx n (lnR R ls)))
   show t<=lsA R n (lsV a (bx n (lnR R ls))) ks ↔ _
   rw [ih,uX]
   constructor
   · rintro ⟨⟨h1,h2⟩,h3⟩
     exact ⟨h1,λl hl=>by
       rcases List.mem_cons.mp hl with rfl | hl
       · exact h2
       · exact h3 l hl⟩
   · rintro ⟨h1,h2⟩
     exact ⟨⟨h1,h2 ls (List.mem_cons_self ..)⟩,λl hl=>h2 l (List.mem_cons_of_mem _ hl)⟩
theorem u9 {t x:Int} (h:t=0\/t=1):t<=sg1 x ↔ t<=x:=by
 unfold sg1
 split
 · omega
 · split <;> omega
theorem sE {R:List (List Int)} {m n b:Nat} (ok:Rw m n b R) {t:Int} (h:t=0\/t=1):(fuO R m n t).isNone=decide (t<=lsA R n 1 ((mkM (vMn R n) (lks R n m)).map (·.1))):=by
 have e:(fuO R m n t).isNone=true ↔ t<=lsA R n 1 ((mkM (vMn R n) (lks R n m)).map (·.1)):=by
   rw [Option.isNone_iff_eq_none,p7,nB ok (by omega),vk]
   constructor
   · intro z
     exact ⟨by omega,λls hl q hq=>(u9 h).mpr (z ls (jE.mp hl) q hq)⟩
   · rintro ⟨_,z⟩ ls hl q hq
     exact (u9 h).mp (z ls (jE.mpr hl) q hq)
 by_cases z:t<=lsA R n 1 ((mkM (vMn R n) (lks R n m)).map (·.1))
 · rw [decide_eq_true z,e.mpr z]
 · rw [decide_eq_false z]
   cases hh:(fuO R m n t).isNone with
   | false=>rfl
   | true=>exact absurd (e.mp hh) z
section
variable {P:Program} {w:World} {K:PySem.W.Frag} {mg:Str->Option Value} {base:Heap} {k:Nat} {f:Addr} {fd:FuncData} {qual:Str}
end
noncomputable def Al (t:List (List Rat)):D:=.lst (t.map λr=>.lst (r.map frD))
noncomputable def cb (t:List (List Rat)):Nd:=.l (t.map λr=>.l ((r.map frD).map .d))
theorem xH (xs:List D):lH (xs.map .d)=xs:=by
 induction xs with
 | nil=>rfl
 | cons x xs ih=>rw [List.map_cons,lH,ndD,ih]
theorem oI {α:Type} (f:α->List Nd):∀ t:List α,lH (t.map λr=>.l (f r))=t.map λr=>D.lst (lH (f r))
 | []=>rfl
 | r :: t=>by rw [List.map_cons,lH,ndD,oI f t]; rfl
theorem tI (t:List (List Rat)):ndD (cb t)=Al t:=by
 unfold cb Al
 rw [ndD,oI]
 congr 1
 exact List.map_congr_left λr _=>by rw [xH]
theorem ur {α β:Type} (f:α->β) (xs:List α) (d:α) {m:Nat} (h:m=xs.length):(List.range m).map (λi=>f (xs.getD i d))=xs.map f:=by
 subst h
 refine List.ext_getElem (by simp) λi h1 h2=>?_
 have:i < xs.length:=by simpa using h2
 simp [this]
theorem xM {s:Int} (hs:0 < s) (q:Rat):(s * (q.den:Nat)) / (Int.gcd s (q.den:Nat):Int)=scS s q:=by
 unfold scS
 have d1:(Int.gcd s (q.den:Nat):Int) ∣ s:=Int.gcd_dvd_left ..
 rw [Int.mul_comm s,Int.mul_ediv_assoc _ d1,Int.mul_comm]
noncomputable def rwN (r:List Int):Nd:=.l ((r.map D.int).map .d)
noncomputable def nC (R:List (List Int)):Nd:=.l (R.map rwN)
theorem yI (R:List (List Int)):ndD (nC R)=.lst (R.map dtR):=by
 unfold nC rwN
 rw [ndD,oI]
 congr 1
 exact List.map_congr_left λr _=>by rw [xH]; rfl
noncomputable def jc (ds:List D) (r:Sl):Prop:=∃ (R C d v:Nat) (M:List (List Rat)),ds=[tbQ M]/\Tq R C M/\(∀ r ∈ M,∀ x ∈ r,Qs d v x)/\1 + C * d<=8999/\v + d<=8999/\r=.n (.t [nC (whM M (M.map scL)),.d (.int (prZ (M.map scL)))])
theorem uz {M:List (List Rat)} {i:Nat} (h:i < M.length):((List.range (i + 1)).map λi=>whR (M.getD i []) (scL (M.getD i [])))=((List.range i).map λi=>whR (M.getD i []) (scL (M.getD i [])))++[whR (M.getD i []) (scL (M.getD i []))]:=by
 rw [List.range_succ,List.map_append]
 rfl
theorem wZ (M:List (List Rat)):(List.range M.length).map (λi=>whR (M.getD i []) (scL (M.getD i [])))=whM M (M.map scL):=by
 unfold whM
 refine List.map_congr_left λi hi=>?_
 have:i < M.length:=List.mem_range.mp hi
 simp [this]
section
variable {P:Program} {w:World} {K:PySem.W.Frag} {mg:Str->Option Value} {base:Heap} {k:Nat} {f:Addr} {fd:FuncData} {qual:Str}
set_option maxHeartbeats 1000000 in
theorem qX (F:Fun K "_law_rows" qual (top 45) f fd) (hb:∀ x ∈ ai,mg x=none) (c_l_divisor:Cal P w K mg base k "_law_divisor" cU):aR P w K mg base CX0 (k + 1) f fd ["_law_table_here"] (spD K jc):=by
 refine fnD F kY hb (by rintro _ _ ⟨_,_,_,_,_,rfl,_⟩; rfl) ?_
 rintro _ _ ⟨R,C,d,v,M,rfl,t,hq,z1,z2,rfl⟩ cdv A outer s H E b
 have nd:=kY.nd
 have r7:=t.r7
 have c7:=t.c7
 refine aw 1 nd (fq af) ?_
 refine A0 1 (c:=.l []) ?_
 refine aw 2 nd ae ?_
 refine a6 3 (g:=λi=>rwQ (M.getD i [])) (λi τ=>i<=M.length/\∃ s3 s4 s5,τ=[.d (tbQ M),.n (nC ((List.range i).map λi=>whR (M.getD i []) (scL (M.getD i [])))),.d (.int (prZ ((M.map scL).take i))),s3,s4,s5]) b nd (aW (aa 0)) (bT (f:=rwQ) (xs:=M) []) ⟨Nat.zero_le _,.un,.un,.un,rfl⟩ (λi hi τ h=>?_) λτ h=>?_
 · obtain ⟨_,s3,s4,s5,rfl⟩:=h
   have hi:i < M.length:=by simpa using hi
   have mi:=a5 (xs:=M) (d:=[]) hi
   have hiR:i < R:=by rw [<- t.len]; exact hi
   have hC:=t.at_ hiR
   have qr:=hq _ mi
   rw [uz hi]
   have et:(M.map scL).take (i + 1)=(M.map scL).take i++[scL (M.getD i [])]:=by
     rw [List.take_succ,List.getElem?_map,List.getElem?_eq_getElem hi]
     simp [hi]
   rw [et,jN]
   have bpr:Bd (1 + R * 8999) (prZ ((M.map scL).take i)):=(oy (d:=8999) λx hx=>by
     obtain ⟨r,hr,rfl⟩:=List.mem_map.mp (List.mem_of_mem_take hx)
     have:=dr (d:=d) (r:=r) λx hx=>(hq r hr x hx).den
     rw [t.row r hr] at this
     exact this.mono z1).mono (by
       have:((M.map scL).take i).length<=R:=by rw [List.length_take,List.length_map,t.len]; omega
       have:=Nat.mul_le_mul_right 8999 this
       omega)
   generalize prZ ((M.map scL).take i)=pr at bpr ⊢
   generalize hg:((List.range i).map λi=>whR (M.getD i []) (scL (M.getD i [])))=Gs
   have lGs:Gs.length=i:=by rw [<- hg]; simp
   generalize M.getD i []=row at mi hC qr ⊢
   refine aw 4 nd ae ?_
   refine a6 5 (g:=λj=>frD (row.getD j 0)) (λj τ=>j<=row.length/\∃ s5,τ=[.d (tbQ M),.n (nC Gs),.d (.int pr),.d (rwQ row),.d (.int (scL (row.take j))),s5]) b nd (aW (aa 3)) (bT (f:=frD) (xs:=row) 0) ⟨Nat.zero_le _,s5,rfl⟩ (λj hj τ h=>?_) λτ h=>?_
   · obtain ⟨_,s5,rfl⟩:=h
     have hj:j < row.length:=by simpa using hj
     have mm:=a5 (d:=(0:Rat)) hj
     have hs:=(dX (row.take j)).1
     have bs:Bd (1 + C * d) (scL (row.take j)):=(dr λx hx=>(qr x (List.mem_of_mem_take hx)).den).mono (by
       have:(row.take j).length * d<=C * d:=Nat.mul_le_mul_right _ (by rw [List.length_take]; omega)
       omega)
     have et:row.take (j + 1)=row.take j++[row.getD j 0]:=by rw [List.take_succ,List.getElem?_eq_getElem hj]; simp [hj]
     rw [et,mG]
     generalize scL (row.take j)=sc at hs bs ⊢
     generalize row.getD j 0=x at mm ⊢
     have hx:=den_pos x
     have sd:=(qr x mm).den
     have dv:aE (Int.gcd sc (x.den:Nat):Int):=(sd.gcd (by omega)).aE (i8 (by omega)) (by omega)
     refine aw 4 nd (ak (ak (aa 4) (aJ (aa 5) ae (aU (aP (i:=1) rfl))) (aO (bs.aB sd (by omega) (by omega)))) (x_call b c_l_divisor (ab (aa 4) (ab (aJ (aa 5) ae (aU (aP (i:=1) rfl))) af)) ⟨_,_,rfl,rfl⟩) (bF dv)) (aH ⟨hj,.d (frD x),?_⟩)
     rw [cH,xM hs]
     rfl
   · obtain ⟨_,s5,rfl⟩:=h
     rw [List.length_map,List.take_length]
     have br:=dr (d:=d) (r:=row) λx hx=>(qr x hx).den
     rw [hC] at br
     refine ze (c:=rwN (whR row (scL row))) (c9 1) (eg (cmp 0 (g:=λj=>frD (row.getD j 0)) (f:=λj=>.int ((row.getD j 0).num * ((scL row).fdiv ((row.getD j 0).den:Nat)))) b (aW (aa 3)) (bT (f:=frD) (xs:=row) 0) (by rw [List.length_map]; omega) λj hj s0 H0 fp=>?_)) rfl rfl ?hx ?_ ?_
     · have sq:=(qr _ (a5 (d:=(0:Rat)) (show j < row.length by simpa using hj))).sq
       generalize row.getD j 0=x at sq ⊢
       have hx:=den_pos x
       have e:(scL row).fdiv (x.den:Nat)=scL row / (x.den:Nat):=Int.fdiv_eq_ediv_of_nonneg _ (by omega)
       exact ak (aJ (aa 0) ae (aU (aP (i:=0) rfl))) (ak (aa 1) (aJ (aa 0) ae (aU (aP (i:=1) rfl))) (bF (sq.den.aE (by omega) (by omega)))) (aO (by rw [e]; exact sq.num.aB (br.ediv _) (by omega) (by omega)))
     case hx=>
       refine congrArg (λl=>some (Nd.l (l.map .d))) ((eI (λx:Rat=>D.int (x.num * ((scL row).fdiv (x.den:Nat)))) row 0 (List.length_map ..)).trans ?_)
       unfold whR
       rw [List.map_map]
       refine List.map_congr_left λx _=>?_
       simp only [Function.comp]
       rw [Int.fdiv_eq_ediv_of_nonneg _ (by have:=den_pos x; omega)]
     · rw [List.length_map,lGs]; omega
     · refine aw 2 nd (ak (aa 2) (aa 4) (aO (bpr.aB br (by omega) (by omega)))) (aH ⟨hi,.d (rwQ row),.d (.int (scL row)),s5,?_⟩)
       unfold nC
       rw [List.map_append]
       rfl
 · obtain ⟨_,s3,s4,s5,rfl⟩:=h
   rw [List.length_map,wZ,List.take_of_length_le (by rw [List.length_map]; exact Nat.le_refl _)]
   exact yU 1 (aa 2) rfl
end
noncomputable def szP (c:Int):List Int:=nums c [8,4,4,7,7]
noncomputable def szR (c:Int):Nat:=(1 + (if (szP c).getD 0 0=1 then (szP c).getD 3 0 else (szP c).getD 1 0)).toNat
noncomputable def szC (c:Int):Nat:=(1 + (if (szP c).getD 0 0=1 then (szP c).getD 4 0 else (szP c).getD 2 0)).toNat
theorem fA (c:Int) {i:Nat} (h:i < 5):0<=(szP c).getD i 0/\(szP c).getD i 0 < [8,4,4,7,7].getD i 0:=cA (c:=c) (bs:=[8,4,4,7,7]) (by decide) h
theorem xk (c:Int):1<=szR c/\szR c<=7/\1<=szC c/\szC c<=7:=by
 have h1:=fA c (i:=1) (by decide)
 have h2:=fA c (i:=2) (by decide)
 have h3:=fA c (i:=3) (by decide)
 have h4:=fA c (i:=4) (by decide)
 have e1:([8,4,4,7,7]:List Int).getD 1 0=4:=rfl
 have e2:([8,4,4,7,7]:List Int).getD 2 0=4:=rfl
 have e3:([8,4,4,7,7]:List Int).getD 3 0=7:=rfl
 have e4:([8,4,4,7,7]:List Int).getD 4 0=7:=rfl
 unfold szR szC
 split <;> omega
noncomputable def jy (ds:List D) (r:Sl):Prop:=∃ c:Int,ds=[.int c]/\r=.d (.tup [.int (szR c:Nat),.int (szC c:Nat)])
section
variable {P:Program} {w:World} {K:PySem.W.Frag} {mg:Str->Option Value} {base:Heap} {k:Nat} {f:Addr} {fd:FuncData} {qual:Str}
theorem rH (F:Fun K "_law_size" qual (top 44) f fd) (hb:∀ x ∈ ai,mg x=none) (c_l_numbers:Cal P w K mg base k "_law_numbers" bR):aR P w K mg base CX0 (k + 1) f fd ["_law_cell_here"] (spD K jy):=by
 refine fnD F kM hb (by rintro _ _ ⟨_,rfl,_⟩; rfl) ?_
 rintro _ _ ⟨c,rfl,rfl⟩ cdv A outer s H E b
 have nd:=kM.nd
 refine aw 1 nd (bh (x_call b c_l_numbers (ab (aa 0) (ab (bh (fq (ab ae (ab ae (ab ae (ab ae (ab ae af))))))) af)) ⟨c,[8,4,4,7,7],rfl,by decide,λx hx=>?_,rfl⟩)) ?_
 · have:0 < x/\x < 9:=by
     simp only [List.mem_cons,List.not_mem_nil,or_false] at hx
     omega
   exact pd this.1 (by omega)
 have ln:(szP c).length=5:=cL c _
 have at_:∀ i:Nat,i < 5->atI ((szP c).map D.int) (i:Int)=some (.int ((szP c).getD i 0)):=λi hi=>atR (by rw [ln]; exact hi)
 have h1:=fA c (i:=1) (by decide)
 have h2:=fA c (i:=2) (by decide)
 have h3:=fA c (i:=3) (by decide)
 have h4:=fA c (i:=4) (by decide)
 refine cK (aZ (aJ (aa 1) ae (aS (at_ 0 (by decide)))) ae gf) (λh=>?_) λh=>?_
 · refine aI (cf (ab (ak ae (aJ (aa 1) ae (aS (at_ 3 (by decide)))) aT) (ab (ak ae (aJ (aa 1) ae (aS (at_ 4 (by decide)))) aT) af))) ?_
   have h:=of_decide_eq_true h
   have e1:((szR c:Nat):Int)=1 + (szP c).getD 3 0:=by unfold szR; rw [if_pos h]; omega
   have e2:((szC c:Nat):Int)=1 + (szP c).getD 4 0:=by unfold szC; rw [if_pos h]; omega
   rw [e1,e2]
 · refine aI (cf (ab (ak ae (aJ (aa 1) ae (aS (at_ 1 (by decide)))) aT) (ab (ak ae (aJ (aa 1) ae (aS (at_ 2 (by decide)))) aT) af))) ?_
   have h:=of_decide_eq_false h
   have e1:((szR c:Nat):Int)=1 + (szP c).getD 1 0:=by unfold szR; rw [if_neg h]; omega
   have e2:((szC c:Nat):Int)=1 + (szP c).getD 2 0:=by unfold szC; rw [if_neg h]; omega
   rw [e1,e2]
end
noncomputable def tlB (kd:Nat):Int:=if kd=0 then 114 else if kd=1 then 5 else if kd=2 then 60 else 2 * 10 ^ 40 * 10 ^ 40
noncomputable def tlP (c:Int) (n kd:Nat):List Int:=nums c (List.replicate n (tlB kd))
noncomputable def tlM (c:Int) (R C kd:Nat):List (List Rat):=(List.range R).map λi=>(List.range C).map λj=>nmQ kd ((tlP c (R * C) kd).getD (C * i + j) 0)
theorem Au {kd:Nat} (h:kd < 4):atI [D.int 114,.int 5,.int 60,.int (2 * 10 ^ 40 * 10 ^ 40)] (kd:Int)=some (.int (tlB kd)):=by
 rcases (by omega:kd=0\/kd=1\/kd=2\/kd=3) with rfl | rfl | rfl | rfl <;> rfl
theorem yC {kd:Nat}:0 < tlB kd/\aE (tlB kd):=by
 unfold tlB
 split
 · exact pd (by decide) (by decide)
 · split
   · exact pd (by decide) (by decide)
   · split
     · exact pd (by decide) (by decide)
     · exact ⟨by decide,(show Bd 280 ((2:Int) * 10 ^ 40 * 10 ^ 40) by unfold Bd; decide +kernel).aE (by decide) (by decide)⟩
noncomputable def ie (ds:List D) (r:Sl):Prop:=∃ (c:Int) (R C kd:Nat),ds=[.int c,.int (R:Nat),.int (C:Nat),.int (kd:Nat)]/\R<=7/\C<=7/\kd < 4/\r=.n (cb (tlM c R C kd))
section
variable {P:Program} {w:World} {K:PySem.W.Frag} {mg:Str->Option Value} {base:Heap} {k:Nat} {f:Addr} {fd:FuncData} {qual:Str}
set_option maxHeartbeats 4000000 in
theorem pB (F:Fun K "_law_table" qual (top 43) f fd) (hb:∀ x ∈ ai,mg x=none) (c_l_numbers:Cal P w K mg base k "_law_numbers" bR) (c_l_number:Cal P w K mg base k "_law_number" fV):aR P w K mg base CX0 (k + 1) f fd ["_law_cell_here","_law_many","_law_wide","_law_kind"] (spD K ie):=by
 refine fnD F jI hb (by rintro _ _ ⟨_,_,_,_,rfl,_⟩; rfl) ?_
 rintro _ _ ⟨c,R,C,kd,rfl,r7,c7,k4,rfl⟩ cdv A outer s H E b
 have nd:=jI.nd
 have rc:R * C<=49:=Nat.mul_le_mul r7 c7
 have eRC:(R:Int) * (C:Int)=((R * C:Nat):Int):=by rw [Int.natCast_mul]
 refine aw 4 nd (aJ (bh (fq (ab ae (ab ae (ab ae (ab (ak (ak ae (ak ae ae (kz ⟨by decide,by decide,by decide⟩)) (aO (mkL (by decide)))) (ak ae ae (kz ⟨by decide,by decide,by decide⟩)) (aO m40)) af)))))) (aa 3) (aS (Au k4))) ?_
 refine aw 5 nd (bh (x_call b c_l_numbers (ab (aa 0) (ab (bh (eg (cmp 0 (f:=λ_=>.int (tlB kd)) b (cy (n:=((R * C:Nat):Int)) b (by rw [<- eRC]; exact ak (aa 1) (aa 2) (aO (mkL (by omega)))) (by omega) (by omega)) cv (by rw [aq]; omega) λi hi s0 H0 fp=>(aa 1)))) af)) ⟨c,List.replicate (R * C) (tlB kd),?_,?_,?_,rfl⟩)) ?_
 · rw [aq,Int.toNat_natCast,List.map_replicate]
   refine congrArg (λl=>[D.int c,D.lst l]) (List.ext_getElem (by simp) λi h1 h2=>by simp)
 · rw [List.length_replicate]; omega
 · intro x hx
   rw [(List.mem_replicate.mp hx).2]
   exact yC
 have lp:(tlP c (R * C) kd).length=R * C:=by unfold tlP; rw [cL,List.length_replicate]
 refine aI (A9 (zZ 0 (f:=λi=>.l ((((List.range C).map λj=>nmQ kd ((tlP c (R * C) kd).getD (C * i + j) 0)).map frD).map .d)) b (cy b (aa 1) (by omega) (by omega)) cv (by rw [aq]; omega) (λi hi s0 H0 fp=>eg (cmp 0 (f:=λj=>frD (nmQ kd ((tlP c (R * C) kd).getD (C * i + j) 0))) (b.comp s0 H0 _ fp) (cy (b.comp s0 H0 _ fp) (aa 3) (by omega) (by omega)) cv (by rw [aq]; omega) λj hj s1 H1 fp1=>?_)) λi hi=>?_)) ?_
 · rw [aq,Int.toNat_natCast] at hi
   rw [aq,Int.toNat_natCast] at hj
   have h1:C * i + j < R * C:=by
     have:C * (i + 1)<=C * R:=Nat.mul_le_mul_left _ (by omega)
     rw [Nat.mul_succ,Nat.mul_comm C R] at this
     omega
   have e:(C:Int) * (i:Int) + (j:Int)=((C * i + j:Nat):Int):=by rw [Int.natCast_add,Int.natCast_mul]
   refine x_call ((b.comp s0 H0 _ fp).comp s1 H1 _ fp1) c_l_number (ab (aa 2) (ab (aJ (aa 3) (ak (ak (aa 4) (aa 1) (aO (mkL (by omega)))) (aa 0) aT) (aS ?_)) af)) ⟨kd,_,rfl,k4,rfl⟩
   rw [e]
   exact atR (show C * i + j < (tlP c (R * C) kd).length by rw [lp]; exact h1)
 · refine congrArg (λl:List D=>some (Nd.l (l.map .d))) ?_
   rw [aq,Int.toNat_natCast,List.map_map]
   rfl
 · unfold tlM cb
   rw [aq,Int.toNat_natCast,List.map_map]
   rfl
end
noncomputable def sV (M:List (List Rat)) (i j:Nat) (q:Rat):List (List Rat):=M.set i ((M.getD i []).set j q)
theorem vZ {M:List (List Rat)} {i:Nat} (hi:i < M.length):eF [i] (cb M)=some (.l (((M.getD i []).map frD).map .d)):=by
 unfold cb
 rw [eF,List.getElem?_map,List.getElem?_eq_getElem hi]
 simp [eF,hi]
theorem lS {M:List (List Rat)} {i j:Nat} {q:Rat}:cN [i] (cb M) (.l ((((M.getD i []).map frD).set j (frD q)).map .d))=cb (sV M i j q):=by
 unfold cb sV
 simp only [List.map_set]
 rfl
theorem tD {M:List (List Rat)} {i j:Nat} (hi:i < M.length) (hj:j < (M.getD i []).length):eF [i,j] (cb M)=some (.d (frD ((M.getD i []).getD j 0))):=by
 unfold cb
 rw [eF,List.getElem?_map,List.getElem?_eq_getElem hi]
 have e:(M.getD i [])=M[i]:=by simp [hi]
 rw [e] at hj ⊢
 simp only [Option.map_some,Option.bind_some,eF,List.getElem?_map,List.getElem?_eq_getElem hj]
 simp [hj]
noncomputable def mkT (R C:Nat) (G:Nat->Nat->Rat):List (List Rat):=(List.range R).map λi=>(List.range C).map (G i)
noncomputable def thW (j c:Nat) (G:Nat->Nat->Rat) (i a:Nat):Rat:=G i a + G i c * G j a / G j c
noncomputable def thS (j c:Nat) (G:Nat->Nat->Rat):Nat->Nat->Rat:=λi a=>if i < j/\a < c/\G j c ≠ 0 then thW j c G i a else G i a
noncomputable def thK (C:Nat) (G:Nat->Nat->Rat):Nat->Nat->Nat->Rat
 | 0=>G
 | k + 1=>thS (k / C) (k % C) (thK C G k)
noncomputable def thP (j c i a:Nat) (G:Nat->Nat->Rat):Nat->Nat->Rat:=λx y=>if x < i/\y < c\/x=i/\y < a then thW j c G x y else G x y
theorem cB (R C:Nat) (G:Nat->Nat->Rat):(mkT R C G).length=R:=by simp [mkT]
theorem fE {R C i:Nat} {G:Nat->Nat->Rat} (hi:i < R):(mkT R C G).getD i []=(List.range C).map (G i):=by simp [mkT,hi]
theorem zr {R C i j:Nat} {G:Nat->Nat->Rat} (hi:i < R) (hj:j < C):((mkT R C G).getD i []).getD j 0=G i j:=by rw [fE hi]; simp [hj]
theorem rY {R C:Nat} {G H:Nat->Nat->Rat} (h:∀ i,i < R->∀ j,j < C->G i j=H i j):mkT R C G=mkT R C H:=by
 unfold mkT
 refine List.map_congr_left λi hi=>List.map_congr_left λj hj=>h i (List.mem_range.mp hi) j (List.mem_range.mp hj)
theorem nZ {R C:Nat} {G:Nat->Nat->Rat} (r1:1<=R) (r7:R<=7) (c1:1<=C) (c7:C<=7):Tq R C (mkT R C G):=⟨r1,r7,c1,c7,cB R C G,λr hr=>by
 unfold mkT at hr
 obtain ⟨i,_,rfl⟩:=List.mem_map.mp hr
 simp⟩
theorem lh {R C i j:Nat} {G:Nat->Nat->Rat} {q:Rat} (hi:i < R):sV (mkT R C G) i j q=mkT R C λx y=>if x=i/\y=j then q else G x y:=by
 unfold sV
 rw [fE hi]
 unfold mkT
 refine List.ext_getElem (by simp) λx h1 h2=>?_
 rw [List.getElem_set]
 by_cases e:i=x
 · subst e
   rw [if_pos rfl]
   simp only [List.getElem_map,List.getElem_range]
   refine List.ext_getElem (by simp) λy h3 h4=>?_
   rw [List.getElem_set]
   simp only [List.getElem_map,List.getElem_range,true_and]
   by_cases e:j=y
   · rw [if_pos e,if_pos e.symm]
   · rw [if_neg e,if_neg λz=>e z.symm]
 · rw [if_neg e]
   simp only [List.getElem_map,List.getElem_range]
   refine List.map_congr_left λy _=>?_
   rw [if_neg λz=>e z.1.symm]
theorem AN (j c:Nat) (G:Nat->Nat->Rat):thP j c 0 0 G=G:=by
 funext x y
 unfold thP
 rw [if_neg (by omega)]
theorem wJ (j c i:Nat) (G:Nat->Nat->Rat):thP j c i c G=thP j c (i + 1) 0 G:=by
 funext x y
 unfold thP
 by_cases h:x < i/\y < c\/x=i/\y < c
 · rw [if_pos h,if_pos (by omega)]
 · rw [if_neg h,if_neg (by omega)]
theorem vo {j c:Nat} {G:Nat->Nat->Rat} (h0:G j c ≠ 0):thP j c j 0 G=thS j c G:=by
 funext x y
 unfold thP thS
 by_cases h:x < j/\y < c
 · rw [if_pos (.inl h),if_pos ⟨h.1,h.2,h0⟩]
 · rw [if_neg (by omega),if_neg λz=>h ⟨z.1,z.2.1⟩]
theorem xS {j c:Nat} {G:Nat->Nat->Rat} (h0:G j c=0):thS j c G=G:=by
 funext x y
 unfold thS
 rw [if_neg λz=>z.2.2 h0]
theorem wK {R C j c i a:Nat} {G:Nat->Nat->Rat} (hi:i < R):sV (mkT R C (thP j c i a G)) i a (thW j c G i a)=mkT R C (thP j c i (a + 1) G):=by
 rw [lh hi]
 refine rY λx _ y _=>?_
 unfold thP
 by_cases e:x=i/\y=a
 · rw [if_pos e,if_pos (.inr ⟨e.1,by omega⟩),e.1,e.2]
 · rw [if_neg e]
   by_cases h:x < i/\y < c\/x=i/\y < a
   · rw [if_pos h,if_pos (by omega)]
   · rw [if_neg h,if_neg (by omega)]
theorem yk {j c i a:Nat} {G:Nat->Nat->Rat} (ha:a < c):thP j c i a G i c=G i c:=by
 unfold thP
 rw [if_neg (by omega)]
theorem xj {j c i a y:Nat} {G:Nat->Nat->Rat} (hi:i < j):thP j c i a G j y=G j y:=by
 unfold thP
 rw [if_neg (by omega)]
theorem ye {j c i a:Nat} {G:Nat->Nat->Rat}:thP j c i a G i a=G i a:=by
 unfold thP
 rw [if_neg (by omega)]
noncomputable def Cq (w d m:Nat) (r:Nat->Rat):Prop:=∃ D:Int,0 < D/\D.natAbs<=2 ^ d/\∀ a < w,∃ z:Int,(z:Rat)=r a * (D:Rat)/\z.natAbs<=2 ^ m
theorem iW {i j:Int} {a b:Nat} (p:i.natAbs<=2 ^ a) (q:j.natAbs<=2 ^ b):(i * j).natAbs<=2 ^ (a + b):=by rw [Int.natAbs_mul,Nat.pow_add]; exact Nat.mul_le_mul p q
section
variable {w d m e u b:Nat} {r p:Nat->Rat}
theorem Cq.qs {a:Nat} (h:Cq w d m r) (ha:a < w):Qs (d + 1) m (r a):=by
 obtain ⟨D,h0,h1,h⟩:=h
 obtain ⟨z,hz,h2⟩:=h a ha
 refine Qs.of h0 hz ?_ h2
 unfold Bd
 rw [Nat.pow_succ]
 have:=Nat.two_pow_pos d
 omega
theorem Cq.mono {d' m':Nat} (h:Cq w d m r) (h1:d<=d') (h2:m<=m'):Cq w d' m' r:=by
 obtain ⟨D,g0,g1,g⟩:=h
 refine ⟨D,g0,Nat.le_trans g1 (Nat.pow_le_pow_right (by decide) h1),λa ha=>?_⟩
 obtain ⟨z,hz,h3⟩:=g a ha
 exact ⟨z,hz,Nat.le_trans h3 (Nat.pow_le_pow_right (by decide) h2)⟩
theorem Cq.step (hr:Cq w d m r) (hp:Cq w e u p) (hb:b < w) (h0:p b ≠ 0):Cq w (d + u) (m + u + 1) λa=>if a < b then r a + r b * p a / p b else r a:=by
 obtain ⟨D,d0,d1,g⟩:=hr
 obtain ⟨E,e0,e1,f⟩:=hp
 obtain ⟨q,hq,q1⟩:=f b hb
 obtain ⟨zb,hzb,zb1⟩:=g b hb
 have qn:q ≠ 0:=by
   intro z
   subst z
   rcases Rat.mul_eq_zero.mp (show p b * (E:Rat)=0 from hq.symm) with z | z
   · exact h0 z
   · exact ju e0 z
 have cn:=Rat.inv_mul_cancel (p b) h0
 obtain ⟨σ,hσ,hc⟩:∃ σ:Int,(σ=1\/σ=-1)/\0 < q * σ:=by
   rcases Int.lt_or_lt_of_ne qn with z | z
   · exact ⟨-1,.inr rfl,by omega⟩
   · exact ⟨1,.inl rfl,by omega⟩
 have σ1:σ.natAbs=1:=by rcases hσ with rfl | rfl <;> rfl
 have cl:(q * σ).natAbs<=2 ^ u:=by rw [Int.natAbs_mul,σ1,Nat.mul_one]; exact q1
 refine ⟨D * (q * σ),Int.mul_pos d0 hc,iW d1 cl,λa ha=>?_⟩
 obtain ⟨za,hza,za1⟩:=g a ha
 simp only
 by_cases h:a < b
 · obtain ⟨qa,hqa,qa1⟩:=f a ha
   refine ⟨za * (q * σ) + zb * (qa * σ),?_,?_⟩
   · rw [if_pos h,Rat.div_def]
     simp only [Rat.intCast_mul,Rat.intCast_add]
     rw [hza,hzb,hqa,hq]
     grind
   · refine Nat.le_trans (Int.natAbs_add_le _ _) ?_
     rw [Nat.pow_succ,Nat.mul_two]
     exact Nat.add_le_add (iW za1 cl) (iW zb1 (by rw [Int.natAbs_mul,σ1,Nat.mul_one]; exact qa1))
 · refine ⟨za * (q * σ),?_,Nat.le_trans (iW za1 cl) (Nat.pow_le_pow_right (by decide) (by omega))⟩
   rw [if_neg h]
   simp only [Rat.intCast_mul]
   rw [hza]
   grind
end
noncomputable def thN (C:Nat):Nat->Nat
 | 0=>0
 | k + 1=>thN C k + if 0 < k / C/\0 < k % C then 1 else 0
theorem wR:∀ R,R < 8->∀ C,C < 8->∀ k,k < R * C + 1->thN C k<=(R - 1) * (C - 1):=by decide +kernel
section
variable {R C d m e u:Nat} {G:Nat->Nat->Rat}
theorem pZ:∀ (k i:Nat),k / C<=i->thK C G k i=G i
 | 0,_,_=>rfl
 | k + 1,i,h=>by
   have h1:k / C<=(k + 1) / C:=Nat.div_le_div_right (Nat.le_succ k)
   have ih:=pZ k i (Nat.le_trans h1 h)
   rw [<- ih]
   funext a
   show thS (k / C) (k % C) (thK C G k) i a=_
   unfold thS
   rw [if_neg (by omega)]
theorem sZ (hc:0 < C) (hp:∀ i < R,Cq C e u (G i)) (hG:∀ i < R,Cq C d m (G i)):∀ k,k<=R * C->∀ i < R,Cq C (d + u * thN C k) (m + (u + 1) * thN C k) (thK C G k i)
 | 0,_,i,hi=>hG i hi
 | k + 1,hk,i,hi=>by
   have ih:=sZ hc hp hG k (by omega) i hi
   have hj:k / C < R:=Nat.div_lt_of_lt_mul (by rw [Nat.mul_comm]; omega)
   have row:thK C G k (k / C)=G (k / C):=pZ k _ (Nat.le_refl _)
   have hb:k % C < C:=Nat.mod_lt _ hc
   show Cq C _ _ (thS (k / C) (k % C) (thK C G k) i)
   by_cases q:i < k / C/\0 < k % C/\thK C G k (k / C) (k % C) ≠ 0
   · have z:0 < k / C/\0 < k % C:=⟨by omega,q.2.1⟩
     have e1:thN C (k + 1)=thN C k + 1:=by show thN C k + _=_; rw [if_pos z]
     have:=ih.step (p:=thK C G k (k / C)) (by rw [row]; exact hp _ hj) hb q.2.2
     have e2:thS (k / C) (k % C) (thK C G k) i=λa=>if a < k % C then thK C G k i a + thK C G k i (k % C) * thK C G k (k / C) a / thK C G k (k / C) (k % C) else thK C G k i a:=by
       funext a
       unfold thS thW
       by_cases z:a < k % C
       · rw [if_pos ⟨q.1,z,q.2.2⟩,if_pos z]
       · rw [if_neg λy=>z y.2.1,if_neg z]
     rw [e1,e2]
     exact this.mono (by rw [Nat.mul_add]; omega) (by rw [Nat.mul_add]; omega)
   · have e2:thS (k / C) (k % C) (thK C G k) i=thK C G k i:=by
       funext a
       unfold thS
       rw [if_neg λy=>q ⟨y.1,by omega,y.2.2⟩]
     rw [e2]
     have:thN C k<=thN C (k + 1):=Nat.le_add_right ..
     exact ih.mono (Nat.add_le_add_left (Nat.mul_le_mul_left _ this) _) (Nat.add_le_add_left (Nat.mul_le_mul_left _ this) _)
end
theorem Sq.part {n:Nat} {p q t:Rat} (h:t ≠ 0) (sp:Sq n p) (sq:Sq n q) (st:Sq n t):Sq (n + n + n) (p * q / t):=by
 have e:=qS (p:=p) (q:=q) h
 have h1:=den_pos p
 have h2:=den_pos q
 have h3:t.num ≠ 0:=λz=>h (Rat.num_eq_zero.mp z)
 have b1:=(sp.1.mul sq.1).mul st.2
 have b2:=(sp.2.mul sq.2).mul st.1
 have b0:((p.den:Nat):Int) * (q.den:Nat) * t.num ≠ 0:=Int.mul_ne_zero (Int.mul_ne_zero (by omega) (by omega)) h3
 generalize p.num * q.num * ((t.den:Nat):Int)=u at e b1
 generalize ((p.den:Nat):Int) * ((q.den:Nat):Int) * t.num=v at e b2 b0
 rcases Int.lt_or_lt_of_ne b0 with z | z
 · exact Sq.ft (t:=-u) (b:=-v) (by omega) (by rw [Rat.intCast_neg,Rat.intCast_neg,e,Rat.mul_neg]) b1.neg b2.neg
 · exact Sq.ft z e b1 b2
theorem eE {R C i:Nat} {G:Nat->Nat->Rat} (hi:i < R):ixN ((mkT R C G).map λr=>Nd.l ((r.map frD).map .d)).length (i:Int)=some i:=by rw [List.length_map,cB]; exact pS hi
theorem hU {R C i j:Nat} {G:Nat->Nat->Rat} (hi:i < R) (hj:j < C):ixN ((((mkT R C G).getD i []).map frD).map Nd.d).length (j:Int)=some j:=by
 rw [List.length_map,List.length_map,fE hi,List.length_map,List.length_range]
 exact pS hj
theorem me {R C i j:Nat} {G:Nat->Nat->Rat} (hi:i < R) (hj:j < C):ixN (((mkT R C G).getD i []).map frD).length (j:Int)=some j:=by
 rw [List.length_map,fE hi,List.length_map,List.length_range]
 exact pS hj
theorem cD {R C i:Nat} {G:Nat->Nat->Rat} (hi:i < R):eF [i] (cb (mkT R C G))=some (.l ((((mkT R C G).getD i []).map frD).map .d)):=vZ (by rw [cB]; exact hi)
theorem dM {R C i j:Nat} {G:Nat->Nat->Rat} {q:Rat} (hi:i < R) (hj:j < C) (e:G i j=q):eF [i,j] (cb (mkT R C G))=some (.d (frD q)):=by
 rw [tD (by rw [cB]; exact hi) (by rw [fE hi,List.length_map,List.length_range]; exact hj),zr hi hj,e]
noncomputable def plD (C k:Nat):D:=.tup [.int ((k / C:Nat):Int),.int ((k % C:Nat):Int)]
section
variable {P:Program} {w:World} {K:PySem.W.Frag} {mg:Str->Option Value} {base:Heap} {k:Nat} {f:Addr} {fd:FuncData} {qual:Str}
end
noncomputable def gc (ds:List D) (r:Sl):Prop:=∃ (R C d m:Nat) (G:Nat->Nat->Rat),ds=[tbQ (mkT R C G),.lst ((List.range (R * C)).map (plD C)),.int 1]/\1<=R/\R<=7/\1<=C/\C<=7/\(∀ k,k<=R * C->∀ i < R,Cq C d m (thK C G k i))/\m + (d + 1)<=900/\r=.n (cb (mkT R C (thK C G (R * C))))
noncomputable def acS (R C:Nat) (G H:Nat->Nat->Rat) (s4 s5 s6 s7 s8:Sl):List Sl:=[.d (tbQ (mkT R C G)),.d (.lst ((List.range (R * C)).map (plD C))),.d (.int 1),.n (cb (mkT R C H)),s4,s5,s6,s7,s8]
noncomputable def gb (ds:List D) (r:Sl):Prop:=∃ (R C:Nat) (M:List (List Rat)),ds=[tbQ M]/\Tq R C M/\r=.o ((List.range (R * C)).map (plD C))
noncomputable def iu (ds:List D) (r:Sl):Prop:=∃ (R C d m:Nat) (G:Nat->Nat->Rat),ds=[tbQ (mkT R C G)]/\1<=R/\R<=7/\1<=C/\C<=7/\(∀ k,k<=R * C->∀ i < R,Cq C d m (thK C G k i))/\m + (d + 1)<=900/\r=.n (cb (mkT R C (thK C G (R * C))))
section
variable {P:Program} {w:World} {K:PySem.W.Frag} {mg:Str->Option Value} {base:Heap} {k:Nat} {f:Addr} {fd:FuncData} {qual:Str}
set_option maxHeartbeats 4000000 in
theorem nL (F:Fun K "_law_across" qual (top 51) f fd) (hb:∀ x ∈ ai,mg x=none) (c_l_part:Cal P w K mg base k "_law_part" jR) (c_l_plus:Cal P w K mg base k "_law_plus" jV):aR P w K mg base CX0 (k + 1) f fd ["_law_table_here","_law_places_here","_law_sign"] (spD K gc):=by
 refine fnD F iD hb (by rintro _ _ ⟨_,_,_,_,_,rfl,_⟩; rfl) ?_
 rintro _ _ ⟨R,C,d,m,G,rfl,r1,r7,c1,c7,cq,hz,rfl⟩ cdv A outer s H E b
 have nd:=iD.nd
 have rc:R * C<=49:=Nat.mul_le_mul r7 c7
 refine wo 3 nd (ns:=(List.range ((mkT R C G).map rwQ).length).map λi=>.l ((((mkT R C G).getD i []).map frD).map .d)) (zZ 0 (g:=λi=>rwQ ((mkT R C G).getD i [])) (f:=λi=>.l ((((mkT R C G).getD i []).map frD).map .d)) b (aW (aa 0)) (bT (f:=rwQ) (xs:=mkT R C G) []) (by rw [List.length_map,cB]; omega) (λi hi s0 H0 fp=>o9 (b.comp s0 H0 _ fp) (ab (aa 0) af) oF) λi hi=>rfl) ?_
 rw [show (List.range ((mkT R C G).map rwQ).length).map (λi=>Nd.l ((((mkT R C G).getD i []).map frD).map .d))=(mkT R C G).map (λr=>Nd.l ((r.map frD).map .d)) from ur (λr:List Rat=>Nd.l ((r.map frD).map .d)) (mkT R C G) [] (List.length_map ..)]
 have lnP:((List.range (R * C)).map (plD C)).length=R * C:=by rw [List.length_map,List.length_range]
 refine tY 4 5 (g:=λk=>.int ((k / C:Nat):Int)) (g':=λk=>.int ((k % C:Nat):Int)) (λk τ=>∃ s4 s5 s6 s7 s8,τ=acS R C G (thK C G k) s4 s5 s6 s7 s8) b nd (aW (aa 1)) (λi h=>by rw [List.getElem_map,List.getElem_range]; rfl) ⟨_,_,_,_,_,rfl⟩ (λkk hk τ h=>?_) λτ h=>?_
 · obtain ⟨s4,s5,s6,s7,s8,rfl⟩:=h
   rw [lnP] at hk
   have cqk:=cq kk (by omega)
   show PSs _ _ (dS K (acS R C G (thK C G kk) (.d (.int ((kk / C:Nat):Int))) (.d (.int ((kk % C:Nat):Int))) s6 s7 s8) _)
   have eK:thK C G (kk + 1)=thS (kk / C) (kk % C) (thK C G kk):=rfl
   rw [eK]
   have hj:kk / C < R:=Nat.div_lt_of_lt_mul (by rw [Nat.mul_comm]; omega)
   have hc:kk % C < C:=Nat.mod_lt _ c1
   generalize thK C G kk=V at cqk ⊢
   generalize kk / C=j at hj ⊢
   generalize kk % C=c at hc ⊢
   have sz:∀ i,i < R->∀ a,a < C->Sq 900 (V i a):=λi hi a ha=>((cqk i hi).qs ha).sq.mono hz
   refine iR (M:=λτ=>∃ s6 s7 s8,τ=acS R C G (thS j c V) (.d (.int (j:Nat))) (.d (.int (c:Nat))) s6 s7 s8) (aZ (aJ (rn (cQ (cQ (c9 3) (aa 4) rfl rfl (eE hj)) (aa 5) rfl (cD hj) (hU hj hc)) rfl (dM hj hc rfl)) ae (aU (aP (i:=0) rfl))) ae vh) (λh=>?_) (λh=>?_) λτ h=>?_
   · have h0:V j c ≠ 0:=λz=>by
       rw [z] at h
       exact absurd h (by decide)
     refine a6 6 (λi τ=>∃ s6 s7 s8,τ=acS R C G (thP j c i 0 V) (.d (.int (j:Nat))) (.d (.int (c:Nat))) s6 s7 s8) b nd (cy b (aa 4) (by omega) (by omega)) cv ⟨s6,s7,s8,by rw [AN]⟩ (λi hi τ h=>?_) λτ h=>?_
     · obtain ⟨t6,t7,t8,rfl⟩:=h
       have hi:i < j:=by rw [aq] at hi; omega
       have hiR:i < R:=by omega
       refine a6 7 (λa τ=>a<=c/\∃ s7 s8,τ=acS R C G (thP j c i a V) (.d (.int (j:Nat))) (.d (.int (c:Nat))) (.d (.int (i:Nat))) s7 s8) b nd (cy b (aa 5) (by omega) (by omega)) cv ⟨by omega,t7,t8,rfl⟩ (λa ha τ h=>?_) λτ h=>?_
       · obtain ⟨_,u7,u8,rfl⟩:=h
         have ha:a < c:=by rw [aq] at ha; omega
         have haC:a < C:=by omega
         refine aw 8 nd (x_call b c_l_part (ab (rn (cQ (cQ (c9 3) (aa 6) rfl rfl (eE hiR)) (aa 5) rfl (cD hiR) (hU hiR hc)) rfl (dM hiR hc (yk ha))) (ab (rn (cQ (cQ (c9 3) (aa 4) rfl rfl (eE hj)) (aa 7) rfl (cD hj) (hU hj haC)) rfl (dM hj haC (xj hi))) (ab (rn (cQ (cQ (c9 3) (aa 4) rfl rfl (eE hj)) (aa 5) rfl (cD hj) (hU hj hc)) rfl (dM hj hc (xj hi))) af))) ⟨V i c,V j a,V j c,rfl,h0,(sz i hiR c hc).mono (by decide),(sz j hj a haC).mono (by decide),(sz j hj c hc).mono (by decide),rfl⟩) ?_
         have sp:=Sq.part h0 (sz i hiR c hc) (sz j hj a haC) (sz j hj c hc)
         refine oT (pt:=[]++[i]) (t:=cb (mkT R C (thP j c i a V))) (ds:=((mkT R C (thP j c i a V)).getD i []).map frD) (j:=a) (x:=frD (thW j c V i a)) (cQ (c9 3) (aa 6) rfl rfl (eE hiR)) (aa 7) (x_call b c_l_plus (ab (rn (cQ (cQ (c9 3) (aa 6) rfl rfl (eE hiR)) (aa 7) rfl (cD hiR) (hU hiR haC)) rfl (dM hiR haC ye)) (ab (cf (ab (ak (aa 2) (aJ (aa 8) ae (aU (aP (i:=0) rfl))) (aO (mkL (by decide)))) (ab (aJ (aa 8) ae (aU (aP (i:=1) rfl))) af))) af)) ⟨900,2700,V i a,V i c * V j a / V j c,by rw [Int.one_mul]; rfl,sz i hiR a haC,sp,by decide,rfl⟩) rfl (cD hiR) (me hiR haC) (aH ?_)
         refine ⟨by omega,.d (.int (a:Nat)),.d (frD (V i c * V j a / V j c)),?_⟩
         show (acS R C G _ _ _ _ _ _).set 3 (Sl.n (cN [i] (cb (mkT R C (thP j c i a V))) _))=_
         rw [lS,wK hiR]
         rfl
       · obtain ⟨_,u7,u8,rfl⟩:=h
         rw [aq,Int.toNat_natCast,wJ]
         exact aH ⟨_,_,_,rfl⟩
     · obtain ⟨t6,t7,t8,rfl⟩:=h
       rw [aq,Int.toNat_natCast,vo h0]
       exact aH ⟨_,_,_,rfl⟩
   · have h0:V j c=0:=by
       have:(V j c).num=0:=by simpa using h
       exact Rat.num_eq_zero.mp this
     rw [xS h0]
     exact aH ⟨_,_,_,rfl⟩
   · obtain ⟨_,_,_,rfl⟩:=h
     exact aH ⟨_,_,_,_,_,rfl⟩
 · obtain ⟨s4,s5,s6,s7,s8,rfl⟩:=h
   rw [lnP]
   exact l9 3 rfl
theorem nM (F:Fun K "_law_places" qual (top 52) f fd) (hb:∀ x ∈ ai,mg x=none):aR P w K mg base CX0 (k + 1) f fd ["_law_table_here"] (spD K gb):=by
 refine fnD F iG hb (by rintro _ _ ⟨_,_,_,rfl,_⟩; rfl) ?_
 rintro _ _ ⟨R,C,M,rfl,t,rfl⟩ cdv A outer s H E b
 have nd:=iG.nd
 have r1:=t.r1
 have c1:=t.c1
 have r7:=t.r7
 have c7:=t.c7
 have rc:R * C<=49:=Nat.mul_le_mul r7 c7
 have e0:atI (M.map rwQ) 0=some (rwQ (M.getD 0 [])):=eP [] (i:=0) (by rw [t.len]; omega)
 have eRC:(R:Int) * (C:Int)=((R * C:Nat):Int):=by rw [Int.natCast_mul]
 refine aw 1 nd (bo b (ab (aJ (aa 0) ae (aS e0)) af) (eR (n:=C) (by rw [List.length_map]; exact t.at_ (by omega)))) ?_
 refine aI (eg (cmp 0 (f:=plD C) b (cy (n:=((R * C:Nat):Int)) b (by rw [<- eRC]; exact ak (bo b (ab (aa 0) af) (eR (n:=R) (by rw [List.length_map]; exact t.len))) (aa 1) (aO (mkR (by omega)))) (by omega) (by omega)) cv (by rw [aq]; omega) λi hi s0 H0 fp=>?_)) ?_
 · have e1:((i:Nat):Int).fdiv (C:Int)=((i / C:Nat):Int):=by rw [Int.fdiv_eq_ediv_of_nonneg _ (by omega)]; rfl
   have e2:((i:Nat):Int).fmod (C:Int)=((i % C:Nat):Int):=by rw [Int.fmod_eq_emod_of_nonneg _ (by omega)]; rfl
   unfold plD
   rw [<- e1,<- e2]
   exact cf (ab (ak (aa 0) (aa 1) (bF (mkD (by omega) (by omega)))) (ab (ak (aa 0) (aa 1) (bK (by omega))) af))
 · rw [aq,Int.toNat_natCast]
theorem oQ (F:Fun K "_law_thick" qual (top 53) f fd) (hb:∀ x ∈ ai,mg x=none) (c_l_across:Cal P w K mg base k "_law_across" gc) (c_l_places:Cal P w K mg base k "_law_places" gb):aR P w K mg base CX0 (k + 1) f fd ["_law_table_here"] (spD K iu):=by
 refine fnD F oe hb (by rintro _ _ ⟨_,_,_,_,_,rfl,_⟩; rfl) ?_
 rintro _ _ ⟨R,C,d,m,G,rfl,r1,r7,c1,c7,cq,hz,rfl⟩ cdv A outer s H E b
 exact aI (x_call b c_l_across (ab (aa 0) (ab (bh (x_call b c_l_places (ab (aa 0) af) ⟨R,C,mkT R C G,rfl,nZ r1 r7 c1 c7,rfl⟩)) (ab ae af))) ⟨R,C,d,m,G,rfl,r1,r7,c1,c7,cq,hz,rfl⟩) rfl
end
theorem yp (i:Int):frD (i:Rat)=.tup [.int i,.int 1]:=by
 unfold frD
 rw [Rat.num_intCast,Rat.den_intCast]
 rfl
noncomputable def soQ (p:Int):Rat:=((1 + p.fmod 9:Int):Rat) / ((1 + p.fdiv 9:Int):Rat)
noncomputable def soT (p:Int):Rat:=((1 + p.fmod 3:Int):Rat)
noncomputable def soP (c:Int) (n:Nat):List Int:=nums c (List.replicate n 54)
noncomputable def soN (c:Int) (R C:Nat):List Int:=nums c [4,(R:Int),(C:Int),19]
noncomputable def soE (big:Bool) (p:Int):Rat:=if big then soT p else soQ p
noncomputable def soG (big:Bool) (ps:List Int) (C:Nat):Nat->Nat->Rat:=λi j=>soE big (ps.getD (C * i + j) 0)
noncomputable def soU (G:Nat->Nat->Rat) (i j:Nat) (q:Rat):Nat->Nat->Rat:=λx y=>if x=i/\y=j then q else G x y
noncomputable def soA (q:Rat) (x:Int):Rat:=q + ((x - 9:Int):Rat) / ((10:Int):Rat)
noncomputable def soF (G:Nat->Nat->Rat) (p:List Int):Nat->Nat->Rat:=if p.getD 0 0=1 then soU G (p.getD 1 0).toNat (p.getD 2 0).toNat 0 else G
noncomputable def soH (V:Nat->Nat->Rat) (p:List Int):Nat->Nat->Rat:=if p.getD 0 0=2 then soU V (p.getD 1 0).toNat (p.getD 2 0).toNat (soA (V (p.getD 1 0).toNat (p.getD 2 0).toNat) (p.getD 3 0)) else V
noncomputable def soX (c1 c3:Int) (R C:Nat):List (List Rat):=mkT R C (soH (thK C (soF (soG (decide (16 < R * C)) (soP c1 (R * C)) C) (soN c3 R C)) (R * C)) (soN c3 R C))
theorem oq {c:Int} {n i:Nat}:0<=(soP c n).getD i 0/\(soP c n).getD i 0 < 54:=by
 by_cases h:i < n
 · have:=cA (c:=c) (bs:=List.replicate n 54) (λb hb=>by rw [(List.mem_replicate.mp hb).2]; decide) (i:=i) (by rw [List.length_replicate]; exact h)
   rw [show (List.replicate n (54:Int)).getD i 0=54 by simp [h]] at this
   exact this
 · have:(soP c n).length=n:=by unfold soP; rw [cL,List.length_replicate]
   rw [show (soP c n).getD i 0=0 by rw [List.getD_eq_getElem?_getD,List.getElem?_eq_none (by omega)]; rfl]
   decide
theorem p8 {p:Int} (h:0<=p):((1 + p.fmod 9:Int):Rat)=soQ p * ((1 + p.fdiv 9:Int):Rat):=by
 unfold soQ
 rw [Rat.div_mul_cancel]
 exact ju (by rw [Int.fdiv_eq_ediv_of_nonneg _ (by decide)]; omega)
theorem zm {p:Int} (h:0<=p) (h2:p < 54):∃ z:Int,(z:Rat)=soQ p * ((60:Int):Rat)/\z.natAbs<=2 ^ 10:=by
 have e:=p8 h
 have f9:0<=p.fmod 9/\p.fmod 9 < 9:=fmn (by decide)
 have hb:0<=p.fdiv 9/\p.fdiv 9 < 6:=by rw [Int.fdiv_eq_ediv_of_nonneg _ (by decide)]; omega
 generalize soQ p=q at e ⊢
 generalize p.fmod 9=t at e f9
 obtain ⟨y,hy,y60⟩:∃ y:Int,(1 + p.fdiv 9) * y=60/\0<=y/\y<=60:=by
   rcases (by omega:p.fdiv 9=0\/p.fdiv 9=1\/p.fdiv 9=2\/p.fdiv 9=3\/p.fdiv 9=4\/p.fdiv 9=5) with z | z | z | z | z | z <;> rw [z]
   · exact ⟨60,by decide⟩
   · exact ⟨30,by decide⟩
   · exact ⟨20,by decide⟩
   · exact ⟨15,by decide⟩
   · exact ⟨12,by decide⟩
   · exact ⟨10,by decide⟩
 refine ⟨(1 + t) * y,?_,?_⟩
 · rw [<- hy,Rat.intCast_mul,Rat.intCast_mul,e,Rat.mul_assoc]
 · rw [Int.natAbs_mul]
   have:(1 + t).natAbs<=9:=by omega
   have:y.natAbs<=60:=by omega
   exact Nat.le_trans (Nat.mul_le_mul ‹(1 + t).natAbs<=9› this) (by decide)
theorem zx {R C d m i j:Nat} {G:Nat->Nat->Rat} (h:∀ x < R,Cq C d m (G x)):∀ x < R,Cq C d m (soU G i j 0 x):=λx hx=>by
 obtain ⟨D,h0,h1,g⟩:=h x hx
 refine ⟨D,h0,h1,λa ha=>?_⟩
 unfold soU
 by_cases e:x=i/\a=j
 · exact ⟨0,by rw [if_pos e,Rat.zero_mul]; rfl,Nat.zero_le _⟩
 · rw [if_neg e]; exact g a ha
theorem xV {R C d m:Nat} {G:Nat->Nat->Rat} {p:List Int} (h:∀ x < R,Cq C d m (G x)):∀ x < R,Cq C d m (soF G p x):=by
 unfold soF
 split
 · exact zx h
 · exact h
theorem xX {c:Int} {R C n:Nat}:∀ x < R,Cq C (if 16 < n then 0 else 6) (if 16 < n then 2 else 10) (soG (decide (16 < n)) (soP c n) C x):=λx _=>by
 by_cases h:16 < n
 · rw [if_pos h,if_pos h,decide_eq_true h]
   refine ⟨1,by decide,by decide,λa _=>⟨_,(Rat.mul_one _).symm,?_⟩⟩
   have f3:=fmn (a:=(soP c n).getD (C * x + a) 0) (b:=3) (by decide)
   omega
 · rw [if_neg h,if_neg h,decide_eq_false h]
   exact ⟨60,by decide,by decide,λa _=>zm oq.1 oq.2⟩
theorem By:∀ R,R < 8->∀ C,C < 8->R * C<=16->(R - 1) * (C - 1)<=9:=by decide
theorem Bn {R C:Nat} (h1:R<=7) (h2:C<=7):(R - 1) * (C - 1)<=36:=Nat.mul_le_mul (show R - 1<=6 by omega) (show C - 1<=6 by omega)
theorem tO {c1:Int} {R C:Nat} {p:List Int} (r7:R<=7) (c0:1<=C) (c7:C<=7):∀ k,k<=R * C->∀ i < R,Cq C 96 110 (thK C (soF (soG (decide (16 < R * C)) (soP c1 (R * C)) C) p) k i):=λk hk i hi=>by
 have h:=xV (p:=p) (xX (c:=c1) (R:=R) (C:=C) (n:=R * C))
 have q:=sZ c0 h h k hk i hi
 have n1:=wR R (by omega) C (by omega) k (by omega)
 by_cases z:16 < R * C
 · simp only [if_pos z] at q
   have:=Bn r7 c7
   exact q.mono (by omega) (by omega)
 · simp only [if_neg z] at q
   have:=By R (by omega) C (by omega) (by omega)
   exact q.mono (by omega) (by omega)
theorem vB (q:Rat) (x:Int):((q.num * 10 + (x - 9) * (q.den:Nat):Int):Rat)=soA q x * ((10 * ((q.den:Nat):Int):Int):Rat):=by
 have h10:((10:Int):Rat) ≠ 0:=ju (by decide)
 unfold soA
 have e:=cZ q
 rw [Rat.intCast_add,Rat.intCast_mul,Rat.intCast_mul,Rat.intCast_mul,<- e]
 have c:((x - 9:Int):Rat) / ((10:Int):Rat) * ((10:Int):Rat)=((x - 9:Int):Rat):=Rat.div_mul_cancel h10
 generalize ((x - 9:Int):Rat) / ((10:Int):Rat)=y at c ⊢
 rw [<- c]
 generalize (((q.den:Nat):Int):Rat)=d
 generalize ((10:Int):Rat)=t
 grind
noncomputable def RwQ (R C:Nat) (G:Nat->Nat->Rat):Prop:=∀ i < R,Cq C 100 115 (G i)
theorem yt {R C:Nat} {V:Nat->Nat->Rat} {p:List Int} (h:∀ x < R,Cq C 96 110 (V x)) (hi:(p.getD 1 0).toNat < R) (hj:(p.getD 2 0).toNat < C) (h3:0<=p.getD 3 0/\p.getD 3 0 < 19):RwQ R C (soH V p):=by
 unfold soH
 split
 · intro x hx
   obtain ⟨D,h0,h1,g⟩:=h x hx
   refine ⟨D * 10,by omega,?_,λa ha=>?_⟩
   · rw [Int.natAbs_mul]
     have:D.natAbs * 10<=2 ^ 96 * 2 ^ 4:=Nat.mul_le_mul h1 (by decide)
     rw [<- Nat.pow_add] at this
     exact this
   · obtain ⟨z,hz,z1⟩:=g a ha
     unfold soU
     by_cases e:x=(p.getD 1 0).toNat/\a=(p.getD 2 0).toNat
     · rw [if_pos e,<- e.1,<- e.2]
       refine ⟨z * 10 + (p.getD 3 0 - 9) * D,?_,?_⟩
       · have h10:((10:Int):Rat) ≠ 0:=ju (by decide)
         unfold soA
         have c:((p.getD 3 0 - 9:Int):Rat) / ((10:Int):Rat) * ((10:Int):Rat)=((p.getD 3 0 - 9:Int):Rat):=Rat.div_mul_cancel h10
         rw [Rat.intCast_add,Rat.intCast_mul,Rat.intCast_mul,Rat.intCast_mul,hz]
         generalize ((p.getD 3 0 - 9:Int):Rat) / ((10:Int):Rat)=y at c ⊢
         rw [<- c]
         generalize ((10:Int):Rat)=t
         generalize (D:Rat)=d
         grind
       · refine Nat.le_trans (Int.natAbs_add_le _ _) ?_
         rw [Int.natAbs_mul,Int.natAbs_mul]
         have a1:z.natAbs * (10:Int).natAbs<=2 ^ 110 * 2 ^ 4:=Nat.mul_le_mul z1 (by decide)
         have a2:(p.getD 3 0 - 9).natAbs * D.natAbs<=2 ^ 4 * 2 ^ 96:=Nat.mul_le_mul (by omega) h1
         rw [<- Nat.pow_add] at a1 a2
         have a3:(2:Nat) ^ 114 + 2 ^ 100<=2 ^ 115:=by decide
         exact Nat.le_trans (Nat.add_le_add a1 a2) a3
     · rw [if_neg e]
       refine ⟨z * 10,by rw [Rat.intCast_mul,Rat.intCast_mul,hz,Rat.mul_assoc],?_⟩
       rw [Int.natAbs_mul]
       have a1:z.natAbs * (10:Int).natAbs<=2 ^ 110 * 2 ^ 4:=Nat.mul_le_mul z1 (by decide)
       rw [<- Nat.pow_add] at a1
       exact Nat.le_trans a1 (Nat.pow_le_pow_right (by decide) (by decide))
 · exact λx hx=>(h x hx).mono (by decide) (by decide)
theorem tu {i C:Nat} {G:Nat->Nat->Rat}:mkT (i + 1) C G=mkT i C G++[(List.range C).map (G i)]:=by
 unfold mkT
 rw [List.range_succ,List.map_append]
 rfl
theorem uK {ps:List Int} {C i:Nat}:Hy.cutD (ps.map D.int) (some ((C:Int) * (i:Int))) (some ((C:Int) * ((i:Int) + 1)))=((ps.take (C * (i + 1))).drop (C * i)).map D.int:=by
 rw [show (C:Int) * (i:Int)=((C * i:Nat):Int) by rw [Int.natCast_mul],show (C:Int) * ((i:Int) + 1)=((C * (i + 1):Nat):Int) by rw [Int.natCast_mul]; rfl,Hy.qe,List.map_drop,List.map_take]
theorem sI {ps:List Int} {R C i:Nat} (h:ps.length=R * C) (hi:i < R):((ps.take (C * (i + 1))).drop (C * i)).length=C:=by
 have:C * (i + 1)<=C * R:=Nat.mul_le_mul_left _ hi
 rw [List.length_drop,List.length_take,h,Nat.mul_comm R C,Nat.min_eq_left this,Nat.mul_succ]
 omega
theorem xI {ps:List Int} {R C i:Nat} (h:ps.length=R * C) (hi:i < R) (l:Nat) (hl:l < (((ps.take (C * (i + 1))).drop (C * i)).map D.int).length):(((ps.take (C * (i + 1))).drop (C * i)).map D.int)[l]=.int (ps.getD (C * i + l) 0):=by
 rw [List.length_map,sI h hi] at hl
 have:C * (i + 1)<=C * R:=Nat.mul_le_mul_left _ hi
 rw [Nat.mul_succ] at this
 rw [Nat.mul_comm C R] at this
 simp [List.getElem_drop,List.getElem_take,List.getD_eq_getElem?_getD,show C * i + l < ps.length by omega]
section
variable {P:Program} {w:World} {K:PySem.W.Frag} {mg:Str->Option Value} {base:Heap} {k:Nat} {f:Addr} {fd:FuncData} {qual:Str}
end
noncomputable def cJ (ds:List D) (r:Sl):Prop:=∃ (ns:List Int) (R C:Nat),ds=[.lst (ns.map .int),.int (R:Nat),.int (C:Nat)]/\1<=R/\R<=7/\1<=C/\C<=7/\r=.n (cb (soX (ns.getD 1 0) (ns.getD 3 0) R C))
noncomputable def soS (ns:List Int) (R C:Nat) (ps:List Int) (T:List (List Rat)) (s5 s6 s7 s8 s9:Sl):List Sl:=[.d (.lst (ns.map .int)),.d (.int (R:Nat)),.d (.int (C:Nat)),.d (.lst (ps.map D.int)),.n (cb T),s5,s6,s7,s8,s9]
section
variable {P:Program} {w:World} {K:PySem.W.Frag} {mg:Str->Option Value} {base:Heap} {k:Nat} {f:Addr} {fd:FuncData} {qual:Str}
set_option maxHeartbeats 4000000 in
theorem iM (F:Fun K "_law_strict_one" qual (top 55) f fd) (hb:∀ x ∈ ai,mg x=none) (c_l_numbers:Cal P w K mg base k "_law_numbers" bR) (c_l_thick:Cal P w K mg base k "_law_thick" iu) (c_l_cell:Cal P w K mg base k "_law_cell" gE) (c_l_made:Cal P w K mg base k "_law_made" dB):aR P w K mg base CX0 (k + 1) f fd ["_law_script","_law_many","_law_wide"] (spD K cJ):=by
 refine fnD F eV hb (by rintro _ _ ⟨_,_,_,rfl,_⟩; rfl) ?_
 rintro _ _ ⟨ns,R,C,rfl,r1,r7,c1,c7,rfl⟩ cdv A outer s H E b
 have nd:=eV.nd
 have rc:R * C<=49:=Nat.mul_le_mul r7 c7
 have eRC:(R:Int) * (C:Int)=((R * C:Nat):Int):=by rw [Int.natCast_mul]
 refine aw 3 nd (bh (x_call b c_l_numbers (ab (x_call b c_l_cell (ab (aa 0) (ab ae af)) ⟨ns,1,rfl,rfl⟩) (ab (bh (eg (cmp 0 (f:=λ_=>.int 54) b (cy (n:=((R * C:Nat):Int)) b (by rw [<- eRC]; exact ak (aa 1) (aa 2) (aO (mkL (by omega)))) (by omega) (by omega)) cv (by rw [aq]; omega) λi hi s0 H0 fp=>ae))) af)) ⟨ns.getD 1 0,List.replicate (R * C) 54,?_,?_,?_,rfl⟩)) ?_
 · rw [aq,Int.toNat_natCast,List.map_replicate]
   refine congrArg (λl=>[D.int (ns.getD 1 0),D.lst l]) (List.ext_getElem (by simp) λi h1 h2=>by simp)
 · rw [List.length_replicate]; omega
 · intro x hx
   rw [(List.mem_replicate.mp hx).2]
   exact pd (by decide) (by decide)
 have lp:(soP (ns.getD 1 0) (R * C)).length=R * C:=by unfold soP; rw [cL,List.length_replicate]
 have pl:∀ i,0<=(soP (ns.getD 1 0) (R * C)).getD i 0/\(soP (ns.getD 1 0) (R * C)).getD i 0 < 54:=λi=>oq
 have cqK:=λp=>tO (c1:=ns.getD 1 0) (R:=R) (C:=C) (p:=p) r7 c1 c7
 unfold soX
 show PSs _ _ (dS K [_,_,_,.d (.lst ((soP (ns.getD 1 0) (R * C)).map D.int)),_,_,_,_,_,_] _)
 generalize soP (ns.getD 1 0) (R * C)=ps at lp pl cqK ⊢
 refine aw 4 nd (fq af) ?_
 refine A0 4 (c:=.l []) ?_
 refine a6 5 (λi τ=>i<=R/\∃ s5,τ=soS ns R C ps (mkT i C (soG (decide (16 < R * C)) ps C)) s5 .un .un .un .un) b nd (cy b (aa 1) (by omega) (by omega)) cv ⟨Nat.zero_le _,_,rfl⟩ (λi hi τ h=>?_) λτ h=>?_
 · obtain ⟨_,s5,rfl⟩:=h
   have hi:i < R:=by rw [aq] at hi; omega
   have ln:=sI (i:=i) lp hi
   refine jA 6 nd (s:=.o (((List.range C).map (soG false ps C i)).map frD)) (cmp 0 (g:=λl=>.int (ps.getD (C * i + l) 0)) (f:=λl=>frD (soQ (ps.getD (C * i + l) 0))) b (aW (bh (rm (aa 3) (bN (ak (aa 2) (aa 5) (aO (mkL (by omega))))) (bN (ak (aa 2) (ak (aa 5) ae aT) (aO (mkL (by omega)))))) (congrArg (λl=>some (D.lst l)) uK))) (xI lp hi) (by rw [List.length_map,ln]; omega) λl hl s0 H0 fp=>?_) (.inl ?_) ?_
   · have q:=pl (C * i + l)
     have f2:0<=(ps.getD (C * i + l) 0).fdiv 9/\(ps.getD (C * i + l) 0).fdiv 9 < 6:=by rw [Int.fdiv_eq_ediv_of_nonneg _ (by decide)]; omega
     refine x_call (b.comp s0 H0 _ fp) c_l_made (ab (ak ae (ak (aa 0) ae (bK (by decide))) aT) (ab (ak ae (ak (aa 0) ae (bF (mkD (by decide) (by decide)))) aT) af)) ⟨_,_,soQ (ps.getD (C * i + l) 0),rfl,by omega,(show Bd 10 _ by unfold Bd; omega).mono (by decide),p8 q.1,rfl⟩
   · rw [List.length_map,ln,List.map_map]
     rfl
   refine iR (M:=λτ=>τ=soS ns R C ps (mkT i C (soG (decide (16 < R * C)) ps C)) (.d (.int (i:Nat))) (.o (((List.range C).map (soG (decide (16 < R * C)) ps C i)).map frD)) .un .un .un) (aZ (ak (aa 1) (aa 2) (aO (mkL (by omega)))) ae mQ) (λh=>?_) (λh=>?_) λτ h=>?_
   · have h:=of_decide_eq_true h
     have h:16 < R * C:=by omega
     refine jA 6 nd (s:=.o (((List.range C).map (soG (decide (16 < R * C)) ps C i)).map frD)) (cmp 0 (g:=λl=>.int (ps.getD (C * i + l) 0)) (f:=λl=>frD (soT (ps.getD (C * i + l) 0))) b (aW (bh (rm (aa 3) (bN (ak (aa 2) (aa 5) (aO (mkL (by omega))))) (bN (ak (aa 2) (ak (aa 5) ae aT) (aO (mkL (by omega)))))) (congrArg (λl=>some (D.lst l)) uK))) (xI lp hi) (by rw [List.length_map,ln]; omega) λl hl s0 H0 fp=>?_) (.inl ?_) (aH rfl)
     · unfold soT
       rw [yp]
       exact cf (ab (ak ae (ak (aa 0) ae (bK (by decide))) aT) (ab ae af))
     · rw [List.length_map,ln,List.map_map,decide_eq_true h]
       rfl
   · have h:=of_decide_eq_false h
     have h:¬ 16 < R * C:=by omega
     rw [decide_eq_false h]
     exact aH rfl
   subst h
   generalize decide (16 < R * C)=bg
   refine yQ 4 6 (xs:=(mkT i C (soG bg ps C)).map λr=>.l ((r.map frD).map .d)) (by rw [List.length_map,cB]; omega) (aH ⟨by omega,.d (.int (i:Nat)),?_⟩)
   rw [tu]
   unfold soS cb
   rw [List.map_append]
   rfl
 · obtain ⟨_,s5,rfl⟩:=h
   rw [aq,Int.toNat_natCast]
   generalize soG (decide (16 < R * C)) ps C=G at cqK ⊢
   refine aw 7 nd (bh (x_call b c_l_numbers (ab (x_call b c_l_cell (ab (aa 0) (ab ae af)) ⟨ns,3,rfl,rfl⟩) (ab (bh (fq (ab ae (ab (aa 1) (ab (aa 2) (ab ae af)))))) af)) ⟨ns.getD 3 0,[4,(R:Int),(C:Int),19],rfl,by show 4<=10000; decide,λx hx=>?_,rfl⟩)) ?_
   · have:0 < x/\x < 20:=by
       simp only [List.mem_cons,List.not_mem_nil,or_false] at hx
       omega
     exact pd this.1 (by omega)
   have lm:(soN (ns.getD 3 0) R C).length=4:=cL _ _
   have pb:∀ x ∈ [4,(R:Int),(C:Int),19],0 < x:=λx hx=>by
     simp only [List.mem_cons,List.not_mem_nil,or_false] at hx
     omega
   have b1:0<=(soN (ns.getD 3 0) R C).getD 1 0/\(soN (ns.getD 3 0) R C).getD 1 0 < (R:Int):=cA (c:=ns.getD 3 0) pb (i:=1) (by show 1 < 4; decide)
   have b2:0<=(soN (ns.getD 3 0) R C).getD 2 0/\(soN (ns.getD 3 0) R C).getD 2 0 < (C:Int):=cA (c:=ns.getD 3 0) pb (i:=2) (by show 2 < 4; decide)
   have b3:0<=(soN (ns.getD 3 0) R C).getD 3 0/\(soN (ns.getD 3 0) R C).getD 3 0 < 19:=cA (c:=ns.getD 3 0) pb (i:=3) (by show 3 < 4; decide)
   show PSs _ _ (dS K (soS ns R C ps (mkT R C G) s5 .un (.d (.lst ((soN (ns.getD 3 0) R C).map D.int))) .un .un) _)
   generalize soN (ns.getD 3 0) R C=p at lm b1 b2 b3 ⊢
   have pa:∀ i:Nat,i < 4->atI (p.map D.int) (i:Int)=some (.int (p.getD i 0)):=λi hi=>atR (by omega)
   have hi:(p.getD 1 0).toNat < R:=by omega
   have hj:(p.getD 2 0).toNat < C:=by omega
   have ei:p.getD 1 0=(((p.getD 1 0).toNat:Nat):Int):=by omega
   have ej:p.getD 2 0=(((p.getD 2 0).toNat:Nat):Int):=by omega
   refine iR (M:=λτ=>τ=soS ns R C ps (mkT R C (soF G p)) s5 .un (.d (.lst (p.map D.int))) .un .un) (aZ (aJ (aa 7) ae (aS (pa 0 (by decide)))) ae gf) (λh=>?_) (λh=>?_) λτ h=>?_
   · have h:=of_decide_eq_true h
     refine oT (pt:=[]++[(p.getD 1 0).toNat]) (t:=cb (mkT R C G)) (ds:=((mkT R C G).getD (p.getD 1 0).toNat []).map frD) (j:=(p.getD 2 0).toNat) (x:=frD 0) (cQ (c9 4) (aJ (aa 7) ae (aS (pa 1 (by decide)))) rfl rfl (by rw [ei]; exact eE hi)) (aJ (aa 7) ae (aS (pa 2 (by decide)))) (cf (ab ae (ab ae af))) rfl (cD hi) (by rw [ej]; exact me hi hj) (aH ?_)
     show (soS ns R C ps (mkT R C G) _ _ _ _ _).set 4 (Sl.n (cN [(p.getD 1 0).toNat] (cb (mkT R C G)) _))=_
     rw [lS,lh hi]
     unfold soF
     rw [if_pos h]
     rfl
   · unfold soF
     rw [if_neg (of_decide_eq_false h)]
     exact aH rfl
   subst h
   have cq:=cqK p
   have cqV:=cq (R * C) (Nat.le_refl _)
   refine zh 4 (x:=tbQ (mkT R C (soF G p))) ?_ rfl (congrArg some (tI _))
   refine aw 8 nd (x_call b c_l_thick (ab (aa 4) af) ⟨R,C,96,110,soF G p,rfl,r1,r7,c1,c7,cq,by decide,rfl⟩) ?_
   generalize thK C (soF G p) (R * C)=V at cqV ⊢
   have qv:Qs 97 110 (V (p.getD 1 0).toNat (p.getD 2 0).toNat):=(cqV _ hi).qs hj
   refine iR (M:=λτ=>∃ s9,τ=[.d (.lst (ns.map .int)),.d (.int (R:Nat)),.d (.int (C:Nat)),.d (.lst (ps.map D.int)),.d (tbQ (mkT R C (soF G p))),s5,.un,.d (.lst (p.map D.int)),.n (cb (mkT R C (soH V p))),s9]) (aZ (aJ (aa 7) ae (aS (pa 0 (by decide)))) ae gf) (λh=>?_) (λh=>?_) λτ h=>?_
   · have h:=of_decide_eq_true h
     refine aw 9 nd (rn (cQ (cQ (c9 8) (aJ (aa 7) ae (aS (pa 1 (by decide)))) rfl rfl (by rw [ei]; exact eE hi)) (aJ (aa 7) ae (aS (pa 2 (by decide)))) rfl (cD hi) (by rw [ej]; exact hU hi hj)) rfl (dM hi hj rfl)) ?_
     have em:=vB (V (p.getD 1 0).toNat (p.getD 2 0).toNat) (p.getD 3 0)
     have e9:soH V p=soU V (p.getD 1 0).toNat (p.getD 2 0).toNat (soA (V (p.getD 1 0).toNat (p.getD 2 0).toNat) (p.getD 3 0)):=by unfold soH; rw [if_pos h]
     rw [e9]
     generalize V (p.getD 1 0).toNat (p.getD 2 0).toNat=q at qv em ⊢
     have hd:=den_pos q
     have bd:=qv.den
     have num:atI [D.int q.num,D.int (q.den:Nat)] ((0:Nat):Int)=some (.int q.num):=rfl
     have den:atI [D.int q.num,D.int (q.den:Nat)] ((1:Nat):Int)=some (.int (q.den:Nat)):=rfl
     refine oT (pt:=[]++[(p.getD 1 0).toNat]) (t:=cb (mkT R C V)) (ds:=((mkT R C V).getD (p.getD 1 0).toNat []).map frD) (j:=(p.getD 2 0).toNat) (x:=frD (soA q (p.getD 3 0))) (cQ (c9 8) (aJ (aa 7) ae (aS (pa 1 (by decide)))) rfl rfl (by rw [ei]; exact eE hi)) (aJ (aa 7) ae (aS (pa 2 (by decide)))) (x_call b c_l_made (ab (ak (ak (aJ (aa 9) ae (aU num)) ae (aO (mkR (by decide)))) (ak (ak (aJ (aa 7) ae (aS (pa 3 (by decide)))) ae b5) (aJ (aa 9) ae (aU den)) (aO ((show Bd 10 (p.getD 3 0 - 9) by unfold Bd; omega).aB bd (by decide) (by decide)))) aT) (ab (ak ae (aJ (aa 9) ae (aU den)) (aO (mkL (by decide)))) af)) ⟨_,_,soA q (p.getD 3 0),rfl,by omega,((show Bd 4 (10:Int) by unfold Bd; decide).mul bd).mono (by decide),em,rfl⟩) rfl (cD hi) (by rw [ej]; exact me hi hj) (aH ⟨.d (frD q),?_⟩)
     show List.set [_,_,_,_,_,_,_,_,_,_] 8 (Sl.n (cN [(p.getD 1 0).toNat] (cb (mkT R C V)) _))=_
     rw [lS,lh hi]
     rfl
   · unfold soH
     rw [if_neg (of_decide_eq_false h)]
     exact aH ⟨_,rfl⟩
   obtain ⟨s9,rfl⟩:=h
   exact l9 8 rfl
end
theorem Aq {kd:Nat} (p:Int) (h:kd=1\/kd=2):∃ z:Int,(z:Rat)=nmQ kd p * ((60:Int):Rat)/\z.natAbs<=2 ^ 115:=by
 have e:=tJ (kd:=kd) p
 have hT:=yM (kd:=kd) p
 have kv:kV kd=4:=by unfold kV; rw [if_neg (by omega)]
 rw [kv] at hT
 obtain ⟨y,hy,y0,y60⟩:∃ y:Int,nmB kd p * y=60/\0<=y/\y<=60:=by
   rcases h with rfl | rfl
   · exact ⟨60,by unfold nmB; rw [if_pos rfl]; decide⟩
   · have e:nmB 2 p=1 + (p.fdiv 10).fmod 6:=rfl
     have f:=fmn (a:=p.fdiv 10) (b:=6) (by decide)
     rw [e]
     rcases (by omega:(p.fdiv 10).fmod 6=0\/(p.fdiv 10).fmod 6=1\/(p.fdiv 10).fmod 6=2\/(p.fdiv 10).fmod 6=3\/(p.fdiv 10).fmod 6=4\/(p.fdiv 10).fmod 6=5) with z | z | z | z | z | z <;> rw [z]
     · exact ⟨60,by decide⟩
     · exact ⟨30,by decide⟩
     · exact ⟨20,by decide⟩
     · exact ⟨15,by decide⟩
     · exact ⟨12,by decide⟩
     · exact ⟨10,by decide⟩
 refine ⟨nmT kd p * y,?_,?_⟩
 · rw [<- hy,Rat.intCast_mul,Rat.intCast_mul,e,Rat.mul_assoc]
 · rw [Int.natAbs_mul]
   have:y.natAbs<=60:=by omega
   have a:(nmT kd p).natAbs * y.natAbs<=2 ^ 4 * 60:=Nat.mul_le_mul hT this
   exact Nat.le_trans a (by decide)
theorem Ag {c:Int} {R C kd:Nat} (h:kd=1\/kd=2):RwQ R C λi j=>nmQ kd ((tlP c (R * C) kd).getD (C * i + j) 0):=λi _=>⟨60,by decide,by decide,λa _=>Aq _ h⟩
noncomputable def dwK (ns:List Int):Nat:=if 16 < szR (ns.getD 0 0) * szC (ns.getD 0 0) then 1 else (1 + (nums (ns.getD 3 0) [2]).getD 0 0).toNat
noncomputable def dwM (ns:List Int):List (List Rat):=if (nums (ns.getD 2 0) [2]).getD 0 0=0 then soX (ns.getD 1 0) (ns.getD 3 0) (szR (ns.getD 0 0)) (szC (ns.getD 0 0)) else tlM (ns.getD 1 0) (szR (ns.getD 0 0)) (szC (ns.getD 0 0)) (dwK ns)
theorem uL (c:Int):0<=(nums c [2]).getD 0 0/\(nums c [2]).getD 0 0 < 2:=cA (c:=c) (bs:=[2]) (by decide) (by decide)
theorem sQ (ns:List Int):dwK ns=1\/dwK ns=2:=by
 unfold dwK
 have:=uL (ns.getD 3 0)
 split
 · exact .inl rfl
 · omega
theorem yq (ns:List Int):∃ (R C:Nat) (G:Nat->Nat->Rat),dwM ns=mkT R C G/\1<=R/\R<=7/\1<=C/\C<=7/\RwQ R C G:=by
 obtain ⟨h1,h2,h3,h4⟩:=xk (ns.getD 0 0)
 unfold dwM
 generalize szR (ns.getD 0 0)=R at h1 h2 ⊢
 generalize szC (ns.getD 0 0)=C at h3 h4 ⊢
 split
 · have pb:∀ x ∈ [4,(R:Int),(C:Int),19],0 < x:=λx hx=>by
     simp only [List.mem_cons,List.not_mem_nil,or_false] at hx
     omega
   have b1:0<=(soN (ns.getD 3 0) R C).getD 1 0/\(soN (ns.getD 3 0) R C).getD 1 0 < (R:Int):=cA (c:=ns.getD 3 0) pb (i:=1) (by show 1 < 4; decide)
   have b2:0<=(soN (ns.getD 3 0) R C).getD 2 0/\(soN (ns.getD 3 0) R C).getD 2 0 < (C:Int):=cA (c:=ns.getD 3 0) pb (i:=2) (by show 2 < 4; decide)
   have b3:0<=(soN (ns.getD 3 0) R C).getD 3 0/\(soN (ns.getD 3 0) R C).getD 3 0 < 19:=cA (c:=ns.getD 3 0) pb (i:=3) (by show 3 < 4; decide)
   exact ⟨R,C,_,rfl,h1,h2,h3,h4,yt (tO h2 h3 h4 (R * C) (Nat.le_refl _)) (by omega) (by omega) b3⟩
 · exact ⟨R,C,_,rfl,h1,h2,h3,h4,Ag (sQ ns)⟩
theorem zi {R C:Nat} {G:Nat->Nat->Rat} (h:RwQ R C G):∀ r ∈ mkT R C G,∀ x ∈ r,Qs 101 115 x:=λr hr x hx=>by
 unfold mkT at hr
 obtain ⟨i,hi,rfl⟩:=List.mem_map.mp hr
 obtain ⟨j,hj,rfl⟩:=List.mem_map.mp hx
 exact (h i (List.mem_range.mp hi)).qs (List.mem_range.mp hj)
theorem v9 {z D:Int} {q:Rat} (hD:0 < D) (h:(z:Rat)=q * (D:Rat)):((q.den:Nat):Int) ∣ D:=by
 have e:=(ft hD h).2
 exact ⟨(Int.gcd z D:Int),by rw [e,Int.ediv_mul_cancel (Int.gcd_dvd_right ..)]⟩
theorem wz {s D:Int} (hs:0 < s) {q:Rat} (h1:s ∣ D) (h2:((q.den:Nat):Int) ∣ D):scS s q ∣ D:=by
 have e:scS s q=((Nat.lcm s.natAbs q.den:Nat):Int):=by
   rw [<- xM hs q]
   unfold Nat.lcm
   rw [Int.natCast_ediv,Int.natCast_mul,Int.natAbs_of_nonneg (by omega)]
   rfl
 rw [e]
 refine Int.ofNat_dvd_left.mpr (Nat.lcm_dvd (Int.natAbs_dvd_natAbs.mpr h1) (Int.ofNat_dvd_left.mp h2))
theorem pU {D:Int}:∀ (r:List Rat) (s:Int),0 < s->s ∣ D->(∀ q ∈ r,((q.den:Nat):Int) ∣ D)->r.foldl scS s ∣ D
 | [],_,_,h,_=>h
 | q :: r,s,hs,h,hr=>pU r (scS s q) (sF hs q).1 (wz hs h (hr q (List.mem_cons_self ..))) λx hx=>hr x (List.mem_cons_of_mem _ hx)
theorem wu {D:Int} {r:List Rat} (hr:∀ q ∈ r,((q.den:Nat):Int) ∣ D):scL r ∣ D:=pU r 1 (by decide) (Int.one_dvd _) hr
theorem xy {R C:Nat} {G:Nat->Nat->Rat} (r7:R<=7) (c7:C<=7) (h:RwQ R C G):Rz R C 115 (whM (mkT R C G) ((mkT R C G).map scL)):=by
 refine ⟨by unfold whM; simp [cB],λr hr=>?_,r7,c7,by decide⟩
 unfold whM at hr
 obtain ⟨i,hi,rfl⟩:=List.mem_map.mp hr
 rw [List.mem_range,cB] at hi
 have e:((mkT R C G).map scL).getD i 0=scL ((mkT R C G).getD i []):=by simp [show i < (mkT R C G).length by rw [cB]; exact hi]
 rw [e,fE hi]
 refine ⟨by unfold whR; simp,λx hx=>?_⟩
 unfold whR at hx
 obtain ⟨q,hq,rfl⟩:=List.mem_map.mp hx
 obtain ⟨D,d0,d1,g⟩:=h i hi
 have dv:scL ((List.range C).map (G i)) ∣ D:=wu λy hy=>by
   obtain ⟨b,hb,rfl⟩:=List.mem_map.mp hy
   obtain ⟨z,hz,_⟩:=g b (List.mem_range.mp hb)
   exact v9 d0 hz
 have so:=dX ((List.range C).map (G i))
 have wq:=yw (so.2 q hq)
 obtain ⟨a,ha,rfl⟩:=List.mem_map.mp hq
 obtain ⟨z,hz,z1⟩:=g a (List.mem_range.mp ha)
 generalize scL ((List.range C).map (G i))=s at dv so wq ⊢
 generalize (G i a).num * (s / ((G i a).den:Nat))=y at wq ⊢
 obtain ⟨t,rfl⟩:=dv
 have ez:z=y * t:=by
   have:(z:Rat)=((y * t:Int):Rat):=by rw [hz,Rat.intCast_mul,Rat.intCast_mul,wq,Rat.mul_assoc]
   exact Rat.intCast_inj.mp this
 have t0:t ≠ 0:=λz=>by rw [z,Int.mul_zero] at d0; exact absurd d0 (by decide)
 rw [ez,Int.natAbs_mul] at z1
 exact Nat.le_trans (Nat.le_mul_of_pos_right _ (by omega)) z1
theorem kS {s:Nat->Rat}:∀ n,(∀ i < n,0 < s i)->0 < gJ s n
 | 0,_=>(by decide:(0:Rat) < 1)
 | n + 1,h=>Rat.mul_pos (kS n λi hi=>h i (by omega)) (h n (by omega))
theorem xQ (q:Rat):q.num > 0 ↔ 0 < q:=by
 have d:(0:Rat) < (((q.den:Nat):Int):Rat):=(show ((0:Int):Rat) < _ from Rat.intCast_lt_intCast.mpr (den_pos q))
 have e:=cZ q
 constructor
 · intro h
   refine lq d ?_
   rw [Rat.mul_comm,e]
   exact (show ((0:Int):Rat) < _ from Rat.intCast_lt_intCast.mpr h)
 · intro h
   have:=Rat.mul_pos h d
   rw [e] at this
   exact Rat.intCast_lt_intCast.mp (show ((0:Int):Rat) < _ from this)
theorem ua {R C a b k:Nat} {M:List (List Rat)} (t:Tq R C M) (ha:a + k<=R) (hb:b + k<=C):0 < sld (dtM (whM M (M.map scL))) a b k ↔ 0 < sld (qM M) a b k:=by
 have e:sld (dtM (whM M (M.map scL))) a b k=gJ (λr=>((scL (M.getD (a + r) []):Int):Rat)) k * sld (qM M) a b k:=by
   unfold sld mi
   rw [<- hE (n:=k) _ (λr c=>qM M (a + r) (b + c)) k (Nat.le_refl _)]
   refine ax λi hi j hj=>?_
   rw [if_pos hi]
   have hi':a + i < M.length:=by rw [t.len]; omega
   have hj':b + j < (M.getD (a + i) []).length:=by rw [t.at_ (by omega)]; omega
   have sc:(M.map scL).getD (a + i) 0=scL (M.getD (a + i) []):=by simp [hi']
   unfold dtM
   rw [tR hi' hj',sc,yw ((dX _).2 _ (a5 hj')),Rat.mul_comm]
   rfl
 have p:=kS (s:=λr=>((scL (M.getD (a + r) []):Int):Rat)) k λi _=>(show ((0:Int):Rat) < _ from Rat.intCast_lt_intCast.mpr (dX _).1)
 rw [e]
 constructor
 · exact lq p
 · exact λh=>Rat.mul_pos p h
theorem pE {R:List (List Int)} {m n b:Nat} (ok:Rw m n b R):(fuO R m n 1).isNone=true ↔ ∀ i,i < m->∀ j,j < n->0 < sld (dtM R) (i + 1 - cnS i j) (j + 1 - cnS i j) (cnS i j):=by
 rw [Option.isNone_iff_eq_none,p7,jP ok]
 constructor
 · intro h i hi j hj
   exact h _ _ _ (by unfold cnS; omega) (by unfold cnS; omega) (by unfold cnS; omega) (by unfold cnS; omega)
 · intro h k a b' h1 h2 h3 h4
   have:=h (a + k - 1) (by omega) (b' + k - 1) (by omega)
   have e:cnS (a + k - 1) (b' + k - 1)=k:=by unfold cnS; omega
   rw [e,show a + k - 1 + 1 - k=a by omega,show b' + k - 1 + 1 - k=b' by omega] at this
   exact this
noncomputable def mnB (Ms:List (List Int)) (C:Nat):Nat->List Bool
 | 0=>[]
 | i + 1=>mnB Ms C i++(List.range C).map λj=>decide (dtZ (cnM Ms i j) > 0)
theorem pY {Ms:List (List Int)} {C:Nat}:∀ i,(mnB Ms C i).length=i * C
 | 0=>by rw [Nat.zero_mul]; rfl
 | i + 1=>by rw [mnB,List.length_append,pY i,List.length_map,List.length_range,Nat.succ_mul]
theorem pN {Ms:List (List Int)} {C:Nat}:∀ n,(mnB Ms C n).all id=true ↔ ∀ i,i < n->∀ j,j < C->dtZ (cnM Ms i j) > 0
 | 0=>by simp [mnB]
 | n + 1=>by
   rw [mnB,List.all_append,Bool.and_eq_true,pN n,List.all_map,List.all_eq_true]
   constructor
   · rintro ⟨h1,h2⟩ i hi j hj
     by_cases e:i=n
     · subst e
       exact of_decide_eq_true (h2 j (List.mem_range.mpr hj))
     · exact h1 i (by omega) j hj
   · intro h
     exact ⟨λi hi=>h i (by omega),λj hj=>decide_eq_true (h n (by omega) j (List.mem_range.mp hj))⟩
noncomputable def tdB (M:List (List Rat)) (R C:Nat):List Bool:=(List.range R).map λi=>((List.range C).map λj=>decide ((coQ M i j).num > 0)).all id
theorem we {M:List (List Rat)} {R C:Nat}:(tdB M R C).all id=true ↔ ∀ i,i < R->∀ j,j < C->0 < coQ M i j:=by
 unfold tdB
 rw [List.all_map,List.all_eq_true]
 have key:∀ q:Rat,q.num > 0 ↔ 0 < q:=xQ
 constructor
 · intro h i hi j hj
   have:=h i (List.mem_range.mpr hi)
   have:=List.all_eq_true.mp (show ((List.range C).map λj=>decide ((coQ M i j).num > 0)).all id=true from this) _ (List.mem_map.mpr ⟨j,List.mem_range.mpr hj,rfl⟩)
   exact (key _).mp (of_decide_eq_true this)
 · intro h i hi
   show ((List.range C).map λj=>decide ((coQ M i j).num > 0)).all id=true
   rw [List.all_eq_true]
   intro x hx
   obtain ⟨j,hj,rfl⟩:=List.mem_map.mp hx
   exact decide_eq_true ((key _).mpr (h i (List.mem_range.mp hi) j (List.mem_range.mp hj)))
theorem yN {R C:Nat} {G:Nat->Nat->Rat} (r1:1<=R) (r7:R<=7) (c1:1<=C) (c7:C<=7) (h:RwQ R C G) (ok:Rw R C (115 + (1 + C * 101)) (whM (mkT R C G) ((mkT R C G).map scL))) :
   (mnB (whM (mkT R C G) ((mkT R C G).map scL)) C R).all id=(fuO (whM (mkT R C G) ((mkT R C G).map scL)) R C 1).isNone/\(tdB (mkT R C G) R C).all id=(fuO (whM (mkT R C G) ((mkT R C G).map scL)) R C 1).isNone:=by
 have t:=nZ (G:=G) r1 r7 c1 c7
 have rz:=xy r7 c7 h
 have key:=pE ok
 have e1:(mnB (whM (mkT R C G) ((mkT R C G).map scL)) C R).all id=true ↔ (fuO (whM (mkT R C G) ((mkT R C G).map scL)) R C 1).isNone=true:=by
   rw [pN,key]
   constructor
   · intro z i hi j hj
     rw [<- rz.det hi hj]
     exact (show ((0:Int):Rat) < _ from Rat.intCast_lt_intCast.mpr (z i hi j hj))
   · intro z i hi j hj
     have:=z i hi j hj
     rw [<- rz.det hi hj] at this
     exact Rat.intCast_lt_intCast.mp (show ((0:Int):Rat) < _ from this)
 have e2:(tdB (mkT R C G) R C).all id=true ↔ (fuO (whM (mkT R C G) ((mkT R C G).map scL)) R C 1).isNone=true:=by
   rw [we,key]
   constructor
   · intro z i hi j hj
     exact (ua t (by unfold cnS; omega) (by unfold cnS; omega)).mpr (z i hi j hj)
   · intro z i hi j hj
     exact (ua t (by unfold cnS; omega) (by unfold cnS; omega)).mp (z i hi j hj)
 exact ⟨Bool.eq_iff_iff.mpr e1,Bool.eq_iff_iff.mpr e2⟩
section
variable {P:Program} {w:World} {K:PySem.W.Frag} {mg:Str->Option Value} {base:Heap} {k:Nat} {f:Addr} {fd:FuncData} {qual:Str}
end
noncomputable def g9 (ds:List D) (r:Sl):Prop:=∃ ns:List Int,ds=[.lst (ns.map .int)]/\r=.n (cb (dwM ns))
section
variable {P:Program} {w:World} {K:PySem.W.Frag} {mg:Str->Option Value} {base:Heap} {k:Nat} {f:Addr} {fd:FuncData} {qual:Str}
set_option maxHeartbeats 1000000 in
theorem oM (F:Fun K "_law_drawn" qual (top 56) f fd) (hb:∀ x ∈ ai,mg x=none) (c_l_size:Cal P w K mg base k "_law_size" jy) (c_l_table:Cal P w K mg base k "_law_table" ie) (c_l_cell:Cal P w K mg base k "_law_cell" gE) (c_l_strict_one:Cal P w K mg base k "_law_strict_one" cJ) (c_l_numbers:Cal P w K mg base k "_law_numbers" bR):aR P w K mg base CX0 (k + 1) f fd ["_law_script"] (spD K g9):=by
 refine fnD F jv hb (by rintro _ _ ⟨_,rfl,_⟩; rfl) ?_
 rintro _ _ ⟨ns,rfl,rfl⟩ cdv A outer s H E b
 have nd:=jv.nd
 obtain ⟨h1,h2,h3,h4⟩:=xk (ns.getD 0 0)
 have kk:=sQ ns
 refine yX (x_call b c_l_size (ab (x_call b c_l_cell (ab (aa 0) (ab ae af)) ⟨ns,0,rfl,rfl⟩) af) ⟨_,rfl,rfl⟩) (A2 b.calm (qV 1 nd (qV 2 nd zj))) ?_
 have two:∀ x ∈ [(2:Int)],0 < x/\Ev.aE x:=λx hx=>by
   simp only [List.mem_cons,List.not_mem_nil,or_false] at hx
   rw [hx]
   exact pd (by decide) (by decide)
 have n2:=uL (ns.getD 2 0)
 have n3:=uL (ns.getD 3 0)
 have ek:((dwK ns:Nat):Int)=if 16 < szR (ns.getD 0 0) * szC (ns.getD 0 0) then 1 else 1 + (nums (ns.getD 3 0) [2]).getD 0 0:=by
   unfold dwK
   split
   · rfl
   · omega
 have l2:(nums (ns.getD 2 0) [2]).length=1:=cL _ _
 have l3:(nums (ns.getD 3 0) [2]).length=1:=cL _ _
 have at2:atI ((nums (ns.getD 2 0) [2]).map D.int) ((0:Nat):Int)=some (.int ((nums (ns.getD 2 0) [2]).getD 0 0)):=atR (by omega)
 have at3:atI ((nums (ns.getD 3 0) [2]).map D.int) ((0:Nat):Int)=some (.int ((nums (ns.getD 3 0) [2]).getD 0 0)):=atR (by omega)
 have rc:szR (ns.getD 0 0) * szC (ns.getD 0 0)<=49:=Nat.mul_le_mul h2 h4
 have eRC:(szR (ns.getD 0 0):Int) * (szC (ns.getD 0 0):Int)=((szR (ns.getD 0 0) * szC (ns.getD 0 0):Nat):Int):=by rw [Int.natCast_mul]
 unfold dwM
 show PSs _ _ (dS K [.d (.lst (ns.map .int)),.d (.int (szR (ns.getD 0 0):Nat)),.d (.int (szC (ns.getD 0 0):Nat)),.un] _)
 generalize szR (ns.getD 0 0)=R at *
 generalize szC (ns.getD 0 0)=C at *
 refine cK (aZ (aJ (bh (x_call b c_l_numbers (ab (x_call b c_l_cell (ab (aa 0) (ab ae af)) ⟨ns,2,rfl,rfl⟩) (ab (bh (fq (ab ae af))) af)) ⟨ns.getD 2 0,[2],rfl,by decide,two,rfl⟩)) ae (aS at2)) ae gf) (λh=>?_) λh=>?_
 · have h:=of_decide_eq_true h
   rw [if_pos h]
   exact aI (x_call b c_l_strict_one (ab (aa 0) (ab (aa 1) (ab (aa 2) af))) ⟨ns,R,C,rfl,h1,h2,h3,h4,rfl⟩) rfl
 · rw [if_neg (of_decide_eq_false h)]
   refine aw 3 nd (ak ae (aJ (bh (x_call b c_l_numbers (ab (x_call b c_l_cell (ab (aa 0) (ab ae af)) ⟨ns,3,rfl,rfl⟩) (ab (bh (fq (ab ae af))) af)) ⟨ns.getD 3 0,[2],rfl,by decide,two,rfl⟩)) ae (aS at3)) aT) ?_
   refine iR (M:=λτ=>τ=[.d (.lst (ns.map .int)),.d (.int (R:Nat)),.d (.int (C:Nat)),.d (.int (dwK ns:Nat))]) (aZ (ak (aa 1) (aa 2) (aO (mkL (by omega)))) ae mQ) (λh=>?_) (λh=>?_) λτ h=>?_
   · have h:=of_decide_eq_true h
     rw [if_pos (by omega)] at ek
     refine aw 3 nd ae (aH ?_)
     rw [ek]
     rfl
   · have h:=of_decide_eq_false h
     rw [if_neg (by omega)] at ek
     rw [ek]
     exact aH rfl
   subst h
   exact aI (x_call b c_l_table (ab (x_call b c_l_cell (ab (aa 0) (ab ae af)) ⟨ns,1,rfl,rfl⟩) (ab (aa 1) (ab (aa 2) (ab (aa 3) af)))) ⟨_,R,C,dwK ns,rfl,h2,h4,by omega,rfl⟩) rfl
end
mutual
theorem gG:∀ x:D,Ev.eqD x x=true
 | .non=>by rw [Ev.eqD]
 | .bl a=>by simp [Ev.eqD]
 | .int a=>by simp [Ev.eqD]
 | .str a=>by simp [Ev.eqD]
 | .tup xs=>by rw [Ev.eqD]; exact ig xs
 | .lst xs=>by rw [Ev.eqD]; exact ig xs
 | .box x=>by rw [Ev.eqD]
theorem ig:∀ xs:List D,Ev.ji xs xs=true
 | []=>by rw [Ev.ji]
 | x :: xs=>by rw [Ev.ji,gG x,ig xs]; rfl
end
theorem pJ:∀ r:List Rat,Ev.fO (r.map frD)=true/\Ev.gA (r.map frD)<=1
 | []=>by simp [Ev.fO,Ev.gA]
 | x :: r=>by
   obtain ⟨h1,h2⟩:=pJ r
   rw [List.map_cons,Ev.fO,Ev.gA,h1,frD]
   refine ⟨by simp [Ev.cln,Ev.fO],?_⟩
   have:Ev.dep (.tup [.int x.num,.int (x.den:Nat)])=1:=by simp [Ev.dep,Ev.gA]
   rw [this]
   omega
theorem qE:∀ m:List (List Rat),Ev.fO (m.map rwQ)=true/\Ev.gA (m.map rwQ)<=2
 | []=>by simp [Ev.fO,Ev.gA]
 | r :: m=>by
   obtain ⟨h1,h2⟩:=qE m
   obtain ⟨h3,h4⟩:=pJ r
   rw [List.map_cons,Ev.fO,Ev.gA,h1,show rwQ r=.lst (r.map frD) from rfl,Ev.cln,Ev.dep,h3]
   exact ⟨rfl,by omega⟩
theorem lU (m:List (List Rat)):Ev.fL (tbQ m):=by
 obtain ⟨h1,h2⟩:=qE m
 unfold tbQ Ev.fL
 rw [Ev.cln,Ev.dep,h1]
 exact ⟨rfl,by omega⟩
theorem kK (b:Bool):Ev.fL (.bl b):=⟨by simp [Ev.cln],by simp [Ev.dep]⟩
noncomputable def qK (ds:List D) (r:Sl):Prop:=∃ ns:List Int,ns.length<=63/\ds=[.lst (ns.map .int)]/\r=.d (.bl true)
section
variable {P:Program} {w:World} {K:PySem.W.Frag} {mg:Str->Option Value} {base:Heap} {k:Nat} {f:Addr} {fd:FuncData} {qual:Str}
set_option maxHeartbeats 4000000 in
theorem yb (F:Fun K "law" qual (top 57) f fd) (hb:∀ x ∈ ai,mg x=none) (c_l_drawn:Cal P w K mg base k "_law_drawn" g9) (c_is_strict:Cal P w K mg base k "is_strict" fh) (c_l_rows:Cal P w K mg base k "_law_rows" jc) (c_l_least_sign:Cal P w K mg base k "_law_least_sign" cP) (c_corners:Cal P w K mg base k "corners" ij) (c_l_corner:Cal P w K mg base k "_law_corner" fX):aR P w K mg base CX0 (k + 1) f fd ["_law_script"] (spD K qK):=by
 refine fnD F ub hb (by rintro _ _ ⟨_,_,rfl,_⟩; rfl) ?_
 rintro _ _ ⟨ns,hn,rfl,rfl⟩ cdv A outer s H E b
 have nd:=ub.nd
 refine aw 1 nd (x_call b c_l_drawn (ab (aa 0) af) ⟨ns,rfl,rfl⟩) ?_
 obtain ⟨R,C,G,eM,r1,r7,c1,c7,hG⟩:=yq ns
 rw [eM]
 have t:=nZ (G:=G) r1 r7 c1 c7
 have q:=zi hG
 have ok:=rw_ok t q (by omega)
 have rz:=xy r7 c7 hG
 obtain ⟨le1,le2⟩:=yN r1 r7 c1 c7 hG ok
 have g:=sE ok (t:=1) (.inr rfl)
 have bz:∀ n,n<=7->Bz n 101 115:=λn hn=>⟨by omega,by
   have:n * (115 + (1 + n * 101) + 3)<=7 * (115 + (1 + 7 * 101) + 3):=Nat.mul_le_mul hn (by omega)
   omega,by
   have:n * (1 + n * 101)<=7 * (1 + 7 * 101):=Nat.mul_le_mul hn (by omega)
   omega,by omega⟩
 generalize mkT R C G=M at t q ok rz le1 le2 g ⊢
 refine zh 1 (x:=tbQ M) ?_ rfl (congrArg some (tI M))
 refine jA 2 nd (s:=.d (tbQ M)) (cmp 0 (g:=λi=>rwQ (M.getD i [])) (f:=λi=>rwQ (M.getD i [])) b (aW (aa 1)) (bT (f:=rwQ) (xs:=M) []) (by rw [List.length_map,t.len]; omega) λi hi s0 H0 fp=>bh (o9 (b.comp s0 H0 _ fp) (ab (aa 0) af) oF)) (.inr ?_) ?_
 · refine congrArg (λl=>Sl.d (D.lst l)) (eI rwQ M [] (List.length_map ..)).symm
 refine aw 3 nd (x_call b c_is_strict (ab (aa 2) af) ⟨R,C,101,115,M,rfl,t,q,by omega,rfl⟩) ?_
 refine iB (PW.pt (rq (fU (fT (kI .bool b (aa 3)))) λh=>(nr (aZ (aa 2) (aa 1) (zH b (lU M) (lU M)))))) ?_ ?_
 · rw [gG]
   rfl
 have ex:fzD (.n (.t [nC (whM M (M.map scL)),.d (.int (prZ (M.map scL)))]))=some (.tup [.lst ((whM M (M.map scL)).map dtR),.int (prZ (M.map scL))]):=by
   show some (D.tup [ndD (nC _),_])=_
   rw [yI]
   rfl
 refine aw 4 nd (aJ (bh (x_call b c_l_rows (ab (aa 1) af) ⟨R,C,101,115,M,rfl,t,q,by omega,by omega,rfl⟩) ex) ae (aU (aP (i:=0) rfl))) ?_
 refine aw 5 nd (dR (x_call b c_l_least_sign (ab (aa 4) af) ⟨_,_,_,_,rfl,ok,rfl⟩) ae mQ) ?_
 have wl:(whM M (M.map scL)).length=R:=ok.len
 have w0:((whM M (M.map scL)).getD 0 []).length=C:=(ok.row _ (a5 (by omega))).1
 generalize whM M (M.map scL)=Ms at ok rz le1 le2 g wl w0 ⊢
 generalize lsA Ms C 1 _=z at g ⊢
 have g:(fuO Ms R C 1).isNone=decide (z > 0):=by rw [g]; exact decide_eq_decide.mpr (by omega)
 rw [g] at le1 le2 ⊢
 generalize decide (z > 0)=due at le1 le2 ⊢
 refine aw 6 nd (bh (fq af)) ?_
 refine a6 7 (λi τ=>i<=R/\∃ s7,τ=[.d (.lst (ns.map .int)),.d (tbQ M),.d (tbQ M),.d (.bl due),.d (.lst (Ms.map dtR)),.d (.bl due),.d (.lst ((mnB Ms C i).map .bl)),s7,.un]) b nd (cy b (bo b (ab (aa 4) af) (eR (n:=R) (by rw [List.length_map]; exact wl))) (by omega) (by omega)) cv ⟨Nat.zero_le _,_,rfl⟩ (λi hi τ h=>?_) λτ h=>?_
 · obtain ⟨_,s7,rfl⟩:=h
   have hi:i < R:=by rw [aq] at hi; omega
   have e0:atI (Ms.map dtR) 0=some (dtR (Ms.getD 0 [])):=eP [] (i:=0) (by omega)
   have il:i * C<=7 * 7:=Nat.mul_le_mul (by omega) c7
   refine aw 6 nd (bh (Ar (ys:=(List.range C).map λj=>D.bl (decide (dtZ (cnM Ms i j) > 0))) (aa 6) (bh (eg (cmp 0 (f:=λj=>D.bl (decide (dtZ (cnM Ms i j) > 0))) b (cy (n:=(C:Nat)) b (bo b (ab (aJ (aa 4) ae (aS e0)) af) (eR (n:=C) (by rw [List.length_map]; exact w0))) (by omega) (by omega)) cv (by rw [aq]; omega) λj hj s0 H0 fp=>?_)) ?_) ?_)) (aH ⟨by omega,.d (.int (i:Nat)),?_⟩)
   · have hj:j < C:=by rw [aq] at hj; omega
     exact dR (x_call (b.comp s0 H0 _ fp) c_l_corner (ab (aa 2) (ab (aa 1) (ab (aa 0) af))) ⟨R,C,115,i,j,Ms,rfl,rz,hi,hj,rfl⟩) ae mQ
   · rw [aq,Int.toNat_natCast]
     rfl
   · rw [List.length_map,pY,List.length_map,List.length_range]
     omega
   · rw [mnB,List.map_append,List.map_map]
     rfl
 · obtain ⟨_,s7,rfl⟩:=h
   rw [aq,Int.toNat_natCast]
   refine jA 8 nd (s:=.d (.lst ((tdB M R C).map .bl))) (cmp 0 (g:=λi=>rwQ (((List.range R).map λi=>(List.range C).map (coQ M i)).getD i [])) (f:=λi=>D.bl (((List.range C).map λj=>decide ((coQ M i j).num > 0)).all id)) b (aW (bh (x_call b c_corners (ab (aa 2) af) ⟨R,C,101,115,M,rfl,t,q,bz,rfl⟩))) (bT (f:=rwQ) (xs:=(List.range R).map λi=>(List.range C).map (coQ M i)) []) (by simp; omega) λi hi s0 H0 fp=>?_) (.inr ?_) ?_
   · have hi:i < R:=by simpa using hi
     have er:((List.range R).map λi=>(List.range C).map (coQ M i)).getD i []=(List.range C).map (coQ M i):=by simp [hi]
     rw [er]
     refine bo (b.comp s0 H0 _ fp) (ab (bh (x:=.lst (((List.range C).map λj=>decide ((coQ M i j).num > 0)).map .bl)) (eg (cmp 0 (g:=λj=>frD (((List.range C).map (coQ M i)).getD j 0)) (f:=λj=>D.bl (decide ((coQ M i j).num > 0))) (b.comp s0 H0 _ fp) (aW (aa 0)) (bT (f:=frD) (xs:=(List.range C).map (coQ M i)) 0) (by simp; omega) λj hj s1 H1 fp1=>?_)) ?_) af) (ky rfl _ rfl)
     · have hj:j < C:=by simpa using hj
       have ec:((List.range C).map (coQ M i)).getD j 0=coQ M i j:=by simp [hj]
       rw [ec]
       exact dR (aJ (aa 0) ae (aU (aP (i:=0) rfl))) ae mQ
     · rw [List.length_map,List.length_map,List.length_range,List.map_map]
       rfl
   · unfold tdB
     rw [List.length_map,List.length_map,List.length_range,List.map_map]
     rfl
   refine aI (i9 (dR (aa 3) (aa 5) (pH b (kK _) (kK _))) λh=>(i9 (dR (bo b (ab (aa 6) af) (ky b.calm (mnB Ms C R) rfl)) (aa 5) (pH b (kK _) (kK _))) λh=>(i9 (dR (bo b (ab (aa 8) af) (ky b.calm (tdB M R C) rfl)) (aa 5) (pH b (kK _) (kK _))) λh=>(mK (dR (aa 2) (aa 1) (pH b (lU M) (lU M))))))) ?_
   rw [le1,le2,gG,gG]
   rfl
end
end K60
namespace K60
open PySem PySem.Spec PyProof.Rows L2 Hy
set_option maxHeartbeats 0 in
theorem all_mk {l:PySem.W.OpenLaw} {w:World} {K:PySem.W.Frag} {h:Heap} {mg:Str->Option Value} {fa f0 f1 f2 f3 f4 f5 f6 f7 f8 f9 f10 f11 f12 f13 f14 f15 f16 f17 f18 f19 f20 f21 f22 f23 f24 f25 f26 f27 f28 f29 f30 f31 f32 f33 f34 f35 f36 f37 f38 f39 f40 f41 f42 f43 f44 f45 f46:Addr} {t0:Tok} (X:K.In h) (G:h.Ns mainGlobals mg) (hfa:mg "law" = some (.ref fa))
   (h0:Dfn K "_law_numbers" (top 39) f0) (h1:Dfn K "_law_size" (top 44) f1) (h2:Dfn K "_law_divisor" (top 40) f2) (h3:Dfn K "_law_made" (top 41) f3) (h4:Dfn K "_law_number" (top 42) f4) (h5:Dfn K "_law_table" (top 43) f5) (h6:Dfn K "_law_cell" (top 38) f6) (h7:Dfn K "_law_part" (top 50) f7) (h8:Dfn K "_law_plus" (top 49) f8) (h9:Dfn K "_law_across" (top 51) f9) (h10:Dfn K "_law_places" (top 52) f10) (h11:Dfn K "_law_thick" (top 53) f11) (h12:Dfn K "_law_strict_one" (top 55) f12) (h13:Dfn K "_law_drawn" (top 56) f13) (h14:Dfn K "is_short_list" (top 13) f14) (h15:Dfn K "is_whole" (top 6) f15) (h16:Dfn K "common_divisor" (top 8) f16) (h17:Dfn K "is_fraction" (top 7) f17) (h18:Dfn K "is_row" (top 14) f18) (h19:Dfn K "is_table" (top 15) f19) (h20:Dfn K "look_table" (top 16) f20) (h21:Dfn K "choices_of" (top 17) f21) (h22:Dfn K "along_last_row" (top 32) f22) (h23:Dfn K "one_row_more" (top 31) f23) (h24:Dfn K "all_determinants" (top 30) f24) (h25:Dfn K "whole_row" (top 22) f25) (h26:Dfn K "whole_rows" (top 23) f26) (h27:Dfn K "scale_of" (top 21) f27) (h28:Dfn K "first_under" (top 29) f28) (h29:Dfn K "is_strict" (top 28) f29) (h30:Dfn K "_law_rows" (top 45) f30) (h31:Dfn K "_law_minors" (top 47) f31) (h32:Dfn K "_law_least_sign" (top 48) f32) (h33:Dfn K "look_square" (top 20) f33) (h34:Dfn K "in_lowest_terms" (top 9) f34) (h35:uR K "fraction" (top 10) f35 (1)) (h36:Dfn K "pivot_place" (top 26) f36) (h37:Dfn K "cleared" (top 27) f37) (h38:Dfn K "whole_determinant" (top 25) f38) (h39:Dfn K "product_of_all" (top 24) f39) (h40:Dfn K "square_determinant" (top 19) f40) (h41:Dfn K "corner_part" (top 36) f41) (h42:Dfn K "corners_in_row" (top 35) f42) (h43:Dfn K "corners" (top 34) f43) (h44:Dfn K "_law_det" (top 46) f44) (h45:Dfn K "_law_corner" (top 54) f45) (h46:Dfn K "law" (top 57) f46) (hz:nsL K ai) (z0:PySem.W.nsIn K mainGlobals "MOST" = some (some (.int 7 t0))) :
   ∃ fd:FuncData,(∀ (s:Shared) (v:Value),BindsTo s fd ⟨[v],[]⟩ [("_law_script",v)])/\∀ base:Heap,K.In base->base.Ns mainGlobals mg->aR l.prog w K mg base CX0 8 fa fd ["_law_script"] (spD K qK):=by
 have hb:=hz.none X G
 have y_MOST:∃ t,mg "MOST" = some (.int 7 t):=⟨_,PySem.W.mg_of X G z0⟩
 obtain ⟨a,⟨oc,od,kV,dc,pm,an,cd,ct,sl,l0,c⟩,r⟩:=h46
 cases hfa.symm.trans (PySem.W.mg_of X G a)
 refine ⟨PySem.W.fnOf "law" "law" (cc (top 57)) (bL (top 57)) (ag (top 57)) .none kV dc pm an cd ct,λs v=>.of_eq rfl,λbase _ _=>?_⟩
 have c_l_numbers:Cal l.prog w K mg base 1 "_law_numbers" bR:=h0.cal (ps:=["_law_cell_here","_law_bases"]) X G (λ_ _ _ _ _ _=>Hy.bd2 λ_ _=>rfl) λ_ F=>lL (k:=0) F hb
 have c_l_size:Cal l.prog w K mg base 2 "_law_size" jy:=h1.cal (ps:=["_law_cell_here"]) X G (λ_ _ _ _ _ _=>Hy.bd1 λ_=>rfl) λ_ F=>rH (k:=1) F hb c_l_numbers
 have c_l_divisor:Cal l.prog w K mg base 1 "_law_divisor" cU:=h2.cal (ps:=["_law_one","_law_other"]) X G (λ_ _ _ _ _ _=>Hy.bd2 λ_ _=>rfl) λ_ F=>lF (k:=0) F hb
 have c_l_made:Cal l.prog w K mg base 2 "_law_made" dB:=h3.cal (ps:=["_law_top","_law_bottom"]) X G (λ_ _ _ _ _ _=>Hy.bd2 λ_ _=>rfl) λ_ F=>rL (k:=1) F hb c_l_divisor
 have c_l_number:Cal l.prog w K mg base 3 "_law_number" fV:=h4.cal (ps:=["_law_kind","_law_part_here"]) X G (λ_ _ _ _ _ _=>Hy.bd2 λ_ _=>rfl) λ_ F=>nV (k:=2) F hb c_l_made
 have c_l_table:Cal l.prog w K mg base 4 "_law_table" ie:=h5.cal (ps:=["_law_cell_here","_law_many","_law_wide","_law_kind"]) X G (λ_ _ _ _ _ _=>Hy.bd4 λ_ _ _ _=>rfl) λ_ F=>pB (k:=3) F hb (c_l_numbers.mono (by decide)) c_l_number
 have c_l_cell:Cal l.prog w K mg base 1 "_law_cell" gE:=h6.cal (ps:=["_law_script","_law_k"]) X G (λ_ _ _ _ _ _=>Hy.bd2 λ_ _=>rfl) λ_ F=>rR (k:=0) F hb
 have c_l_part:Cal l.prog w K mg base 3 "_law_part" jR:=h7.cal (ps:=["_law_one","_law_other","_law_third"]) X G (λ_ _ _ _ _ _=>Hy.bd3 λ_ _ _=>rfl) λ_ F=>rP (k:=2) F hb c_l_made
 have c_l_plus:Cal l.prog w K mg base 3 "_law_plus" jV:=h8.cal (ps:=["_law_one","_law_other"]) X G (λ_ _ _ _ _ _=>Hy.bd2 λ_ _=>rfl) λ_ F=>qZ (k:=2) F hb c_l_made
 have c_l_across:Cal l.prog w K mg base 4 "_law_across" gc:=h9.cal (ps:=["_law_table_here","_law_places_here","_law_sign"]) X G (λ_ _ _ _ _ _=>Hy.bd3 λ_ _ _=>rfl) λ_ F=>nL (k:=3) F hb c_l_part c_l_plus
 have c_l_places:Cal l.prog w K mg base 1 "_law_places" gb:=h10.cal (ps:=["_law_table_here"]) X G (λ_ _ _ _ _ _=>Hy.bd1 λ_=>rfl) λ_ F=>nM (k:=0) F hb
 have c_l_thick:Cal l.prog w K mg base 5 "_law_thick" iu:=h11.cal (ps:=["_law_table_here"]) X G (λ_ _ _ _ _ _=>Hy.bd1 λ_=>rfl) λ_ F=>oQ (k:=4) F hb c_l_across (c_l_places.mono (by decide))
 have c_l_strict_one:Cal l.prog w K mg base 6 "_law_strict_one" cJ:=h12.cal (ps:=["_law_script","_law_many","_law_wide"]) X G (λ_ _ _ _ _ _=>Hy.bd3 λ_ _ _=>rfl) λ_ F=>iM (k:=5) F hb (c_l_numbers.mono (by decide)) c_l_thick (c_l_cell.mono (by decide)) (c_l_made.mono (by decide))
 have c_l_drawn:Cal l.prog w K mg base 7 "_law_drawn" g9:=h13.cal (ps:=["_law_script"]) X G (λ_ _ _ _ _ _=>Hy.bd1 λ_=>rfl) λ_ F=>oM (k:=6) F hb (c_l_size.mono (by decide)) (c_l_table.mono (by decide)) (c_l_cell.mono (by decide)) c_l_strict_one (c_l_numbers.mono (by decide))
 have c_is_short_list:Cal l.prog w K mg base 1 "is_short_list" bM:=h14.cal (ps:=["thing"]) X G (λ_ _ _ _ _ _=>Hy.bd1 λ_=>rfl) λ_ F=>hZ (k:=0) F hb y_MOST
 have c_is_whole:Cal l.prog w K mg base 1 "is_whole" dZ:=h15.cal (ps:=["thing"]) X G (λ_ _ _ _ _ _=>Hy.bd1 λ_=>rfl) λ_ F=>nF (k:=0) F hb
 have c_common_divisor:Cal l.prog w K mg base 1 "common_divisor" bj:=h16.cal (ps:=["one","other"]) X G (λ_ _ _ _ _ _=>Hy.bd2 λ_ _=>rfl) λ_ F=>gI (k:=0) F hb
 have c_is_fraction:Cal l.prog w K mg base 2 "is_fraction" dn:=h17.cal (ps:=["thing"]) X G (λ_ _ _ _ _ _=>Hy.bd1 λ_=>rfl) λ_ F=>jf (k:=1) F hb c_is_whole c_common_divisor
 have c_is_row:Cal l.prog w K mg base 3 "is_row" i6:=h18.cal (ps:=["thing"]) X G (λ_ _ _ _ _ _=>Hy.bd1 λ_=>rfl) λ_ F=>rV (k:=2) F hb (c_is_short_list.mono (by decide)) c_is_fraction
 have c_is_table:Cal l.prog w K mg base 4 "is_table" gj:=h19.cal (ps:=["thing"]) X G (λ_ _ _ _ _ _=>Hy.bd1 λ_=>rfl) λ_ F=>mH (k:=3) F hb (c_is_short_list.mono (by decide)) c_is_row
 have c_look_table:Cal l.prog w K mg base 5 "look_table" cC:=h20.cal (ps:=["thing"]) X G (λ_ _ _ _ _ _=>Hy.bd1 λ_=>rfl) λ_ F=>ka (k:=4) F hb c_is_table
 have c_choices_of:Cal l.prog w K mg base 1 "choices_of" d9:=h21.cal (ps:=["many","size"]) X G (λ_ _ _ _ _ _=>Hy.bd2 λ_ _=>rfl) λ_ F=>jZ (k:=0) F hb
 have c_along_last_row:Cal l.prog w K mg base 1 "along_last_row" (b9 l.prog w):=h22.cal (ps:=["known","row","columns"]) X G (λ_ _ _ _ _ _=>Hy.bd3 λ_ _ _=>rfl) λ_ F=>gn (k:=0) F hb
 have c_one_row_more:Cal l.prog w K mg base 2 "one_row_more" (cI l.prog w):=h23.cal (ps:=["known","row","column_choices"]) X G (λ_ _ _ _ _ _=>Hy.bd3 λ_ _ _=>rfl) λ_ F=>iQ (k:=1) F hb c_along_last_row
 have c_all_determinants:Cal l.prog w K mg base 3 "all_determinants" (bO l.prog w):=h24.cal (ps:=["rows"]) X G (λ_ _ _ _ _ _=>Hy.bd1 λ_=>rfl) λ_ F=>fK (k:=2) F hb (c_choices_of.mono (by decide)) c_one_row_more
 have c_whole_row:Cal l.prog w K mg base 1 "whole_row" fj:=h25.cal (ps:=["row","scale"]) X G (λ_ _ _ _ _ _=>Hy.bd2 λ_ _=>rfl) λ_ F=>lz (k:=0) F hb
 have c_whole_rows:Cal l.prog w K mg base 2 "whole_rows" cF:=h26.cal (ps:=["table","scales"]) X G (λ_ _ _ _ _ _=>Hy.bd2 λ_ _=>rfl) λ_ F=>j9 (k:=1) F hb c_whole_row
 have c_scale_of:Cal l.prog w K mg base 2 "scale_of" eJ:=h27.cal (ps:=["row"]) X G (λ_ _ _ _ _ _=>Hy.bd1 λ_=>rfl) λ_ F=>mr (k:=1) F hb c_common_divisor
 have c_first_under:Cal l.prog w K mg base 4 "first_under" di:=h28.cal (ps:=["table","bound"]) X G (λ_ _ _ _ _ _=>Hy.bd2 λ_ _=>rfl) λ_ F=>jJ (k:=3) F hb c_all_determinants (c_whole_rows.mono (by decide)) (c_scale_of.mono (by decide))
 have c_is_strict:Cal l.prog w K mg base 6 "is_strict" fh:=h29.cal (ps:=["table"]) X G (λ_ _ _ _ _ _=>Hy.bd1 λ_=>rfl) λ_ F=>l7 (k:=5) F hb c_look_table (c_first_under.mono (by decide))
 have c_l_rows:Cal l.prog w K mg base 2 "_law_rows" jc:=h30.cal (ps:=["_law_table_here"]) X G (λ_ _ _ _ _ _=>Hy.bd1 λ_=>rfl) λ_ F=>qX (k:=1) F hb c_l_divisor
 have c_l_minors:Cal l.prog w K mg base 1 "_law_minors" (gh l.prog w):=h31.cal (ps:=["_law_rows_here"]) X G (λ_ _ _ _ _ _=>Hy.bd1 λ_=>rfl) λ_ F=>mZ (k:=0) F hb
 have c_l_least_sign:Cal l.prog w K mg base 2 "_law_least_sign" cP:=h32.cal (ps:=["_law_rows_here"]) X G (λ_ _ _ _ _ _=>Hy.bd1 λ_=>rfl) λ_ F=>iN (k:=1) F hb c_l_minors
 have c_look_square:Cal l.prog w K mg base 1 "look_square" dg:=h33.cal (ps:=["table"]) X G (λ_ _ _ _ _ _=>Hy.bd1 λ_=>rfl) λ_ F=>jL (k:=0) F hb
 have c_in_lowest_terms:Cal l.prog w K mg base 2 "in_lowest_terms" bV:=h34.cal (ps:=["top","bottom"]) X G (λ_ _ _ _ _ _=>Hy.bd2 λ_ _=>rfl) λ_ F=>fZ (k:=1) F hb c_common_divisor
 have c_fraction:Cal l.prog w K mg base 3 "fraction" fW:=h35.cal (ps:=["top","bottom"]) X G (λ_ _ _ _ _ _ _ _=>Hy.bd2 λ_ _=>⟨_,rfl,rfl⟩) λ_ F=>mM (k:=2) F hb c_in_lowest_terms (c_is_whole.mono (by decide))
 have c_pivot_place:Cal l.prog w K mg base 1 "pivot_place" du:=h36.cal (ps:=["grid","k"]) X G (λ_ _ _ _ _ _=>Hy.bd2 λ_ _=>rfl) λ_ F=>jO (k:=0) F hb
 have c_cleared:Cal l.prog w K mg base 1 "cleared" ir:=h37.cal (ps:=["row","pivot_row","k","last"]) X G (λ_ _ _ _ _ _=>Hy.bd4 λ_ _ _ _=>rfl) λ_ F=>pj (k:=0) F hb
 have c_whole_determinant:Cal l.prog w K mg base 2 "whole_determinant" bJ:=h38.cal (ps:=["rows"]) X G (λ_ _ _ _ _ _=>Hy.bd1 λ_=>rfl) λ_ F=>fB (k:=1) F hb c_pivot_place c_cleared
 have c_product_of_all:Cal l.prog w K mg base 1 "product_of_all" b7:=h39.cal (ps:=["numbers"]) X G (λ_ _ _ _ _ _=>Hy.bd1 λ_=>rfl) λ_ F=>gy (k:=0) F hb
 have c_square_determinant:Cal l.prog w K mg base 4 "square_determinant" bH:=h40.cal (ps:=["table"]) X G (λ_ _ _ _ _ _=>Hy.bd1 λ_=>rfl) λ_ F=>eX (k:=3) F hb (c_look_square.mono (by decide)) c_fraction (c_scale_of.mono (by decide)) (c_whole_determinant.mono (by decide)) (c_product_of_all.mono (by decide)) (c_whole_rows.mono (by decide))
 have c_corner_part:Cal l.prog w K mg base 1 "corner_part" c8:=h41.cal (ps:=["table","i","j"]) X G (λ_ _ _ _ _ _=>Hy.bd3 λ_ _ _=>rfl) λ_ F=>js (k:=0) F hb
 have c_corners_in_row:Cal l.prog w K mg base 5 "corners_in_row" b6:=h42.cal (ps:=["table","i"]) X G (λ_ _ _ _ _ _=>Hy.bd2 λ_ _=>rfl) λ_ F=>gz (k:=4) F hb c_square_determinant (c_corner_part.mono (by decide))
 have c_corners:Cal l.prog w K mg base 6 "corners" ij:=h43.cal (ps:=["table"]) X G (λ_ _ _ _ _ _=>Hy.bd1 λ_=>rfl) λ_ F=>oJ (k:=5) F hb c_look_table c_corners_in_row
 have c_l_det:Cal l.prog w K mg base 1 "_law_det" lP:=h44.cal (ps:=["_law_rows_here"]) X G (λ_ _ _ _ _ _=>Hy.bd1 λ_=>rfl) λ_ F=>uC (k:=0) F hb
 have c_l_corner:Cal l.prog w K mg base 2 "_law_corner" fX:=h45.cal (ps:=["_law_rows_here","_law_i","_law_j"]) X G (λ_ _ _ _ _ _=>Hy.bd3 λ_ _ _=>rfl) λ_ F=>mF (k:=1) F hb c_l_det
 exact yb (k:=7) (pw l0 c r) hb c_l_drawn (c_is_strict.mono (by decide)) (c_l_rows.mono (by decide)) (c_l_least_sign.mono (by decide)) (c_corners.mono (by decide)) (c_l_corner.mono (by decide))
theorem walk {l:PySem.W.OpenLaw} {q:Program} {loose:List Str} {XP:(Str->Option Value)->Heap->Prop} {YP:World->Heap->Prop} {d:DefRec} {K:Params->PySem.W.Frag} (hn:l.most=some 63) (hdf:d.params.defaults=[])
   (hY:∀ (w:World) (h:Heap),YP w h->(K w.params).In h)
   (F:∀ (w:World) (mg:Str->Option Value) (fa:Addr) (h:Heap),(K w.params).In h->h.Ns mainGlobals mg->mg d.name=some (.ref fa) ->
     ∃ fd:FuncData,(∀ (s:Shared) (u:Value),BindsTo s fd ⟨[u],[]⟩ [("_law_script",u)])/\∀ base:Heap,(K w.params).In base->base.Ns mainGlobals mg->aR l.prog w (K w.params) mg base CX0 8 fa fd ["_law_script"] (spD (K w.params) qK)) :
   PySem.W.WalkO q loose XP YP l.row.toRowW d [] (λf vs=>PySem.call f vs):=
 L2.v8 (n:=63) (k:=8) (x:="_law_script") (CX:=λ_=>CX0) (sp:=λw=>spD (K w.params) qK) hn (by decide) hdf ⟨rfl,by decide,by decide⟩ hY F
   (λw H a ns hl _ hS=>wF (λns h=>⟨ns,h,rfl,rfl⟩) H a ns hl hS) λ_ _ _ _ _ z=>z
end K60
open PySem PySem.W PyProof.Rows
namespace PySem.W.Fast
theorem tw14129055320750130810:True:=⟨⟩
theorem tw10945513441684371177:True:=⟨⟩
theorem tw9189337067189324382:True:=⟨⟩
theorem tw17912990517037540733:True:=⟨⟩
theorem tw13586065921197084804:True:=⟨⟩
theorem tw6997914117181962480:True:=⟨⟩
theorem tw5867556296614244653:True:=⟨⟩
theorem tw6242474832594787672:True:=⟨⟩
theorem tw11614817256000947821:True:=⟨⟩
theorem tw14909745698146874106:True:=⟨⟩
theorem tw17432305996175223639:True:=⟨⟩
theorem tw2623033214653725308:True:=⟨⟩
theorem tw5359211108908986320:True:=⟨⟩
theorem tw6728475844089724240:True:=⟨⟩
theorem tw12279915797031987904:True:=⟨⟩
theorem tw18420599173692052933:True:=⟨⟩
theorem tw5545380767857894166:True:=⟨⟩
theorem tw8904538232273494191:True:=⟨⟩
theorem tw589946993118119166:True:=⟨⟩
theorem tw7909734233089360055:True:=⟨⟩
theorem tw18059912392089181674:True:=⟨⟩
theorem tw1112495048484940833:True:=⟨⟩
theorem tw9876018214615452017:True:=⟨⟩
theorem tw13819812261137754665:True:=⟨⟩
theorem tw15266128404380379260:True:=⟨⟩
theorem tw5714301171842266900:True:=⟨⟩
theorem tw9738706422003942306:True:=⟨⟩
theorem tw14514296696989185526:True:=⟨⟩
theorem tw7004645493641870289:True:=⟨⟩
theorem tw14456714831739998817:True:=⟨⟩
theorem tw7807132161296444953:True:=⟨⟩
theorem tw2036237777566790820:True:=⟨⟩
theorem tw6860405988619931544:True:=⟨⟩
theorem tw2310951870066873405:True:=⟨⟩
theorem tw7446351766502472775:True:=⟨⟩
theorem tw13940291991983719193:True:=⟨⟩
theorem tw14560986654782889325:True:=⟨⟩
theorem tw17524424960103034036:True:=⟨⟩
theorem tw15878908017853662039:True:=⟨⟩
theorem tw7176287191432518645:True:=⟨⟩
theorem tw1629046132393203185:True:=⟨⟩
theorem tw14687298472775422958:True:=⟨⟩
theorem tw2787368090202532928:True:=⟨⟩
theorem tw13753770626117988570:True:=⟨⟩
theorem tw8214854044917544706:True:=⟨⟩
theorem tw3860909553629210313:True:=⟨⟩
theorem tw4565144943582674679:True:=⟨⟩
theorem tw6421376455674561533:True:=⟨⟩
theorem tw3634622964480875121:True:=⟨⟩
theorem tw3351732442172330670:True:=⟨⟩
theorem tw1097077328737077158:True:=⟨⟩
theorem tw197702032617144473:True:=⟨⟩
theorem tw12105934315037930638:True:=⟨⟩
theorem tw10904998497177888744:True:=⟨⟩
theorem tw16851375923904539003:True:=⟨⟩
theorem tw10159357340420215143:True:=⟨⟩
theorem tw17799695161654822414:True:=⟨⟩
theorem tw14125747590821602632:True:=⟨⟩
theorem tw18151317923784587787:True:=⟨⟩
theorem tw10631439672130150765:True:=⟨⟩
theorem tw8149280879895007688:True:=⟨⟩
theorem tw5938881849859098966:True:=⟨⟩
end PySem.W.Fast
set_option maxRecDepth 100000 in
set_option maxHeartbeats 0 in
theorem PySem.Challenge.cw_signsmooth_k60_whole_strict_by_corners_holds : PySem.Challenge.rw_signsmooth_k60_whole_strict_by_corners.Holds := by
 w_on; o_law; k_head; (case hw=>w_witness2)
 k_fill
 refine K60.walk (l:=PySem.Challenge.rw_signsmooth_k60_whole_strict_by_corners) rfl rfl (λw h Y=>PySem.W.kIn_of Y) ?F
 case F=>
   intro w mg fa h KX G hmg
   refine' K60.all_mk KX G hmg (.of ?_ ?_ ?_ ?_) (.of ?_ ?_ ?_ ?_) (.of ?_ ?_ ?_ ?_) (.of ?_ ?_ ?_ ?_) (.of ?_ ?_ ?_ ?_) (.of ?_ ?_ ?_ ?_) (.of ?_ ?_ ?_ ?_) (.of ?_ ?_ ?_ ?_) (.of ?_ ?_ ?_ ?_) (.of ?_ ?_ ?_ ?_) (.of ?_ ?_ ?_ ?_) (.of ?_ ?_ ?_ ?_) (.of ?_ ?_ ?_ ?_) (.of ?_ ?_ ?_ ?_) (.of ?_ ?_ ?_ ?_) (.of ?_ ?_ ?_ ?_) (.of ?_ ?_ ?_ ?_) (.of ?_ ?_ ?_ ?_) (.of ?_ ?_ ?_ ?_) (.of ?_ ?_ ?_ ?_) (.of ?_ ?_ ?_ ?_) (.of ?_ ?_ ?_ ?_) (.of ?_ ?_ ?_ ?_) (.of ?_ ?_ ?_ ?_) (.of ?_ ?_ ?_ ?_) (.of ?_ ?_ ?_ ?_) (.of ?_ ?_ ?_ ?_) (.of ?_ ?_ ?_ ?_) (.of ?_ ?_ ?_ ?_) (.of ?_ ?_ ?_ ?_) (.of ?_ ?_ ?_ ?_) (.of ?_ ?_ ?_ ?_) (.of ?_ ?_ ?_ ?_) (.of ?_ ?_ ?_ ?_) (.of ?_ ?_ ?_ ?_) (.of ?_ ?_ ?_ ?_ ?_) (.of ?_ ?_ ?_ ?_) (.of ?_ ?_ ?_ ?_) (.of ?_ ?_ ?_ ?_) (.of ?_ ?_ ?_ ?_) (.of ?_ ?_ ?_ ?_) (.of ?_ ?_ ?_ ?_) (.of ?_ ?_ ?_ ?_) (.of ?_ ?_ ?_ ?_) (.of ?_ ?_ ?_ ?_) (.of ?_ ?_ ?_ ?_) (.of ?_ ?_ ?_ ?_) ⟨?_,?_,?_,?_,?_,?_,?_,?_,?_,?_,?_,?_,?_,?_,?_,?_,?_,?_,trivial⟩ ?_
   all_goals try k_is
#print axioms PySem.Challenge.cw_signsmooth_k60_whole_strict_by_corners_holds
