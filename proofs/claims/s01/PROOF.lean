import PyProof.Rows.All
import Wide.All
import OpenK.AllK
import Wide.FinOn
import PyProof.EqAt
import PyProof.EqKinds
import PyProof.TupleCall
import KE.BitLaws
import KE.IntBitsLaws
import Open.SpecLaws
import KE.OsHead
import KE.OsGo
import VagrafSpec
import VagrafNeutral
import PyVagraf
import PyFlatLaws
import KE.KDictList
import KE.KItemsList
import KE.KBoundM
import PyProof.Rows.SortShellAny
import PyProof.Rows.CallKwBuiltin
import KE.KMinKey
import PySem.Challenge.RW_tapesweep_s01_answers
set_option Elab.async false
set_option linter.all false
set_option maxRecDepth 100000
namespace L2
open PySem PySem.Spec PyProof.Rows
abbrev Key:=Sum Int Str
def keyIs:Key→Value→Bool
  | .inl k,v=>Value.isInt k v
  | .inr x,v=>Value.isStrOf x v
def keyH (w:World):Key→Int
  | .inl k=>hashInt k
  | .inr x=>hashStr w x
theorem keyIs_shape:∀ {k:Key} {v:Value},keyIs k v=true→(∃ i t,k=Sum.inl i∧v=Value.int i t)∨(∃ x t,k=Sum.inr x∧v=Value.str x t)
  | .inl i,v,h=>by
    obtain ⟨t,e⟩:=Value.isInt_shape (k:=i) (v:=v) h
    exact .inl ⟨i,t,rfl,e⟩
  | .inr x,v,h=>by
    obtain ⟨t,e⟩:=Value.isStrOf_shape (x:=x) (v:=v) h
    exact .inr ⟨x,t,rfl,e⟩
theorem keyIs_int (i:Int) (t:Tok):keyIs (.inl i) (.int i t)=true:=by simp [keyIs,Value.isInt]
theorem keyIs_str (x:Str) (t:Tok):keyIs (.inr x) (.str x t)=true:=by simp [keyIs,Value.isStrOf]
theorem key_ll (a b:Int):decide ((Sum.inl a:Key)=Sum.inl b)=(a == b):=by
  by_cases e:a=b
  · subst e; simp
  · have h:¬ (Sum.inl a:Key)=Sum.inl b:=fun q=>e (Sum.inl.inj q)
    rw [decide_eq_false h]
    exact (beq_eq_false_iff_ne.mpr e).symm
theorem key_rr (a b:Str):decide ((Sum.inr a:Key)=Sum.inr b)=decide (a=b):=by
  by_cases e:a=b
  · subst e; simp
  · have h:¬ (Sum.inr a:Key)=Sum.inr b:=fun q=>e (Sum.inr.inj q)
    rw [decide_eq_false h,decide_eq_false e]
theorem key_lr (a:Int) (b:Str):decide ((Sum.inl a:Key)=Sum.inr b)=false:=decide_eq_false (fun q=>nomatch q)
theorem key_rl (a:Str) (b:Int):decide ((Sum.inr a:Key)=Sum.inl b)=false:=decide_eq_false (fun q=>nomatch q)
def mixKind (prog:Program) (w:World):PySem.KeyKind prog w Key where
  is:=keyIs
  hash:=keyH w
  inj:=fun v a b ha hb=>by
    rcases keyIs_shape ha with ⟨i,t,rfl,rfl⟩ | ⟨x,t,rfl,rfl⟩
    · rcases keyIs_shape hb with ⟨j,u,rfl,e⟩ | ⟨y,u,rfl,e⟩
      · injection e with e1 _; rw [e1]
      · exact nomatch e
    · rcases keyIs_shape hb with ⟨j,u,rfl,e⟩ | ⟨y,u,rfl,e⟩
      · exact nomatch e
      · injection e with e1 _; rw [e1]
  byValue:=fun k v h=>by
    rcases keyIs_shape h with ⟨i,t,rfl,rfl⟩ | ⟨x,t,rfl,rfl⟩ <;> rfl
  pyHash:=fun hv h=>by
    rcases keyIs_shape hv with ⟨i,t,rfl,rfl⟩ | ⟨x,t,rfl,rfl⟩
    · exact wpAny_pyHash_int h
    · exact wpAny_pyHash_str h
  eqBool:=fun hu hv h=>by
    rcases keyIs_shape hu with ⟨i,t,rfl,rfl⟩ | ⟨x,t,rfl,rfl⟩
    · rcases keyIs_shape hv with ⟨j,u,rfl,rfl⟩ | ⟨y,u,rfl,rfl⟩
      · rw [key_ll] at h; exact wpAny_eqBool_int h
      · rw [key_lr] at h; exact SeqAt.EqAt.int_str i t y u _ _ _ _ h
    · rcases keyIs_shape hv with ⟨j,u,rfl,rfl⟩ | ⟨y,u,rfl,rfl⟩
      · rw [key_rl] at h; exact SeqAt.EqAt.str_int x t j u _ _ _ _ h
      · rw [key_rr] at h; exact wpAny_eqBool_str h
  «strs» := fun k x t v h=>by
    rcases keyIs_shape h with ⟨i,u,rfl,e⟩ | ⟨y,u,rfl,e⟩
    · exact nomatch e
    · injection e with e1 _
      subst e1
      cases v <;> rfl
theorem mixKind_int (prog:Program) (w:World) (i:Int) (t:Tok):(mixKind prog w).is (.inl i) (.int i t)=true:=keyIs_int i t
theorem mixKind_str (prog:Program) (w:World) (x:Str) (t:Tok):(mixKind prog w).is (.inr x) (.str x t)=true:=keyIs_str x t
end L2
namespace L2
open PySem PySem.Spec PyProof.Rows
inductive V where
  | non | bl (b:Bool) | int (i:Int) | str (x:Str) | byt (b:Array UInt8) | flt (b:UInt64) | ref (a:Addr) | ty (n:String)
  deriving DecidableEq
def RelV:V→Value→Prop
  | .non,u=>u=Value.none
  | .bl b,u=>u=Value.bool b
  | .int i,u => ∃ t,u=Value.int i t
  | .str x,u => ∃ t,u=Value.str x t
  | .byt b,u => ∃ t,u=Value.bytes b t
  | .flt b,u => ∃ t,u=Value.float b t
  | .ref a,u=>u=Value.ref a
  | .ty n,u=>u=Value.type n
abbrev Vals:List V→List Value→Prop:=Paired RelV
theorem Vals.length {xs:List V} {us:List Value} (r:Vals xs us):xs.length=us.length:=Paired.length r
theorem Vals.get:∀ {xs:List V} {us:List Value} {i:Nat} {x:V},Vals xs us→xs[i]? = some x→∃ u,us[i]? = some u∧RelV x u
  | _,_,_,_,.nil,e=>by simp at e
  | _,_,0,_,.cons r _,e=>by simp at e; subst e; exact ⟨_,rfl,r⟩
  | _,_,i+1,x,.cons _ t,e=>by
    obtain ⟨u,h1,h2⟩:=Vals.get (i:=i) (x:=x) t (by simpa using e)
    exact ⟨u,by simpa using h1,h2⟩
theorem Vals.set {x:V} {u:Value} (r:RelV x u):∀ {xs:List V} {us:List Value} (i:Nat),Vals xs us→Vals (xs.set i x) (us.set i u)
  | _,_,_,.nil => .nil
  | _,_,0,.cons _ t => .cons r t
  | _,_,i+1,.cons q t => .cons q (Vals.set r i t)
theorem Vals.append:∀ {xs ys:List V} {us ws:List Value},Vals xs us→Vals ys ws→Vals (xs++ys) (us++ws)
  | _,_,_,_,.nil,s=>s
  | _,_,_,_,.cons r t,s => .cons r (Vals.append t s)
theorem Vals.take:∀ {xs:List V} {us:List Value} (n:Nat),Vals xs us→Vals (xs.take n) (us.take n)
  | _,_,0,_ => .nil
  | _,_,_+1,.nil => .nil
  | _,_,n+1,.cons r t => .cons r (Vals.take n t)
theorem Vals.drop:∀ {xs:List V} {us:List Value} (n:Nat),Vals xs us→Vals (xs.drop n) (us.drop n)
  | _,_,0,r=>r
  | _,_,_+1,.nil => .nil
  | _,_,n+1,.cons _ t=>Vals.drop n t
def RelO:Option V→Option Value→Prop
  | some v,some u=>RelV v u
  | none,none=>True
  | _,_=>False
def KV {κ:Type}:List (κ×V)→List (κ×Value)→Prop:=Paired fun (p:κ×V) (q:κ×Value)=>p.1=q.1∧RelV p.2 q.2
def kV:Key→V
  | .inl i => .int i
  | .inr x => .str x
inductive HO where
  | lst (xs:List V)
  | tup (xs:List V)
  | dK (kvs:List (Key×V)) | dT (kvs:List (List Key×V))
  | set (S:Int→Bool) (n:Nat)
  | ins (C dx:Addr) (fs:List (Str×V))
  | own (x:Addr)
  | xd (fs:List (Str×V))
  | met (f x:Addr)
  | rng (lo hi:Int)
  | frz (o:Obj) (u:HO)
  | tbl (ps:Array Value)
  | ext (φ:Heap→Prop)
abbrev Hp:=Addr→Option HO
def upd (H:Hp) (a:Addr) (o:HO):Hp:=fun b=>if b=a then some o else H b
theorem upd_same {H:Hp} {a:Addr} {o:HO}:upd H a o a=some o:=by unfold upd; rw [if_pos rfl]
theorem upd_ne {H:Hp} {a b:Addr} {o:HO} (h:b≠a):upd H a o b=H b:=by unfold upd; rw [if_neg h]
theorem upd_upd {H:Hp} {a:Addr} {o u:HO}:upd (upd H a o) a u=upd H a u:=by
  funext b; unfold upd; split <;> rfl
theorem ne_of {H:Hp} {a b:Addr} {o u:HO} (h:H a=some o) (h':H b=some u) (d:o≠u):a≠b:=by
  intro e; subst e; rw [h] at h'; exact d (Option.some.inj h')
theorem ne_of_none {H:Hp} {a b:Addr} {o:HO} (h:H a=some o) (h':H b=none):a≠b:=by
  intro e; subst e; rw [h] at h'; cases h'
section
variable (P:Program) (w:World)
def ObjOk (H:Hp) (h:Heap) (a:Addr):HO→Prop
  | .lst xs=>xs.length≤sizeLine∧∃ (its:List Value) (n:Nat),Vals xs its∧h.get? a=some { cls:=.type "list",data:=.seq its.toArray n }
  | .tup xs=>xs.length≤sizeLine∧∃ its:List Value,Vals xs its∧IsTup h a its.toArray
  | .dK kvs=>kvs.length≤sizeLine∧(a == sysModules)=false∧∃ vs,KV kvs vs∧h.DictOf (mixKind P w) a vs
  | .dT kvs=>kvs.length≤sizeLine∧(a == sysModules)=false∧∃ xs:List (List Key×Addr×Value),
      Paired (fun (p:List Key×V) (q:List Key×Addr×Value)=>p.1=q.1∧H q.2.1=some (.tup (p.1.map kV))∧RelV p.2 q.2.2) kvs xs ∧
      ∃ o es ep,h.get? a=some o∧o.ExactDict∧o.data = .dict es ep∧es.toList=xs.map (entryOfKey (tupleKind (mixKind P w)))∧(xs.map (·.1)).Nodup
  | .set S n=>h.SetOf (intKind P w) a S n
  | .ins C dx fs=>H dx=some (.own a)∧fs.length≤1000∧dx≠a∧h.get? a=some (PySem.W.instObj C dx) ∧
      ∃ mA,h.Ns1 dx mA∧(∀ f,RelO (fs.lookup f) (mA f))∧PySem.Within mA (fs.map (·.1))
  | .own _ => ∃ o,h.get? a=some o
  | .xd fs => ∃ mA,h.Ns1 a mA∧∀ f,RelO (fs.lookup f) (mA f)
  | .rng lo hi => ∃ t u v,h.get? a=some { cls:=.type "range",data:=.fields #[.int lo t,.int hi u,.int 1 v] }
  | .frz o u=>h.get? a=some o∧ObjOk H h a u
  | .tbl ps=>h.get? a=some { cls:=.none,data:=.fields ps }
  | .met f x=>h.get? a=some (PySem.W.methodObj (.ref f) (.ref x))
  | .ext φ=>φ h∧(∃ o,h.get? a=some o)∧∀ h1 h2:Heap,φ h1→(∀ o,h1.get? a=some o→h2.get? a=some o)→φ h2
def HOk (H:Hp) (h:Heap):Prop:=∀ a o,H a=some o→ObjOk P w H h a o
end
section
variable {P:Program} {w:World} {H H':Hp} {h h':Heap} {a:Addr} {o:HO}
theorem ObjOk.lt (x:ObjOk P w H h a o):a<h.objs.size:=by
  cases o with
  | lst xs=>obtain ⟨_,_,_,_,e⟩:=x; exact Heap.lt_size e
  | tup xs=>obtain ⟨_,_,_,p⟩:=x; exact p.lt
  | dK kvs=>obtain ⟨_,_,_,_,o,_,_,e,_⟩:=x; exact Heap.lt_size e
  | dT kvs=>obtain ⟨_,_,_,_,o,_,_,e,_⟩:=x; exact Heap.lt_size e
  | set S n=>obtain ⟨o,_,_,_,e,_⟩:=x; exact Heap.lt_size e
  | ins C dx fs=>obtain ⟨_,_,_,e,_⟩:=x; exact Heap.lt_size e
  | own y=>obtain ⟨_,e⟩:=x; exact Heap.lt_size e
  | xd fs=>obtain ⟨_,⟨_,_,_,e,_⟩,_⟩:=x; exact Heap.lt_size e
  | rng lo hi=>obtain ⟨_,_,_,e⟩:=x; exact Heap.lt_size e
  | frz ob u=>obtain ⟨e,_⟩:=x; exact Heap.lt_size e
  | tbl ps=>exact Heap.lt_size (show h.get? a=some _ from x)
  | met f y=>exact Heap.lt_size (show h.get? a=some _ from x)
  | ext φ=>obtain ⟨_,⟨_,e⟩,_⟩:=x; exact Heap.lt_size e
theorem Paired.mapP {α β:Type} {F G:α→β→Prop}:∀ {l₁:List α} {l₂:List β},Paired F l₁ l₂→(∀ a b,F a b→G a b)→Paired G l₁ l₂
  | _,_,.nil,_ => .nil
  | _,_,.cons r t,f => .cons (f _ _ r) (Paired.mapP t f)
theorem ObjOk.stay (x:ObjOk P w H h a o) (k:∀ b u,(b=a∨H b=some (.own a))→h.get? b=some u→h'.get? b=some u)
    (ho:∀ b,H b=some (.own a)→H' b=some (.own a)) (ht:∀ b xs,H b=some (.tup xs)→H' b=some (.tup xs)):ObjOk P w H' h' a o:=by
  induction o with
  | lst xs=>obtain ⟨z,its,n,r,e⟩:=x; exact ⟨z,its,n,r,k _ _ (.inl rfl) e⟩
  | tup xs=>obtain ⟨z,its,r,ob,e,c⟩:=x; exact ⟨z,its,r,ob,k _ _ (.inl rfl) e,c⟩
  | dK kvs=>obtain ⟨z,y,vs,r,ob,es,ep,e,c⟩:=x; exact ⟨z,y,vs,r,ob,es,ep,k _ _ (.inl rfl) e,c⟩
  | dT kvs=>
    obtain ⟨z,y,xs,r,ob,es,ep,e,c⟩:=x
    exact ⟨z,y,xs,Paired.mapP r fun p q z=>⟨z.1,ht _ _ z.2.1,z.2.2⟩,ob,es,ep,k _ _ (.inl rfl) e,c⟩
  | set S n=>obtain ⟨ob,es,ep,t,e,c⟩:=x; exact ⟨ob,es,ep,t,k _ _ (.inl rfl) e,c⟩
  | ins C dx fs=>
    obtain ⟨d,z,ne,e,mA,⟨od,es,ep,e2,c⟩,r⟩:=x
    exact ⟨ho _ d,z,ne,k _ _ (.inl rfl) e,mA,⟨od,es,ep,k _ _ (.inr d) e2,c⟩,r⟩
  | own y=>obtain ⟨ob,e⟩:=x; exact ⟨ob,k _ _ (.inl rfl) e⟩
  | xd fs=>obtain ⟨mA,⟨od,es,ep,e,c⟩,r⟩:=x; exact ⟨mA,⟨od,es,ep,k _ _ (.inl rfl) e,c⟩,r⟩
  | rng lo hi=>obtain ⟨t,u,v,e⟩:=x; exact ⟨t,u,v,k _ _ (.inl rfl) e⟩
  | frz ob u ih=>obtain ⟨e,q⟩:=x; exact ⟨k _ _ (.inl rfl) e,ih q⟩
  | tbl ps=>
    have e:h.get? a=some { cls:=.none,data:=.fields ps }:=x
    show h'.get? a=some { cls:=.none,data:=.fields ps }
    exact k a _ (.inl rfl) e
  | met f y=>
    have e:h.get? a=some (PySem.W.methodObj (.ref f) (.ref y)):=x
    show h'.get? a=some (PySem.W.methodObj (.ref f) (.ref y))
    exact k a _ (.inl rfl) e
  | ext φ=>obtain ⟨p,⟨o,e⟩,st⟩:=x; exact ⟨st _ _ p fun o q=>k _ _ (.inl rfl) q,⟨o,k _ _ (.inl rfl) e⟩,st⟩
theorem HOk.lt (x:HOk P w H h) (e:H a=some o):a<h.objs.size:=(x a o e).lt
theorem HOk.fresh (x:HOk P w H h) (e:h.objs.size≤a):H a=none:=by
  cases q:H a with
  | none=>rfl
  | some u=>exact absurd (Nat.lt_of_lt_of_le (x.lt q) e) (Nat.lt_irrefl _)
theorem HOk.kept (x:HOk P w H h) (k:∀ b u,h.get? b=some u→h'.get? b=some u):HOk P w H h':=fun a o e=>
  (x a o e).stay (fun b u _ q=>k b u q) (fun _ q=>q) fun _ _ q=>q
theorem HOk.laid (x:HOk P w H h) (k:∀ b u,h.get? b=some u→h'.get? b=some u) (hp:h.objs.size≤a) (new:ObjOk P w (upd H a o) h' a o):HOk P w (upd H a o) h':=fun b u e=>by
  have hn:=x.fresh hp
  by_cases hb:b=a
  · subst hb; rw [upd_same] at e; cases e; exact new
  · rw [upd_ne hb] at e
    exact (x b u e).stay (fun c v _ q=>k c v q) (fun c q=>by rw [upd_ne (ne_of_none q hn)]; exact q) fun c xs q=>by rw [upd_ne (ne_of_none q hn)]; exact q
end
def Rd (H:Hp) (a:Addr) (u:HO):Prop:=H a=some u ∨ ∃ o,H a=some (.frz o u)
theorem Rd.ok {P:Program} {w:World} {H:Hp} {h:Heap} {a:Addr} {u:HO} (r:Rd H a u) (x:HOk P w H h):ObjOk P w H h a u:=by
  rcases r with r | ⟨o,r⟩
  · exact x a u r
  · obtain ⟨_,q⟩:=x a _ r
    exact q
def Mut:Option HO→Prop
  | some (.lst _)=>True
  | some (.dK _)=>True
  | some (.dT _)=>True
  | some (.set _ _)=>True
  | some (.ins _ _ _)=>True
  | some (.ext _)=>True
  | _=>False
section
variable {P:Program} {w:World} {H:Hp} {h h':Heap} {x e:Addr} {o':HO}
theorem HOk.write (ok:HOk P w H h) (mu:Mut (H x)) (he:e=x∨H e=some (.own x)) (k:∀ b u,b≠e→h.get? b=some u→h'.get? b=some u) (heo:∃ u,h'.get? e=some u)
    (new:ObjOk P w (upd H x o') h' x o'):HOk P w (upd H x o') h':=fun b u q=>by
  have nown:∀ c y,H c=some (.own y)→c≠x:=fun c y r z=>by subst z; rw [r] at mu; exact mu
  have ntup:∀ c xs,H c=some (.tup xs)→c≠x:=fun c xs r z=>by subst z; rw [r] at mu; exact mu
  by_cases hb:b=x
  · subst hb; rw [upd_same] at q; cases q; exact new
  · rw [upd_ne hb] at q
    by_cases hbe:b=e
    · have q':H b=some (.own x):=by
        rcases he with z | z
        · exact absurd (hbe.trans z) hb
        · rw [hbe]; exact z
      rw [q] at q'; cases q'
      obtain ⟨v,hv⟩:=heo
      exact ⟨v,by rw [hbe]; exact hv⟩
    · refine (ok b u q).stay (fun c v hc r=>k c v ?_ r) (fun c r=>by rw [upd_ne (nown c b r)]; exact r) fun c xs r=>by rw [upd_ne (ntup c xs r)]; exact r
      rcases hc with rfl | hc
      · exact hbe
      · rintro rfl
        rcases he with z | z
        · exact nown c b hc z
        · rw [hc] at z; cases z; exact hb rfl
end
structure Un (fs ex:List Addr) (H H':Hp) (h h':Heap):Prop where
  keep:∀ b o,h.get? b=some o→H b=none→b ∉ fs→b ∉ ex→h'.get? b=some o
  slot:∀ b o,h.get? b=some o→H b=none→b∈fs→b ∉ ex→∃ sl,h'.get? b=some { o with slots:=sl }
  free:∀ b o,h.get? b=some o→H b=none→b ∉ ex→H' b=none
  there:∀ b o,h.get? b=some o→b ∉ ex→∃ o',h'.get? b=some o'
  tups:∀ b xs,H b=some (.tup xs)→H' b=some (.tup xs)
  frzs:∀ b o u,H b=some (.frz o u)→H' b=some (.frz o u)
  tbls:∀ b ps,H b=some (.tbl ps)→∃ more,H' b=some (.tbl (ps++more))
section
variable {fs fs' ex ex':List Addr} {H H1 H2:Hp} {h h1 h2 h':Heap} {a x e:Addr} {o:HO}
theorem Un.any (u:Un fs ex H H1 h h1) {b:Addr} {ob:Obj} (q:h.get? b=some ob) (n:H b=none) (hx:b ∉ ex):∃ sl,h1.get? b=some { ob with slots:=sl }:=by
  by_cases hb:b∈fs
  · exact u.slot b ob q n hb hx
  · exact ⟨ob.slots,u.keep b ob q n hb hx⟩
theorem Un.kept (k:∀ b u,h.get? b=some u→h'.get? b=some u):Un fs ex H H h h' :=
  ⟨fun b ob q _ _ _=>k b ob q,fun b ob q _ _ _=>⟨ob.slots,k b ob q⟩,fun _ _ _ n _=>n,fun b ob q _=>⟨ob,k b ob q⟩,fun _ _ q=>q,fun _ _ _ q=>q,fun _ ps q=>⟨#[],by rw [q]; simp⟩⟩
theorem Un.refl:Un fs ex H H h h:=Un.kept fun _ _ q=>q
theorem Un.laid (k:∀ b u,h.get? b=some u→h'.get? b=some u) (hp:h.objs.size≤a) (hn:H a=none):Un fs ex H (upd H a o) h h' where
  keep:=fun b u q _ _ _=>k b u q
  slot:=fun b u q _ _ _=>⟨u.slots,k b u q⟩
  free:=fun b u q n _=>by rw [upd_ne (Nat.ne_of_lt (Nat.lt_of_lt_of_le (Heap.lt_size q) hp))]; exact n
  there:=fun b u q _=>⟨u,k b u q⟩
  tups:=fun b xs q=>by rw [upd_ne (ne_of_none q hn)]; exact q
  frzs:=fun b u xs q=>by rw [upd_ne (ne_of_none q hn)]; exact q
  tbls:=fun b ps q=>⟨#[],by rw [upd_ne (ne_of_none q hn),q]; simp⟩
theorem Un.write (mu:Mut (H x)) (he:e=x∨H e=some (.own x)) (k:∀ b u,b≠e→h.get? b=some u→h'.get? b=some u) (heo:∃ u,h'.get? e=some u):Un fs ex H (upd H x o) h h':=by
  have hx:∀ b,H b=none→b≠x:=fun b n z=>by subst z; rw [n] at mu; exact mu
  have hb:∀ b,H b=none→b≠e:=fun b n z=>by
    subst z
    rcases he with r | r
    · exact hx b n r
    · rw [n] at r; cases r
  have hm:∀ b u,H b=some u→¬ Mut (some u)→b≠x:=fun b u q nm z=>by subst z; rw [q] at mu; exact nm mu
  refine ⟨fun b u q n _ _=>k b u (hb b n) q,fun b u q n _ _=>⟨u.slots,k b u (hb b n) q⟩,fun b u q n _=>by rw [upd_ne (hx b n)]; exact n,fun b u q _ => ?_,
    fun b xs q=>by rw [upd_ne (hm b _ q fun z=>z)]; exact q,fun b u xs q=>by rw [upd_ne (hm b _ q fun z=>z)]; exact q,fun b ps q=>⟨#[],by rw [upd_ne (hm b _ q fun z=>z),q]; simp⟩⟩
  by_cases hbe:b=e
  · subst hbe; exact heo
  · exact ⟨u,k b u hbe q⟩
end
def trk (h:Heap) (H:Hp):List Addr:=(List.range h.objs.size).filter fun a=>(H a).isSome
def hidT (h:Heap) (H:Hp):Heap:=PySem.W.hideAll h (trk h H)
theorem hidT_size (h:Heap) (H:Hp):(hidT h H).objs.size=h.objs.size:=PySem.W.hideAll_size _ _
theorem hidT_get {h:Heap} {H:Hp} {b:Addr} {o:Obj} (e:h.get? b=some o) (n:H b=none):(hidT h H).get? b=some o :=
  PySem.W.hideAll_get _ e fun hm=>by
    have q:(H b).isSome=true:=(List.mem_filter.mp hm).2
    rw [n] at q; simp at q
theorem of_hidT {h:Heap} {H:Hp} {b:Addr} {o:Obj} (e:(hidT h H).get? b=some o):h.get? b=some o∧H b=none:=by
  have e':h.get? b=some o:=PySem.W.of_hideAll (trk h H) e
  refine ⟨e',?_⟩
  cases q:H b with
  | none=>rfl
  | some x=>
    have hm:b∈trk h H:=List.mem_filter.mpr ⟨List.mem_range.mpr (Heap.lt_size e'),by simp [q]⟩
    have z:(hidT h H).get? b=none:=PySem.W.hideAll_none (trk h H) hm
    rw [z] at e; cases e
end L2
namespace L2
open PySem PySem.Spec PyProof.Rows
structure Mod (K:PySem.W.Frag) (mg:Str→Option Value) (base:Heap):Prop where
  kin:K.In base
  glob:base.Ns mainGlobals mg
  blt:∃ mb,base.Ns builtinsNs mb∧∀ x:Str,x ≠ "__name__" → mb x=bootBuiltins x
  nolimit:base.NoLimit
  seer:base.NoSeer
structure Cx where
  prog:Program
  w:World
  K:PySem.W.Frag
  mg:Str→Option Value
  base:Heap
  A:Around
  N:List Str
  s_0:Shared
  H_0:Hp
  env:Env
  outer:List Env
  stack:List Env
  ex:List Addr
  fn:Str→Bool
  calm:Bool
  pn:List (Addr×Obj)
  xe:Value→Shared→Prop
def frs (l:List Env):List Addr:=l.filterMap (·.frame)
abbrev Cx.fs (X:Cx):List Addr:=frs X.outer
def Vis (sc:Scope) (x:Str):Prop:=sc.names.lookup x=some .local∨sc.names.lookup x=some .cell∨sc.names.lookup x=some .free
def Loc (sc:Scope) (x:Str):Prop:=sc.names.lookup x=some .local∨sc.names.lookup x=some .cell
def Look (env:Env) (h:Heap) (m:Str→Option Value) (x:Str) (u:Value):Prop :=
  (env.kindOf x=some .local∧m x=some u)∨((env.kindOf x=some .cell∨env.kindOf x=some .free)∧∃ c,env.cells.lookup x=some c∧h.IsCell c (some u))
structure Cx.Ok (X:Cx):Prop where
  mod:Mod X.K X.mg X.base
  kind:X.env.scope.kind = .function
  glob:X.env.globals=mainGlobals
  blt:X.env.builtins=builtinsNs
  above:X.s_0.heap.objs.size≤X.env.locals
  inj:∀ x y c,X.env.cells.lookup x=some c→X.env.cells.lookup y=some c→x=y
  has:∀ x,(X.env.kindOf x=some .cell∨X.env.kindOf x=some .free)→∃ c,X.env.cells.lookup x=some c
  cab:∀ x c,X.fn x=true→X.env.cells.lookup x=some c→X.s_0.heap.objs.size≤c
  hd:X.calm=true→X.A.handled=none
  frames:X.A.frames=some X.stack
  stk:X.stack=X.outer∨(X.stack=X.env::X.outer∧X.env.frame=some X.env.locals)
  exf:∀ b∈X.ex,b≠X.env.locals∧∀ x c,X.env.cells.lookup x=some c→c≠b
  bs:∀ b o,X.base.get? b=some o→X.s_0.heap.get? b=some o∧X.H_0 b=none
  bsz:X.base.objs.size≤X.s_0.heap.objs.size
  noex:∀ b o,X.base.get? b=some o→b ∉ X.ex
  exfs:∀ b∈X.ex,b ∉ X.fs
  funs:X.s_0.heap.FunFrames X.base X.outer
  frf:∀ b∈X.fs,X.H_0 b=none
structure Inv (X:Cx) (pins:List (Addr×Obj)) (σ:List (Option V)) (H:Hp) (s:Shared):Prop where
  ok:X.Ok
  os:s.os=X.s_0.os
  bare:AllBare s.gens
  base:Un X.fs X.ex X.H_0 H X.s_0.heap s.heap
  loc:∃ m,s.heap.Ns X.env.locals m∧∀ (i:Nat) (x:Str) (v:V),X.N[i]? = some x→σ[i]? = some (some v)→Vis X.env.scope x→∃ u,RelV v u∧Look X.env s.heap m x u
  cell:∀ x c,X.env.cells.lookup x=some c→∃ v,s.heap.IsCell c v
  free:H X.env.locals=none
  freeC:∀ x c,X.env.cells.lookup x=some c→H c=none
  pin:∀ p∈X.pn++pins,s.heap.get? p.1=some p.2∧H p.1=none∧p.1≠X.env.locals∧p.1 ∉ X.fs∧∀ v,p.2.data ≠ .cell v
  hok:HOk X.prog X.w H s.heap
  len:σ.length=X.N.length
section
variable {X:Cx} {pins:List (Addr×Obj)} {σ:List (Option V)} {H H':Hp} {s:Shared} {h':Heap}
theorem Cx.Ok.nofr (ok:X.Ok) {b:Addr} {o:Obj} (e:X.base.get? b=some o):b ∉ X.fs:=fun hb=>by
  have:=(ok.funs.mem hb).1
  rw [e] at this; cases this
theorem Inv.bs (I:Inv X pins σ H s):∀ b o,X.base.get? b=some o→s.heap.get? b=some o∧H b=none:=fun b o e=>
  ⟨I.base.keep b o (I.ok.bs b o e).1 (I.ok.bs b o e).2 (I.ok.nofr e) (I.ok.noex b o e),I.base.free b o (I.ok.bs b o e).1 (I.ok.bs b o e).2 (I.ok.noex b o e)⟩
theorem Inv.bk (I:Inv X pins σ H s):∀ b o,X.base.get? b=some o→s.heap.get? b=some o:=fun b o e=>(I.bs b o e).1
theorem Inv.mod (I:Inv X pins σ H s):Mod X.K X.mg X.base:=I.ok.mod
theorem Inv.kIn (I:Inv X pins σ H s):X.K.In s.heap:=I.ok.mod.kin.keeps I.bk
theorem Inv.nolimit (I:Inv X pins σ H s):s.heap.NoLimit:=I.ok.mod.nolimit.keeps I.bk
theorem Inv.lt (I:Inv X pins σ H s):X.env.locals<s.heap.objs.size:=let ⟨_,hn,_⟩:=I.loc; hn.lt
theorem Inv.sz (I:Inv X pins σ H s):X.s_0.heap.objs.size≤s.heap.objs.size:=Nat.le_trans I.ok.above (Nat.le_of_lt I.lt)
theorem Inv.nofs (I:Inv X pins σ H s) {a:Addr} (h:s.heap.objs.size≤a):a ∉ X.fs:=fun hb=>by
  obtain ⟨_,o,ho,_⟩:=I.ok.funs.mem hb
  exact absurd (Nat.lt_of_lt_of_le (Heap.lt_size ho) (Nat.le_trans I.sz h)) (Nat.lt_irrefl _)
theorem Inv.cne (I:Inv X pins σ H s):∀ x c,X.env.cells.lookup x=some c→c≠X.env.locals:=fun x c e z=>by
  obtain ⟨v,o,ho,hd⟩:=I.cell x c e
  obtain ⟨m,⟨o',es,ep,ho',hd',_⟩,_⟩:=I.loc
  rw [z,ho'] at ho; cases ho; rw [hd'] at hd; cases hd
theorem Inv.funs (I:Inv X pins σ H s):s.heap.FunFrames X.base X.outer:=by
  have all:∀ (l:List Env),(∀ b∈frs l,b∈X.fs)→X.s_0.heap.FunFrames X.base l→s.heap.FunFrames X.base l:=by
    intro l
    induction l with
    | nil=>intro _ _; trivial
    | cons env r ih=>
      intro hs hl
      obtain ⟨hk,⟨L,o,hf,hn,ho,hd⟩,hr⟩:=hl
      have hL:L∈X.fs:=hs L (by unfold frs; rw [List.filterMap_cons,hf]; exact List.mem_cons_self)
      obtain ⟨sl,e⟩:=I.base.slot L o ho (I.ok.frf L hL) hL fun z=>I.ok.exfs L z hL
      exact ⟨hk,⟨L,_,hf,hn,e,hd⟩,ih (fun b hb=>hs b (by unfold frs; rw [List.filterMap_cons,hf]; exact List.mem_cons_of_mem _ hb)) hr⟩
  exact all X.outer (fun _ hb=>hb) I.ok.funs
theorem Inv.stack (I:Inv X pins σ H s):s.heap.FunFrames X.base X.stack:=by
  rcases I.ok.stk with e | ⟨e,hf⟩
  · rw [e]; exact I.funs
  · rw [e]
    obtain ⟨m,hn,_⟩:=I.loc
    refine .cons (by rw [I.ok.kind]; decide) hf hn ?_ I.funs
    exact Heap.get?_none_of_le (Nat.le_trans I.ok.bsz I.ok.above)
theorem Inv.stkSub (I:Inv X pins σ H s):∀ b∈frs X.stack,b∈X.env.locals::X.fs:=fun b hb=>by
  rcases I.ok.stk with e | ⟨e,hf⟩
  · rw [e] at hb; exact List.mem_cons_of_mem _ hb
  · rw [e] at hb
    unfold frs at hb
    rw [List.filterMap_cons,hf] at hb
    exact hb
theorem Inv.stkFree (I:Inv X pins σ H s):∀ b∈frs X.stack,H b=none:=fun b hb=>by
  rcases List.mem_cons.mp (I.stkSub b hb) with e | hb
  · rw [e]; exact I.free
  · obtain ⟨_,o,ho,_⟩:=I.ok.funs.mem hb
    exact I.base.free b o ho (I.ok.frf b hb) fun z=>I.ok.exfs b z hb
theorem Inv.step {g':Array GenState} {t':Nat} {d':Drawn} {ch:List Addr} (I:Inv X pins σ H s)
    (hch:∀ b∈ch,(b∈X.ex∨X.s_0.heap.objs.size≤b)∧b≠X.env.locals∧(∀ x c,X.env.cells.lookup x=some c→c≠b)∧∀ p∈X.pn++pins,p.1≠b)
    (keep:∀ b o,b≠X.env.locals→b ∉ X.fs→b ∉ ch→s.heap.get? b=some o→H b=none→h'.get? b=some o)
    (slot:∀ b o,b≠X.env.locals→b∈X.fs→b ∉ ch→s.heap.get? b=some o→H b=none→∃ sl,h'.get? b=some { o with slots:=sl }) (free:∀ b o,b ∉ ch→s.heap.get? b=some o→H b=none→H' b=none)
    (there:∀ b o,b ∉ ch→s.heap.get? b=some o→∃ o',h'.get? b=some o')
    (tups:∀ b xs,H b=some (.tup xs)→H' b=some (.tup xs)) (frzs:∀ b o u,H b=some (.frz o u)→H' b=some (.frz o u)) (tbls:∀ b ps,H b=some (.tbl ps)→∃ more,H' b=some (.tbl (ps++more)))
    (ns:∀ m,s.heap.Ns X.env.locals m→h'.Ns X.env.locals m) (hok:HOk X.prog X.w H' h') (hg:AllBare g') :
    Inv X pins σ H' { s with heap:=h',gens:=g',drawn:=d',toks:=t' }:=by
  have neL:∀ b o,X.s_0.heap.get? b=some o→b≠X.env.locals:=fun b o e=>Nat.ne_of_lt (Nat.lt_of_lt_of_le (Heap.lt_size e) I.ok.above)
  have neC:∀ b o,X.s_0.heap.get? b=some o→b ∉ X.ex→b ∉ ch:=fun b o e hx hb=>by
    rcases (hch b hb).1 with z | z
    · exact hx z
    · exact absurd (Nat.lt_of_lt_of_le (Heap.lt_size e) z) (Nat.lt_irrefl _)
  have cellK:∀ x c,X.env.cells.lookup x=some c→∀ v,s.heap.IsCell c v→h'.IsCell c v:=fun x c e v ⟨o,ho,hd⟩=>by
    have nch:c ∉ ch:=fun z=>(hch c z).2.2.1 x c e rfl
    by_cases hc:c∈X.fs
    · obtain ⟨sl,q⟩:=slot c o (I.cne x c e) hc nch ho (I.freeC x c e)
      exact ⟨_,q,hd⟩
    · exact ⟨o,keep c o (I.cne x c e) hc nch ho (I.freeC x c e),hd⟩
  refine ⟨I.ok,I.os,hg,⟨fun b o e n hb hx => ?_,fun b o e n hb hx => ?_,fun b o e n hx => ?_,fun b o e hx => ?_,fun b xs e=>tups b xs (I.base.tups b xs e),fun b o xs e=>frzs b o xs (I.base.frzs b o xs e),fun b ps e => ?_⟩,?_,fun x c e => ?_,?_,fun x c e => ?_,fun p hp => ?_,hok,I.len⟩
  · exact keep b o (neL b o e) hb (neC b o e hx) (I.base.keep b o e n hb hx) (I.base.free b o e n hx)
  · obtain ⟨sl,e1⟩:=I.base.slot b o e n hb hx
    obtain ⟨sl',e2⟩:=slot b _ (neL b o e) hb (neC b o e hx) e1 (I.base.free b o e n hx)
    exact ⟨sl',e2⟩
  · obtain ⟨o',e1⟩:=I.base.there b o e hx
    exact free b o' (neC b o e hx) e1 (I.base.free b o e n hx)
  · obtain ⟨o',e1⟩:=I.base.there b o e hx
    exact there b o' (neC b o e hx) e1
  · obtain ⟨m1,e1⟩:=I.base.tbls b ps e
    obtain ⟨m2,e2⟩:=tbls b _ e1
    exact ⟨m1++m2,by rw [e2,Array.append_assoc]⟩
  · obtain ⟨m,hn,hl⟩:=I.loc
    refine ⟨m,ns m hn,fun i x v e1 e2 e3 => ?_⟩
    obtain ⟨u,r,l⟩:=hl i x v e1 e2 e3
    refine ⟨u,r,?_⟩
    rcases l with l | ⟨k,c,e,z⟩
    · exact .inl l
    · exact .inr ⟨k,c,e,cellK x c e _ z⟩
  · obtain ⟨v,z⟩:=I.cell x c e
    exact ⟨v,cellK x c e v z⟩
  · obtain ⟨m,⟨o,_,_,ho,_⟩,_⟩:=I.loc
    exact free _ o (fun z=>(hch _ z).2.1 rfl) ho I.free
  · obtain ⟨v,o,ho,hd⟩:=I.cell x c e
    exact free c o (fun z=>(hch c z).2.2.1 x c e rfl) ho (I.freeC x c e)
  · obtain ⟨e,n,ne,nf,d⟩:=I.pin p hp
    have nch:p.1 ∉ ch:=fun z=>(hch p.1 z).2.2.2 p hp rfl
    exact ⟨keep p.1 p.2 ne nf nch e n,free p.1 p.2 nch e n,ne,nf,d⟩
theorem Inv.un {t':Nat} (I:Inv X pins σ H s) (u:Un X.fs [] H H' s.heap h') (hok:HOk X.prog X.w H' h'):Inv X pins σ H' { s with heap:=h',toks:=t' }:=by
  obtain ⟨m,⟨o,es,ep,ho,r⟩,_⟩:=id I.loc
  obtain ⟨sl,hL⟩:=u.any ho I.free (by simp)
  exact I.step (g':=s.gens) (d':=s.drawn) (ch:=[]) (fun _ z=>nomatch z) (fun b o _ hb _ e n=>u.keep b o e n hb (by simp)) (fun b o _ hb _ e n=>u.slot b o e n hb (by simp)) (fun b o _ e n=>u.free b o e n (by simp)) (fun b o _ e=>u.there b o e (by simp)) u.tups u.frzs u.tbls (fun m' hm=>by
    obtain ⟨o',es',ep',ho',r'⟩:=hm
    rw [ho] at ho'; cases ho'
    exact ⟨_,es',ep',hL,r'⟩) hok I.bare
theorem Inv.call {g':Array GenState} {t':Nat} {d':Drawn} {ch:List Addr} (I:Inv X pins σ H s) (u:Un (frs X.stack) ch H H' s.heap h') (hok:HOk X.prog X.w H' h') (hg:AllBare g')
    (hch:∀ b∈ch,(b∈X.ex∨X.s_0.heap.objs.size≤b)∧b≠X.env.locals∧(∀ x c,X.env.cells.lookup x=some c→c≠b)∧∀ p∈X.pn++pins,p.1≠b) :
    Inv X pins σ H' { s with heap:=h',gens:=g',drawn:=d',toks:=t' }:=by
  obtain ⟨m,⟨o,es,ep,ho,r⟩,_⟩:=id I.loc
  obtain ⟨sl,hL⟩:=u.any ho I.free fun z=>(hch _ z).2.1 rfl
  exact I.step (ch:=ch) hch (fun b o hL hb hc e n=>u.keep b o e n (fun z=>(List.mem_cons.mp (I.stkSub b z)).elim hL hb) hc) (fun b o _ _ hc e n=>u.any e n hc) (fun b o hc e n=>u.free b o e n hc) (fun b o hc e=>u.there b o e hc) u.tups u.frzs u.tbls (fun m' hm=>by
    obtain ⟨o',es',ep',ho',r'⟩:=hm
    rw [ho] at ho'; cases ho'
    exact ⟨_,es',ep',hL,r'⟩) hok hg
theorem Inv.turned {t':Nat} {it:Addr} (I:Inv X pins σ H s) (k:∀ b o,b≠it→s.heap.get? b=some o→h'.get? b=some o) (hn:H it=none) (hL:it≠X.env.locals)
    (h1:it∈X.ex∨X.s_0.heap.objs.size≤it) (h2:∀ x c,X.env.cells.lookup x=some c→c≠it) (h3:∀ p∈X.pn++pins,p.1≠it):Inv X pins σ H { s with heap:=h',toks:=t' }:=by
  have nit:∀ b u,H b=some u→b≠it:=fun b u e z=>by rw [z,hn] at e; cases e
  refine I.step (g':=s.gens) (d':=s.drawn) (ch:=[it]) (fun b hb => ?_) (fun b o _ _ hc e _=>k b o (fun z=>hc (by simp [z])) e) (fun b o _ _ hc e _=>⟨o.slots,k b o (fun z=>hc (by simp [z])) e⟩) (fun _ _ _ _ n=>n)
    (fun b o hc e=>⟨o,k b o (fun z=>hc (by simp [z])) e⟩) (fun _ _ e=>e) (fun _ _ _ e=>e) (fun b ps e=>⟨#[],by rw [e]; simp⟩) (fun m hm => ?_) (fun b u e => ?_) I.bare
  · have e:b=it:=by simpa using hb
    subst e
    exact ⟨h1,hL,h2,h3⟩
  · obtain ⟨o,es,ep,ho,r⟩:=hm
    exact ⟨o,es,ep,k _ o (Ne.symm hL) ho,r⟩
  · refine (I.hok b u e).stay (fun c v hc q=>k c v ?_ q) (fun _ q=>q) fun _ _ q=>q
    rcases hc with z | z
    · rw [z]; exact nit b u e
    · exact nit c _ z
theorem Inv.tok (I:Inv X pins σ H s) (t:Nat):Inv X pins σ H { s with toks:=t }:=I.un (h':=s.heap) (t':=t) Un.refl I.hok
theorem Inv.kept {t':Nat} (I:Inv X pins σ H s) (k:∀ b u,s.heap.get? b=some u→h'.get? b=some u):Inv X pins σ H { s with heap:=h',toks:=t' }:=I.un (Un.kept k) (I.hok.kept k)
theorem Inv.laid {a:Addr} {o:HO} {t':Nat} (I:Inv X pins σ H s) (k:∀ b u,s.heap.get? b=some u→h'.get? b=some u) (hp:s.heap.objs.size≤a) (new:ObjOk X.prog X.w (upd H a o) h' a o) :
    Inv X pins σ (upd H a o) { s with heap:=h',toks:=t' }:=I.un (Un.laid k hp (I.hok.fresh hp)) (I.hok.laid k hp new)
theorem Inv.write {x e:Addr} {o:HO} {t':Nat} (I:Inv X pins σ H s) (mu:Mut (H x)) (he:e=x∨H e=some (.own x)) (k:∀ b u,b≠e→s.heap.get? b=some u→h'.get? b=some u) (heo:∃ u,h'.get? e=some u)
    (new:ObjOk X.prog X.w (upd H x o) h' x o):Inv X pins σ (upd H x o) { s with heap:=h',toks:=t' }:=I.un (Un.write mu he k heo) (I.hok.write mu he k heo new)
theorem Inv.weak {σ':List (Option V)} (I:Inv X pins σ H s) (hl:σ'.length=σ.length) (w:∀ (i:Nat) v,σ'[i]? = some (some v)→σ[i]? = some (some v)):Inv X pins σ' H s :=
  ⟨I.ok,I.os,I.bare,I.base,let ⟨m,hn,hl'⟩:=I.loc; ⟨m,hn,fun i x v e1 e2 e3=>hl' i x v e1 (w i v e2) e3⟩,I.cell,I.free,I.freeC,I.pin,I.hok,hl.trans I.len⟩
theorem Inv.pins_of {pins':List (Addr×Obj)} (I:Inv X pins σ H s) (h:∀ p∈pins',s.heap.get? p.1=some p.2∧H p.1=none∧p.1≠X.env.locals∧p.1 ∉ X.fs∧∀ v,p.2.data ≠ .cell v):Inv X pins' σ H s :=
  ⟨I.ok,I.os,I.bare,I.base,I.loc,I.cell,I.free,I.freeC,fun p hp=>(List.mem_append.mp hp).elim (fun z=>I.pin p (List.mem_append_left _ z)) (h p),I.hok,I.len⟩
theorem nodup_ix {N:List Str} (hN:N.Nodup) {i j:Nat} {x:Str} (a:N[i]? = some x) (b:N[j]? = some x):i=j:=by
  obtain ⟨h1,e1⟩:=List.getElem?_eq_some_iff.mp a
  obtain ⟨h2,e2⟩:=List.getElem?_eq_some_iff.mp b
  exact (List.getElem_inj hN).mp (e1.trans e2.symm)
theorem store_ok2 {M:Model} {A:Around} {E:Value→Shared→Prop} {i:Nat} {x:Str} {v:V} {u:Value} {Q:Unit→Shared→Prop} (I:Inv X pins σ H s) (hN:X.N.Nodup) (hi:X.N[i]? = some x) (hx:Loc X.env.scope x) (r:RelV v u)
    (h:∀ s',Inv X pins (σ.set i (some v)) H s'→(∃ a,Heap.SameBut a s.heap s'.heap∧(a=X.env.locals∨X.env.cells.lookup x=some a))→Q () s') (hf:X.fn x=true∨X.env.scope.names.lookup x=some .local:=by first | exact .inl rfl | exact .inr rfl | assumption):wpAny M A (storeName X.env x u) Q E s:=by
  obtain ⟨m,hn,hl⟩:=id I.loc
  have hcls:(X.env.scope.kind == .class||(X.env.scope.kind == .module&&X.env.locals != X.env.globals))=false:=by rw [I.ok.kind]; rfl
  have hiσ:i<σ.length:=by rw [I.len]; exact (List.getElem?_eq_some_iff.mp hi).1
  have cne:=I.cne
  have tracked:∀ {a:Addr} {h':Heap},(∃ o,s.heap.get? a=some o∧H a=none)→Heap.SameBut a s.heap h'→HOk X.prog X.w H h':=fun {a h'} ha hs b ob e=>by
    obtain ⟨_,_,hfree⟩:=ha
    refine (I.hok b ob e).stay (fun c w' hc q=>(hs.2 c ?_).trans q) (fun _ q=>q) fun _ _ q=>q
    rintro rfl
    rcases hc with rfl | hc
    · rw [hfree] at e; cases e
    · rw [hfree] at hc; cases hc
  rcases hx with hk | hk
  · refine wpAny_storeName_local hk hn (fun h' hn' hs => ?_) hcls
    obtain ⟨oL,_,_,hoL,_⟩:=id hn
    refine h _ ⟨I.ok,I.os,I.bare,⟨fun b o e n hb hx => ?_,fun b o e n hb hx => ?_,I.base.free,fun b o e hx => ?_,I.base.tups,I.base.frzs,I.base.tbls⟩,⟨_,hn',fun j y v' e1 e2 e3 => ?_⟩,fun y c e => ?_,I.free,I.freeC,fun p hp => ?_,tracked ⟨oL,hoL,I.free⟩ hs,by simpa using I.len⟩ ⟨_,hs,.inl rfl⟩
    · exact (hs.2 b (Nat.ne_of_lt (Nat.lt_of_lt_of_le (Heap.lt_size e) I.ok.above))).trans (I.base.keep b o e n hb hx)
    · obtain ⟨sl,e1⟩:=I.base.slot b o e n hb hx
      exact ⟨sl,(hs.2 b (Nat.ne_of_lt (Nat.lt_of_lt_of_le (Heap.lt_size e) I.ok.above))).trans e1⟩
    · obtain ⟨o',e1⟩:=I.base.there b o e hx
      exact ⟨o',(hs.2 b (Nat.ne_of_lt (Nat.lt_of_lt_of_le (Heap.lt_size e) I.ok.above))).trans e1⟩
    · by_cases hj:j=i
      · subst hj
        rw [hi] at e1; cases e1
        rw [List.getElem?_set_self hiσ] at e2
        cases e2
        exact ⟨u,r,.inl ⟨hk,by simp⟩⟩
      · rw [List.getElem?_set_ne (Ne.symm hj)] at e2
        obtain ⟨u',r',q⟩:=hl j y v' e1 e2 e3
        refine ⟨u',r',?_⟩
        rcases q with ⟨k,e⟩ | ⟨k,c,e,z⟩
        · refine .inl ⟨k,?_⟩
          have:y≠x:=fun e=>hj (nodup_ix hN e1 (e▸hi))
          simp [this,e]
        · exact .inr ⟨k,c,e,z.sameBut hs (cne y c e)⟩
    · obtain ⟨w',z⟩:=I.cell y c e
      exact ⟨w',z.sameBut hs (cne y c e)⟩
    · obtain ⟨e,n,ne,nf,d⟩:=I.pin p hp
      exact ⟨(hs.2 p.1 ne).trans e,n,ne,nf,d⟩
  · have hfn:X.fn x=true:=by
      rcases hf with z | z
      · exact z
      · rw [z] at hk; cases hk
    obtain ⟨c,hc⟩:=I.ok.has x (.inl hk)
    obtain ⟨w',z⟩:=I.cell x c hc
    refine wpAny_storeName_cell I.ok.kind hk hc z (fun h' hc' hs => ?_)
    obtain ⟨oc,hoc,hocd⟩:=id z
    refine h { s with heap:=h' } ⟨I.ok,I.os,I.bare,⟨fun b o e n hb hx => ?_,fun b o e n hb hx => ?_,I.base.free,fun b o e hx => ?_,I.base.tups,I.base.frzs,I.base.tbls⟩,⟨m,hn.sameBut hs (Ne.symm (cne x c hc)),fun j y v' e1 e2 e3 => ?_⟩,fun y c' e => ?_,I.free,I.freeC,fun p hp => ?_,tracked ⟨oc,hoc,I.freeC x c hc⟩ hs,by simpa using I.len⟩ ⟨c,hs,.inr hc⟩
    · exact (hs.2 b (Nat.ne_of_lt (Nat.lt_of_lt_of_le (Heap.lt_size e) (I.ok.cab x c hfn hc)))).trans (I.base.keep b o e n hb hx)
    · obtain ⟨sl,e1⟩:=I.base.slot b o e n hb hx
      exact ⟨sl,(hs.2 b (Nat.ne_of_lt (Nat.lt_of_lt_of_le (Heap.lt_size e) (I.ok.cab x c hfn hc)))).trans e1⟩
    · obtain ⟨o',e1⟩:=I.base.there b o e hx
      exact ⟨o',(hs.2 b (Nat.ne_of_lt (Nat.lt_of_lt_of_le (Heap.lt_size e) (I.ok.cab x c hfn hc)))).trans e1⟩
    · by_cases hj:j=i
      · subst hj
        rw [hi] at e1; cases e1
        rw [List.getElem?_set_self hiσ] at e2
        cases e2
        exact ⟨u,r,.inr ⟨.inl hk,c,hc,hc'⟩⟩
      · rw [List.getElem?_set_ne (Ne.symm hj)] at e2
        obtain ⟨u',r',q⟩:=hl j y v' e1 e2 e3
        refine ⟨u',r',?_⟩
        rcases q with q | ⟨k,c',e,z'⟩
        · exact .inl q
        · refine .inr ⟨k,c',e,z'.sameBut hs ?_⟩
          rintro rfl
          exact hj (nodup_ix hN e1 (I.ok.inj _ _ _ e hc▸hi))
    · by_cases hcc:c'=c
      · subst hcc; exact ⟨_,hc'⟩
      · obtain ⟨w2,z2⟩:=I.cell y c' e
        exact ⟨w2,z2.sameBut hs hcc⟩
    · obtain ⟨e,n,ne,nf,d⟩:=I.pin p hp
      refine ⟨(hs.2 p.1 ?_).trans e,n,ne,nf,d⟩
      intro q
      rw [q,hoc] at e
      have q':oc=p.2:=Option.some.inj e
      exact d w' (by rw [← q']; exact hocd)
theorem store_ok {M:Model} {A:Around} {E:Value→Shared→Prop} {i:Nat} {x:Str} {v:V} {u:Value} {Q:Unit→Shared→Prop} (I:Inv X pins σ H s) (hN:X.N.Nodup) (hi:X.N[i]? = some x) (hx:Loc X.env.scope x) (r:RelV v u)
    (h:∀ s',Inv X pins (σ.set i (some v)) H s'→Q () s') (hf:X.fn x=true∨X.env.scope.names.lookup x=some .local:=by first | exact .inl rfl | exact .inr rfl | assumption):wpAny M A (storeName X.env x u) Q E s :=
  store_ok2 I hN hi hx r (fun s' I' _=>h s' I') hf
theorem Inv.call' {s':Shared} {ch:List Addr} (I:Inv X pins σ H s) (ho:s'.os=s.os) (u:Un (frs X.stack) ch H H' s.heap s'.heap) (hok:HOk X.prog X.w H' s'.heap) (hg:AllBare s'.gens)
    (hch:∀ b∈ch,(b∈X.ex∨X.s_0.heap.objs.size≤b)∧b≠X.env.locals∧(∀ x c,X.env.cells.lookup x=some c→c≠b)∧∀ p∈X.pn++pins,p.1≠b):Inv X pins σ H' s':=by
  obtain ⟨h',g',d',t',o'⟩:=s'
  have e:o'=s.os:=ho
  subst e
  exact I.call (g':=g') (t':=t') (d':=d') u hok hg hch
end
abbrev XK:=Value→Option Addr→Hp→Prop
abbrev St:=List (Option V)
abbrev VK:=V→Hp→Prop
abbrev TE:=St→Hp→VK→Prop
abbrev TT:=St→Hp→(Bool→Hp→Prop)→Prop
abbrev TA:=St→Hp→(List V→Hp→Prop)→Prop
structure Ends where
  nx:St→Hp→Prop
  rt:VK
  bk:St→Hp→Prop:=fun _ _=>False
  ct:St→Hp→Prop:=fun _ _=>False
abbrev TS:=Ends→St→Hp→Prop
def EP (X:Cx) (pins:List (Addr×Obj)) (σ:St) (Q:VK) (u:Value) (s':Shared):Prop:=∃ v H',Inv X pins σ H' s'∧RelV v u∧Q v H'
def TP (X:Cx) (pins:List (Addr×Obj)) (σ:St) (Q:Bool→Hp→Prop) (b:Bool) (s':Shared):Prop:=∃ H',Inv X pins σ H' s'∧Q b H'
def AP (X:Cx) (pins:List (Addr×Obj)) (σ:St) (Q:List V→Hp→Prop) (us:List Value) (s':Shared):Prop:=∃ vs H',Inv X pins σ H' s'∧Vals vs us∧Q vs H'
def SP (X:Cx) (pins:List (Addr×Obj)) (D:Ends) (f:Flow) (s':Shared):Prop :=
  match f with
  | .next => ∃ σ' H',Inv X pins σ' H' s'∧D.nx σ' H'
  | .brk => ∃ σ' H',Inv X pins σ' H' s'∧D.bk σ' H'
  | .cont => ∃ σ' H',Inv X pins σ' H' s'∧D.ct σ' H'
  | .ret u => ∃ v σ' H',Inv X pins σ' H' s'∧RelV v u∧D.rt v H'
def PE (X:Cx) (e:Expr) (t:TE):Prop :=
  ∀ (pins:List (Addr×Obj)) (s:Shared) (σ:St) (H:Hp) (Q:VK),Inv X pins σ H s→t σ H Q→wpAny (model X.prog X.w) X.A (eval e X.env) (EP X pins σ Q) X.xe s
def PT (X:Cx) (e:Expr) (t:TT):Prop :=
  ∀ (pins:List (Addr×Obj)) (s:Shared) (σ:St) (H:Hp) (Q:Bool→Hp→Prop),Inv X pins σ H s→t σ H Q→wpAny (model X.prog X.w) X.A (isTrue e X.env (eval e X.env)) (TP X pins σ Q) X.xe s
def PW (X:Cx) (e:Expr) (t:TT):Prop :=
  ∀ (whole:Sem Value) (pins:List (Addr×Obj)) (s:Shared) (σ:St) (H:Hp) (Q:Bool→Hp→Prop),Inv X pins σ H s→t σ H Q→wpAny (model X.prog X.w) X.A (isTrue e X.env whole) (TP X pins σ Q) X.xe s
theorem PW.pt {X:Cx} {e:Expr} {t:TT} (h:PW X e t):PT X e t:=h _
def PA (X:Cx) (es:List Expr) (t:TA):Prop :=
  ∀ (pos:Pos) (pins:List (Addr×Obj)) (s:Shared) (σ:St) (H:Hp) (Q:List V→Hp→Prop),Inv X pins σ H s→t σ H Q→wpAny (model X.prog X.w) X.A (spliced (backTo pos (starEach es X.env))) (AP X pins σ Q) X.xe s
def PS (X:Cx) (st:Stmt) (t:TS):Prop :=
  ∀ (pins:List (Addr×Obj)) (s:Shared) (σ:St) (H:Hp) (D:Ends),Inv X pins σ H s→t D σ H→wpAny (model X.prog X.w) X.A (exec st X.env) (SP X pins D) X.xe s
def PSs (X:Cx) (st:List Stmt) (t:TS):Prop :=
  ∀ (pins:List (Addr×Obj)) (s:Shared) (σ:St) (H:Hp) (D:Ends),Inv X pins σ H s→t D σ H→wpAny (model X.prog X.w) X.A (execs st X.env) (SP X pins D) X.xe s
theorem thn {α:Type} {t:Sem α} {Q Q':α→Shared→Prop} {M:Model} {A:Around} {E:Value→Shared→Prop} {s:Shared} (h:wpAny M A t Q E s) (hQ:∀ a s,Q a s→Q' a s):wpAny M A t Q' E s:=wpAny_mono h hQ fun _ _ x=>x
end L2
namespace L2
open PySem PySem.Spec PyProof.Rows
section
variable {X:Cx}
def tVar (i:Nat):TE:=fun σ H Q => ∃ v,σ[i]? = some (some v)∧Q v H
def tC (v:V):TE:=fun _ H Q=>Q v H
theorem pe_var {i:Nat} {x:Str} {pos:Pos} (hN:X.N[i]? = some x) (hv:Vis X.env.scope x) (hd:(x == ("__debug__" : Str))=false:=by decide) (hcd:(x == ("__classdict__" : Str))=false:=by decide):PE X (.Name x pos) (tVar i):=by
  intro pins s σ H Q I h
  obtain ⟨v,e,h⟩:=h
  obtain ⟨m,hn,hl⟩:=I.loc
  obtain ⟨u,r,l⟩:=hl i x v hN e hv
  have fin:EP X pins σ Q u s:=⟨v,H,I,r,h⟩
  rcases l with ⟨hk,hm⟩ | ⟨hk,c,hc,hcell⟩
  · exact wpAny_Name (wpAny_loadName_local I.ok.kind hk hn hm fin) hd
  · rcases hk with hk | hk
    · exact wpAny_Name (wpAny_loadName_cell I.ok.kind hk hc hcell fin) hd
    · exact wpAny_Name (wpAny_loadName_free I.ok.kind hk hc hcell fin hcd) hd
theorem pe_int {i j pos}:PE X (.Constant (.int i) j pos) (tC (.int i)):=fun _ _ _ H _ I h=>wpAny_Constant_int ⟨.int i,H,I.tok _,⟨_,rfl⟩,h⟩
theorem pe_bl {b j pos}:PE X (.Constant (.bool b) j pos) (tC (.bl b)):=fun _ _ _ H _ I h=>Constant_bool ⟨.bl b,H,I,rfl,h⟩
theorem pe_non {j pos}:PE X (.Constant .none j pos) (tC .non):=fun _ _ _ H _ I h=>Constant_none ⟨.non,H,I,rfl,h⟩
def Gl (X:Cx) (x:Str):Prop:=X.env.kindOf x=some .globalImplicit
theorem ld_glob {E:Value→Shared→Prop} {pins:List (Addr×Obj)} {s:Shared} {σ:St} {H:Hp} {x:Str} {u:Value} {pos:Pos} {Q:Value→Shared→Prop} (I:Inv X pins σ H s) (hg:Gl X x) (hm:X.mg x=some u) (h:Q u s)
    (hd:(x == ("__debug__" : Str))=false:=by decide):wpAny (model X.prog X.w) X.A (eval (.Name x pos) X.env) Q E s :=
  Calls.Name_function_global I.ok.kind hg (Calls.loadGlobal_global (by rw [I.ok.glob]; exact I.mod.glob.keeps I.bk) hm h) hd
theorem ld_blt {E:Value→Shared→Prop} {pins:List (Addr×Obj)} {s:Shared} {σ:St} {H:Hp} {x:Str} {u:Value} {pos:Pos} {Q:Value→Shared→Prop} (I:Inv X pins σ H s) (hg:Gl X x) (hm:X.mg x=none) (hv:bootBuiltins x=some u) (h:Q u s)
    (hn:x ≠ "__name__" := by decide) (hd:(x == ("__debug__" : Str))=false:=by decide):wpAny (model X.prog X.w) X.A (eval (.Name x pos) X.env) Q E s:=by
  obtain ⟨mb,h1,h2⟩:=I.mod.blt
  exact Calls.Name_function_global I.ok.kind hg (Calls.loadGlobal_builtin (by rw [I.ok.glob]; exact I.mod.glob.keeps I.bk) hm (by rw [I.ok.blt]; exact h1.keeps I.bk) ((h2 x hn).trans hv) h) hd
theorem pe_glob {x:Str} {v:V} {u:Value} {pos:Pos} (hg:Gl X x) (hm:X.mg x=some u) (r:RelV v u) (hd:(x == ("__debug__" : Str))=false:=by decide):PE X (.Name x pos) (tC v) :=
  fun _ _ _ H _ I h=>ld_glob I hg hm ⟨v,H,I,r,h⟩ hd
variable {a b:Expr} {ta tb:TE} {pos:Pos}
def PC (X:Cx) (op:CmpOp) (a b:Expr) (t:TE):Prop :=
  ∀ (pins:List (Addr×Obj)) (s:Shared) (σ:St) (H:Hp) (Q:VK),Inv X pins σ H s→t σ H Q →
    wpAny (model X.prog X.w) X.A (eval a X.env) (fun v s₁=>wpAny (model X.prog X.w) X.A (eval b X.env) (fun u s₂=>wpAny (model X.prog X.w) X.A (compareOp op v u) (EP X pins σ Q) X.xe s₂) X.xe s₁) X.xe s
def tB (t:TE):TT:=fun σ H Q=>t σ H fun x H1 => ∃ c,x = .bl c∧Q c H1
theorem pe_cmp {op:CmpOp} {t:TE} (h:PC X op a b t) (h1:behindInMarks op b=false:=by first | exact nobehind _ (by decide) (by decide) | rfl):PE X (.Compare a [op] [b] pos) t:=fun pins s σ H Q I hw=>wpAny_Compare1 (h pins s σ H Q I hw) h1
theorem pt_val {e:Expr} {t:TE} (h:PE X e t) (he:∀ whole,isTrue e X.env whole=(do let v ← whole; standAt e.pos; holding [v] (truthy v)):=by intro _; rfl):PT X e (tB t):=by
  intro pins s σ H Q I hw
  refine isTrue_plain (thn (h pins s σ H _ I hw) fun v s1 ⟨x,H1,I1,r1,q1⟩ => ?_) (he _)
  obtain ⟨d,rfl,q⟩:=q1
  cases r1
  exact wpAny_truthy_bool ⟨H1,I1,q⟩
variable {tA tB':TT} {rest:List Expr}
def tAnd (t u:TT):TT:=fun σ H Q=>t σ H fun c H1=>if c=true then u σ H1 Q else Q false H1
def tOr (t u:TT):TT:=fun σ H Q=>t σ H fun c H1=>if c=true then Q true H1 else u σ H1 Q
def tNot (t:TT):TT:=fun σ H Q=>t σ H fun c H1=>Q (!c) H1
theorem pw_and1 (ha:PT X a tA):PW X (.BoolOp .And [a] pos) tA:=by
  intro wh pins s σ H Q I h
  refine isTrue_and (thn (ha pins s σ H Q I h) fun c s1 e => ?_)
  cases c with
  | true=>exact isTrue_and_nil e
  | false=>exact e
theorem pw_or1 (ha:PT X a tA):PW X (.BoolOp .Or [a] pos) tA:=by
  intro wh pins s σ H Q I h
  refine isTrue_or (thn (ha pins s σ H Q I h) fun c s1 e => ?_)
  cases c with
  | false=>exact isTrue_or_nil e
  | true=>exact e
theorem pw_and (ha:PT X a tA) (hb:PW X (.BoolOp .And (b::rest) pos) tB'):PW X (.BoolOp .And (a::b::rest) pos) (tAnd tA tB'):=by
  intro wh pins s σ H Q I h
  refine isTrue_and (thn (ha pins s σ H _ I h) fun c s1 ⟨H1,I1,q1⟩ => ?_)
  cases c with
  | true=>exact hb wh pins s1 σ H1 Q I1 q1
  | false=>exact ⟨H1,I1,q1⟩
theorem pw_or (ha:PT X a tA) (hb:PW X (.BoolOp .Or (b::rest) pos) tB'):PW X (.BoolOp .Or (a::b::rest) pos) (tOr tA tB'):=by
  intro wh pins s σ H Q I h
  refine isTrue_or (thn (ha pins s σ H _ I h) fun c s1 ⟨H1,I1,q1⟩ => ?_)
  cases c with
  | true=>exact ⟨H1,I1,q1⟩
  | false=>exact hb wh pins s1 σ H1 Q I1 q1
theorem pt_not (ha:PT X a tA):PT X (.UnaryOp .Not a pos) (tNot tA):=by
  intro pins s σ H Q I h
  exact isTrue_not (ha pins s σ H (fun c H1=>Q (!c) H1) I h)
def tAndV (ta tb:TE):TE:=fun σ H Q=>ta σ H fun x H1 => ∃ c,x = .bl c∧if c=true then tb σ H1 Q else Q (.bl false) H1
theorem pe_one {op} {t:TE} (h:PE X a t):PE X (.BoolOp op [a] pos) t:=fun pins s σ H Q I hw=>BoolOp_one (h pins s σ H Q I hw)
theorem pe_and (ha:PE X a ta) (hb:PE X (.BoolOp .And (b::rest) pos) tb):PE X (.BoolOp .And (a::b::rest) pos) (tAndV ta tb):=by
  intro pins s σ H Q I h
  refine BoolOp_and (thn (ha pins s σ H _ I h) fun v s1 ⟨x,H1,I1,r1,q1⟩ => ?_)
  obtain ⟨c,rfl,q1⟩:=q1
  cases r1
  refine wpAny_truthy_bool ?_
  cases c with
  | true=>exact hb pins s1 σ H1 Q I1 q1
  | false=>exact ⟨.bl false,H1,I1,rfl,q1⟩
end
end L2
namespace L2
open PySem PySem.Spec PyProof.Rows
def SqL (K:PySem.W.Frag) (H:Hp) (a:Addr) (xs:List V):Prop :=
  Rd H a (.lst xs) ∨
    ∃ (o:Obj) (its:Array Value) (n:Nat),K.lookup a=some o∧o.cls = .type "list" ∧ o.dict=none∧o.data = .seq its n∧its.size≤sizeLine∧Vals xs its.toList
def SqT (K:PySem.W.Frag) (H:Hp) (a:Addr) (xs:List V):Prop :=
  Rd H a (.tup xs) ∨
    ∃ (o:Obj) (its:Array Value) (n:Nat),K.lookup a=some o∧o.cls = .type "tuple" ∧ o.data = .seq its n∧its.size≤sizeLine∧Vals xs its.toList
def absV:Value→Option V
  | .none=>some .non
  | .bool b=>some (.bl b)
  | .int i _=>some (.int i)
  | .str x _=>some (.str x)
  | .bytes b _=>some (.byt b)
  | .float b _=>some (.flt b)
  | .ref a=>some (.ref a)
  | .type n=>some (.ty n)
  | _=>none
theorem RelV.abs {x:V} {u:Value} (r:RelV x u):absV u=some x:=by
  cases x with
  | non=>cases r; rfl
  | bl _=>cases r; rfl
  | int _=>obtain ⟨t,rfl⟩:=r; rfl
  | str _=>obtain ⟨t,rfl⟩:=r; rfl
  | byt _=>obtain ⟨t,rfl⟩:=r; rfl
  | flt _=>obtain ⟨t,rfl⟩:=r; rfl
  | ref _=>cases r; rfl
  | ty _=>cases r; rfl
theorem RelV.inj {x y:V} {u:Value} (r:RelV x u) (q:RelV y u):x=y:=Option.some.inj (r.abs.symm.trans q.abs)
theorem Vals.inj:∀ {xs ys:List V} {us:List Value},Vals xs us→Vals ys us→xs=ys
  | _,_,_,.nil,.nil=>rfl
  | _,_,_,.cons r t,.cons r' t'=>by rw [r.inj r',Vals.inj t t']
section
variable {X:Cx} {pins:List (Addr×Obj)} {σ:St} {H:Hp} {s:Shared} {a:Addr} {xs ys:List V}
theorem SqL.of {K:PySem.W.Frag} (h:H a=some (.lst xs)):SqL K H a xs:=.inl (.inl h)
theorem SqT.of {K:PySem.W.Frag} (h:H a=some (.tup xs)):SqT K H a xs:=.inl (.inl h)
theorem Inv.list (I:Inv X pins σ H s) (h:SqL X.K H a xs):∃ its:List Value,Vals xs its∧PlainL s.heap a its.toArray∧xs.length≤sizeLine:=by
  rcases h with h | ⟨o,its,n,hk,hc,hd,hs,hz,r⟩
  · obtain ⟨z,its,n,r,e⟩:=h.ok I.hok
    exact ⟨its,r,⟨_,n,e,rfl,rfl,rfl⟩,z⟩
  · refine ⟨its.toList,r,⟨o,n,I.kIn a o hk,hc,hd,by simpa using hs⟩,?_⟩
    have e:=r.length
    simp only [Array.length_toList] at e
    omega
theorem Inv.tuple (I:Inv X pins σ H s) (h:SqT X.K H a xs):∃ its:List Value,Vals xs its∧IsTup s.heap a its.toArray∧xs.length≤sizeLine:=by
  rcases h with h | ⟨o,its,n,hk,hc,hs,hz,r⟩
  · obtain ⟨z,its,r,p⟩:=h.ok I.hok
    exact ⟨its,r,p,z⟩
  · refine ⟨its.toList,r,⟨o,I.kIn a o hk,hc,n,by simpa using hs⟩,?_⟩
    have e:=r.length
    simp only [Array.length_toList] at e
    omega
theorem Inv.list_inj (I:Inv X pins σ H s) (h:SqL X.K H a xs) (h':SqL X.K H a ys):xs=ys:=by
  obtain ⟨its,r,⟨o,n,e,_,_,d⟩,_⟩:=I.list h
  obtain ⟨its',r',⟨o',n',e',_,_,d'⟩,_⟩:=I.list h'
  rw [e] at e'; cases e'
  rw [d] at d'
  injection d' with d1 _
  have:its=its':=by simpa using congrArg Array.toList d1
  subst this
  exact r.inj r'
end
abbrev Cx.wish (X:Cx) (E:Value→Shared→Prop):Cx:={ X with xe:=E }
abbrev Cx.nox (X:Cx):Cx:=X.wish fun _ _=>False
theorem Cx.Ok.wish {X:Cx} (ok:X.Ok) (E:Value→Shared→Prop):(X.wish E).Ok :=
  ⟨ok.mod,ok.kind,ok.glob,ok.blt,ok.above,ok.inj,ok.has,ok.cab,ok.hd,ok.frames,ok.stk,ok.exf,ok.bs,ok.bsz,ok.noex,ok.exfs,ok.funs,ok.frf⟩
theorem Cx.Ok.unwish {X:Cx} {E:Value→Shared→Prop} (ok:(X.wish E).Ok):X.Ok :=
  ⟨ok.mod,ok.kind,ok.glob,ok.blt,ok.above,ok.inj,ok.has,ok.cab,ok.hd,ok.frames,ok.stk,ok.exf,ok.bs,ok.bsz,ok.noex,ok.exfs,ok.funs,ok.frf⟩
section
variable {X:Cx} {pins:List (Addr×Obj)} {σ:St} {H:Hp} {s:Shared} {E:Value→Shared→Prop}
theorem Inv.wish (I:Inv X pins σ H s) (E:Value→Shared→Prop):Inv (X.wish E) pins σ H s:=⟨I.ok.wish E,I.os,I.bare,I.base,I.loc,I.cell,I.free,I.freeC,I.pin,I.hok,I.len⟩
theorem Inv.unwish (I:Inv (X.wish E) pins σ H s):Inv X pins σ H s:=⟨I.ok.unwish,I.os,I.bare,I.base,I.loc,I.cell,I.free,I.freeC,I.pin,I.hok,I.len⟩
theorem SP.unwish {D:Ends} {f:Flow} {s':Shared} (h:SP (X.wish E) pins D f s'):SP X pins D f s':=by
  cases f with
  | next=>obtain ⟨σ',H',I,q⟩:=h; exact ⟨σ',H',I.unwish,q⟩
  | brk=>obtain ⟨σ',H',I,q⟩:=h; exact ⟨σ',H',I.unwish,q⟩
  | cont=>obtain ⟨σ',H',I,q⟩:=h; exact ⟨σ',H',I.unwish,q⟩
  | ret u=>obtain ⟨v,σ',H',I,r,q⟩:=h; exact ⟨v,σ',H',I.unwish,r,q⟩
theorem PSs.nox {st:List Stmt} {t:TS} (h:PSs X.nox st t):PSs X st t:=fun pins s σ H D I hw=>
  wpAny_mono (h pins s σ H D (I.wish _) hw) (fun _ _ q=>q.unwish) fun _ _ z=>False.elim z
end
section
variable {X:Cx} {st:Stmt} {rest:List Stmt} {t u:TS} {e:Expr} {te:TE} {pos:Pos}
def tNext:TS:=fun D σ H=>D.nx σ H
def tSeq (t u:TS):TS:=fun D σ H=>t { D with nx:=u D } σ H
theorem pss_nil:PSs X [] tNext:=fun _ _ σ H _ I h=>wpAny_execs_nil ⟨σ,H,I,h⟩
theorem pss_cons (h1:PS X st t) (h2:PSs X rest u):PSs X (st::rest) (tSeq t u):=by
  intro pins s σ H D I h
  refine wpAny_execs_cons (thn (h1 pins s σ H { D with nx:=u D } I h) fun f s1 q => ?_)
  cases f with
  | next=>
    obtain ⟨σ',H',I',q⟩:=q
    exact h2 pins s1 σ' H' D I' q
  | ret v=>exact q
  | brk=>exact q
  | cont=>exact q
theorem pss_one (h1:PS X st t):PSs X [st] t:=by
  intro pins s σ H D I h
  refine wpAny_execs_cons (thn (h1 pins s σ H D I h) fun f s1 q => ?_)
  cases f with
  | next=>exact wpAny_execs_nil q
  | ret v=>exact q
  | brk=>exact q
  | cont=>exact q
theorem Inv.quiet {pins:List (Addr×Obj)} {σ:St} {H:Hp} {s:Shared} (I:Inv X pins σ H s):interactive X.env=false:=by simp [interactive,I.ok.kind]
def tDrop (te:TE):TS:=fun D σ H=>te σ H fun _ H1=>D.nx σ H1
theorem ps_expr (he:PE X e te) (hs:swapsWith e none pos.line X.env=pure false:=by rfl):PS X (.Expr e pos) (tDrop te):=by
  intro pins s σ H D I h
  exact wpAny_Expr_any (thn (he pins s σ H _ I h) fun v s1 ⟨x,H1,I1,r1,q1⟩=>⟨σ,H1,I1,q1⟩) I.quiet hs
def tRet (te:TE):TS:=fun D σ H=>te σ H D.rt
theorem ps_ret (he:PE X e te):PS X (.Return (some e) pos) (tRet te):=by
  intro pins s σ H D I h
  exact wpAny_Return_some (thn (he pins s σ H _ I h) fun v s1 ⟨x,H1,I1,r1,q1⟩=>⟨x,σ,H1,I1,r1,q1⟩)
def tIfS (c:TT) (t u:TS):TS:=fun D σ H=>c σ H fun b H1=>if b=true then t D σ H1 else u D σ H1
theorem ps_if {c:Expr} {a b:List Stmt} {tc:TT} (hc:PT X c tc) (ha:PSs X a t) (hb:PSs X b u):PS X (.If c a b pos) (tIfS tc t u):=by
  intro pins s σ H D I h
  refine wpAny_If (thn (hc pins s σ H _ I h) fun d s1 ⟨H1,I1,q1⟩ => ?_)
  cases d with
  | true=>exact ha pins s1 σ H1 D I1 q1
  | false=>exact hb pins s1 σ H1 D I1 q1
def tNever:TS:=fun _ _ _=>False
theorem ps_never:PS X st tNever:=fun _ _ _ _ _ _ h=>h.elim
end
abbrev TG:=V→St→Hp→(St→Hp→Prop)→Prop
abbrev TGs:=List V→St→Hp→(St→Hp→Prop)→Prop
def PG (X:Cx) (target:Expr) (t:TG):Prop :=
  ∀ (pins:List (Addr×Obj)) (s:Shared) (σ:St) (H:Hp) (v:V) (u:Value) (Q:St→Hp→Prop),Inv X pins σ H s→RelV v u→t v σ H Q →
    wpAny (model X.prog X.w) X.A (assign target X.env u) (fun _ s' => ∃ σ' H',Inv X pins σ' H' s'∧Q σ' H') X.xe s
def PGs (X:Cx) (ts:List Expr) (t:TGs):Prop :=
  ∀ (pins:List (Addr×Obj)) (s:Shared) (σ:St) (H:Hp) (vs:List V) (us:List Value) (Q:St→Hp→Prop),Inv X pins σ H s→Vals vs us→t vs σ H Q →
    wpAny (model X.prog X.w) X.A (assignInOrder ((assignEach ts X.env).map (·.2)) us) (fun _ s' => ∃ σ' H',Inv X pins σ' H' s'∧Q σ' H') X.xe s
abbrev TSet:=V→V→V→Hp→(Hp→Prop)→Prop
def PSet (X:Cx) (t:TSet):Prop :=
  ∀ (pins:List (Addr×Obj)) (s:Shared) (σ:St) (H:Hp) (o i v:V) (ov iv u:Value) (Q:Hp→Prop),Inv X pins σ H s→RelV o ov→RelV i iv→RelV v u→t o i v H Q →
    wpAny (model X.prog X.w) X.A (setItem ov iv u) (fun _ s' => ∃ H',Inv X pins σ H' s'∧Q H') X.xe s
section
variable {X:Cx} {pos:Pos}
def gName (i:Nat):TG:=fun v σ H Q=>Q (σ.set i (some v)) H
theorem pg_name {i:Nat} {x:Str} (hN:X.N.Nodup) (hi:X.N[i]? = some x) (hx:Loc X.env.scope x) (hf:X.fn x=true∨X.env.scope.names.lookup x=some .local:=by first | exact .inl rfl | exact .inr rfl | assumption):PG X (.Name x pos) (gName i):=by
  intro pins s σ H v u Q I r h
  exact wpAny_assign_Name (store_ok I hN hi hx r (fun s' I'=>⟨_,H,I',h⟩) hf)
def gNil:TGs:=fun vs σ H Q=>vs=[]∧Q σ H
def gCons (t:TG) (u:TGs):TGs:=fun vs σ H Q => ∃ v r,vs=v::r∧t v σ H fun σ' H'=>u r σ' H' Q
theorem pgs_nil:PGs X [] gNil:=by
  intro pins s σ H vs us Q I r h
  obtain ⟨e,h⟩:=h
  subst e
  cases r
  exact assignInOrder_nil ⟨σ,H,I,h⟩
theorem pgs_cons {e:Expr} {es:List Expr} {t:TG} {u:TGs} (h1:PG X e t) (h2:PGs X es u)
    (hs:(assignEach (e::es) X.env).map (·.2)=assign e X.env::(assignEach es X.env).map (·.2):=by rfl):PGs X (e::es) (gCons t u):=by
  intro pins s σ H vs us Q I r h
  obtain ⟨v,vr,e1,h⟩:=h
  subst e1
  cases r with
  | cons r rr=>
    rw [hs]
    refine assignInOrder_cons (thn (h1 pins s σ H _ _ _ I r h) fun _ s1 ⟨σ1,H1,I1,q1⟩ => ?_)
    exact h2 pins s1 σ1 H1 _ _ Q I1 rr q1
def gTup (K:PySem.W.Frag) (n:Nat) (t:TGs):TG:=fun v σ H Q => ∃ a xs,v = .ref a∧SqT K H a xs∧xs.length=n∧t xs σ H Q
theorem pg_tup {es:List Expr} {k:Nat} {t:TGs} {n:Nat} (hc:X.calm=true) (h:PGs X es t)
    (hn:(assignEach es X.env).length=n:=by rfl) (hst:(assignEach es X.env).findIdx? (·.1)=none:=by rfl):PG X (.Tuple es k pos) (gTup X.K n t):=by
  intro pins s σ H v u Q I r hw
  obtain ⟨a,xs,e1,hq,hl,hw⟩:=hw
  subst e1
  cases r
  obtain ⟨its,rv,ht,hz⟩:=I.tuple hq
  refine assign_Tuple_tuple (I.ok.hd hc) ht (by simp [hn,← hl,rv.length]) hst fun h' hx => ?_
  have I1:Inv X pins σ H { s with heap:=h' }:=I.kept (t':=s.toks) fun b o e=>hx b o (Nat.ne_of_lt (Heap.lt_size e)) e
  exact h pins _ σ H xs _ Q I1 (by simpa using rv) hw
def gSub (to ti:TE) (t:TSet):TG:=fun v σ H Q=>to σ H fun o H1=>ti σ H1 fun i H2=>t o i v H2 fun H3=>Q σ H3
theorem pg_sub {o i:Expr} {to ti:TE} {t:TSet} (ho:PE X o to) (hi:PE X i ti) (hs:PSet X t)
    (ha:∀ v,assign (.Subscript o i pos) X.env v=(do
      let ov ← holding [v] (eval o X.env)
      let iv ← holding [v,ov] (eval i X.env)
      standAt pos
      holding [v,ov,iv] (setItem ov iv v)
      release [v,ov,iv] []):=by intro _; rfl):PG X (.Subscript o i pos) (gSub to ti t):=by
  intro pins s σ H v u Q I r h
  rw [ha]
  refine wpAny_bind (wpAny_holding (thn (ho pins s σ H _ I h) fun ov s1 ⟨x,H1,I1,r1,q1⟩ => ?_))
  refine wpAny_bind (wpAny_holding (thn (hi pins s1 σ H1 _ I1 q1) fun iv s2 ⟨y,H2,I2,r2,q2⟩ => ?_))
  refine wpAny_bind (wpAny_standAt (wpAny_bind (wpAny_holding (thn (hs pins s2 σ H2 x y v ov iv u _ I2 r1 r2 r q2) fun _ s3 ⟨H3,I3,q3⟩ => ?_))))
  exact wpAny_release ⟨σ,H3,I3,q3⟩
def tAsg (te:TE) (g:TG):TS:=fun D σ H=>te σ H fun x H1=>g x σ H1 D.nx
theorem ps_asg {tg e:Expr} {te:TE} {g:TG} (he:PE X e te) (hg:PG X tg g) (hs:swapsWithSole [tg] e pos.line X.env=pure false:=by rfl) (hw:swappedStores [tg] e X.env=pure none:=by rfl)
    (h1:(assignEach [tg] X.env).map (·.2)=[assign tg X.env]:=by rfl):PS X (.Assign [tg] e pos) (tAsg te g):=by
  intro pins s σ H D I h
  refine wpAny_Assign_stores (thn (he pins s σ H _ I h) fun v s1 ⟨x,H1,I1,r1,q1⟩ => ?_) hs hw
  rw [h1]
  exact thn (hg pins s1 σ H1 x v _ I1 r1 q1) fun _ s2 q=>q
theorem ps_set {i:Nat} {x:Str} {e:Expr} {te:TE} {pos':Pos} (hN:X.N.Nodup) (hi:X.N[i]? = some x) (hx:Loc X.env.scope x) (he:PE X e te) (hs:swapsWith e (some (.Name x pos')) pos.line X.env=pure false:=by rfl) (hf:X.fn x=true∨X.env.scope.names.lookup x=some .local:=by first | exact .inl rfl | exact .inr rfl | assumption) :
    PS X (.Assign [.Name x pos'] e pos) (tAsg te (gName i)):=by
  intro pins s σ H D I h
  refine wpAny_Assign_Name (thn (he pins s σ H _ I h) fun v s1 ⟨y,H1,I1,r1,q1⟩ => ?_) hs
  exact store_ok I1 hN hi hx r1 (fun s2 I2=>⟨_,H1,I2,q1⟩) hf
end
section
variable {X:Cx} {pos:Pos}
def tWhile (c:TT) (tb:TS):TS:=fun D σ H => ∃ W:Nat→St→Hp→Prop,(∃ m,W m σ H)∧∀ m σ H,W m σ H →
  c σ H fun b H1=>if b=true then ∃ N:St→Hp→Prop,(∀ σ' H',N σ' H'→∃ m',m'<m∧W m' σ' H')∧tb { D with nx:=N,ct:=N,bk:=D.nx } σ H1 else D.nx σ H1
theorem ps_while {c:Expr} {body:List Stmt} {tc:TT} {tb:TS} (hp:PassesOwn (model X.prog X.w) X.A X.env X.xe) (hc:PT X c tc) (hb:PSs X body tb):PS X (.While c body [] pos) (tWhile tc tb):=by
  intro pins s σ H D I h
  obtain ⟨W,⟨m0,w0⟩,turn⟩:=h
  refine wpAny_While (codeAny_whileLoop (fun n s' => ∃ σ' H',Inv X pins σ' H' s'∧W n σ' H') ?_ m0 ⟨σ,H,I,w0⟩)
  rintro n s1 ⟨σ1,H1,I1,w1⟩
  refine wpAny_passesOwn hp (thn (hc pins s1 σ1 H1 _ I1 (turn n σ1 H1 w1)) fun b s2 ⟨H2,I2,q2⟩ => ?_)
  cases b with
  | true=>
    obtain ⟨N,hN,q2⟩:=q2
    rw [if_pos rfl]
    refine wpAny_passesOwn hp (thn (hb pins s2 σ1 H2 _ I2 q2) fun f s3 q3 => ?_)
    cases f with
    | next=>
      obtain ⟨σ3,H3,I3,n3⟩:=q3
      obtain ⟨m',hm,w3⟩:=hN σ3 H3 n3
      exact ⟨m',hm,σ3,H3,I3,w3⟩
    | cont=>
      obtain ⟨σ3,H3,I3,n3⟩:=q3
      obtain ⟨m',hm,w3⟩:=hN σ3 H3 n3
      exact ⟨m',hm,σ3,H3,I3,w3⟩
    | brk=>exact q3
    | ret v=>exact q3
  | false=>
    rw [if_neg Bool.false_ne_true]
    exact wpAny_execs_nil ⟨σ1,H2,I2,q2⟩
end
structure It where
  go:Nat→Hp→Prop
  yld:Nat→Hp→V→Hp→Prop
  stop:Nat→Hp→Prop
def FpOk (X:Cx) (pins:List (Addr×Obj)) (H:Hp) (b:Addr):Prop :=
  H b=none∧b≠X.env.locals∧b ∉ X.fs∧(b∈X.ex∨X.s_0.heap.objs.size≤b)∧(∀ x c,X.env.cells.lookup x=some c→c≠b)∧∀ p∈X.pn++pins,p.1≠b
theorem Inv.fpOk {X:Cx} {pins:List (Addr×Obj)} {σ:St} {H H':Hp} {s:Shared} {b:Addr} (I:Inv X pins σ H s) (hb:s.heap.objs.size≤b) (hn:H' b=none):FpOk X pins H' b:=by
  refine ⟨hn,Nat.ne_of_gt (Nat.lt_of_lt_of_le I.lt hb),I.nofs hb,.inr (Nat.le_trans I.sz hb),fun x c e z => ?_,fun p hp z => ?_⟩
  · obtain ⟨v,q⟩:=I.cell x c e
    exact absurd (Nat.lt_of_lt_of_le q.lt (by rw [z]; exact hb)) (Nat.lt_irrefl _)
  · exact absurd (Nat.lt_of_lt_of_le (Heap.lt_size (I.pin p hp).1) (by rw [z]; exact hb)) (Nat.lt_irrefl _)
structure Turn (P:Program) (w:World) (K:PySem.W.Frag) (tg:Expr) (J:It) (fp:List Addr) (it:Addr) (tn:Nat→Heap→Prop):Prop where
  mem:it∈fp
  obj:∀ i h,tn i h→∀ b∈fp,∃ o,h.get? b=some o∧∀ v,o.data ≠ .cell v
  keep:∀ i h h',tn i h→(∀ b∈fp,∀ o,h.get? b=some o→h'.get? b=some o)→tn i h'
  item:∀ (X:Cx),X.prog=P→X.w=w→X.K=K→X.calm=true→∀ (i:Nat) (pins:List (Addr×Obj)) (s:Shared) (σ:St) (H:Hp) (E:Value→Shared→Prop),Inv X pins σ H s→(∀ b∈fp,FpOk X pins H b)→tn i s.heap→J.go i H →
    wpAny (model P w) X.A (pyNext (.ref it)) (fun r s1 => ∃ u,r=some u ∧
      wpAny (model P w) X.A (letOwnedTupleGo tg (.ref it) u) (fun _ s2 => ∃ x H',Inv X pins σ H' s2∧RelV x u∧J.yld i H x H'∧tn (i+1) s2.heap∧∀ b∈fp,H' b=none) E s1) E s
  done:∀ (X:Cx),X.prog=P→X.w=w→X.K=K→X.calm=true→∀ (i:Nat) (pins:List (Addr×Obj)) (s:Shared) (σ:St) (H:Hp) (E:Value→Shared→Prop),Inv X pins σ H s→(∀ b∈fp,FpOk X pins H b)→tn i s.heap→J.stop i H →
    wpAny (model P w) X.A (pyNext (.ref it)) (fun r s1=>r=none∧Inv X pins σ H s1) E s
  self:∀ (A:Around) (i:Nat) (s:Shared) (Q:Value→Shared→Prop) (E:Value→Shared→Prop),tn i s.heap→Q (.ref it) s→wpAny (model P w) A (pyIter (.ref it)) Q E s
abbrev TI:=St→Hp→(It→Hp→Prop)→Prop
def PIE (X:Cx) (pins:List (Addr×Obj)) (σ:St) (tg:Expr) (R:It→Hp→Prop) (itv:Value) (s2:Shared):Prop :=
  ∃ (it:Addr) (fp:List Addr) (tn:Nat→Heap→Prop) (J:It) (H':Hp),itv = .ref it∧Inv X pins σ H' s2∧Turn X.prog X.w X.K tg J fp it tn∧tn 0 s2.heap∧(∀ b∈fp,FpOk X pins H' b)∧R J H'
def PI (X:Cx) (tg iter:Expr) (wi:TI):Prop :=
  ∀ (pins:List (Addr×Obj)) (s:Shared) (σ:St) (H:Hp) (R:It→Hp→Prop),Inv X pins σ H s→wi σ H R →
    wpAny (model X.prog X.w) X.A (eval iter X.env) (fun v s1=>wpAny (model X.prog X.w) X.A (pyIter v) (PIE X pins σ tg R) X.xe s1) X.xe s
theorem go_of {M:Model} {A:Around} {E:Value→Shared→Prop} {s:Shared} {tg:Expr} {it:Addr} {u:Value} {o:Obj} {n:String} {vs:Array Value} {Q:Unit→Shared→Prop} (ho:s.heap.get? it=some o) (hc:o.cls = .type n) (hd:o.data = .fields vs)
    (hn:["enumerate","zip","dict_itemiterator","dict_reverseitemiterator","odict_iterator","itertools.zip_longest","itertools.pairwise"].contains n=false) (hQ:Q () s):wpAny M A (letOwnedTupleGo tg (.ref it) u) Q E s:=by
  unfold letOwnedTupleGo
  cases tg <;> first
    | exact wpAny_pure hQ
    | (cases u <;> first
        | exact wpAny_pure hQ
        | (refine wpAny_bind (wpAny_load ho ?_)
           rw [hc,hd]
           show wpAny M A (if (["enumerate","zip","dict_itemiterator","dict_reverseitemiterator","odict_iterator","itertools.zip_longest","itertools.pairwise"].contains n&&vs[0]? == some (rawInt _))=true then _ else _) Q E s
           rw [if_neg (by intro h; rw [hn,Bool.false_and] at h; cases h)]
           exact wpAny_pure hQ))
def Itl (K:PySem.W.Frag) (a:Addr):It :=
  ⟨fun i H => ∃ xs x,SqL K H a xs∧xs[i]? = some x,fun i H x H'=>H'=H∧∀ xs,SqL K H a xs→xs[i]? = some x,fun i H => ∃ xs,SqL K H a xs∧xs.length≤i⟩
def Itr (lo:Int) (n:Nat):It:=⟨fun i _=>i<n,fun i H x H'=>H'=H∧x = .int (lo+i),fun i _=>n≤i⟩
theorem turn_list {P:Program} {w:World} {K:PySem.W.Frag} {tg:Expr} (a it:Addr):Turn P w K tg (Itl K a) [it] it (fun i h=>h.IsListIter it a i) where
  mem:=by simp
  obj:=fun i h st b hb=>by
    have e:b=it:=by simpa using hb
    subst e
    obtain ⟨o,e,c,d⟩:=st
    exact ⟨o,e,fun v z=>by rw [d] at z; cases z⟩
  keep:=fun i h h' st k=>st.at fun o e=>k it (by simp) o e
  item:=by
    intro X hP hw hK hc i pins s σ H E I hf st hg
    subst hP hw hK
    obtain ⟨xs,x,hq,hx⟩:=hg
    obtain ⟨its,rv,p,hz⟩:=I.list hq
    obtain ⟨u,hu,ru⟩:=rv.get hx
    obtain ⟨f0,f1,f2,f3,f4,f5⟩:=hf it (by simp)
    refine wpAny_pyNext_list_item st p.isList (x:=u) (by simpa using hu) fun h' st' sb => ?_
    have I1:Inv X pins σ H { s with heap:=h' }:=I.turned (t':=s.toks) (fun b o hb e=>(sb.2 b hb).trans e) f0 f1 f3 f4 f5
    obtain ⟨o,e,c,d⟩:=id st'
    exact ⟨u,rfl,go_of (s:={ s with heap:=h' }) e c d (by decide) ⟨x,H,I1,ru,⟨rfl,fun ys hy=>by rw [I.list_inj hy hq]; exact hx⟩,st',fun b hb=>(hf b hb).1⟩⟩
  done:=by
    intro X hP hw hK hc i pins s σ H E I hf st hg
    subst hP hw hK
    obtain ⟨xs,hq,hx⟩:=hg
    obtain ⟨its,rv,p,hz⟩:=I.list hq
    obtain ⟨f0,f1,f2,f3,f4,f5⟩:=hf it (by simp)
    have hl:=rv.length
    exact wpAny_pyNext_list_end (I.ok.hd hc) st p.isList (by simp; omega) fun h' eb=>⟨rfl,I.turned (t':=s.toks) (fun b o hb e=>eb b o hb e) f0 f1 f3 f4 f5⟩
  self:=fun _ _ _ _ _ st h=>wpAny_pyIter_listiter st h
theorem turn_range {P:Program} {w:World} {K:PySem.W.Frag} {tg:Expr} (it:Addr) (lo:Int) (n:Nat):Turn P w K tg (Itr lo n) [it] it (fun i h=>IsRangeIter h it (lo+(i:Nat)*1) ((n:Int) - (i:Nat)) 1) where
  mem:=by simp
  obj:=fun i h st b hb=>by
    have e:b=it:=by simpa using hb
    subst e
    exact ⟨_,st,fun v z=>by
      have z':Data.fields _=Data.cell v:=z
      cases z'⟩
  keep:=fun i h h' st k=>k it (by simp) _ st
  item:=by
    intro X hP hw hK hc i pins s σ H E I hf st hg
    subst hP hw hK
    obtain ⟨f0,f1,f2,f3,f4,f5⟩:=hf it (by simp)
    have W:=Walks.range (prog:=X.prog) (w:=X.w) (I.ok.hd hc) it lo 1 n
    refine W.item i s _ _ hg st fun v h' tk hv st' kk => ?_
    obtain ⟨t,rfl⟩:=hv
    have I1:Inv X pins σ H { s with heap:=h',toks:=tk }:=I.turned (fun b o hb e=>kk b o (by simpa using hb) e) f0 f1 f3 f4 f5
    refine ⟨_,rfl,go_of (s:={ s with heap:=h',toks:=tk }) (n := "range_iterator") st' rfl rfl (by decide) ⟨.int (lo+i),H,I1,⟨t,?_⟩,⟨rfl,rfl⟩,st',fun b hb=>(hf b hb).1⟩⟩
    rw [Int.mul_one]
  done:=by
    intro X hP hw hK hc i pins s σ H E I hf st hg
    subst hP hw hK
    obtain ⟨f0,f1,f2,f3,f4,f5⟩:=hf it (by simp)
    exact wpAny_pyNext_range_end (I.ok.hd hc) st (by have:n≤i:=hg; omega) fun h' eb=>⟨rfl,I.turned (t':=s.toks) (fun b o hb e=>eb b o hb e) f0 f1 f3 f4 f5⟩
  self:=fun _ _ _ _ _ st h=>wpAny_pyIter_rangeiter st h
end L2
namespace L2
open PySem PySem.Spec PyProof.Rows
section
variable {X:Cx} {tg:Expr}
def iList (K:PySem.W.Frag) (tl:TE):TI:=fun σ H R=>tl σ H fun x H1 => ∃ a,x = .ref a∧(∃ xs,SqL K H1 a xs)∧R (Itl K a) H1
theorem pi_list {l:Expr} {tl:TE} (hl:PE X l tl):PI X tg l (iList X.K tl):=by
  intro pins s σ H R I h
  refine thn (hl pins s σ H _ I h) fun v s1 ⟨x,H1,I1,r1,q1⟩ => ?_
  obtain ⟨a,e,⟨xs,hq⟩,q⟩:=q1
  subst e
  cases r1
  obtain ⟨its,rv,p,hz⟩:=I1.list hq
  refine wpAny_pyIter_list p.isList ?_
  refine ⟨s1.heap.objs.size,[s1.heap.objs.size],_,_,H1,rfl,I1.kept (t':=s1.toks) fun b o e=>Heap.get?_push_of_some _ e,turn_list a _,⟨_,Heap.get?_push_size _ rfl,rfl,rfl⟩,fun b hb => ?_,q⟩
  have e:b=s1.heap.objs.size:=by simpa using hb
  subst e
  exact I1.fpOk (Nat.le_refl _) (I1.hok.fresh (Nat.le_refl _))
theorem range_it {pins:List (Addr×Obj)} {σ:St} {H:Hp} {s:Shared} {R:It→Hp→Prop} {E:Value→Shared→Prop} {lo hi:Int} {t u v:Tok} {tk:Nat} (I:Inv X pins σ H s) (h1 : -(2 ^ 62)≤lo) (h2:lo<2 ^ 62) (h3 : -(2 ^ 62)≤hi) (h4:hi<2 ^ 62)
    (q:R (Itr lo (hi - lo).toNat) H):wpAny (model X.prog X.w) X.A (pyIter (.ref s.heap.objs.size)) (PIE X pins σ tg R) E { s with heap:=s.heap.push { cls:=.type "range",data:=.fields #[.int lo t,.int hi u,.int 1 v] },toks:=tk }:=by
  refine wpAny_pyIter_range (IsRange.new ..) (small_one h1 h2 h3 h4) ?_
  have I1:Inv X pins σ H { s with heap:=s.heap.push { cls:=.type "range",data:=.fields #[.int lo t,.int hi u,.int 1 v] },toks:=tk }:=I.kept fun b o e=>Heap.get?_push_of_some _ e
  refine ⟨(s.heap.push { cls:=.type "range",data:=.fields #[.int lo t,.int hi u,.int 1 v] }).objs.size,[(s.heap.push { cls:=.type "range",data:=.fields #[.int lo t,.int hi u,.int 1 v] }).objs.size],_,_,H,rfl,
    I1.kept (t':=tk) fun b o e=>Heap.get?_push_of_some _ e,turn_range _ lo (hi - lo).toNat,?_,fun b hb => ?_,q⟩
  · have e1:lo+((0:Nat):Int)*1=lo:=by simp
    have e2:(((hi - lo).toNat:Nat):Int) - ((0:Nat):Int)=Builtin.Range.rangeSize lo hi 1:=by rw [rangeSize_one]; split <;> omega
    show IsRangeIter _ _ (lo+((0:Nat):Int)*1) ((((hi - lo).toNat:Nat):Int) - ((0:Nat):Int)) 1
    rw [e1,e2]
    exact Heap.get?_push_size _ rfl
  · have e:b=(s.heap.push { cls:=.type "range",data:=.fields #[.int lo t,.int hi u,.int 1 v] }).objs.size:=by simpa using hb
    subst e
    exact I1.fpOk (Nat.le_refl _) (I1.hok.fresh (Nat.le_refl _))
def iRng1 (ta:TA):TI:=fun σ H R=>ta σ H fun vs H1 => ∃ j:Int,vs=[.int j] ∧ -(2 ^ 62)≤j∧j<2 ^ 62∧R (Itr 0 j.toNat) H1
theorem pi_range1 {a:Expr} {ta:TA} {p pos:Pos} (hg:Gl X "range") (hm:X.mg "range" = none) (ha:PA X [a] ta) (hs:starEach [a] X.env=[(false,eval a X.env)]:=by rfl):PI X tg (.Call (.Name "range" p) [a] [] pos) (iRng1 ta):=by
  intro pins s σ H R I h
  refine Call_ (ld_blt I hg hm boot_range (PyProof.Rows.callWith_type1 (thn (ha pos pins s σ H _ I h) fun us s1 ⟨vs,H1,I1,r1,q1⟩ => ?_) hs rfl))
  obtain ⟨j,e,q1,q2,q⟩:=q1
  subst e
  cases r1 with
  | cons r rr=>
    cases rr
    obtain ⟨t,rfl⟩:=r
    exact call_range_1 (range_it I1 (by omega) (by omega) q1 q2 (by simpa using q))
def tFor (wi:TI) (g:TG) (tb:TS):TS:=fun D σ H=>wi σ H fun J H1 => ∃ W:Nat→Nat→St→Hp→Prop,(∃ m,W 0 m σ H1)∧∀ i m σ H,W i m σ H →
  (J.stop i H∧D.nx σ H)∨(J.go i H∧∃ N:St→Hp→Prop,(∀ σ' H',N σ' H'→∃ m',m'<m∧W (i+1) m' σ' H')∧∀ x H',J.yld i H x H'→g x σ H' fun σ2 H2=>tb { D with nx:=N,ct:=N,bk:=D.nx } σ2 H2)
def pinsAt (fp:List Addr) (h:Heap):List (Addr×Obj):=fp.filterMap fun b=>(h.get? b).map fun o=>(b,o)
theorem mem_pinsAt {fp:List Addr} {h:Heap} {b:Addr} {o:Obj} (hb:b∈fp) (e:h.get? b=some o):(b,o)∈pinsAt fp h:=List.mem_filterMap.mpr ⟨b,hb,by rw [e]; rfl⟩
theorem of_pinsAt {fp:List Addr} {h:Heap} {p:Addr×Obj} (hp:p∈pinsAt fp h):p.1∈fp∧h.get? p.1=some p.2:=by
  obtain ⟨b,hb,e⟩:=List.mem_filterMap.mp hp
  cases q:h.get? b with
  | none=>rw [q] at e; cases e
  | some o=>
    rw [q] at e
    have e':(b,o)=p:=Option.some.inj e
    subst e'
    exact ⟨hb,q⟩
theorem Inv.pinned {pins:List (Addr×Obj)} {σ:St} {H:Hp} {s:Shared} {fp:List Addr} (I:Inv X pins σ H s) (hf:∀ b∈fp,FpOk X pins H b) (ho:∀ b∈fp,∃ o,s.heap.get? b=some o∧∀ v,o.data ≠ .cell v):Inv X (pins++pinsAt fp s.heap) σ H s :=
  I.pins_of fun p hp=>(List.mem_append.mp hp).elim (fun z=>I.pin p (List.mem_append_right _ z)) fun z=>by
    obtain ⟨hb,e⟩:=of_pinsAt z
    obtain ⟨f0,f1,f2,_⟩:=hf p.1 hb
    obtain ⟨o,e',d⟩:=ho p.1 hb
    rw [e] at e'; cases e'
    exact ⟨e,f0,f1,f2,d⟩
theorem Inv.unpinned {pins pl:List (Addr×Obj)} {σ:St} {H:Hp} {s:Shared} (I:Inv X (pins++pl) σ H s):Inv X pins σ H s:=I.pins_of fun p hp=>I.pin p (List.mem_append_right _ (List.mem_append_left _ hp))
theorem ps_for {iter:Expr} {body:List Stmt} {wi:TI} {g:TG} {tb:TS} {pos:Pos} (hp:PassesOwn (model X.prog X.w) X.A X.env X.xe) (hc:X.calm=true) (hi:PI X tg iter wi) (hg:PG X tg g) (hb:PSs X body tb)
    (hs:∀ x,foldedSetIterable iter X.env x=pure x:=by intro _; rfl):PS X (.For tg iter body [] pos) (tFor wi g tb):=by
  intro pins s σ H D I h
  refine wpAny_For (thn (hi pins s σ H _ I h) fun v s1 h1=>thn h1 fun itv s2 h2 => ?_) hs
  obtain ⟨it,fp,tn,J,H2,e,I2,T,st2,f2,W,⟨m0,w0⟩,turn⟩:=h2
  subst e
  have stat:∀ {H':Hp},(∀ b∈fp,H' b=none)→∀ b∈fp,FpOk X pins H' b:=fun hn b hb=>⟨hn b hb,(f2 b hb).2⟩
  refine codeAny_forLoop_any (fun n s' => ∃ i σ' H',Inv X pins σ' H' s'∧tn i s'.heap∧(∀ b∈fp,H' b=none)∧W i n σ' H') ?_ m0 ⟨0,σ,H2,I2,st2,fun b hb=>(f2 b hb).1,w0⟩
  rintro n s3 ⟨i,σ3,H3,I3,st3,fr3,w3⟩
  rcases turn i n σ3 H3 w3 with ⟨stop,qn⟩ | ⟨go,N,hN,step⟩
  · refine wpAny_passesOwn hp (thn (T.done X rfl rfl rfl hc i pins s3 σ3 H3 X.xe I3 (stat fr3) st3 stop) fun r s4 ⟨hr,I4⟩ => ?_)
    subst hr
    exact wpAny_execs_nil ⟨σ3,H3,I4,qn⟩
  · refine wpAny_passesOwn hp (thn (T.item X rfl rfl rfl hc i pins s3 σ3 H3 X.xe I3 (stat fr3) st3 go) fun r s4 ⟨u,hr,h4⟩ => ?_)
    subst hr
    refine wpAny_passesOwn hp (thn h4 fun _ s5 ⟨x,H5,I5,r5,y5,st5,fr5⟩ => ?_)
    have I5':=I5.pinned (stat fr5) (T.obj _ _ st5)
    refine wpAny_passesOwn hp (thn (hg _ s5 σ3 H5 x u _ I5' r5 (step x H5 y5)) fun _ s6 ⟨σ6,H6,I6,q6⟩ => ?_)
    refine wpAny_passesOwn hp (thn (hb _ s6 σ6 H6 _ I6 q6) fun f s7 q7 => ?_)
    have again:∀ {σ7:St} {H7:Hp},Inv X (pins++pinsAt fp s5.heap) σ7 H7 s7→N σ7 H7→∃ m,m<n∧∃ i σ' H',Inv X pins σ' H' s7∧tn i s7.heap∧(∀ b∈fp,H' b=none)∧W i m σ' H':=fun {σ7 H7} I7 n7=>by
      obtain ⟨m',hm,w7⟩:=hN σ7 H7 n7
      refine ⟨m',hm,i+1,σ7,H7,I7.unpinned,T.keep _ _ _ st5 fun b hb o e=>(I7.pin (b,o) (List.mem_append_right _ (List.mem_append_right _ (mem_pinsAt hb e)))).1,fun b hb => ?_,w7⟩
      obtain ⟨o,e,d⟩:=T.obj _ _ st5 b hb
      exact (I7.pin (b,o) (List.mem_append_right _ (List.mem_append_right _ (mem_pinsAt hb e)))).2.1
    cases f with
    | next=>obtain ⟨σ7,H7,I7,n7⟩:=q7; exact again I7 n7
    | cont=>obtain ⟨σ7,H7,I7,n7⟩:=q7; exact again I7 n7
    | brk=>obtain ⟨σ7,H7,I7,q7⟩:=q7; exact ⟨σ7,H7,I7.unpinned,q7⟩
    | ret v=>obtain ⟨x7,σ7,H7,I7,r7,q7⟩:=q7; exact ⟨x7,σ7,H7,I7.unpinned,r7,q7⟩
end
theorem for_list {K:PySem.W.Frag} {a:Addr} {xs:List V} {g:TG} {tb:TS} {D:Ends} {σ:St} {H:Hp} (Pv:Nat→St→Hp→Prop) (h0:Pv 0 σ H) (hl:∀ i σ H,i≤xs.length→Pv i σ H→SqL K H a xs)
    (hs:∀ i x σ H,xs[i]? = some x→Pv i σ H→g x σ H fun σ2 H2=>tb { D with nx:=Pv (i+1),ct:=Pv (i+1),bk:=D.nx } σ2 H2) (hd:∀ σ H,Pv xs.length σ H→D.nx σ H) :
    ∃ W:Nat→Nat→St→Hp→Prop,(∃ m,W 0 m σ H)∧∀ i m σ H,W i m σ H →
      ((Itl K a).stop i H∧D.nx σ H)∨((Itl K a).go i H∧∃ N:St→Hp→Prop,(∀ σ' H',N σ' H'→∃ m',m'<m∧W (i+1) m' σ' H')∧∀ x H',(Itl K a).yld i H x H'→g x σ H' fun σ2 H2=>tb { D with nx:=N,ct:=N,bk:=D.nx } σ2 H2):=by
  refine ⟨fun i m σ H=>m=xs.length - i∧i≤xs.length∧Pv i σ H,⟨xs.length,by simp,Nat.zero_le _,h0⟩,?_⟩
  rintro i m σ H ⟨rfl,hi,p⟩
  have q:=hl i σ H hi p
  by_cases hlt:i<xs.length
  · refine .inr ⟨⟨xs,xs[i],q,by simp [hlt]⟩,Pv (i+1),fun σ' H' p'=>⟨xs.length - (i+1),by omega,rfl,hlt,p'⟩,fun x H' y => ?_⟩
    obtain ⟨e,y⟩:=y
    subst e
    exact hs i x σ _ (y xs q) p
  · have e:i=xs.length:=by omega
    subst e
    exact .inl ⟨⟨xs,q,Nat.le_refl _⟩,hd σ H p⟩
theorem for_range {lo:Int} {n:Nat} {g:TG} {tb:TS} {D:Ends} {σ:St} {H:Hp} (Pv:Nat→St→Hp→Prop) (h0:Pv 0 σ H)
    (hs:∀ i σ H,i<n→Pv i σ H→g (.int (lo+i)) σ H fun σ2 H2=>tb { D with nx:=Pv (i+1),ct:=Pv (i+1),bk:=D.nx } σ2 H2) (hd:∀ σ H,Pv n σ H→D.nx σ H) :
    ∃ W:Nat→Nat→St→Hp→Prop,(∃ m,W 0 m σ H)∧∀ i m σ H,W i m σ H →
      ((Itr lo n).stop i H∧D.nx σ H)∨((Itr lo n).go i H∧∃ N:St→Hp→Prop,(∀ σ' H',N σ' H'→∃ m',m'<m∧W (i+1) m' σ' H')∧∀ x H',(Itr lo n).yld i H x H'→g x σ H' fun σ2 H2=>tb { D with nx:=N,ct:=N,bk:=D.nx } σ2 H2):=by
  refine ⟨fun i m σ H=>m=n - i∧i≤n∧Pv i σ H,⟨n,by simp,Nat.zero_le _,h0⟩,?_⟩
  rintro i m σ H ⟨rfl,hi,p⟩
  by_cases hlt:i<n
  · refine .inr ⟨hlt,Pv (i+1),fun σ' H' p'=>⟨n - (i+1),by omega,rfl,hlt,p'⟩,fun x H' y => ?_⟩
    obtain ⟨e,y⟩:=y
    subst e y
    exact hs i σ _ hlt p
  · have e:i=n:=by omega
    subst e
    exact .inl ⟨Nat.le_refl _,hd σ H p⟩
theorem while_by {c:TT} {tb:TS} {D:Ends} {σ:St} {H:Hp} (Pv:St→Hp→Prop) (μ:St→Hp→Nat) (h0:Pv σ H)
    (hs:∀ σ H,Pv σ H→c σ H fun b H1=>if b=true then tb { D with nx:=fun σ' H'=>Pv σ' H'∧μ σ' H'<μ σ H,ct:=fun σ' H'=>Pv σ' H'∧μ σ' H'<μ σ H,bk:=D.nx } σ H1 else D.nx σ H1)
    (mono:∀ σ H Q Q',(∀ b H1,Q b H1→Q' b H1)→c σ H Q→c σ H Q'):tWhile c tb D σ H:=by
  refine ⟨fun m σ H=>m=μ σ H∧Pv σ H,⟨_,rfl,h0⟩,?_⟩
  rintro m σ H ⟨rfl,p⟩
  refine mono σ H _ _ (fun b H1 q => ?_) (hs σ H p)
  cases b with
  | true=>exact ⟨_,fun σ' H' ⟨p',l⟩=>⟨_,l,rfl,p'⟩,q⟩
  | false=>exact q
end L2
namespace L2
open PySem PySem.Spec PyProof.Rows
abbrev R2:=V→V→Hp→VK→Prop
def OpR (X:Cx) (f:Value→Value→Sem Value) (r:R2):Prop :=
  ∀ (pins:List (Addr×Obj)) (s:Shared) (σ:St) (H:Hp) (x y:V) (v u:Value) (Q:VK),Inv X pins σ H s→RelV x v→RelV y u→r x y H Q →
    wpAny (model X.prog X.w) X.A (f v u) (EP X pins σ Q) X.xe s
def UnR (X:Cx) (f:Value→Sem Value) (r:V→Hp→VK→Prop):Prop :=
  ∀ (pins:List (Addr×Obj)) (s:Shared) (σ:St) (H:Hp) (x:V) (v:Value) (Q:VK),Inv X pins σ H s→RelV x v→r x H Q →
    wpAny (model X.prog X.w) X.A (f v) (EP X pins σ Q) X.xe s
def CallR (X:Cx) (f:Value) (r:List V→Hp→VK→Prop):Prop :=
  ∀ (pins:List (Addr×Obj)) (s:Shared) (σ:St) (H:Hp) (xs:List V) (us:List Value) (Q:VK),Inv X pins σ H s→Vals xs us→r xs H Q →
    wpAny (model X.prog X.w) X.A (call f us) (EP X pins σ Q) X.xe s
def tOp (r:R2) (ta tb:TE):TE:=fun σ H Q=>ta σ H fun x H1=>tb σ H1 fun y H2=>r x y H2 Q
def tUn (r:V→Hp→VK→Prop) (ta:TE):TE:=fun σ H Q=>ta σ H fun x H1=>r x H1 Q
def rI (C:Int→Int→Prop) (g:Int→Int→V):R2:=fun x y H Q => ∃ i j,x = .int i∧y = .int j∧C i j∧Q (g i j) H
def rI0 (g:Int→Int→V):R2:=fun x y H Q => ∃ i j,x = .int i∧y = .int j∧Q (g i j) H
def rU (g:Int→V):V→Hp→VK→Prop:=fun x H Q => ∃ i,x = .int i∧Q (g i) H
section
variable {X:Cx} {a b c:Expr} {ta tb tc:TE} {pos:Pos}
theorem binT (ha:PE X a ta) (hb:PE X b tb) {pins:List (Addr×Obj)} {s:Shared} {σ:St} {H:Hp} {R:V→V→Hp→Prop} (I:Inv X pins σ H s)
    (h:ta σ H fun x H1=>tb σ H1 fun y H2=>R x y H2) {Q:Value→Shared→Prop} {f:Value→Value→Sem Value}
    (hf:∀ v u s2 x y H2,Inv X pins σ H2 s2→RelV x v→RelV y u→R x y H2→wpAny (model X.prog X.w) X.A (f v u) Q X.xe s2) :
    wpAny (model X.prog X.w) X.A (eval a X.env) (fun v s₁=>wpAny (model X.prog X.w) X.A (eval b X.env) (fun u s₂=>wpAny (model X.prog X.w) X.A (f v u) Q X.xe s₂) X.xe s₁) X.xe s:=by
  refine thn (ha pins s σ H _ I h) fun v s1 ⟨x,H1,I1,r1,q1⟩ => ?_
  refine thn (hb pins s1 σ H1 _ I1 q1) fun u s2 ⟨y,H2,I2,r2,q2⟩ => ?_
  exact hf v u s2 x y H2 I2 r1 r2 q2
theorem pe_op {op:Operator} {r:R2} (ho:OpR X (binaryOp op) r) (ha:PE X a ta) (hb:PE X b tb):PE X (.BinOp a op b pos) (tOp r ta tb):=by
  intro pins s σ H Q I h
  exact wpAny_BinOp (binT ha hb I h fun v u s2 x y H2 I2 rx ry q=>ho pins s2 σ H2 x y v u Q I2 rx ry q)
theorem pe_un {op:UnaryOp} {r:V→Hp→VK→Prop} (ho:UnR X (unaryOp op) r) (ha:PE X a ta):PE X (.UnaryOp op a pos) (tUn r ta):=by
  intro pins s σ H Q I h
  exact UnaryOp_ (thn (ha pins s σ H _ I h) fun v s1 ⟨x,H1,I1,r1,q1⟩=>ho pins s1 σ H1 x v Q I1 r1 q1)
theorem opI {f:Value→Value→Sem Value} {C:Int→Int→Prop} {g:Int→Int→Int}
    (rule:∀ (i j:Int) (t u:Tok) (s:Shared) (Q:Value→Shared→Prop) (E:Value→Shared→Prop),C i j→Q (.int (g i j) s.toks) { s with toks:=s.toks+1 }→wpAny (model X.prog X.w) X.A (f (.int i t) (.int j u)) Q E s) :
    OpR X f (rI C fun i j => .int (g i j)):=by
  intro pins s σ H x y v u Q I rx ry h
  obtain ⟨i,j,rfl,rfl,hc,q⟩:=h
  obtain ⟨t,rfl⟩:=rx
  obtain ⟨t',rfl⟩:=ry
  exact rule i j t t' s _ _ hc ⟨.int (g i j),H,I.tok _,⟨_,rfl⟩,q⟩
theorem opI0 {f:Value→Value→Sem Value} {g:Int→Int→Int}
    (rule:∀ (i j:Int) (t u:Tok) (s:Shared) (Q:Value→Shared→Prop) (E:Value→Shared→Prop),Q (.int (g i j) s.toks) { s with toks:=s.toks+1 }→wpAny (model X.prog X.w) X.A (f (.int i t) (.int j u)) Q E s) :
    OpR X f (rI0 fun i j => .int (g i j)):=by
  intro pins s σ H x y v u Q I rx ry h
  obtain ⟨i,j,rfl,rfl,q⟩:=h
  obtain ⟨t,rfl⟩:=rx
  obtain ⟨t',rfl⟩:=ry
  exact rule i j t t' s _ _ ⟨.int (g i j),H,I.tok _,⟨_,rfl⟩,q⟩
theorem opB0 {f:Value→Value→Sem Value} {g:Int→Int→Bool}
    (rule:∀ (i j:Int) (t u:Tok) (s:Shared) (Q:Value→Shared→Prop) (E:Value→Shared→Prop),Q (.bool (g i j)) s→wpAny (model X.prog X.w) X.A (f (.int i t) (.int j u)) Q E s) :
    OpR X f (rI0 fun i j => .bl (g i j)):=by
  intro pins s σ H x y v u Q I rx ry h
  obtain ⟨i,j,rfl,rfl,q⟩:=h
  obtain ⟨t,rfl⟩:=rx
  obtain ⟨t',rfl⟩:=ry
  exact rule i j t t' s _ _ ⟨.bl (g i j),H,I,rfl,q⟩
def CMul (i j:Int):Prop:=(-(2 ^ 64)<i∧i<2 ^ 64)∨(-(2 ^ 64)<j∧j<2 ^ 64)
theorem CMul.ok {i j:Int} (h:CMul i j):IntMulOk i j:=by
  rcases h with ⟨h1,h2⟩ | ⟨h1,h2⟩
  · exact .of_left (intBits_le_64 h1 h2)
  · exact .of_right (intBits_le_64 h1 h2)
theorem op_add:OpR X (binaryOp .Add) (rI0 fun i j => .int (i+j)):=opI0 fun _ _ _ _ _ _ _ q=>add_int q
theorem op_sub:OpR X (binaryOp .Sub) (rI0 fun i j => .int (i - j)):=opI0 fun _ _ _ _ _ _ _ q=>sub_int q
theorem op_mod:OpR X (binaryOp .Mod) (rI (fun _ j=>0<j) fun i j => .int (i % j)):=opI fun i j _ _ _ _ _ hc q=>by
  have h1:(0:Int)<j:=hc
  exact mod_int' (by omega) (by rw [Int.fmod_eq_emod_of_nonneg i (by omega)]; exact q)
theorem unI {f:Value→Sem Value} {g:Int→Int}
    (rule:∀ (i:Int) (t:Tok) (s:Shared) (Q:Value→Shared→Prop) (E:Value→Shared→Prop),Q (.int (g i) s.toks) { s with toks:=s.toks+1 }→wpAny (model X.prog X.w) X.A (f (.int i t)) Q E s) :
    UnR X f (rU fun i => .int (g i)):=by
  intro pins s σ H x v Q I rx h
  obtain ⟨i,rfl,q⟩:=h
  obtain ⟨t,rfl⟩:=rx
  exact rule i t s _ _ ⟨.int (g i),H,I.tok _,⟨_,rfl⟩,q⟩
theorem un_neg:UnR X (unaryOp .USub) (rU fun i => .int (-i)):=unI fun _ _ _ _ _ q=>neg_int q
end
def scal:V→V→Bool
  | .non,.non=>true | .non,.int _=>true | .int _,.non=>true | .non,.bl _=>true | .bl _,.non=>true | .non,.str _=>true | .str _,.non=>true
  | .int _,.int _=>true | .bl _,.bl _=>true | .str _,.str _=>true | .byt _,.byt _=>true
  | .int _,.str _=>true | .str _,.int _=>true | .bl _,.str _=>true | .str _,.bl _=>true
  | _,_=>false
def rEq:R2:=fun x y H Q=>scal x y=true∧Q (.bl (decide (x=y))) H
def rNe:R2:=fun x y H Q=>scal x y=true∧Q (.bl (!decide (x=y))) H
theorem dec_int {i j:Int}:decide (V.int i=V.int j)=(i == j):=by
  rw [Bool.eq_iff_iff]
  simp
theorem dec_bl {i j:Bool}:decide (V.bl i=V.bl j)=(i == j):=by
  rw [Bool.eq_iff_iff]
  simp
theorem dec_str {i j:Str}:decide (V.str i=V.str j)=(i == j):=by
  rw [Bool.eq_iff_iff]
  simp
theorem dec_byt {i j:Array UInt8}:decide (V.byt i=V.byt j)=(i.toList == j.toList):=by
  rw [Bool.eq_iff_iff]
  cases i
  cases j
  simp
section
variable {X:Cx} {a b c:Expr} {ta tb tc:TE} {pos:Pos}
theorem fin_bl {pins:List (Addr×Obj)} {σ:St} {H:Hp} {s:Shared} {Q:VK} {k k':Bool} (I:Inv X pins σ H s) (q:Q (.bl k) H) (e:k=k'):EP X pins σ Q (.bool k') s:=by
  subst e
  exact ⟨.bl k,H,I,rfl,q⟩
theorem op_eq:OpR X (compareOp .Eq) rEq:=by
  intro pins s σ H x y v u Q I rx ry h
  obtain ⟨hs,q⟩:=h
  cases x with
  | non=>
    cases rx
    cases y with
    | non=>cases ry; exact PySem.EqNone.eq_none_none (fin_bl I q (by simp))
    | bl j=>cases ry; exact PySem.EqNone.eq_none_bool (fin_bl I q (by simp))
    | int j=>obtain ⟨t',rfl⟩:=ry; exact PySem.EqNone.eq_none_int (fin_bl I q (by simp))
    | str j=>obtain ⟨t',rfl⟩:=ry; exact PySem.EqNone.eq_none_str (fin_bl I q (by simp))
    | _=>exact absurd (show false=true from hs) Bool.false_ne_true
  | bl i=>
    cases rx
    cases y with
    | non=>cases ry; exact PySem.EqNone.eq_bool_none (fin_bl I q (by simp))
    | bl j=>cases ry; exact eq_bool (fin_bl I q dec_bl)
    | str j=>obtain ⟨t',rfl⟩:=ry; exact PySem.EqMixed.eq_bool_str (fin_bl I q (by simp))
    | _=>exact absurd (show false=true from hs) Bool.false_ne_true
  | int i=>
    obtain ⟨t,rfl⟩:=rx
    cases y with
    | non=>cases ry; exact PySem.EqNone.eq_int_none (fin_bl I q (by simp))
    | int j=>obtain ⟨t',rfl⟩:=ry; exact eq_int (fin_bl I q dec_int)
    | str j=>obtain ⟨t',rfl⟩:=ry; exact PySem.EqMixed.eq_int_str (fin_bl I q (by simp))
    | _=>exact absurd (show false=true from hs) Bool.false_ne_true
  | str i=>
    obtain ⟨t,rfl⟩:=rx
    cases y with
    | non=>cases ry; exact PySem.EqNone.eq_str_none (fin_bl I q (by simp))
    | bl j=>cases ry; exact PySem.EqMixed.eq_str_bool (fin_bl I q (by simp))
    | int j=>obtain ⟨t',rfl⟩:=ry; exact PySem.EqMixed.eq_str_int (fin_bl I q (by simp))
    | str j=>obtain ⟨t',rfl⟩:=ry; exact eq_str (fin_bl I q dec_str)
    | _=>exact absurd (show false=true from hs) Bool.false_ne_true
  | byt i=>
    obtain ⟨t,rfl⟩:=rx
    cases y with
    | byt j=>obtain ⟨t',rfl⟩:=ry; exact PySem.W.eq_bytes (fin_bl I q dec_byt)
    | _=>exact absurd (show false=true from hs) Bool.false_ne_true
  | _=>cases y <;> exact absurd (show false=true from hs) Bool.false_ne_true
theorem op_ne:OpR X (compareOp .NotEq) rNe:=by
  intro pins s σ H x y v u Q I rx ry h
  obtain ⟨hs,q⟩:=h
  cases x with
  | non=>
    cases rx
    cases y with
    | non=>cases ry; exact PySem.EqNone.ne_none_none (fin_bl I q (by simp))
    | bl j=>cases ry; exact PySem.EqNone.ne_none_bool (fin_bl I q (by simp))
    | int j=>obtain ⟨t',rfl⟩:=ry; exact PySem.EqNone.ne_none_int (fin_bl I q (by simp))
    | str j=>obtain ⟨t',rfl⟩:=ry; exact PySem.EqNone.ne_none_str (fin_bl I q (by simp))
    | _=>exact absurd (show false=true from hs) Bool.false_ne_true
  | bl i=>
    cases rx
    cases y with
    | non=>cases ry; exact PySem.EqNone.ne_bool_none (fin_bl I q (by simp))
    | bl j=>cases ry; exact ne_bool (fin_bl I q (congrArg not dec_bl))
    | str j=>obtain ⟨t',rfl⟩:=ry; exact PySem.EqMixed.ne_bool_str (fin_bl I q (by simp))
    | _=>exact absurd (show false=true from hs) Bool.false_ne_true
  | int i=>
    obtain ⟨t,rfl⟩:=rx
    cases y with
    | non=>cases ry; exact PySem.EqNone.ne_int_none (fin_bl I q (by simp))
    | int j=>obtain ⟨t',rfl⟩:=ry; exact ne_int (fin_bl I q (congrArg not dec_int))
    | str j=>obtain ⟨t',rfl⟩:=ry; exact PySem.EqMixed.ne_int_str (fin_bl I q (by simp))
    | _=>exact absurd (show false=true from hs) Bool.false_ne_true
  | str i=>
    obtain ⟨t,rfl⟩:=rx
    cases y with
    | non=>cases ry; exact PySem.EqNone.ne_str_none (fin_bl I q (by simp))
    | bl j=>cases ry; exact PySem.EqMixed.ne_str_bool (fin_bl I q (by simp))
    | int j=>obtain ⟨t',rfl⟩:=ry; exact PySem.EqMixed.ne_str_int (fin_bl I q (by simp))
    | str j=>obtain ⟨t',rfl⟩:=ry; exact ne_str (fin_bl I q (congrArg not dec_str))
    | _=>exact absurd (show false=true from hs) Bool.false_ne_true
  | byt i=>
    obtain ⟨t,rfl⟩:=rx
    cases y with
    | byt j=>obtain ⟨t',rfl⟩:=ry; exact PySem.W.ne_bytes (fin_bl I q (congrArg not dec_byt))
    | _=>exact absurd (show false=true from hs) Bool.false_ne_true
  | _=>cases y <;> exact absurd (show false=true from hs) Bool.false_ne_true
theorem op_lt:OpR X (compareOp .Lt) (rI0 fun i j => .bl (decide (i<j))):=opB0 fun _ _ _ _ _ _ _ q=>lt_int q
theorem op_le:OpR X (compareOp .LtE) (rI0 fun i j => .bl (decide (i≤j))):=opB0 fun _ _ _ _ _ _ _ q=>le_int q
theorem op_gt:OpR X (compareOp .Gt) (rI0 fun i j => .bl (decide (j<i))):=opB0 fun _ _ _ _ _ _ _ q=>gt_int q
theorem op_ge:OpR X (compareOp .GtE) (rI0 fun i j => .bl (decide (j≤i))):=opB0 fun _ _ _ _ _ _ _ q=>ge_int q
theorem op_isN:OpR X (compareOp .Is) (fun x y H Q=>y = .non∧Q (.bl (decide (x = .non))) H):=by
  intro pins s σ H x y v u Q I rx ry h
  obtain ⟨rfl,q⟩:=h
  cases ry
  refine is_none_gen (fin_bl I q ?_)
  cases x <;> first
    | (cases rx; rfl)
    | (obtain ⟨t,rfl⟩:=rx; rfl)
theorem op_notN:OpR X (compareOp .IsNot) (fun x y H Q=>y = .non∧Q (.bl (!decide (x = .non))) H):=by
  intro pins s σ H x y v u Q I rx ry h
  obtain ⟨rfl,q⟩:=h
  cases ry
  refine isnot_none_gen (fin_bl I q ?_)
  cases x <;> first
    | (cases rx; rfl)
    | (obtain ⟨t,rfl⟩:=rx; rfl)
theorem nomark (b:Expr) {op:CmpOp} (h:op ≠ .In:=by decide) (h2:op ≠ .NotIn:=by decide):behindInMarks op b=false:=by
  have e1:(op == CmpOp.In)=false:=by cases op <;> first | rfl | exact absurd rfl h
  have e2:(op == CmpOp.NotIn)=false:=by cases op <;> first | rfl | exact absurd rfl h2
  cases b <;> simp [behindInMarks,e1,e2]
theorem pe_cmpR {op:CmpOp} {r:R2} (ho:OpR X (compareOp op) r) (ha:PE X a ta) (hb:PE X b tb) (hm:behindInMarks op b=false):PE X (.Compare a [op] [b] pos) (tOp r ta tb):=by
  intro pins s σ H Q I h
  exact wpAny_Compare1 (binT ha hb I h fun v u s2 x y H2 I2 rx ry q=>ho pins s2 σ H2 x y v u Q I2 rx ry q) hm
def tTest (t:TE):TT:=fun σ H Q=>t σ H fun x H' => ∃ k,x = .bl k∧Q k H'
theorem pt_cmpR {op:CmpOp} {r:R2} (ho:OpR X (compareOp op) r) (ha:PE X a ta) (hb:PE X b tb) (hm:behindInMarks op b=false):PT X (.Compare a [op] [b] pos) (tTest (tOp r ta tb)):=by
  intro pins s σ H Q I h
  refine wpAny_isTrue_Compare1 (thn (ha pins s σ H _ I h) fun v s1 ⟨x,H1,I1,r1,q1⟩=>thn (hb pins s1 σ H1 _ I1 q1) fun u s2 ⟨y,H2,I2,r2,q2⟩=>
    thn (ho pins s2 σ H2 x y v u _ I2 r1 r2 q2) fun c s3 ⟨z,H3,I3,r3,k,e,q3⟩ => ?_) hm
  subst e
  cases r3
  exact wpAny_truthy_bool ⟨H3,I3,q3⟩
theorem line63:(sizeLine:Nat)<2 ^ 63:=by rw [sizeLine_eq]; decide
theorem vals1 {x:V} {us:List Value} (r:Vals [x] us):∃ u,us=[u]∧RelV x u:=by
  cases r with
  | cons r1 r2=>cases r2; exact ⟨_,rfl,r1⟩
theorem call_abs:CallR X (.builtin "abs") (fun xs H Q => ∃ i,xs=[.int i]∧Q (.int (if i<0 then -i else i)) H):=by
  intro pins s σ H xs us Q I r h
  obtain ⟨i,rfl,q⟩:=h
  obtain ⟨u,rfl,t,rfl⟩:=vals1 r
  exact call_abs_int fun u tk=>⟨.int (if i<0 then -i else i),H,I.tok _,⟨_,rfl⟩,q⟩
end
end L2
namespace L2
open PySem PySem.Spec PyProof.Rows
structure ObjM (h:Heap) (x dx C:Addr) (mA:Str→Option Value):Prop where
  obj:h.get? x=some (PySem.W.instObj C dx)
  ns:h.Ns1 dx mA
  ne:dx≠x
theorem lookIn_ns {h:Heap} {dx:Addr} {mA:Str→Option Value} (n:h.Ns1 dx mA):∃ od,h.get? dx=some od∧∀ name,PySem.W.lookIn name od=some (mA name):=by
  obtain ⟨o,es,ep,ho,hd,hk,_,hm⟩:=n
  refine ⟨o,ho,fun name => ?_⟩
  have e:=hm name
  unfold nsFind findBy at e
  rw [← Array.find?_toList] at e
  unfold PySem.W.lookIn
  rw [hd]
  dsimp only
  split
  · rename_i y q
    rw [q] at e
    exact congrArg some e
  · rename_i q
    rw [q] at e
    have a:es.toList.any (·.refKey)=false:=by
      rw [List.any_eq_false]
      intro y hy
      obtain ⟨z,t,hkey⟩:=hk y (Array.mem_toList_iff.mp hy)
      simp [DictEntry.refKey,hkey]
    have a':¬ es.toList.any (·.refKey)=true:=by rw [a]; exact Bool.false_ne_true
    rw [if_neg a']
    exact congrArg some e
theorem ObjM.look {h:Heap} {x dx C:Addr} {mA:Str→Option Value} (I:ObjM h x dx C mA):∃ od,PySem.W.InstAt h x (PySem.W.instObj C dx) C (some od)∧∀ name,PySem.W.lookIn name od=some (mA name) :=
  let ⟨od,ho,hl⟩:=lookIn_ns I.ns
  ⟨od,⟨I.obj,rfl,rfl,ho⟩,hl⟩
section
variable {prog:Program} {w:World} {A:Around} {E:Value→Shared→Prop} {s:Shared} {K:PySem.W.Frag} {x dx C f:Addr} {mA:Str→Option Value} {name:Str} {v:Value}
theorem get_map {expr:Bool} {Q:Value→Shared→Prop} (X:K.In s.heap) (I:ObjM s.heap x dx C mA) (hg:PySem.W.plainGet K C name=true) (hh:PySem.W.hasDictIn K C=true)
    (ha:PySem.W.findIn K (.ref C) name=some none) (hv:mA name=some v) (hv':PySem.W.handedIn v=true) (h:Q v { s with toks:=s.toks+1 }) :
    wpAny (model prog w) A (getAttr (.ref x) name expr) Q E s:=by
  obtain ⟨od,J,hl⟩:=I.look
  exact PySem.W.get_value X J (PySem.W.plainGet_of hg).1 (PySem.W.findObj_own hh ha rfl (by rw [hl,hv])) hv' h
theorem get_meth {pl:Sem Bool} {Q:Value×List Value→Shared→Prop} (X:K.In s.heap) (I:ObjM s.heap x dx C mA) (hg:PySem.W.plainGet K C name=true)
    (hf:PySem.W.findIn K (.ref C) name=some (some (.ref f))) (ht:PySem.W.isFn K (.ref f)=true) (hv:mA name=none) (h:Q (.ref f,[.ref x]) s) :
    wpAny (model prog w) A (getMethod (.ref x) name pl) Q E s:=by
  obtain ⟨od,J,hl⟩:=I.look
  exact PySem.W.method_fn X J (PySem.W.plainGet_of hg).1 (PySem.W.plainGet_of hg).2 hf (beq_iff_eq.mp ht) (by show (PySem.W.lookIn name od).map (·.isSome)=some false; rw [hl,hv]; rfl) h
theorem set_map {ns:List Str} {Q:Unit→Shared→Prop} (X:K.In s.heap) (I:ObjM s.heap x dx C mA)
    (hs:PySem.W.findIn K (.ref C) "__setattr__" = some (some (.builtin "object.__setattr__"))) (hp:PySem.W.plainOver K C=true) (ht:PySem.W.takerIn K C name=some none) (hh:PySem.W.hasDictIn K C=true)
    (hw:PySem.Within mA ns) (hsz:ns.length≤sizeLine)
    (h:∀ h',ObjM h' x dx C (fun y=>if y=name then some v else mA y)→Heap.SameBut dx s.heap h'→Q () { s with heap:=h',toks:=s.toks+2 }) :
    wpAny (model prog w) A (setAttr (.ref x) name v) Q E s:=by
  obtain ⟨od,J,hl⟩:=I.look
  refine PySem.W.set_plain X J hs (PySem.W.osa_open (s:={ s with toks:=s.toks+1 }) (r:=none) X J hp ht fun b => ?_)
  obtain ⟨cd,hc,hd'⟩:=PySem.W.any_some hh
  have hx:s.heap.get? x=some ⟨.ref C,some dx,.plain,#[]⟩:=I.obj
  refine wpAny_bind (wpAny_pure (wpAny_bind (wpAny_bind (wpAny_loadPart hx (wpAny_bind (PySem.W.Looks.here (s:={ s with toks:=s.toks+1 }) (PySem.W.looks_clsIn X hc) ?_))))))
  rw [hd']
  refine wpAny_pure (a:=some dx) (wpAny_bind (wpAny_pure (wpAny_bind ?_)))
  refine wpAny_nsSet1 (s:={ s with toks:=s.toks+1 }) I.ns fun h' hn2 hs2 => ?_
  obtain ⟨oD,esD,epD,hoD,hdD,hcD⟩:=hn2.count (PySem.Within.cons name v hw)
  refine wpAny_bind (wpAny_lookBehind hoD (by rw [hdD]; exact pastItsLine_dict (Nat.le_trans hcD (by rw [List.length_cons]; omega))) ?_)
  exact wpAny_pure (h _ ⟨(hs2.2 _ (Ne.symm I.ne)).trans I.obj,hn2,I.ne⟩ hs2)
theorem make_map {R:Result→Shared→Prop} {vs:List Value} {kw:List (Str×Value)} (X:K.In s.heap) (hm:PySem.W.makesIn K C=true)
    (hi:PySem.W.findIn K (.ref C) "__init__" = some (some (.ref f))) (hf:PySem.W.typeIn K (.ref f)=some (.type "function"))
    (h:codeAny (model prog w) (A.under (.builtin "type.__call__" ⟨.ref C::vs,kw⟩)) (.call (.ref f) ⟨.ref (s.heap.objs.size+1)::vs,kw⟩) (PySem.W.InitBack (s.heap.objs.size+1) R)
      { s with heap:=(s.heap.push PySem.W.emptyDict).push (PySem.W.instObj C s.heap.objs.size) }) :
    codeAny (model prog w) A (.call (.ref C) ⟨vs,kw⟩) R s:=by
  obtain ⟨hh,g,d,t,os⟩:=s
  exact PySem.W.make_core (PySem.W.makes_of X hm) (PySem.W.looks_findIn X hi) (fun self=>PySem.W.bind_fn X self hf) (.inl rfl) h
end
def putF (f:Str) (v:V):List (Str×V)→List (Str×V)
  | []=>[(f,v)]
  | (g,x)::r=>if g=f then (g,v)::r else (g,x)::putF f v r
theorem lookup_putF (f g:Str) (v:V):∀ fs:List (Str×V),(putF f v fs).lookup g=if g=f then some v else fs.lookup g
  | []=>by
    show List.lookup g [(f,v)]=_
    by_cases h:g=f
    · have hb:(g == f)=true:=beq_iff_eq.mpr h
      simp only [List.lookup,hb,if_pos h]
    · have hb:(g == f)=false:=beq_eq_false_iff_ne.mpr h
      simp only [List.lookup,hb,if_neg h]
  | (k,x)::r=>by
    have ih:=lookup_putF f g v r
    rw [show putF f v ((k,x)::r)=(if k=f then (k,v)::r else (k,x)::putF f v r) from rfl]
    by_cases hk:k=f
    · rw [if_pos hk]
      by_cases h:g=k
      · have hb:(g == k)=true:=beq_iff_eq.mpr h
        simp only [List.lookup,hb,if_pos (h.trans hk)]
      · have hb:(g == k)=false:=beq_eq_false_iff_ne.mpr h
        simp only [List.lookup,hb,if_neg (fun e:g=f=>h (e.trans hk.symm))]
    · rw [if_neg hk]
      by_cases h:g=k
      · have hb:(g == k)=true:=beq_iff_eq.mpr h
        simp only [List.lookup,hb,if_neg (fun e:g=f=>hk (h.symm.trans e))]
      · have hb:(g == k)=false:=beq_eq_false_iff_ne.mpr h
        simp only [List.lookup,hb]
        exact ih
theorem keys_putF (f:Str) (v:V):∀ fs:List (Str×V),f∈(putF f v fs).map (·.1)∧∀ g,g∈fs.map (·.1)→g∈(putF f v fs).map (·.1)
  | []=>⟨by simp [putF],fun g h=>by simp at h⟩
  | (k,x)::r=>by
    obtain ⟨i1,i2⟩:=keys_putF f v r
    rw [show putF f v ((k,x)::r)=(if k=f then (k,v)::r else (k,x)::putF f v r) from rfl]
    by_cases hk:k=f
    · rw [if_pos hk]
      subst hk
      exact ⟨by simp,fun g h=>by simpa using h⟩
    · rw [if_neg hk]
      refine ⟨?_,fun g h => ?_⟩
      · rw [List.map_cons]
        exact List.mem_cons_of_mem _ i1
      · rw [List.map_cons] at h ⊢
        rcases List.mem_cons.mp h with e | e
        · exact List.mem_cons.mpr (.inl e)
        · exact List.mem_cons_of_mem _ (i2 g e)
theorem length_putF (f:Str) (v:V):∀ fs:List (Str×V),(putF f v fs).length≤fs.length+1
  | []=>by simp [putF]
  | (k,x)::r=>by
    have ih:=length_putF f v r
    rw [show putF f v ((k,x)::r)=(if k=f then (k,v)::r else (k,x)::putF f v r) from rfl]
    by_cases hk:k=f
    · rw [if_pos hk,List.length_cons,List.length_cons]; omega
    · rw [if_neg hk,List.length_cons,List.length_cons]; omega
theorem RelO.some_of {v:V} {o:Option Value} (r:RelO (some v) o):∃ u,o=some u∧RelV v u:=by
  cases o with
  | none=>exact (show False from r).elim
  | some u=>exact ⟨u,rfl,r⟩
theorem RelO.none_of {o:Option Value} (r:RelO none o):o=none:=by
  cases o with
  | none=>rfl
  | some u=>exact (show False from r).elim
theorem handed_of {v:V} {u:Value} (r:RelV v u):PySem.W.handedIn u=true:=by
  cases v with
  | non=>cases (show u=Value.none from r); rfl
  | bl b=>cases (show u=Value.bool b from r); rfl
  | int i=>obtain ⟨t,e⟩:=(show ∃ t,u=Value.int i t from r); cases e; rfl
  | str x=>obtain ⟨t,e⟩:=(show ∃ t,u=Value.str x t from r); cases e; rfl
  | byt b=>obtain ⟨t,e⟩:=(show ∃ t,u=Value.bytes b t from r); cases e; rfl
  | flt b=>obtain ⟨t,e⟩:=(show ∃ t,u=Value.float b t from r); cases e; rfl
  | ref a=>cases (show u=Value.ref a from r); rfl
  | ty n=>cases (show u=Value.type n from r); rfl
section
variable {P:Program} {w:World} {H H':Hp} {h h':Heap} {a C dx:Addr} {fs fs':List (Str×V)}
theorem ins_get (hok:HOk P w H h) (e:H a=some (.ins C dx fs)):∃ mA,ObjM h a dx C mA∧(∀ f,RelO (fs.lookup f) (mA f))∧PySem.Within mA (fs.map (·.1))∧fs.length≤1000∧H dx=some (.own a):=by
  obtain ⟨d,z,ne,ob,mA,n,r,q⟩:=(show ObjOk P w H h a (.ins C dx fs) from hok a _ e)
  exact ⟨mA,⟨ob,n,ne⟩,r,q,z,d⟩
end
structure Cls (K:PySem.W.Frag) (C:Addr):Prop where
  pg:PySem.W.plainGet K C Str.empty=true
  hd:PySem.W.hasDictIn K C=true
  po:PySem.W.plainOver K C=true
  sa:PySem.W.findIn K (.ref C) "__setattr__" = some (some (.builtin "object.__setattr__"))
theorem Cls.get {K:PySem.W.Frag} {C:Addr} (c:Cls K C) (f:Str):PySem.W.plainGet K C f=true:=c.pg
def NoAttr (K:PySem.W.Frag) (C:Addr) (f:Str):Prop:=PySem.W.findIn K (.ref C) f=some none
theorem NoAttr.taker {K:PySem.W.Frag} {C:Addr} {f:Str} (n:NoAttr K C f):PySem.W.takerIn K C f=some none:=by
  unfold PySem.W.takerIn
  rw [show PySem.W.findIn K (.ref C) f=some none from n]
  rfl
structure Meth (K:PySem.W.Frag) (C:Addr) (m:Str) (f:Addr):Prop where
  at_:PySem.W.findIn K (.ref C) m=some (some (.ref f))
  fn:PySem.W.isFn K (.ref f)=true
  kp:PySem.W.keepIn K (.ref f)=true
section
variable {X:Cx} {pins:List (Addr×Obj)} {σ:St} {H:Hp} {s:Shared} {a C dx:Addr} {fs:List (Str×V)} {f:Str} {v:V} {A:Around} {E:Value→Shared→Prop}
theorem getattr_ok {b:Bool} {Q:Value→Shared→Prop} (I:Inv X pins σ H s) (e:H a=some (.ins C dx fs)) (c:Cls X.K C) (n:NoAttr X.K C f) (l:fs.lookup f=some v)
    (h:∀ u s',Inv X pins σ H s'→RelV v u→Q u s'):wpAny (model X.prog X.w) A (getAttr (.ref a) f b) Q E s:=by
  obtain ⟨mA,O,r,_,_,_⟩:=ins_get I.hok e
  obtain ⟨u,hu,ru⟩:=RelO.some_of (v:=v) (o:=mA f) (by rw [← l]; exact r f)
  exact get_map I.kIn O (c.get f) c.hd n hu (handed_of ru) (h u _ (I.tok _) ru)
theorem getmeth_ok {m:Str} {g:Addr} {pl:Sem Bool} {Q:Value×List Value→Shared→Prop} (I:Inv X pins σ H s) (e:H a=some (.ins C dx fs)) (c:Cls X.K C) (k:Meth X.K C m g) (l:fs.lookup m=none)
    (h:Q (.ref g,[.ref a]) s):wpAny (model X.prog X.w) A (getMethod (.ref a) m pl) Q E s:=by
  obtain ⟨mA,O,r,_,_,_⟩:=ins_get I.hok e
  have hn:mA m=none:=RelO.none_of (by rw [← l]; exact r m)
  exact get_meth I.kIn O (c.get m) k.at_ k.fn hn h
theorem setattr_ok {y:V} {u:Value} {Q:Unit→Shared→Prop} (I:Inv X pins σ H s) (e:H a=some (.ins C dx fs)) (c:Cls X.K C) (n:NoAttr X.K C f) (hl:fs.length<1000) (ry:RelV y u)
    (h:∀ s',Inv X pins σ (upd H a (.ins C dx (putF f y fs))) s'→Q () s'):wpAny (model X.prog X.w) A (setAttr (.ref a) f u) Q E s:=by
  obtain ⟨mA,O,r,wi,_,ho⟩:=ins_get I.hok e
  have hz:(fs.map (·.1)).length≤sizeLine:=by rw [List.length_map,sizeLine_eq]; omega
  refine set_map I.kIn O c.sa c.po n.taker c.hd wi hz fun h' O' sb=>h _ ?_
  have hd:∃ o,h'.get? dx=some o:=let ⟨o,_,_,e',_⟩:=O'.ns; ⟨o,e'⟩
  refine I.write (x:=a) (e:=dx) (by rw [e]; exact True.intro) (.inr ho) (fun b q hb z=>(sb.2 b hb).trans z) hd ?_
  refine ⟨by rw [upd_ne O.ne]; exact ho,?_,O.ne,O'.obj,_,O'.ns,fun g => ?_,fun g hg => ?_⟩
  · have:=length_putF f y fs; omega
  · show RelO ((putF f y fs).lookup g) (if g=f then some u else mA g)
    rw [lookup_putF]
    by_cases q:g=f
    · rw [if_pos q,if_pos q]; exact ry
    · rw [if_neg q,if_neg q]; exact r g
  · by_cases q:g=f
    · rw [q]; exact (keys_putF f y fs).1
    · refine (keys_putF f y fs).2 g (wi g fun z=>hg ?_)
      show (if g=f then some u else mA g)=none
      rw [if_neg q]; exact z
theorem Inv.made (I:Inv X pins σ H s):Inv X pins σ (upd (upd H s.heap.objs.size (.own (s.heap.objs.size+1))) (s.heap.objs.size+1) (.ins C s.heap.objs.size []))
    { s with heap:=(s.heap.push PySem.W.emptyDict).push (PySem.W.instObj C s.heap.objs.size) }:=by
  have e1:(s.heap.push PySem.W.emptyDict).get? s.heap.objs.size=some PySem.W.emptyDict:=Heap.get?_push_size s.heap rfl
  have e2:((s.heap.push PySem.W.emptyDict).push (PySem.W.instObj C s.heap.objs.size)).get? (s.heap.objs.size+1)=some (PySem.W.instObj C s.heap.objs.size):=by
    have:=Heap.get?_push_size (s.heap.push PySem.W.emptyDict) (o:=PySem.W.instObj C s.heap.objs.size) rfl
    rwa [Heap.size_push] at this
  have e3:(s.heap.push PySem.W.emptyDict).Ns s.heap.objs.size (fun _=>none):=⟨PySem.W.emptyDict,#[],_,e1,rfl,(fun e he=>absurd he (by simp)),fun _=>rfl⟩
  have I1:=I.laid (a:=s.heap.objs.size) (o:=.own (s.heap.objs.size+1)) (h':=s.heap.push PySem.W.emptyDict) (t':=s.toks) (fun b u q=>Heap.get?_push_of_some _ q) (Nat.le_refl _) ⟨_,e1⟩
  refine I1.laid (a:=s.heap.objs.size+1) (o:=.ins C s.heap.objs.size []) (t':=s.toks) (fun b u q=>Heap.get?_push_of_some _ q) (Nat.le_of_eq (Heap.size_push _ _)) ?_
  have ne:s.heap.objs.size≠s.heap.objs.size+1:=Nat.ne_of_lt (Nat.lt_succ_self _)
  refine ⟨by rw [upd_ne ne,upd_same],Nat.zero_le _,ne,e2,fun _=>none,(Heap.Ns1.of_empty e3).at fun o q=>Heap.get?_push_of_some _ q,fun _=>True.intro,fun y hy=>absurd rfl hy⟩
theorem attr_of {prog:Program} {w:World} {env:Env} {e:Expr} {f:Str} {pos:Pos} {s:Shared} {Q:Value→Shared→Prop} (hb:attributeBase e f env (eval e env)=eval e env)
    (h:wpAny (model prog w) A (eval e env) (fun o s₁=>wpAny (model prog w) A (getAttr o f true) Q E s₁) E s):wpAny (model prog w) A (eval (.Attribute e f pos) env) Q E s :=
  Attribute_any_ h (by rw [arm_eval_Attribute,hb])
end
def tFld (K:PySem.W.Frag) (ta:TE) (f:Str):TE:=fun σ H Q=>ta σ H fun x H1 => ∃ a C dx fs v,x = .ref a∧H1 a=some (.ins C dx fs)∧Cls K C∧NoAttr K C f∧fs.lookup f=some v∧Q v H1
def sFld (K:PySem.W.Frag) (ta tv:TE) (f:Str):TS:=fun D σ H=>tv σ H fun y H1=>ta σ H1 fun x H2 => ∃ a C dx fs,x = .ref a∧H2 a=some (.ins C dx fs)∧Cls K C∧NoAttr K C f∧fs.length<1000 ∧
  D.nx σ (upd H2 a (.ins C dx (putF f y fs)))
section
variable {X:Cx} {o e value:Expr} {f:Str} {pos pos' tpos:Pos} {ta tv:TE}
theorem pe_fld (he:PE X e ta) (hb:attributeBase e f X.env (eval e X.env)=eval e X.env):PE X (.Attribute e f pos) (tFld X.K ta f):=by
  intro pins s σ H Q I h
  refine attr_of hb (thn (he pins s σ H _ I h) fun u s1 ⟨x,H1,I1,rx,a,C,dx,fs,v,ex,ea,c,n,l,q⟩ => ?_)
  subst ex
  obtain rfl:u=Value.ref a:=rx
  exact getattr_ok I1 ea c n l fun u' s2 I2 ru=>⟨v,H1,I2,ru,q⟩
theorem ps_fld (ha:PE X o ta) (hv:PE X value tv) (hs:swapsWith value (some (.Attribute o f pos')) pos.line X.env=pure false):PS X (.Assign [.Attribute o f pos'] value pos) (sFld X.K ta tv f):=by
  intro pins s σ H D I h
  refine plainObj_wpAny_Assign_Attribute (thn (hv pins s σ H _ I h) fun u s1 ⟨y,H1,I1,ry,q⟩=>thn (ha pins s1 σ H1 _ I1 q) fun ov s2 ⟨x,H2,I2,rx,a,C,dx,fs,ex,ea,c,n,l,q2⟩ => ?_) hs
  subst ex
  obtain rfl:ov=Value.ref a:=rx
  exact setattr_ok I2 ea c n l ry fun s3 I3=>⟨σ,_,I3,q2⟩
end
section
variable {X:Cx} {pins:List (Addr×Obj)} {σ:St} {H:Hp} {s:Shared} {A:Around} {E:Value→Shared→Prop} {Q:Value→Shared→Prop} {c:Value} {b:Bool}
end
end L2
namespace L2
open PySem PySem.Spec PyProof.Rows
structure Room (k:Nat) (A:Around):Prop where
  hd:A.handled=none
  dp:A.depth+3*k+5<recursionLimit
  un:A.units+16*k+200<cLine
theorem Room.mono {j k:Nat} {A:Around} (r:Room k A) (h:j≤k):Room j A:=⟨r.hd,by have:=r.dp; omega,by have:=r.un; omega⟩
theorem Room.deeper {k:Nat} {A:Around} (r:Room (k+1) A) (env:Env):Room k (A.deeper env) :=
  ⟨r.hd,by have:=r.dp; show A.depth+1+3*k+5<_; omega,by have:=r.un; show A.units+3+16*k+200<_; omega⟩
theorem Room.in1 {k:Nat} {A:Around} (r:Room (k+1) A):Room k A.in1 :=
  ⟨r.hd,by have:=r.dp; show A.depth+3*k+5<_; omega,by have:=r.un; show A.units+1+16*k+200<_; omega⟩
theorem make_depth {A:Around} {C:Addr} {us:List Value} {kw:List (Str×Value)}:(A.under (.builtin "type.__call__" ⟨.ref C::us,kw⟩)).depth=A.depth+1:=by
  first | rfl | simp [Around.under,Code.weight,Code.isCreation,Code.isGuard,Code.isCaller,Code.frames,Code.isFrame,guardIds]
theorem make_units {A:Around} {C:Addr} {us:List Value} {kw:List (Str×Value)}:(A.under (.builtin "type.__call__" ⟨.ref C::us,kw⟩)).units=A.units+1:=by
  first | rfl | simp [Around.under,Code.cUnits,Code.frames,Code.isFrame]
theorem Room.make {k:Nat} {A:Around} (r:Room (k+1) A) (C:Addr) (us:List Value) (kw:List (Str×Value)):Room k (A.under (.builtin "type.__call__" ⟨.ref C::us,kw⟩)) :=
  ⟨r.hd,by have:=r.dp; rw [make_depth]; omega,by have:=r.un; rw [make_units]; omega⟩
theorem Room.depth {k:Nat} {A:Around} (r:Room k A):A.depth<recursionLimit:=by have:=r.dp; omega
theorem Room.units {k:Nat} {A:Around} (r:Room k A):A.units+64<cLine:=by have:=r.un; omega
def tNil:TA:=fun _ H Q=>Q [] H
def tCons (ta:TE) (tr:TA):TA:=fun σ H Q=>ta σ H fun x H1=>tr σ H1 fun xs H2=>Q (x::xs) H2
section
variable {X:Cx} {e:Expr} {es:List Expr} {te:TE} {t:TA} {pos:Pos}
theorem pa_nil:PA X [] tNil:=fun _ _ _ _ H Q I h=>Calls.spliced_nil ⟨[],H,I,.nil,h⟩
theorem pa_cons (ha:PE X e te) (hr:PA X es t) (hs:starEach (e::es) X.env=(false,eval e X.env)::starEach es X.env:=by rfl):PA X (e::es) (tCons te t):=by
  intro pos pins s σ H Q I h
  rw [hs]
  show wpAny _ _ (spliced ((false,eval e X.env)::backTo pos (starEach es X.env))) _ _ s
  refine Calls.spliced_cons (thn (ha pins s σ H _ I h) fun u s1 ⟨x,H1,I1,r1,q1⟩ => ?_)
  exact thn (hr pos pins s1 σ H1 _ I1 q1) fun us s2 ⟨xs,H2,I2,r2,q2⟩=>⟨x::xs,H2,I2,.cons r1 r2,q2⟩
def tTup (t:TA):TE:=fun σ H Q=>t σ H fun xs H1=>xs.length≤sizeLine∧∀ p,H1 p=none→Q (.ref p) (upd H1 p (.tup xs))
def tLst (t:TA):TE:=fun σ H Q=>t σ H fun xs H1=>xs.length≤sizeLine∧∀ p,H1 p=none→Q (.ref p) (upd H1 p (.lst xs))
theorem pe_tup {x1} (h:PA X es t):PE X (.Tuple es x1 pos) (tTup t):=by
  intro pins s σ H Q I hq
  refine wpAny_Tuple_spliced (thn (h pos pins s σ H _ I hq) fun us s1 ⟨xs,H1,I1,r,z,q⟩=>⟨by rw [← r.length]; exact z,?_⟩)
  have hf:H1 s1.heap.objs.size=none:=I1.hok.fresh (Nat.le_refl _)
  refine ⟨.ref s1.heap.objs.size,upd H1 s1.heap.objs.size (.tup xs),I1.laid (t':=s1.toks) (fun b u e=>Heap.get?_push_of_some _ e) (Nat.le_refl _) ?_,rfl,q _ hf⟩
  exact ⟨z,us,r,⟨_,Heap.get?_push_size _ rfl,rfl,_,rfl⟩⟩
theorem pe_lst (h:PA X es t):PE X (.List es pos) (tLst t):=by
  intro pins s σ H Q I hq
  refine wpAny_List_spliced (thn (h pos pins s σ H _ I hq) fun us s1 ⟨xs,H1,I1,r,z,q⟩=>⟨by rw [← r.length]; exact z,?_⟩)
  have hf:H1 s1.heap.objs.size=none:=I1.hok.fresh (Nat.le_refl _)
  refine ⟨.ref s1.heap.objs.size,upd H1 s1.heap.objs.size (.lst xs),I1.laid (t':=s1.toks) (fun b u e=>Heap.get?_push_of_some _ e) (Nat.le_refl _) ?_,rfl,q _ hf⟩
  exact ⟨z,us,0,r,Heap.get?_push_size _ rfl⟩
end
abbrev Sp:=List V→Hp→VK→XK→Prop
abbrev CXT:=List Env→Hp→Shared→XK→Value→Shared→Prop
structure Env0 (P:Program) (w:World) (K:PySem.W.Frag) (mg:Str→Option Value) (base:Heap) (A:Around) (outer:List Env) (s:Shared) (H:Hp):Prop where
  frames:A.frames=some outer
  mod:Mod K mg base
  bs:∀ b o,base.get? b=some o→s.heap.get? b=some o∧H b=none
  bsz:base.objs.size≤s.heap.objs.size
  funs:s.heap.FunFrames base outer
  frf:∀ b∈frs outer,H b=none
  hok:HOk P w H s.heap
  bare:AllBare s.gens
def CE (outer:List Env) (P:Program) (w:World) (H:Hp) (s:Shared) (Q:VK) (u:Value) (s':Shared):Prop :=
  ∃ v H',s'.os=s.os∧AllBare s'.gens∧Un (frs outer) [] H H' s.heap s'.heap∧HOk P w H' s'.heap∧RelV v u∧Q v H'
def CR (CX:CXT) (outer:List Env) (P:Program) (w:World) (H:Hp) (s:Shared) (Q:VK) (E:XK) (r:Result) (s':Shared):Prop :=
  match r with
  | .ok (.ret u)=>CE outer P w H s Q u s'
  | .ok _=>False
  | .error e=>CX outer H s E e s'
structure FnOk (P:Program) (w:World) (K:PySem.W.Frag) (mg:Str→Option Value) (base:Heap) (CX:CXT) (k:Nat) (f:Addr) (fd:FuncData) (ps:List Str) (sp:Sp):Prop where
  len:∀ vs H Q E,sp vs H Q E→vs.length=ps.length
  run:∀ (A:Around) (outer:List Env) (s:Shared) (H:Hp) (args:Args) (us:List Value) (vs:List V) (Q:VK) (E:XK),Room k A→Env0 P w K mg base A outer s H→BindsTo s fd args (ps.zip us)→Vals vs us→sp vs H Q E →
    codeAny (model P w) A (.call (.ref f) args) (CR CX outer P w H s Q E) s
theorem FnOk.imp {P:Program} {w:World} {K:PySem.W.Frag} {mg:Str→Option Value} {base:Heap} {CX:CXT} {k:Nat} {f:Addr} {fd:FuncData} {ps:List Str} {sp sp':Sp} (F:FnOk P w K mg base CX k f fd ps sp)
    (h:∀ vs H Q E,sp' vs H Q E→sp vs H Q E):FnOk P w K mg base CX k f fd ps sp' :=
  ⟨fun vs H Q E q=>F.len vs H Q E (h _ _ _ _ q),fun A outer s H args us vs Q E hr he hb hv hs=>F.run A outer s H args us vs Q E hr he hb hv (h _ _ _ _ hs)⟩
theorem Env0.make {P:Program} {w:World} {K:PySem.W.Frag} {mg:Str→Option Value} {base:Heap} {A:Around} {outer:List Env} {s:Shared} {H:Hp} (e:Env0 P w K mg base A outer s H) (C:Addr) (us:List Value) (kw:List (Str×Value)) :
    Env0 P w K mg base (A.under (.builtin "type.__call__" ⟨.ref C::us,kw⟩)) outer s H:=⟨by first | exact e.frames | (simpa [Around.under,Code.envs,Code.isFrame,pushEnvs] using e.frames),e.mod,e.bs,e.bsz,e.funs,e.frf,e.hok,e.bare⟩
theorem Env0.in1 {P:Program} {w:World} {K:PySem.W.Frag} {mg:Str→Option Value} {base:Heap} {A:Around} {outer:List Env} {s:Shared} {H:Hp} (e:Env0 P w K mg base A outer s H) :
    Env0 P w K mg base A.in1 outer s H:=⟨e.frames,e.mod,e.bs,e.bsz,e.funs,e.frf,e.hok,e.bare⟩
section
variable {X:Cx} {pins:List (Addr×Obj)} {σ:St} {H:Hp} {s s':Shared}
theorem Inv.env0 (I:Inv X pins σ H s):Env0 X.prog X.w X.K X.mg X.base X.A X.stack s H :=
  ⟨I.ok.frames,I.ok.mod,I.bs,Nat.le_trans I.ok.bsz I.sz,I.stack,I.stkFree,I.hok,I.bare⟩
theorem Inv.after {Q:VK} {u:Value} (I:Inv X pins σ H s) (h:CE X.stack X.prog X.w H s Q u s'):EP X pins σ Q u s':=by
  obtain ⟨v,H',os,bare,un,hok,r,q⟩:=h
  obtain ⟨hh,g,d,t,os'⟩:=s'
  obtain rfl:os'=s.os:=os
  exact ⟨v,H',I.call (h':=hh) (g':=g) (d':=d) (t':=t) (ch:=[]) un hok bare (fun b z=>absurd z (by simp)),r,q⟩
end
def tCall (sp:Sp) (dvs:List V) (E:XK) (t:TA):TE:=fun σ H Q=>t σ H fun vs H1=>sp (vs++dvs) H1 Q E
def tMeth (C:Addr) (m:Str) (sp:Sp) (dvs:List V) (E:XK) (ta:TE) (t:TA):TE:=fun σ H Q=>ta σ H fun x H1 => ∃ a dx fs,x = .ref a∧H1 a=some (.ins C dx fs)∧fs.lookup m=none ∧
  t σ H1 fun vs H2=>sp (x::(vs++dvs)) H2 Q E
def tMake (C:Addr) (sp:Sp) (dvs:List V) (E:XK) (t:TA):TE:=fun σ H Q=>t σ H fun vs H1 => ∀ x dx,H1 x=none→H1 dx=none→dx≠x →
  sp (.ref x::(vs++dvs)) (upd (upd H1 dx (.own x)) x (.ins C dx [])) (fun v H2=>v = .non∧Q (.ref x) H2) E
def Binds (K:PySem.W.Frag) (fd:FuncData) (ps:List Str) (ds:List Value):Prop :=
  ∀ (s:Shared) (us:List Value),K.In s.heap→(us++ds).length=ps.length→BindsTo s fd ⟨us,[]⟩ (ps.zip (us++ds))
theorem Binds.all {K:PySem.W.Frag} {fd:FuncData} {ps:List Str} (h:∀ us:List Value,us.length=ps.length→bindArgs fd ⟨us,[]⟩=pure (ps.zip us)):Binds K fd ps []:=fun s us _ hl=>by
  rw [List.append_nil] at hl ⊢
  exact .of_eq (h us hl)
def Passes (CX:CXT) (X:Cx) (E:XK):Prop:=∀ (pins:List (Addr×Obj)) (σ:St) (H:Hp) (s:Shared) (e:Value) (s':Shared),Inv X pins σ H s→CX X.stack H s E e s'→X.xe e s'
section
variable {X:Cx} {CX:CXT} {k:Nat} {f C:Addr} {fd:FuncData} {ps:List Str} {sp:Sp} {dvs:List V} {ds:List Value} {E:XK} {x m:Str} {p pos apos:Pos} {e o:Expr} {es:List Expr} {ta:TE} {t:TA}
theorem run_fn {pins:List (Addr×Obj)} {σ:St} {H:Hp} {s:Shared} {Q:VK} {us:List Value} {vs:List V} (F:FnOk X.prog X.w X.K X.mg X.base CX k f fd ps sp) (hr:Room k X.A) (hb:Binds X.K fd ps ds) (hd:Vals dvs ds) (hx:Passes CX X E)
    (I:Inv X pins σ H s) (r:Vals vs us) (h:sp (vs++dvs) H Q E):wpAny (model X.prog X.w) X.A (call (.ref f) us) (EP X pins σ Q) X.xe s:=by
  have r2:Vals (vs++dvs) (us++ds):=r.append hd
  have hl:(us++ds).length=ps.length:=by rw [← r2.length]; exact F.len _ _ _ _ h
  refine wpAny_call (codeAny_mono (F.run X.A X.stack s H ⟨us,[]⟩ (us++ds) (vs++dvs) Q E hr I.env0 (hb s us I.kIn hl) r2 h) fun r s' hq => ?_)
  cases r with
  | error e=>exact hx pins σ H s e s' I hq
  | ok fl=>
    cases fl with
    | ret u=>exact I.after hq
    | next=>exact False.elim hq
    | brk=>exact False.elim hq
    | cont=>exact False.elim hq
theorem pe_call (F:FnOk X.prog X.w X.K X.mg X.base CX k f fd ps sp) (hr:Room k X.A) (hg:Gl X x) (hm:X.mg x=some (.ref f)) (hk:PySem.W.keepIn X.K (.ref f)=true) (hb:Binds X.K fd ps ds) (hd:Vals dvs ds) (hx:Passes CX X E)
    (ha:PA X (e::es) t) (hdb:(x == ("__debug__" : Str))=false:=by decide) (he:starEach (e::es) X.env=(false,eval e X.env)::starEach es X.env:=by rfl) (hpl:(backTo pos (starEach es X.env)).any (·.1)=false:=by rfl) :
    PE X (.Call (.Name x p) (e::es) [] pos) (tCall sp dvs E t):=by
  intro pins s σ H Q I h
  refine wpAny_Call_Name_kw (ld_glob I hg hm ?_ hdb)
  refine PySem.W.callWith_K (h₀:=X.base) I.ok.mod.kin hk (thn (ha pos pins s σ H _ I h) fun us s1 ⟨vs,H1,I1,r,q⟩=>⟨I1.kIn,?_⟩) he hpl
  exact run_fn F hr hb hd hx I1 r q
theorem pe_meth {pl:Sem Bool} (he:PE X o ta) (c:Cls X.K C) (hm:Meth X.K C m f) (F:FnOk X.prog X.w X.K X.mg X.base CX k f fd ps sp) (hr:Room k X.A) (hb:Binds X.K fd ps ds) (hd:Vals dvs ds) (hx:Passes CX X E) (ha:PA X (e::es) t)
    (hst:starEach (e::es) X.env=(false,eval e X.env)::starEach es X.env:=by rfl) (hpl:(backTo pos (starEach es X.env)).any (·.1)=false:=by rfl)
    (ht:eval (.Call (.Attribute o m apos) (e::es) [] pos) X.env=(do
      let ov ← eval o X.env
      standAt apos.atName
      let (f,first) ← holding [ov] (getMethod ov m pl)
      callWith pos f first (backTo pos (starEach (e::es) X.env)) (backToKw pos (keywordEach [] X.env))):=by rfl) :
    PE X (.Call (.Attribute o m apos) (e::es) [] pos) (tMeth C m sp dvs E ta t):=by
  intro pins s σ H Q I h
  refine PySem.W.methodCall_KW (pl:=pl) (thn (he pins s σ H _ I h) fun u s1 ⟨x,H1,I1,rx,a,dx,fs,ex,ea,l,q⟩ => ?_) ht
  subst ex
  obtain rfl:u=Value.ref a:=rx
  refine getmeth_ok I1 ea c hm l ?_
  refine PySem.W.callWith_K (first:=[.ref a]) (h₀:=X.base) I.ok.mod.kin hm.kp (thn (ha pos pins s1 σ H1 _ I1 q) fun us s2 ⟨vs,H2,I2,r,q2⟩=>⟨I2.kIn,?_⟩) hst hpl
  exact run_fn (us:=.ref a::us) (vs:=.ref a::vs) F hr hb hd hx I2 (.cons rfl r) q2
theorem pe_meth0 {pl:Sem Bool} (he:PE X o ta) (c:Cls X.K C) (hm:Meth X.K C m f) (F:FnOk X.prog X.w X.K X.mg X.base CX k f fd ps sp) (hr:Room k X.A) (hb:Binds X.K fd ps ds) (hd:Vals dvs ds) (hx:Passes CX X E)
    (ht:eval (.Call (.Attribute o m apos) [] [] pos) X.env=(do
      let ov ← eval o X.env
      standAt apos.atName
      let (f,first) ← holding [ov] (getMethod ov m pl)
      callWith pos f first (backTo pos (starEach [] X.env)) (backToKw pos (keywordEach [] X.env))):=by rfl) :
    PE X (.Call (.Attribute o m apos) [] [] pos) (tMeth C m sp dvs E ta tNil):=by
  intro pins s σ H Q I h
  refine PySem.W.methodCall_KW (pl:=pl) (thn (he pins s σ H _ I h) fun u s1 ⟨x,H1,I1,rx,a,dx,fs,ex,ea,l,q⟩ => ?_) ht
  subst ex
  obtain rfl:u=Value.ref a:=rx
  refine getmeth_ok I1 ea c hm l ?_
  exact PySem.W.callWith_K0 (first:=[.ref a]) I1.kIn hm.kp (run_fn (us:=[.ref a]) (vs:=[.ref a]) F hr hb hd hx I1 (.cons rfl .nil) q)
structure Mk (K:PySem.W.Frag) (C f:Addr):Prop where
  makes:PySem.W.makesIn K C=true
  init:PySem.W.findIn K (.ref C) "__init__" = some (some (.ref f))
  fn:PySem.W.isFn K (.ref f)=true
  kp:PySem.W.keepIn K (.ref C)=true
theorem run_make {pins:List (Addr×Obj)} {σ:St} {H:Hp} {s:Shared} {Q:VK} {us:List Value} {vs:List V} (M:Mk X.K C f) (F:FnOk X.prog X.w X.K X.mg X.base CX k f fd ps sp) (hr:Room (k+1) X.A) (hb:Binds X.K fd ps ds) (hd:Vals dvs ds)
    (hx:Passes CX X E) (I:Inv X pins σ H s) (r:Vals vs us)
    (h:∀ x dx,H x=none→H dx=none→dx≠x→sp (.ref x::(vs++dvs)) (upd (upd H dx (.own x)) x (.ins C dx [])) (fun v H2=>v = .non∧Q (.ref x) H2) E) :
    wpAny (model X.prog X.w) X.A (call (.ref C) us) (EP X pins σ Q) X.xe s:=by
  have hq:=h (s.heap.objs.size+1) s.heap.objs.size (I.hok.fresh (Nat.le_succ _)) (I.hok.fresh (Nat.le_refl _)) (Nat.ne_of_lt (Nat.lt_succ_self _))
  have I2:=Inv.made (C:=C) I
  have r2:Vals (V.ref (s.heap.objs.size+1)::(vs++dvs)) (Value.ref (s.heap.objs.size+1)::(us++ds)):=.cons rfl (r.append hd)
  have hl:(Value.ref (s.heap.objs.size+1)::us++ds).length=ps.length:=by
    have e:=r2.length
    rw [F.len _ _ _ _ hq] at e
    exact e.symm
  refine wpAny_call (make_map (f:=f) I.kIn M.makes M.init (beq_iff_eq.mp M.fn) (codeAny_mono (F.run _ X.stack _ _ ⟨Value.ref (s.heap.objs.size+1)::us,[]⟩ (Value.ref (s.heap.objs.size+1)::(us++ds)) _ _ E (hr.make C us [])
    (I2.env0.make C us []) (hb _ (Value.ref (s.heap.objs.size+1)::us) I2.kIn hl) r2 hq) fun r s' hq' => ?_))
  cases r with
  | error e=>exact hx pins σ _ _ e s' I2 hq'
  | ok fl=>
    cases fl with
    | ret u=>
      obtain ⟨v,H',I3,rv,ev,q3⟩:=I2.after hq'
      subst ev
      exact ⟨rv,⟨V.ref (s.heap.objs.size+1),H',I3,rfl,q3⟩⟩
    | next=>exact False.elim hq'
    | brk=>exact False.elim hq'
    | cont=>exact False.elim hq'
theorem pe_make (M:Mk X.K C f) (F:FnOk X.prog X.w X.K X.mg X.base CX k f fd ps sp) (hr:Room (k+1) X.A) (hg:Gl X x) (hm:X.mg x=some (.ref C)) (hb:Binds X.K fd ps ds) (hd:Vals dvs ds) (hx:Passes CX X E)
    (ha:PA X (e::es) t) (hdb:(x == ("__debug__" : Str))=false:=by decide) (he:starEach (e::es) X.env=(false,eval e X.env)::starEach es X.env:=by rfl) (hpl:(backTo pos (starEach es X.env)).any (·.1)=false:=by rfl) :
    PE X (.Call (.Name x p) (e::es) [] pos) (tMake C sp dvs E t):=by
  intro pins s σ H Q I h
  refine wpAny_Call_Name_kw (ld_glob I hg hm ?_ hdb)
  refine PySem.W.callWith_K (h₀:=X.base) I.ok.mod.kin M.kp (thn (ha pos pins s σ H _ I h) fun us s1 ⟨vs,H1,I1,r,q⟩=>⟨I1.kIn,?_⟩) he hpl
  exact run_make M F hr hb hd hx I1 r q
theorem pe_make0 (M:Mk X.K C f) (F:FnOk X.prog X.w X.K X.mg X.base CX k f fd ps sp) (hr:Room (k+1) X.A) (hg:Gl X x) (hm:X.mg x=some (.ref C)) (hb:Binds X.K fd ps ds) (hd:Vals dvs ds) (hx:Passes CX X E)
    (hdb:(x == ("__debug__" : Str))=false:=by decide):PE X (.Call (.Name x p) [] [] pos) (tMake C sp dvs E tNil):=by
  intro pins s σ H Q I h
  refine wpAny_Call_Name_kw (ld_glob I hg hm ?_ hdb)
  exact PySem.W.callWith_K0 I.kIn M.kp (run_make (us:=[]) M F hr hb hd hx I .nil h)
end
def PK (X:Cx) (kws:List Keyword) (t:TA):Prop :=
  ∀ (pos:Pos) (pins:List (Addr×Obj)) (s:Shared) (σ:St) (H:Hp) (Q:List V→Hp→Prop),Inv X pins σ H s→t σ H Q→wpAny (model X.prog X.w) X.A (evalAll ((backToKw pos (keywordEach kws X.env)).map (·.2))) (AP X pins σ Q) X.xe s
section
variable {X:Cx} {CX:CXT} {k:Nat} {f C:Addr} {fd:FuncData} {ps ks:List Str} {sp:Sp} {E:XK} {x m:Str} {p pos apos kpos:Pos} {e o:Expr} {es:List Expr} {kws:List Keyword} {te ta:TE} {t tk:TA} {nm:Option Str}
theorem pk_nil:PK X [] tNil:=fun _ _ _ _ H Q I h=>wpAny_evalAll_nil ⟨[],H,I,.nil,h⟩
theorem pk_cons (ha:PE X e te) (hr:PK X kws t):PK X (⟨nm,e,kpos⟩::kws) (tCons te t):=by
  intro pos pins s σ H Q I h
  show wpAny _ _ (evalAll ((do let v ← eval e X.env; standAt pos; pure v)::(backToKw pos (keywordEach kws X.env)).map (·.2))) _ _ s
  refine wpAny_evalAll_cons (wpAny_bind (thn (ha pins s σ H _ I h) fun u s1 ⟨x,H1,I1,r1,q1⟩=>wpAny_bind (wpAny_standAt (wpAny_pure ?_))))
  exact thn (hr pos pins s1 σ H1 _ I1 q1) fun us s2 ⟨xs,H2,I2,r2,q2⟩=>⟨x::xs,H2,I2,.cons r1 r2,q2⟩
variable {g:List Value→List Value→List Value} {gV:List V→List V→List V}
end
structure FnScope (N P:List Str) (sc:Scope):Prop where
  kind:sc.kind = .function
  co:sc.isCoroutine=false
  gen:sc.isGenerator=false
  nd:N.Nodup
  pre:N.take P.length=P
  par:∀ x∈P,sc.names.lookup x=some .local∨sc.names.lookup x=some .cell
  nofree:∀ y∈sc.names,y.2 ≠ .free
theorem bindL_out {kindOf:Str→Option NameKind} {x:Str}:∀ {binds:List (Str×Value)} {m:Str→Option Value},(∀ v,(x,v) ∉ binds)→bindL kindOf binds m x=m x
  | [],_,_=>rfl
  | (n,v)::r,m,h=>by
    unfold bindL
    rw [bindL_out fun w hw=>h w (List.mem_cons_of_mem _ hw)]
    split
    · have:x≠n:=by rintro rfl; exact h v List.mem_cons_self
      simp [this]
    · rfl
theorem bindC_out {kindOf:Str→Option NameKind} {x:Str}:∀ {binds:List (Str×Value)} {m:Str→Option Value},(∀ v,(x,v) ∉ binds)→bindC kindOf binds m x=m x
  | [],_,_=>rfl
  | (n,v)::r,m,h=>by
    unfold bindC
    rw [bindC_out fun w hw=>h w (List.mem_cons_of_mem _ hw)]
    split
    · rfl
    · have:x≠n:=by rintro rfl; exact h v List.mem_cons_self
      simp [this]
theorem bindL_get {kindOf:Str→Option NameKind} {x:Str} {v:Value}:∀ {P:List Str} {vs:List Value} {i:Nat} {m:Str→Option Value},P.Nodup→P[i]? = some x→vs[i]? = some v→kindOf x=some .local →
    bindL kindOf (P.zip vs) m x=some v
  | [],_,_,_,_,h,_,_=>by simp at h
  | _::_,[],_,_,_,_,h,_=>by simp at h
  | p::P,w::vs,0,m,nd,h1,h2,hk=>by
    simp at h1 h2; subst h1; subst h2
    show bindL kindOf ((p,w)::P.zip vs) m p=_
    unfold bindL
    rw [bindL_out fun v hv=>(List.nodup_cons.mp nd).1 (List.of_mem_zip hv).1,if_pos hk]
    simp
  | p::P,w::vs,i+1,m,nd,h1,h2,hk=>by
    show bindL kindOf ((p,w)::P.zip vs) m x=_
    unfold bindL
    exact bindL_get (i:=i) (List.nodup_cons.mp nd).2 (by simpa using h1) (by simpa using h2) hk
theorem bindC_get {kindOf:Str→Option NameKind} {x:Str} {v:Value}:∀ {P:List Str} {vs:List Value} {i:Nat} {m:Str→Option Value},P.Nodup→P[i]? = some x→vs[i]? = some v→kindOf x≠some .local →
    bindC kindOf (P.zip vs) m x=some v
  | [],_,_,_,_,h,_,_=>by simp at h
  | _::_,[],_,_,_,_,h,_=>by simp at h
  | p::P,w::vs,0,m,nd,h1,h2,hk=>by
    simp at h1 h2; subst h1; subst h2
    show bindC kindOf ((p,w)::P.zip vs) m p=_
    unfold bindC
    rw [bindC_out fun v hv=>(List.nodup_cons.mp nd).1 (List.of_mem_zip hv).1,if_neg hk]
    simp
  | p::P,w::vs,i+1,m,nd,h1,h2,hk=>by
    show bindC kindOf ((p,w)::P.zip vs) m x=_
    unfold bindC
    exact bindC_get (i:=i) (List.nodup_cons.mp nd).2 (by simpa using h1) (by simpa using h2) hk
def start (N:List Str) (vs:List V):St:=vs.map some++List.replicate (N.length - vs.length) none
def cxOf (CX:CXT) (P:Program) (w:World) (K:PySem.W.Frag) (mg:Str→Option Value) (base:Heap) (N:List Str) (qual:Str) (scope:Scope) (f:Addr) (cd:Value) (A:Around) (outer:List Env) (s:Shared) (H:Hp) (E:XK):Cx where
  prog:=P
  w:=w
  K:=K
  mg:=mg
  base:=base
  A:=A.deeper (envOfC qual scope s.heap.objs.size f cd)
  N:=N
  s_0:=s
  H_0:=H
  env:=envOfC qual scope s.heap.objs.size f cd
  outer:=outer
  stack:=envOfC qual scope s.heap.objs.size f cd::outer
  ex:=[]
  calm:=true
  fn:=fun _=>true
  pn:=[]
  xe:=fun e s'=>wpAny (model P w) (A.deeper (envOfC qual scope s.heap.objs.size f cd)) (leaving (envOfC qual scope s.heap.objs.size f cd) e) (fun _ s''=>CX outer H s E e s'') (fun e' s''=>CX outer H s E e' s'') s'
theorem cell_has {sc:Scope} {n:Nat} {x:Str} (h:sc.names.lookup x=some .cell):∃ c,(cellsFrom n sc.names []).lookup x=some c:=by
  have q:=PySem.W.cellsFrom_some sc.names n [] (.inl h)
  exact Option.isSome_iff_exists.mp q
theorem inv_start {CX:CXT} {P:Program} {w:World} {K:PySem.W.Frag} {mg:Str→Option Value} {base:Heap} {N ps:List Str} {qual:Str} {scope:Scope} {f:Addr} {cd:Value} {A:Around} {outer:List Env} {s s1:Shared} {H:Hp} {E:XK} {us:List Value} {vs:List V}
    (S:FnScope N ps scope) (hd:A.handled=none) (e0:Env0 P w K mg base A outer s H) (hl:vs.length=ps.length) (r:Vals vs us)
    (x:InCallC s s.heap.objs.size (bindL (envOfC qual scope s.heap.objs.size f cd).kindOf (ps.zip us) fun _=>none) (cellsFrom (s.heap.objs.size+1) scope.names []) (bindC (envOfC qual scope s.heap.objs.size f cd).kindOf (ps.zip us) fun _=>none) s1) :
    Inv (cxOf CX P w K mg base N qual scope f cd A outer s H E) [] (start N vs) H s1:=by
  have hpl:ps.length≤N.length:=by have:=congrArg List.length S.pre; rw [List.length_take] at this; omega
  obtain ⟨h1,tk,rfl,hk⟩:=x.done
  have noA:∀ b:Addr,b ∉ (cxOf CX P w K mg base N qual scope f cd A outer s H E).ex:=fun b z=>absurd (show b∈([]:List Addr) from z) (by simp)
  refine ⟨⟨e0.mod,S.kind,rfl,rfl,Nat.le_refl _,fun y z c h1 h2 => ?_,fun y hy => ?_,fun y c _ h => ?_,fun _=>hd,Around.frames_deeper e0.frames,.inr ⟨rfl,rfl⟩,fun b z=>absurd z (noA b),e0.bs,e0.bsz,fun b _ _=>noA b,fun b z=>absurd z (noA b),e0.funs,e0.frf⟩,
    rfl,e0.bare,Un.kept hk,⟨_,x.toInCall.ns,fun i y v h1 h2 h3 => ?_⟩,fun y c h=>⟨_,x.cell y c h⟩,e0.hok.fresh (Nat.le_refl _),fun y c h => ?_,fun p hp=>absurd (show p∈([]:List (Addr×Obj)) from hp) (by simp),e0.hok.kept hk,?_⟩
  · exact name_of_addr x.apart (PySem.mem_of_lookup h1) (PySem.mem_of_lookup h2)
  · have hy:scope.names.lookup y=some .cell∨scope.names.lookup y=some .free:=hy
    rcases hy with hy | hy
    · exact cell_has hy
    · exact absurd rfl (S.nofree _ (PySem.mem_of_lookup hy))
  · exact Nat.le_of_lt (x.above y c (PySem.mem_of_lookup h))
  · have hi:i<vs.length:=by
      unfold start at h2
      by_cases hi:i<vs.length
      · exact hi
      · rw [List.getElem?_append_right (by simpa using hi)] at h2
        rw [List.getElem?_replicate] at h2
        split at h2 <;> cases h2
    have ha:vs[i]? = some v:=by
      unfold start at h2
      rw [List.getElem?_append_left (by simpa using hi),List.getElem?_map] at h2
      cases e:vs[i]? with
      | none=>rw [e] at h2; cases h2
      | some a=>rw [e] at h2; cases h2; rfl
    obtain ⟨u,hu,rv⟩:=r.get ha
    have hp:ps[i]? = some y:=by
      rw [← S.pre,List.getElem?_take_of_lt (by omega)]; exact h1
    have ndP:ps.Nodup:=by rw [← S.pre]; exact S.nd.sublist (List.take_sublist _ _)
    refine ⟨u,rv,?_⟩
    rcases S.par y (List.mem_of_getElem? hp) with k | k
    · exact .inl ⟨k,bindL_get ndP hp hu k⟩
    · obtain ⟨c,e⟩:=cell_has (n:=s.heap.objs.size+1) k
      refine .inr ⟨.inl k,c,e,?_⟩
      have q:=x.cell y c e
      rw [bindC_get ndP hp hu (by show scope.names.lookup y≠_; rw [k]; decide)] at q
      exact q
  · exact e0.hok.fresh (Nat.le_of_lt (x.above y c (PySem.mem_of_lookup h)))
  · unfold start
    show _=N.length
    rw [List.length_append,List.length_map,List.length_replicate]
    omega
theorem fn_of {CX:CXT} {P:Program} {w:World} {K:PySem.W.Frag} {mg:Str→Option Value} {base:Heap} {k:Nat} {f:Addr} {name qual:Str} {params:Arguments} {body:List Stmt} {scope:Scope} {dV kV doc pm cdv ct oc:Value} {an od:Option Addr}
    {osl:Array (Option Value)} {N ps:List Str} {sp:Sp} (lk:K.lookup f=some ⟨oc,od,.func (PySem.W.fnOf name qual params body scope dV kV doc pm an cdv ct),osl⟩) (hcd:PySem.W.codeIn K cdv qual=true) (S:FnScope N ps scope)
    (len:∀ vs H Q E,sp vs H Q E→vs.length=ps.length)
    (hbody:∀ (A:Around) (outer:List Env) (s:Shared) (H:Hp) (vs:List V) (Q:VK) (E:XK),Room k (A.deeper (envOfC qual scope s.heap.objs.size f cdv))→sp vs H Q E →
      ∃ t,PSs (cxOf CX P w K mg base N qual scope f cdv A outer s H E) body t∧t { nx:=fun _ H'=>Q .non H',rt:=Q } (start N vs) H) :
    FnOk P w K mg base CX (k+1) f (PySem.W.fnOf name qual params body scope dV kV doc pm an cdv ct) ps sp:=by
  refine ⟨len,fun A outer s H args us vs Q E hr e0 hb r hsp => ?_⟩
  have hl:=len _ _ _ _ hsp
  have KX:K.In s.heap:=e0.mod.kin.keeps fun b o e=>(e0.bs b o e).1
  have lim:s.heap.NoLimit:=e0.mod.nolimit.keeps fun b o e=>(e0.bs b o e).1
  have hkind:∀ y∈ps.zip us,scope.names.lookup y.1=some .local∨(scope.names.lookup y.1=some .cell∧((cellsFrom (s.heap.objs.size+1) scope.names []).lookup y.1).isSome=true):=fun ⟨n,v⟩ hy=>by
    rcases S.par n (List.of_mem_zip hy).1 with q | q
    · exact .inl q
    · exact .inr ⟨q,PySem.W.cellsFrom_some _ _ _ (.inl q)⟩
  refine codeAny_call_function hr.depth (KX _ _ lk) rfl S.co S.gen rfl (PySem.W.codeRec_of KX hcd) (hb _ _ _ _ ?_)
  refine wpAny_newFunctionEnv_cells S.kind hkind fun env he s1 x => ?_
  subst he
  refine ⟨lim.keeps x.toInCall.keep,codeAny_func ?_⟩
  obtain ⟨t,ht,hq⟩:=hbody A outer s H vs Q E (hr.deeper _) hsp
  have I:Inv (cxOf CX P w K mg base N qual scope f cdv A outer s H E) [] (start N vs) H s1:=inv_start S hr.hd e0 hl r x
  refine wpAny_mono (ht [] s1 (start N vs) H _ I hq) (fun fl s' hs => ?_) fun e s' hs=>hs
  have fin:∀ {σ':St} {H':Hp} {v:V} {u:Value},Inv (cxOf CX P w K mg base N qual scope f cdv A outer s H E) [] σ' H' s'→RelV v u→Q v H'→CE outer P w H s Q u s' :=
    fun {σ' H' v u} J rv q=>⟨v,H',J.os,J.bare,J.base,J.hok,rv,q⟩
  cases fl with
  | ret u=>
    obtain ⟨v,σ',H',J,rv,q⟩:=hs
    exact fin J rv q
  | next=>
    obtain ⟨σ',H',J,q⟩:=hs
    exact fin (v:=V.non) (u:=Value.none) J rfl q
  | brk=>
    obtain ⟨_,_,_,q⟩:=hs
    exact False.elim q
  | cont=>
    obtain ⟨_,_,_,q⟩:=hs
    exact False.elim q
end L2
namespace L2
open PySem PySem.Spec PyProof.Rows
section
variable {X:Cx} {x:Str} {p pos:Pos} {e:Expr} {es:List Expr} {t:TA} {id T:String} {r:List V→Hp→VK→Prop}
def tCB (r:List V→Hp→VK→Prop) (t:TA):TE:=fun σ H Q=>t σ H fun vs H1=>r vs H1 Q
theorem pe_callB (hc:CallR X (.builtin id) r) (hg:Gl X x) (hm:X.mg x=none) (hv:bootBuiltins x=some (.builtin id)) (ha:PA X (e::es) t) (hn:x ≠ "__name__" := by decide) (hdb:(x == ("__debug__" : Str))=false:=by decide)
    (he:starEach (e::es) X.env=(false,eval e X.env)::starEach es X.env:=by rfl) (hpl:(backTo pos (starEach es X.env)).any (·.1)=false:=by rfl):PE X (.Call (.Name x p) (e::es) [] pos) (tCB r t):=by
  intro pins s σ H Q I h
  refine wpAny_Call_Name_kw (ld_blt I hg hm hv ?_ hn hdb)
  exact PyProof.Rows.callWith_builtin1 (thn (ha pos pins s σ H _ I h) fun us s1 ⟨vs,H1,I1,r1,q1⟩=>hc pins s1 σ H1 vs us Q I1 r1 q1) he hpl
theorem pe_callTy (hc:CallR X (.type T) r) (hg:Gl X x) (hm:X.mg x=none) (hv:bootBuiltins x=some (.type T)) (ha:PA X (e::es) t) (hn:x ≠ "__name__" := by decide) (hdb:(x == ("__debug__" : Str))=false:=by decide)
    (he:starEach (e::es) X.env=(false,eval e X.env)::starEach es X.env:=by rfl) (hpl:(backTo pos (starEach es X.env)).any (·.1)=false:=by rfl):PE X (.Call (.Name x p) (e::es) [] pos) (tCB r t):=by
  intro pins s σ H Q I h
  refine wpAny_Call_Name_kw (ld_blt I hg hm hv ?_ hn hdb)
  exact PyProof.Rows.callWith_type1 (thn (ha pos pins s σ H _ I h) fun us s1 ⟨vs,H1,I1,r1,q1⟩=>hc pins s1 σ H1 vs us Q I1 r1 q1) he hpl
end
end L2
namespace HT
open PySem PyProof.Rows
section
open PySem.SeqAt
open PySem.AutoSeq1 (wpAny_loadPart')
open PySem.MeetsSeq PySem.MeetsSeq2 PySem.MeetsSeq3
end
section
variable {prog:Program} {w:World} {A:Around} {E:Value→Shared→Prop} {s:Shared}
def sIx (n d:Nat):Option Int→Nat
  | none=>d
  | some v=>if v<0 then (v+(n:Int)).toNat else min v.toNat n
theorem sIx_none (n d:Nat):sIx n d none=d:=rfl
theorem sIx_nat (n d k:Nat):sIx n d (some (k:Int))=min k n:=by
  show (if (k:Int)<0 then ((k:Int)+(n:Int)).toNat else min (k:Int).toNat n)=min k n
  rw [if_neg (by omega),Int.toNat_natCast]
theorem sIx_le (n d:Nat) (hd:d≤n) (o:Option Int):sIx n d o≤n:=by
  cases o with
  | none=>exact hd
  | some v=>
    show (if v<0 then (v+(n:Int)).toNat else min v.toNat n)≤n
    by_cases hv:v<0
    · rw [if_pos hv]; omega
    · rw [if_neg hv]; exact Nat.min_le_right _ _
theorem clip_eq (v:Int) (n d:Nat):(if v<0 then max (v+(n:Int)) 0 else min v (n:Int))=((sIx n d (some v):Nat):Int):=by
  show (if v<0 then max (v+(n:Int)) 0 else min v (n:Int))=(((if v<0 then (v+(n:Int)).toNat else min v.toNat n):Nat):Int)
  by_cases hv:v<0
  · simp only [if_pos hv]; omega
  · simp only [if_neg hv]; omega
theorem adjust_gen (lo hi:Option Int) (n:Nat):Builtin.Slice.sliceAdjust lo hi 1 (n:Int)=(((sIx n 0 lo:Nat):Int),((sIx n n hi:Nat):Int)):=by
  have h1:¬ ((1:Int)<0):=by omega
  unfold Builtin.Slice.sliceAdjust
  simp only [h1,if_false]
  refine Prod.ext ?_ ?_
  · cases lo with
    | none=>rfl
    | some v=>exact clip_eq v n 0
  · cases hi with
    | none=>rfl
    | some v=>exact clip_eq v n n
theorem places_gen (i j:Nat):Builtin.Slice.slicePlaces (i:Int) (j:Int) 1=j - i:=by
  unfold Builtin.Slice.slicePlaces
  have h1:(1:Int) > 0:=by omega
  simp only [h1,if_true,Int.ediv_one]
  split <;> omega
theorem slicePart_ {v:Value} {o:Option Int} {Q:Option Int→Shared→Prop} (p:IsPart v o) (h:Q o s):wpAny (model prog w) A (Builtin.Slice.slicePartIndex v) Q E s:=by
  cases p with
  | none=>exact slicePart_none h
  | int i t=>exact slicePart_int h
theorem sliceApplied_gen {sl:Addr} {vl vu:Value} {lo hi:Option Int} {n:Nat} {Q:Int×Int×Nat→Shared→Prop} (hs:s.heap.IsSliceOf sl vl vu .none) (pl:IsPart vl lo) (pu:IsPart vu hi)
    (h:Q (((sIx n 0 lo:Nat):Int),1,sIx n n hi - sIx n 0 lo) s):wpAny (model prog w) A (Builtin.Slice.sliceApplied (.ref sl) (pure (n:Int))) Q E s:=by
  obtain ⟨os,hos,hcs,hds⟩:=id hs
  unfold Builtin.Slice.sliceApplied Builtin.Slice.sliceFields
  refine wpAny_bind (wpAny_bind (wpAny_field hos hds (x:=vl) rfl (wpAny_bind (wpAny_field hos hds (x:=vu) rfl (wpAny_bind (wpAny_field hos hds (x:=.none) rfl (wpAny_pure ?_)))))))
  refine wpAny_bind (slicePart_none ?_)
  show wpAny _ _ (if ((1:Int) == 0)=true then _ else _) _ _ s
  rw [if_neg (by decide)]
  refine wpAny_bind (slicePart_ pl (wpAny_bind (slicePart_ pu (wpAny_bind (wpAny_pure ?_)))))
  show wpAny _ _ (match Builtin.Slice.sliceAdjust lo hi 1 (n:Int) with | (lo,hi)=>pure (lo,(1:Int),Builtin.Slice.slicePlaces lo hi 1)) _ _ s
  rw [adjust_gen lo hi n]
  show wpAny _ _ (pure (((sIx n 0 lo:Nat):Int),(1:Int),Builtin.Slice.slicePlaces ((sIx n 0 lo:Nat):Int) ((sIx n n hi:Nat):Int) 1)) _ _ s
  rw [places_gen]
  exact wpAny_pure h
theorem pick_gen (xs:Array Value) (i k:Nat):((List.range k).filterMap fun (m:Nat)=>xs[((i:Int)+(m:Int)*1).toNat]?).toArray=((xs.toList.drop i).take k).toArray:=by
  have e:(fun (m:Nat)=>xs[((i:Int)+(m:Int)*1).toNat]?)=fun m=>xs[i+m]? := by
    funext m
    have:((i:Int)+(m:Int)*1).toNat=i+m:=by omega
    rw [this]
  rw [e]
  have:=pick_run xs i k
  rw [List.filterMap_map] at this
  have e2:((fun x=>xs[x]?) ∘ fun x=>i+x)=fun m=>xs[i+m]? := rfl
  rw [e2] at this
  rw [this]
theorem getItem_tuple_cut {t sl:Addr} {items:Array Value} {vl vu:Value} {lo hi:Option Int} {Q:Value→Shared→Prop} (ht:IsTup s.heap t items) (hs:s.heap.IsSliceOf sl vl vu .none) (pl:IsPart vl lo) (pu:IsPart vu hi)
    (hw:¬ (sIx items.size 0 lo=0∧sIx items.size items.size hi=items.size))
    (h:Q (.ref s.heap.objs.size) { s with heap:=s.heap.push { cls:=.type "tuple",data:=.seq ((items.toList.drop (sIx items.size 0 lo)).take (sIx items.size items.size hi - sIx items.size 0 lo)).toArray } })
    (hsz:items.size≤sizeLine):wpAny (model prog w) A (getItem (.ref t) (.ref sl)) Q E s:=by
  have htake:sizeOk (.seq ((items.toList.drop (sIx items.size 0 lo)).take (sIx items.size items.size hi - sIx items.size 0 lo)).toArray):=by
    show ((items.toList.drop (sIx items.size 0 lo)).take (sIx items.size items.size hi - sIx items.size 0 lo)).toArray.size≤sizeLine
    rw [List.size_toArray,List.length_take,List.length_drop,Array.length_toList]
    omega
  have hj:sIx items.size items.size hi≤items.size:=sIx_le _ _ (Nat.le_refl _) hi
  obtain ⟨os,hos,hcs,hds⟩:=id hs
  have hTs:s.TypeIs (.ref sl) "slice" := ⟨os,hos,hcs⟩
  unfold getItem
  try with_reducible refine wpAny_holding ?_
  first | refine wpAny_bind (wpAny_pure ?_) | skip
  refine wpAny_bind (wpAny_sequenceKey ht.typeIs (by decide) ?_)
  refine wpAny_bind (wpAny_callSpecial?_slot (name:=Str.ofString "__getitem__") ht.typeIs PyProof.Rows.slot_tuple_getitem
    (wpAny_call_entry PyProof.Rows.slot_tuple_getitem ht.typeIs entry_tuple_getitem ?_ (args_tuple_getitem _ _)))
  show wpAny _ _ (Builtin.Tuple.tupleItemsOf (.ref t) >>= _) _ _ s
  refine wpAny_bind (tupleItemsOf_ ht ?_)
  refine wpAny_bind (wpAny_typeOf hTs ?_)
  rw [if_pos (by decide)]
  refine wpAny_bind (sliceApplied_gen hs pl pu ?_)
  have hno:¬ ((((sIx items.size 0 lo:Nat):Int) == 0&&(1:Int) == 1&&(sIx items.size items.size hi - sIx items.size 0 lo) == items.size)=true):=by
    intro q
    rw [Bool.and_eq_true,Bool.and_eq_true] at q
    have q1:((sIx items.size 0 lo:Nat):Int)=0:=eq_of_beq q.1.1
    have q2:sIx items.size items.size hi - sIx items.size 0 lo=items.size:=eq_of_beq q.2
    exact hw ⟨by omega,by omega⟩
  show wpAny _ _ (if (((sIx items.size 0 lo:Nat):Int) == 0&&(1:Int) == 1&&(sIx items.size items.size hi - sIx items.size 0 lo) == items.size)=true then _ else _) _ _ s
  rw [if_neg hno,pick_gen]
  first
    | exact wpAny_bind (m:=Builtin.Tuple.tupleExact _) (wpAny_newObj_type (wpAny_pure ⟨_,rfl,wpAny_pure h⟩) htake)
    | exact wpAny_bind (m:=Builtin.Tuple.tupleExact _) (wpAny_newObj_type (wpAny_bind (wpAny_pure (wpAny_pure ⟨_,rfl,wpAny_pure h⟩))) htake)
    | exact wpAny_bind (wpAny_bind (m:=Builtin.Tuple.tupleExact _) (wpAny_newObj_type (wpAny_pure (wpAny_pure ⟨_,rfl,wpAny_pure h⟩)) htake))
    | exact wpAny_bind (wpAny_bind (m:=Builtin.Tuple.tupleExact _) (wpAny_newObj_type (wpAny_pure ⟨_,rfl,wpAny_pure h⟩) htake))
end
end HT
namespace L2
open PySem PySem.Spec PyProof.Rows
abbrev TO:=St→Hp→(Option Int→Hp→Prop)→Prop
def PO (X:Cx) (e:Option Expr) (t:TO):Prop :=
  ∀ (pins:List (Addr×Obj)) (s:Shared) (σ:St) (H:Hp) (Q:Option Int→Hp→Prop),Inv X pins σ H s→t σ H Q →
    wpAny (model X.prog X.w) X.A (evalPart e X.env) (fun u s' => ∃ o H',Inv X pins σ H' s'∧IsPart u o∧Q o H') X.xe s
def tNoPart:TO:=fun _ H Q=>Q none H
def tPart (t:TE):TO:=fun σ H Q=>t σ H fun x H1 => ∃ i,x = .int i∧Q (some i) H1
section
variable {X:Cx} {e:Expr} {te:TE} {lo hi:Option Expr} {tl th:TO} {pos p2:Pos}
theorem po_none:PO X none tNoPart:=by
  intro pins s σ H Q I h
  rw [evalPart_none]
  exact wpAny_pure ⟨none,H,I,.none,h⟩
theorem po_some (h:PE X e te):PO X (some e) (tPart te):=by
  intro pins s σ H Q I hw
  rw [evalPart_some]
  refine thn (h pins s σ H _ I hw) fun u s1 ⟨x,H1,I1,r1,q1⟩ => ?_
  obtain ⟨i,rfl,q⟩:=q1
  obtain ⟨t,rfl⟩:=r1
  exact ⟨some i,H1,I1,.int i t,q⟩
def SlR (X:Cx) (r:V→Option Int→Option Int→Hp→VK→Prop):Prop :=
  ∀ (pins:List (Addr×Obj)) (s:Shared) (σ:St) (H:Hp) (x:V) (v vl vu:Value) (lo hi:Option Int) (sl:Addr) (Q:VK),Inv X pins σ H s→RelV x v→s.heap.IsSliceOf sl vl vu .none→IsPart vl lo→IsPart vu hi→r x lo hi H Q →
    ∃ T id,typeLookup (.type T) "__getitem__" = pure (some (.builtin id))∧s.TypeIs v T∧wpAny (model X.prog X.w) X.A (getItem v (.ref sl)) (EP X pins σ Q) X.xe s
def tSl (r:V→Option Int→Option Int→Hp→VK→Prop) (te:TE) (tl th:TO):TE:=fun σ H Q=>te σ H fun x H1=>tl σ H1 fun l H2=>th σ H2 fun u H3=>r x l u H3 Q
theorem pe_slice {r:V→Option Int→Option Int→Hp→VK→Prop} (hr:SlR X r) (he:PE X e te) (hl:PO X lo tl) (hu:PO X hi th):PE X (.Subscript e (.Slice lo hi none p2) pos) (tSl r te tl th):=by
  intro pins s σ H Q I h
  refine Subscript_ (thn (he pins s σ H _ I h) fun v s1 ⟨x,H1,I1,r1,q1⟩ => ?_)
  refine wpAny_Slice (thn (hl pins s1 σ H1 _ I1 q1) fun vl s2 ⟨l,H2,I2,pl,q2⟩=>thn (hu pins s2 σ H2 _ I2 q2) fun vu s3 ⟨u,H3,I3,pu,q3⟩ => ?_)
  rw [evalPart_none]
  refine wpAny_pure ?_
  have I4:Inv X pins σ H3 { s3 with heap:=s3.heap.push { cls:=.type "slice",data:=.fields #[vl,vu,.none] } }:=I3.kept (t':=s3.toks) fun b ob q=>Heap.get?_push_of_some _ q
  obtain ⟨T,id,hT,ht,hg⟩:=hr pins { s3 with heap:=s3.heap.push { cls:=.type "slice",data:=.fields #[vl,vu,.none] } } σ H3 x v vl vu l u s3.heap.objs.size Q I4 r1 (Heap.IsSliceOf.new ..) pl pu q3
  show wpAny (model X.prog X.w) X.A (subscriptTail e (.Slice lo hi none p2) v (.ref s3.heap.objs.size)) (EP X pins σ Q) X.xe { s3 with heap:=s3.heap.push { cls:=.type "slice",data:=.fields #[vl,vu,.none] } }
  exact tail_any (ops:=[.ref s3.heap.objs.size,v]) ht hT hg (by with_unfolding_all rfl)
def cutV (xs:List V) (lo hi:Option Int):List V:=(xs.drop (HT.sIx xs.length 0 lo)).take (HT.sIx xs.length xs.length hi - HT.sIx xs.length 0 lo)
theorem cutV_length (xs:List V) (lo hi:Option Int):(cutV xs lo hi).length≤xs.length:=by
  unfold cutV
  rw [List.length_take,List.length_drop]
  omega
def rSlT (K:PySem.W.Frag):V→Option Int→Option Int→Hp→VK→Prop:=fun x lo hi H Q => ∃ a xs,x = .ref a∧SqT K H a xs ∧
  ¬ (HT.sIx xs.length 0 lo=0∧HT.sIx xs.length xs.length hi=xs.length)∧∀ p,H p=none→Q (.ref p) (upd H p (.tup (cutV xs lo hi)))
theorem sl_tup:SlR X (rSlT X.K):=by
  intro pins s σ H x v vl vu lo hi sl Q I rx hs pl pu h
  obtain ⟨a,xs,rfl,hx,hw,q⟩:=h
  cases rx
  obtain ⟨its,r,ht,hz⟩:=I.tuple hx
  have hlen:its.toArray.size=xs.length:=by rw [List.size_toArray]; exact r.length.symm
  refine ⟨"tuple",_,PyProof.Rows.slot_tuple_getitem.lookup,ht.typeIs,?_⟩
  refine HT.getItem_tuple_cut ht hs pl pu (by rw [hlen]; exact hw) ?_ (by rw [hlen]; exact hz)
  rw [hlen]
  refine ⟨.ref s.heap.objs.size,_,I.laid (t':=s.toks) (o:=.tup (cutV xs lo hi)) (fun b ob q=>Heap.get?_push_of_some _ q) (Nat.le_refl _) ?_,rfl,q _ (I.hok.fresh (Nat.le_refl _))⟩
  exact ⟨Nat.le_trans (cutV_length xs lo hi) hz,_,(r.drop (HT.sIx xs.length 0 lo)).take (HT.sIx xs.length xs.length hi - HT.sIx xs.length 0 lo),IsTup.new _ _⟩
end
end L2
namespace L2
open PySem PySem.Spec PyProof.Rows
def ixN (n:Nat) (i:Int):Option Nat:=if 0≤i then (if i<n then some i.toNat else none) else if -(n:Int)≤i then some (i+n).toNat else none
def atI {α:Type} (xs:List α) (i:Int):Option α:=(ixN xs.length i).bind fun j=>xs[j]?
theorem ixN_seq {n:Nat} {i:Int} {j:Nat} (h:ixN n i=some j):seqIndex? i n=some j∧j<n ∧ -(n:Int)≤i∧i<n:=by
  unfold ixN at h
  by_cases h0:0≤i
  · rw [if_pos h0] at h
    by_cases h1:i<n
    · rw [if_pos h1] at h
      have e:i.toNat=j:=Option.some.inj h
      exact ⟨by rw [seqIndex_of h0 h1,e],by omega,by omega,h1⟩
    · rw [if_neg h1] at h; cases h
  · rw [if_neg h0] at h
    by_cases h1 : -(n:Int)≤i
    · rw [if_pos h1] at h
      have e:(i+n).toNat=j:=Option.some.inj h
      exact ⟨by rw [seqIndex_neg (by omega) h1,e],by omega,h1,by omega⟩
    · rw [if_neg h1] at h; cases h
theorem atI_get {α:Type} {xs:List α} {i:Int} {v:α} (h:atI xs i=some v):∃ j,seqIndex? i xs.length=some j∧xs[j]? = some v∧j<xs.length ∧ -(xs.length:Int)≤i∧i<xs.length:=by
  unfold atI at h
  cases e:ixN xs.length i with
  | none=>rw [e] at h; cases h
  | some j=>
    rw [e] at h
    obtain ⟨h1,h2,h3,h4⟩:=ixN_seq e
    exact ⟨j,h1,h,h2,h3,h4⟩
theorem atI_nat {α:Type} {xs:List α} {j:Nat} {v:α} (h:xs[j]? = some v):atI xs (j:Int)=some v:=by
  have hj:j<xs.length:=(List.getElem?_eq_some_iff.mp h).1
  have e:ixN xs.length (j:Int)=some j:=by
    unfold ixN
    rw [if_pos (by omega),if_pos (by omega)]; simp
  unfold atI; rw [e]; exact h
def PlainIx (b:Expr):Prop:=∀ o i,subscripted b false o i=operate [o,i] (getItem o i)
def IxR (X:Cx) (r:R2):Prop :=
  ∀ (value slice:Expr) (pins:List (Addr×Obj)) (s:Shared) (σ:St) (H:Hp) (x y:V) (v u:Value) (Q:VK),Inv X pins σ H s→RelV x v→RelV y u→r x y H Q →
    subscripted slice false v u=operate [v,u] (getItem v u)→wpAny (model X.prog X.w) X.A (subscriptTail value slice v u) (EP X pins σ Q) X.xe s
def MtR (X:Cx) (id:String) (r:V→List V→Hp→VK→Prop):Prop :=
  ∀ (pins:List (Addr×Obj)) (s:Shared) (σ:St) (H:Hp) (x:V) (xs:List V) (v:Value) (us:List Value) (Q:VK),Inv X pins σ H s→RelV x v→Vals xs us→r x xs H Q →
    wpAny (model X.prog X.w) X.A (call (.builtin id) (v::us)) (EP X pins σ Q) X.xe s
section
variable {X:Cx} {a b:Expr} {ta tb:TE} {pos:Pos}
theorem pe_ix {r:R2} (hr:IxR X r) (ha:PE X a ta) (hb:PE X b tb) (hs:PlainIx b):PE X (.Subscript a b pos) (tOp r ta tb):=by
  intro pins s σ H Q I h
  exact Subscript_ (binT ha hb I h fun v u s2 x y H2 I2 rx ry q=>hr a b pins s2 σ H2 x y v u Q I2 rx ry q (hs _ _))
def rIxL (K:PySem.W.Frag):R2:=fun x y H Q => ∃ p xs i v,x = .ref p∧y = .int i∧SqL K H p xs∧atI xs i=some v∧Q v H
def rIxT (K:PySem.W.Frag):R2:=fun x y H Q => ∃ p xs i v,x = .ref p∧y = .int i∧SqT K H p xs∧atI xs i=some v∧Q v H
theorem ix_list:IxR X (rIxL X.K):=by
  intro value slice pins s σ H x y v u Q I rx ry h hs
  obtain ⟨p,xs,i,z,rfl,rfl,hq,he,q⟩:=h
  cases rx
  obtain ⟨t,rfl⟩:=ry
  obtain ⟨its,r,pl,hz⟩:=I.list hq
  obtain ⟨j,h1,h2,h3,h4,h5⟩:=atI_get he
  obtain ⟨w,ew,rw'⟩:=r.get h2
  have hl:=r.length
  have hn:=line63
  have fin:EP X pins σ Q w s:=⟨z,H,I,rw',q⟩
  by_cases h0:0≤i
  · have hj:i.toNat=j:=by
      rw [seqIndex_of h0 h5] at h1
      exact Option.some.inj h1
    exact item_listR pl.isList h0 (by omega) (by rw [hj]; simpa using ew) fin hs
  · have hj:(i+(its.toArray.size:Int)).toNat=j:=by
      rw [seqIndex_neg (by omega) h4] at h1
      rw [List.size_toArray,← hl]
      exact Option.some.inj h1
    exact subscriptTail_builtinR (x:=w) pl.isList.typeIs slot_list_getitem.lookup
      (wpAny_getItem_list_neg (Q:=fun r s'=>r=w∧EP X pins σ Q r s') pl.isList (by omega) (by rw [List.size_toArray] <;> omega) (by omega) (by rw [hj]; simpa using ew) ⟨rfl,fin⟩) hs
theorem ix_tup:IxR X (rIxT X.K):=by
  intro value slice pins s σ H x y v u Q I rx ry h hs
  obtain ⟨p,xs,i,z,rfl,rfl,hq,he,q⟩:=h
  cases rx
  obtain ⟨t,rfl⟩:=ry
  obtain ⟨its,r,pl,hz⟩:=I.tuple hq
  obtain ⟨j,h1,h2,h3,h4,h5⟩:=atI_get he
  obtain ⟨w,ew,rw'⟩:=r.get h2
  have hl:=r.length
  have hn:=line63
  have fin:EP X pins σ Q w s:=⟨z,H,I,rw',q⟩
  exact subscriptTail_builtinR (x:=w) pl.typeIs slot_tuple_getitem.lookup
    (getItem_tuple (j:=j) (Q:=fun r s'=>r=w∧EP X pins σ Q r s') pl (by omega) (by omega) (by rw [List.size_toArray,← hl]; exact h1) (by simpa using ew) ⟨rfl,fin⟩) hs
theorem mapSeq_set (its:List Value) (n j:Nat) (u:Value):Obj.mapSeq (·.setIfInBounds j u) { cls:=.type "list",data:=.seq its.toArray n }={ cls:=.type "list",data:=.seq (its.set j u).toArray n }:=by
  simp [Obj.mapSeq]
theorem Inv.lst {pins:List (Addr×Obj)} {σ:St} {H:Hp} {s:Shared} {p:Addr} {xs:List V} (I:Inv X pins σ H s) (h:H p=some (.lst xs)) :
    ∃ (its:List Value) (n:Nat),Vals xs its∧s.heap.get? p=some { cls:=.type "list",data:=.seq its.toArray n }∧xs.length≤sizeLine:=by
  obtain ⟨z,its,n,r,e⟩:=I.hok p _ h
  exact ⟨its,n,r,e,z⟩
theorem Inv.lstUpd {pins:List (Addr×Obj)} {σ:St} {H:Hp} {s:Shared} {p:Addr} {xs ys:List V} {its its':List Value} {n n':Nat} {f:Obj→Obj} (I:Inv X pins σ H s) (h:H p=some (.lst xs))
    (ho:s.heap.get? p=some { cls:=.type "list",data:=.seq its.toArray n }) (hf:f { cls:=.type "list",data:=.seq its.toArray n }={ cls:=.type "list",data:=.seq its'.toArray n' }) (r:Vals ys its') (hz:ys.length≤sizeLine) (t:Nat) :
    Inv X pins σ (upd H p (.lst ys)) { s with heap:=s.heap.update p f,toks:=t }:=by
  have e:(s.heap.update p f).get? p=some { cls:=.type "list",data:=.seq its'.toArray n' }:=by
    rw [Heap.get?_update_self f ho (by rw [hf] <;> rfl),hf]
  refine I.write (x:=p) (e:=p) (by rw [h]; trivial) (.inl rfl) (fun b u hb q=>(Heap.get?_update_other _ _ (Ne.symm hb)).trans q) ⟨_,e⟩ ?_
  exact ⟨hz,its',n',r,e⟩
def rSetL:V→V→V→Hp→(Hp→Prop)→Prop:=fun o i v H Q => ∃ p xs k j,o = .ref p∧i = .int k∧H p=some (.lst xs)∧ixN xs.length k=some j∧Q (upd H p (.lst (xs.set j v)))
theorem set_list:PSet X rSetL:=by
  intro pins s σ H o i v ov iv u Q I ro ri rv h
  obtain ⟨p,xs,k,j,rfl,rfl,hp,hj,q⟩:=h
  cases ro
  obtain ⟨t,rfl⟩:=ri
  obtain ⟨its,n,r,ho,hz⟩:=I.lst hp
  obtain ⟨h1,h2,h3,h4⟩:=ixN_seq hj
  have hl:=r.length
  have hn:=line63
  have I':Inv X pins σ (upd H p (.lst (xs.set j v))) { s with heap:=s.heap.update p (Obj.mapSeq (·.setIfInBounds j u)) } :=
    I.lstUpd hp ho (mapSeq_set its n j u) (r.set rv j) (by rw [List.length_set]; exact hz) s.toks
  by_cases h0:0≤k
  · have hk:k.toNat=j:=by
      rw [seqIndex_of h0 h4] at h1
      exact Option.some.inj h1
    exact PySem.W.ki_setAt ho h0 (by omega) (by rw [List.size_toArray,← hl]; exact h4) (by rw [hk]; exact ⟨_,I',q⟩)
  · have hk:(k+(its.toArray.size:Int)).toNat=j:=by
      rw [seqIndex_neg (by omega) h3] at h1
      rw [List.size_toArray,← hl]
      exact Option.some.inj h1
    exact PySem.W.ki_setBack ho (by omega) (by rw [List.size_toArray,← hl]; exact h3) (by omega) (by rw [hk]; exact ⟨_,I',q⟩)
theorem slice_bounds (lo hi:Option Int) (n:Nat):(sliceBounds lo hi none n).1=((HT.sIx n 0 lo:Nat):Int)∧(sliceBounds lo hi none n).2.1=((HT.sIx n n hi:Nat):Int)∧(sliceBounds lo hi none n).2.2=1:=by
  refine ⟨?_,?_,rfl⟩
  · cases lo with
    | none=>simp [sliceBounds,HT.sIx]
    | some i=>
      simp only [sliceBounds,HT.sIx,Option.getD_none,show (1:Int) > 0 by decide,if_true]
      by_cases h:i<0
      · simp only [h,if_true] <;> omega
      · simp only [h,if_false] <;> omega
  · cases hi with
    | none=>simp [sliceBounds,HT.sIx]
    | some i=>
      simp only [sliceBounds,HT.sIx,Option.getD_none,show (1:Int) > 0 by decide,if_true]
      by_cases h:i<0
      · simp only [h,if_true] <;> omega
      · simp only [h,if_false] <;> omega
theorem slicePick_cut (its:List Value) (lo hi:Option Int):slicePick its.toArray lo hi none=((its.drop (HT.sIx its.length 0 lo)).take (HT.sIx its.length its.length hi - HT.sIx its.length 0 lo)).toArray:=by
  obtain ⟨h1,h2,h3⟩:=slice_bounds lo hi its.toArray.size
  unfold slicePick
  rw [h1,h2,h3]
  simp only [sliceRange_one,pick_run,List.size_toArray] <;> rfl
def rSlL (K:PySem.W.Frag):V→Option Int→Option Int→Hp→VK→Prop:=fun x lo hi H Q => ∃ a xs,x = .ref a∧SqL K H a xs∧∀ p,H p=none→Q (.ref p) (upd H p (.lst (cutV xs lo hi)))
theorem sl_list:SlR X (rSlL X.K):=by
  intro pins s σ H x v vl vu lo hi sl Q I rx hs pl pu h
  obtain ⟨a,xs,rfl,hx,q⟩:=h
  cases rx
  obtain ⟨its,r,ht,hz⟩:=I.list hx
  have hlen:=r.length
  refine ⟨"list",_,slot_list_getitem.lookup,ht.isList.typeIs,?_⟩
  refine wpAny_getItem_list_slice ht.isList hs pl pu .none (by simp) ?_ (by rw [List.size_toArray] <;> omega)
  rw [slicePick_cut,← hlen]
  refine ⟨.ref s.heap.objs.size,_,I.laid (t':=s.toks) (o:=.lst (cutV xs lo hi)) (fun b ob q=>Heap.get?_push_of_some _ q) (Nat.le_refl _) ?_,rfl,q _ (I.hok.fresh (Nat.le_refl _))⟩
  exact ⟨Nat.le_trans (cutV_length xs lo hi) hz,_,0,(r.drop (HT.sIx xs.length 0 lo)).take (HT.sIx xs.length xs.length hi - HT.sIx xs.length 0 lo),Heap.get?_push_size _ rfl⟩
theorem call_len_seq:CallR X (.builtin "len") (fun xs H Q => ∃ p ys,xs=[.ref p]∧(SqL X.K H p ys∨SqT X.K H p ys)∧Q (.int ys.length) H):=by
  intro pins s σ H xs us Q I r h
  obtain ⟨p,ys,rfl,hq,q⟩:=h
  obtain ⟨u,rfl,rx⟩:=vals1 r
  cases rx
  have hn:=line63
  rcases hq with hq | hq
  · obtain ⟨its,r',pl,hz⟩:=I.list hq
    have hlen:=r'.length
    exact Calls.call_len_list pl.isList (by simp only [List.size_toArray] <;> omega) ⟨.int ys.length,H,I.tok _,⟨s.toks+1,by rw [List.size_toArray,hlen]⟩,q⟩
  · obtain ⟨its,r',pl,hz⟩:=I.tuple hq
    have hlen:=r'.length
    exact len_tuple pl (by simp only [List.size_toArray] <;> omega) ⟨.int ys.length,H,I.tok _,⟨s.toks+1,by rw [List.size_toArray,hlen]⟩,q⟩
theorem call_list_of:CallR X (.type "list") (fun xs H Q => ∃ p ys,xs=[.ref p]∧(SqL X.K H p ys∨SqT X.K H p ys)∧∀ l,H l=none→Q (.ref l) (upd H l (.lst ys))):=by
  intro pins s σ H xs us Q I r h
  obtain ⟨p,ys,rfl,hq,q⟩:=h
  obtain ⟨u,rfl,rx⟩:=vals1 r
  cases rx
  have fin:∀ (its:List Value),Vals ys its→ys.length≤sizeLine→∀ (h':Heap) (c':Nat),(∀ b o',s.heap.get? b=some o'→h'.get? b=some o') →
      h'.get? s.heap.objs.size=some { cls:=.type "list",dict:=none,data:=.seq its.toArray c',slots := #[] }→EP X pins σ Q (.ref s.heap.objs.size) { s with heap:=h' }:=fun its r' hz h' c' kp e=>
    ⟨.ref s.heap.objs.size,_,I.laid (t':=s.toks) kp (Nat.le_refl _) (show ObjOk X.prog X.w _ h' _ (.lst ys) from ⟨hz,its,c',r',e⟩),rfl,q _ (I.hok.fresh (Nat.le_refl _))⟩
  rcases hq with hq | hq
  · obtain ⟨its,r',pl,hz⟩:=I.list hq
    have hlen:=r'.length
    obtain ⟨o,ho,hc,n,hd⟩:=pl.isList
    exact call_list_seq p (.inl rfl) ho hc hd (fun h' c' kp e=>fin its r' hz h' c' kp e) (by simp only [List.size_toArray] <;> omega)
  · obtain ⟨its,r',pl,hz⟩:=I.tuple hq
    have hlen:=r'.length
    obtain ⟨o,ho,hc,n,hd⟩:=pl
    exact call_list_seq p (.inr rfl) ho hc hd (fun h' c' kp e=>fin its r' hz h' c' kp e) (by simp only [List.size_toArray] <;> omega)
theorem call_tuple_of:CallR X (.type "tuple") (fun xs H Q => ∃ p ys,xs=[.ref p]∧((SqL X.K H p ys∧∀ l,H l=none→Q (.ref l) (upd H l (.tup ys)))∨(SqT X.K H p ys∧Q (.ref p) H))):=by
  intro pins s σ H xs us Q I r h
  obtain ⟨p,ys,rfl,h⟩:=h
  obtain ⟨u,rfl,rx⟩:=vals1 r
  cases rx
  rcases h with ⟨hq,q⟩ | ⟨hq,q⟩
  · obtain ⟨its,r',pl,hz⟩:=I.list hq
    have hlen:=r'.length
    refine call_tuple_list pl.isList (fun h' kp => ?_) (by simp only [List.size_toArray] <;> omega)
    have I1:Inv X pins σ H { s with heap:=h' }:=I.kept (t':=s.toks) kp
    have I2:Inv X pins σ (upd H h'.objs.size (.tup ys)) { s with heap:=h'.push { cls:=.type "tuple",data:=.seq its.toArray } } :=
      I1.laid (t':=s.toks) (fun b o e=>Heap.get?_push_of_some _ e) (Nat.le_refl _) (show ObjOk X.prog X.w _ _ _ (.tup ys) from ⟨hz,its,r',IsTup.new _ _⟩)
    exact ⟨.ref h'.objs.size,_,I2,rfl,q _ (I1.hok.fresh (Nat.le_refl _))⟩
  · obtain ⟨its,r',pl,hz⟩:=I.tuple hq
    exact call_tuple_same pl ⟨.ref p,H,I,rfl,q⟩
def tyV (K:PySem.W.Frag) (T:String) (x:V) (H:Hp):Prop:=match x with
  | .str _=>T = "str"
  | .int _=>T = "int"
  | .ref p=>(T = "list" ∧ ∃ xs,SqL K H p xs)∨(T = "tuple" ∧ ∃ o,K.lookup p=some o∧o.cls = .type "tuple" ∧ o.dict=none) ∨
      (T = "dict" ∧ ((∃ kvs,H p=some (.dK kvs)) ∨ ∃ kvs,H p=some (.dT kvs)))∨(T = "set" ∧ ∃ S n,H p=some (.set S n))
  | _=>False
theorem tyV_is {pins:List (Addr×Obj)} {σ:St} {H:Hp} {s:Shared} {T:String} {x:V} {v:Value} (I:Inv X pins σ H s) (r:RelV x v) (ty:tyV X.K T x H) :
    s.TypeIs v T∧∀ a,v = .ref a→∃ ob,s.heap.get? a=some ob∧ob.dict=none:=by
  cases x with
  | str z=>
    obtain ⟨t,rfl⟩:=r
    cases (show T = "str" from ty)
    exact ⟨typeIs_str s z t,fun _ e=>nomatch e⟩
  | int i=>
    obtain ⟨t,rfl⟩:=r
    cases (show T = "int" from ty)
    exact ⟨typeIs_int s i t,fun _ e=>nomatch e⟩
  | ref p=>
    cases r
    rcases ty with ⟨rfl,xs,hq⟩ | ⟨rfl,o,hk,hc,hd⟩ | ⟨rfl,hk⟩ | ⟨rfl,S,n,hk⟩
    · obtain ⟨its,_,pl,_⟩:=I.list hq
      refine ⟨pl.isList.typeIs,fun a e => ?_⟩
      cases e
      obtain ⟨o,n,e,c,hd,_⟩:=pl
      exact ⟨o,e,hd⟩
    · refine ⟨⟨o,I.kIn p o hk,hc⟩,fun a e => ?_⟩
      cases e
      exact ⟨o,I.kIn _ o hk,hd⟩
    · have z:∃ o,s.heap.get? p=some o∧o.ExactDict:=by
        rcases hk with ⟨kvs,hk⟩ | ⟨kvs,hk⟩
        · obtain ⟨_,_,_,_,o,_,_,e,ex,_⟩:=I.hok p _ hk
          exact ⟨o,e,ex⟩
        · obtain ⟨_,_,_,_,o,_,_,e,ex,_⟩:=I.hok p _ hk
          exact ⟨o,e,ex⟩
      obtain ⟨o,e,ex⟩:=z
      refine ⟨⟨o,e,ex.1⟩,fun a e2 => ?_⟩
      cases e2
      exact ⟨o,e,ex.2.1⟩
    · obtain ⟨o,_,_,_,e,ex,_⟩:=I.hok p _ hk
      refine ⟨⟨o,e,ex.1⟩,fun a e2 => ?_⟩
      cases e2
      exact ⟨o,e,ex.2.1⟩
  | _=>exact False.elim ty
def tBM0 (K:PySem.W.Frag) (T:String) (r:V→List V→Hp→VK→Prop) (to:TE):TE:=fun σ H Q=>to σ H fun x H1=>tyV K T x H1∧r x [] H1 Q
def tBM (K:PySem.W.Frag) (T:String) (r:V→List V→Hp→VK→Prop) (to:TE) (t:TA):TE:=fun σ H Q=>to σ H fun x H1=>tyV K T x H1∧t σ H1 fun xs H2=>r x xs H2 Q
variable {o e:Expr} {es:List Expr} {to:TE} {t:TA} {name:Str} {apos cpos:Pos} {T id:String} {r:V→List V→Hp→VK→Prop}
theorem pe_bm0 (pa:PlainAttrs T) (slot:Slot T name id) (hty:typeOf (.builtin id)=pure (.type "method_descriptor")) (hm:MtR X id r) (ho:PE X o to)
    (hbase:attributeBase o name X.env (eval o X.env)=eval o X.env:=by rfl) (hline:(apos.endLine == cpos.line)=true:=by rfl):PE X (.Call (.Attribute o name apos) [] [] cpos) (tBM0 X.K T r to):=by
  intro pins s σ H Q I h
  refine wpAny_Call_method0_late hbase hline (thn (ho pins s σ H _ I h) fun v s1 ⟨x,H1,I1,r1,ty,q1⟩ => ?_)
  obtain ⟨h1,h2⟩:=tyV_is I1 r1 ty
  exact ⟨T,id,pa,slot,hty,h1,h2,Calls.callWith_builtin rfl (PySem.evalArgs_none (hm pins s1 σ H1 x [] v [] Q I1 r1 .nil q1))⟩
theorem pe_bm (pa:PlainAttrs T) (slot:Slot T name id) (hty:typeOf (.builtin id)=pure (.type "method_descriptor")) (hm:MtR X id r) (ho:PE X o to) (ha:PA X (e::es) t)
    (hbase:attributeBase o name X.env (eval o X.env)=eval o X.env:=by rfl)
    (hfew:((backTo cpos (starEach (e::es) X.env)).all (fun x => !x.1)&&(backToKw cpos (keywordEach [] X.env)).all (fun x=>x.1.isSome)
      && decide ((e::es).length+([]:List Keyword).length+(if ([]:List Keyword).isEmpty then 0 else 1)<30))=true:=by rfl)
    (hline:(apos.endLine == cpos.line)=true:=by rfl) (hs:starEach (e::es) X.env=(false,eval e X.env)::starEach es X.env:=by rfl) (hplain:(backTo cpos (starEach es X.env)).any (·.1)=false:=by rfl) :
    PE X (.Call (.Attribute o name apos) (e::es) [] cpos) (tBM X.K T r to t):=by
  intro pins s σ H Q I h
  refine wpAny_Call_method_late hbase hfew hline rfl (thn (ho pins s σ H _ I h) fun v s1 ⟨x,H1,I1,r1,ty,q1⟩ => ?_)
  obtain ⟨h1,h2⟩:=tyV_is I1 r1 ty
  refine ⟨T,id,pa,slot,hty,h1,h2,?_⟩
  have hA:=ha cpos pins s1 σ H1 _ I1 q1
  rw [hs] at hA ⊢
  refine Calls.callWith_builtin (by show (false||(backTo cpos (starEach es X.env)).any (·.1))=false; rw [hplain] <;> rfl) (Calls.evalArgs_plain ?_)
  exact thn hA fun us s2 ⟨vs,H2,I2,r2,q2⟩=>hm pins s2 σ H2 x vs v us Q I2 r1 r2 q2
end
end L2
namespace L2
open PySem PySem.Spec PyProof.Rows
def MtM (X:Cx) (id:String) (r:V→List V→Hp→VK→Prop):Prop :=
  ∀ (pins:List (Addr×Obj)) (s:Shared) (σ:St) (H:Hp) (x:V) (xs:List V) (v:Value) (us:List Value) (Q:VK),Inv X pins σ H s→RelV x v→Vals xs us→r x xs H Q →
    wpAny (model X.prog X.w) X.A (call (.builtin id) (v::us)) (EP X pins σ Q) X.xe s
theorem Vals.one:∀ {x:V} {us:List Value},Vals [x] us→∃ u,us=[u]∧RelV x u
  | _,_,.cons r .nil=>⟨_,rfl,r⟩
theorem Vals.eraseIdx:∀ {xs:List V} {us:List Value} (i:Nat),Vals xs us→Vals (xs.eraseIdx i) (us.eraseIdx i)
  | _,_,_,.nil => .nil
  | _,_,0,.cons _ t=>t
  | _,_,i+1,.cons r t => .cons r (Vals.eraseIdx i t)
theorem Vals.rep {xs:List V} {us:List Value} (h:Vals xs us):∀ k:Nat,Vals (List.replicate k xs).flatten (List.replicate k us).flatten
  | 0 => .nil
  | k+1=>by
    rw [List.replicate_succ,List.replicate_succ,List.flatten_cons,List.flatten_cons]
    exact Vals.append h (Vals.rep h k)
theorem foldl_rep (its:List Value):∀ (k:Nat) (acc:List Value),
    List.foldl (fun x1 x2=>x1++x2) acc.toArray (List.replicate k its.toArray)=(acc++(List.replicate k its).flatten).toArray
  | 0,acc=>by simp
  | k+1,acc=>by
    have e:acc.toArray++its.toArray=(acc++its).toArray:=by simp
    have e2:(acc++its)++(List.replicate k its).flatten=acc++(List.replicate (k+1) its).flatten:=by
      rw [List.replicate_succ,List.flatten_cons,List.append_assoc]
    rw [← e2,← foldl_rep its k (acc++its),← e,List.replicate_succ,List.foldl_cons]
section
variable {X:Cx} {pins:List (Addr×Obj)} {σ:St} {H:Hp} {s:Shared} {l b:Addr} {xs ys zs:List V}
theorem Inv.lset {its its':List Value} {n:Nat} {f:Array Value→Array Value} {t':Nat} (I:Inv X pins σ H s) (hH:H l=some (.lst xs))
    (e:s.heap.get? l=some { cls:=.type "list",data:=.seq its.toArray n }) (hf:f its.toArray=its'.toArray) (hv:Vals ys its') (hz:ys.length≤sizeLine) :
    Inv X pins σ (upd H l (.lst ys)) { s with heap:=s.heap.update l (Obj.mapSeq f),toks:=t' }:=by
  have q:=PySem.IsL.update e f
  rw [hf] at q
  refine I.write (x:=l) (e:=l) (by rw [hH]; exact trivial) (.inl rfl) (fun b' u hb hu=>(Heap.get?_update_other s.heap (Obj.mapSeq f) (Ne.symm hb)).trans hu) ⟨_,q⟩ ?_
  exact ⟨hz,its',_,hv,q⟩
theorem Inv.lnew {its:List Value} {t':Nat} (I:Inv X pins σ H s) (hv:Vals ys its) (hz:ys.length≤sizeLine) :
    Inv X pins σ (upd H s.heap.objs.size (.lst ys)) { s with heap:=s.heap.push { cls:=.type "list",data:=.seq its.toArray },toks:=t' } :=
  I.laid (fun _ _ q=>Heap.get?_push_of_some _ q) (Nat.le_refl _) ⟨hz,its,0,hv,Heap.get?_push_size _ rfl⟩
theorem Inv.fresh (I:Inv X pins σ H s):H s.heap.objs.size=none:=I.hok.fresh (Nat.le_refl _)
theorem Inv.lstM (I:Inv X pins σ H s) (hH:H l=some (.lst xs)):xs.length≤sizeLine∧∃ (its:List Value) (n:Nat),Vals xs its∧xs.length=its.length∧s.heap.get? l=some { cls:=.type "list",data:=.seq its.toArray n }:=by
  obtain ⟨z,its,n,r,e⟩:=I.hok l _ hH
  exact ⟨z,its,n,r,r.length,e⟩
theorem notLongL {n:Nat} (h:n≤sizeLine):Builtin.List.listTooLong n=false:=by
  unfold Builtin.List.listTooLong
  exact decide_eq_false (by omega)
end
section
variable {X:Cx}
def rAppend:V→List V→Hp→VK→Prop:=fun x vs H Q => ∃ l xs y,x = .ref l∧vs=[y]∧H l=some (.lst xs)∧xs.length<sizeLine∧Q .non (upd H l (.lst (xs++[y])))
theorem mt_append:MtM X "list.append" rAppend:=by
  intro pins s σ H x vs v us Q I rx rv h
  obtain ⟨l,xs,y,rfl,rfl,hH,hz,q⟩:=h
  cases rx
  obtain ⟨u,rfl,ru⟩:=rv.one
  obtain ⟨z,its,n,r,hl,e⟩:=I.lstM hH
  refine call_meets F.slot_list_append ⟨_,e,rfl⟩ F.entry_list_append (F.args_list_append_2 _ _) (PySem.list_append l its.toArray n u (by rw [List.size_toArray]; omega)) ⟨e,?_⟩
  refine ⟨.non,_,I.lset (its':=its++[u]) hH e (by simp) (r.append (.cons ru .nil)) ?_,rfl,q⟩
  rw [List.length_append,List.length_singleton]
  omega
def rExtend:V→List V→Hp→VK→Prop:=fun x vs H Q => ∃ l b xs zs,x = .ref l∧vs=[.ref b]∧H l=some (.lst xs)∧H b=some (.lst zs)∧xs.length+zs.length≤sizeLine∧Q .non (upd H l (.lst (xs++zs)))
theorem mt_extend:MtM X "list.extend" rExtend:=by
  intro pins s σ H x vs v us Q I rx rv h
  obtain ⟨l,b,xs,zs,rfl,rfl,hH,hB,hz,q⟩:=h
  cases rx
  obtain ⟨u,rfl,ru⟩:=rv.one
  cases ru
  obtain ⟨z,its,n,r,hl,e⟩:=I.lstM hH
  obtain ⟨z2,its2,n2,r2,hl2,e2⟩:=I.lstM hB
  have hsz:its.toArray.size+its2.toArray.size≤sizeLine:=by rw [List.size_toArray,List.size_toArray]; omega
  have hlong:¬ (!its.toArray.isEmpty&&Builtin.List.listTooLong (its.toArray.size+its2.toArray.size))=true:=by
    rw [notLongL hsz,Bool.and_false]
    exact Bool.false_ne_true
  refine call_meets F.slot_list_extend ⟨_,e,rfl⟩ F.entry_list_extend (F.args_list_extend_2 _ _)
    (AutoSeq1.list_extend_list_list_0 l its.toArray n b its2.toArray n2 hlong (by rw [List.size_toArray]; omega) (by omega)) ⟨e,e2,?_⟩
  refine ⟨.non,_,I.lset (its':=its++its2) hH e (by simp) (r.append r2) ?_,rfl,q⟩
  rw [List.length_append]
  omega
def rCat:R2:=fun x y H Q => ∃ l b xs zs,x = .ref l∧y = .ref b∧H l=some (.lst xs)∧H b=some (.lst zs)∧xs.length+zs.length≤sizeLine∧∀ p,H p=none→Q (.ref p) (upd H p (.lst (xs++zs)))
theorem op_cat:OpR X (binaryOp .Add) rCat:=by
  intro pins s σ H x y v u Q I rx ry h
  obtain ⟨l,b,xs,zs,rfl,rfl,hH,hB,hz,q⟩:=h
  cases rx
  cases ry
  obtain ⟨z,its,n,r,hl,e⟩:=I.lstM hH
  obtain ⟨z2,its2,n2,r2,hl2,e2⟩:=I.lstM hB
  refine PySem.P.add_list e e2 ?_ (by rw [List.size_toArray,List.size_toArray]; omega)
  have ea:its.toArray++its2.toArray=(its++its2).toArray:=by simp
  rw [ea]
  exact ⟨.ref _,_,I.lnew (t':=s.toks) (r.append r2) (by rw [List.length_append]; omega),rfl,q _ I.fresh⟩
def rRep:R2:=fun x y H Q => ∃ l k xs,x = .ref l∧y = .int k∧H l=some (.lst xs) ∧ -(2 ^ 63)≤k∧k<2 ^ 63∧xs.length*k.toNat≤sizeLine ∧
  ∀ p,H p=none→Q (.ref p) (upd H p (.lst (List.replicate k.toNat xs).flatten))
theorem len_rep {α:Type} (xs:List α) (k:Nat):(List.replicate k xs).flatten.length=k*xs.length:=by
  induction k with
  | zero=>simp
  | succ k ih=>rw [List.replicate_succ,List.flatten_cons,List.length_append,ih,Nat.succ_mul,Nat.add_comm]
theorem op_rep:OpR X (binaryOp .Mult) rRep:=by
  intro pins s σ H x y v u Q I rx ry h
  obtain ⟨l,k,xs,rfl,rfl,hH,h1,h2,hz,q⟩:=h
  cases rx
  obtain ⟨t,rfl⟩:=ry
  obtain ⟨z,its,n,r,hl,e⟩:=I.lstM hH
  have hlen:its.toArray.size*k.toNat≤sizeLine:=by rw [List.size_toArray,← hl]; exact hz
  have hcap:¬ its.toArray.size*k.toNat > (2 ^ 63 - 1) / 8:=by
    have:(sizeLine:Nat)≤(2 ^ 63 - 1) / 8:=by decide
    omega
  have hfit:¬ (!Builtin.List.listFitsIndex k)=true:=by
    rw [fitsIndex_both h1 h2]
    exact Bool.false_ne_true
  have hlong:¬ Builtin.List.listTooLong (its.toArray.size*k.toNat)=true:=by
    rw [notLongL hlen]
    exact Bool.false_ne_true
  have hnew:List.foldl (fun x1 x2=>x1++x2) #[] (List.replicate (if its.toArray.isEmpty=true then 0 else k.toNat) its.toArray)=(List.replicate k.toNat its).flatten.toArray:=by
    have f0:∀ m:Nat,List.foldl (fun x1 x2=>x1++x2) #[] (List.replicate m its.toArray)=(List.replicate m its).flatten.toArray:=fun m=>by
      have:=foldl_rep its m []
      rw [List.nil_append] at this
      exact this
    rw [f0]
    cases its with
    | nil=>simp
    | cons a r'=>rw [if_neg (by simp)]
  refine wpAny_binaryOp_repeat_ref (T := "list") (U := "int") (by decide) ⟨_,e,rfl⟩ (fun s'=>typeIs_int s' k t) noFill_list_mul F.fills_int_mul F.slot_int_rmul repeat_list F.slot_int_index.lookup
    (call_meets F.slot_int_rmul (typeIs_int s k t) F.entry_int_rmul (F.args_int_rmul_2 _ _) (int___rmul___int_list k t l its.toArray n)
      ⟨e,rfl,⟨_,e,rfl⟩,call_meets F.slot_list_mul ⟨_,e,rfl⟩ F.entry_list_mul (F.args_list_mul_2 _ _) (AutoListH.list___mul___list_int_3 l its.toArray n k t hfit hcap hlong) ⟨e,?_⟩⟩)
  rw [hnew]
  exact ⟨.ref _,_,I.lnew (t':=s.toks) (r.rep k.toNat) (by rw [len_rep,Nat.mul_comm]; exact hz),rfl,q _ I.fresh⟩
end
section
variable {prog:Program} {w:World} {A:Around} {E:Value→Shared→Prop} {s:Shared}
end
section
variable {X:Cx}
end
end L2
namespace L2
open PySem PySem.Spec PyProof.Rows
theorem Vals.ints:∀ {ns:List Int} {us:List Value},Vals (ns.map V.int) us→IntsAre us ns
  | [],us,h=>by
    rw [List.map_nil] at h
    cases h
    exact IntsAre.nil
  | n::ns,us,h=>by
    rw [List.map_cons] at h
    cases h with
    | cons r t=>
      obtain ⟨k,rfl⟩:=r
      exact IntsAre.cons n k (Vals.ints t)
theorem vals_of_ints:∀ {us:List Value} {ns:List Int},IntsAre us ns→Vals (ns.map V.int) us
  | _,_,.nil=>by rw [List.map_nil]; exact Paired.nil
  | _,_,.cons n t h=>by rw [List.map_cons]; exact Paired.cons (show RelV (V.int n) (Value.int n t) from ⟨t,rfl⟩) (vals_of_ints h)
theorem Vals.ref1 {a:Addr} {us:List Value} (r:Vals [V.ref a] us):us=[Value.ref a]:=by
  cases r with
  | cons r t=>
    cases t
    cases r
    rfl
section
variable {prog:Program} {w:World} {A:Around} {E:Value→Shared→Prop} {s:Shared} {l:Addr} {its:List Value} {ns:List Int} {Q:Value→Shared→Prop}
end
section
variable {X:Cx}
end
section
variable {X:Cx}
end
section
variable {X:Cx}
end
section
variable {X:Cx}
end
mutual
inductive Dp (K:PySem.W.Frag) (H:Hp):V→PyData→Prop
  | non:Dp K H .non .none
  | bl (b:Bool):Dp K H (.bl b) (.bool b)
  | int (i:Int):Dp K H (.int i) (.int i)
  | str (x:Str):Dp K H (.str x) (.str x)
  | lst {a:Addr} {xs:List V} {ds:List PyData}:SqL K H a xs→DpAll K H xs ds→Dp K H (.ref a) (.list ds)
  | tup {a:Addr} {xs:List V} {ds:List PyData}:SqT K H a xs→DpAll K H xs ds→Dp K H (.ref a) (.tuple ds)
inductive DpAll (K:PySem.W.Frag) (H:Hp):List V→List PyData→Prop
  | nil:DpAll K H [] []
  | cons {v:V} {vs:List V} {d:PyData} {ds:List PyData}:Dp K H v d→DpAll K H vs ds→DpAll K H (v::vs) (d::ds)
end
section
variable {X:Cx} {pins:List (Addr×Obj)} {σ:St} {H:Hp} {s:Shared}
mutual
theorem Dp.reads (I:Inv X pins σ H s):∀ (d:PyData) (v:V) (u:Value),Dp X.K H v d→RelV v u→∃ as,Reads s.heap u d as
  | .none,_,_,h,r=>by
    cases h
    cases r
    exact ⟨_,Reads.none⟩
  | .bool b,_,_,h,r=>by
    cases h
    cases r
    exact ⟨_,Reads.bool b⟩
  | .int i,_,_,h,r=>by
    cases h
    obtain ⟨t,rfl⟩:=r
    exact ⟨_,Reads.int i t⟩
  | .str x,_,_,h,r=>by
    cases h
    obtain ⟨t,rfl⟩:=r
    exact ⟨_,Reads.str x t⟩
  | .list ds,_,_,h,r=>by
    cases h with
    | lst hs ha=>
      cases r
      obtain ⟨its,rv,⟨o,n,ho,hc,_,hd⟩,_⟩:=I.list hs
      obtain ⟨as,hr⟩:=Dp.readsAll I ds _ its ha rv
      exact ⟨_,Reads.list ho hc hd hr⟩
  | .tuple ds,_,_,h,r=>by
    cases h with
    | tup hs ha=>
      cases r
      obtain ⟨its,rv,⟨o,ho,hc,n,hd⟩,_⟩:=I.tuple hs
      obtain ⟨as,hr⟩:=Dp.readsAll I ds _ its ha rv
      exact ⟨_,Reads.tuple ho hc hd hr⟩
  | .dict _,_,_,h,_=>by cases h
theorem Dp.readsAll (I:Inv X pins σ H s):∀ (ds:List PyData) (vs:List V) (us:List Value),DpAll X.K H vs ds→Vals vs us→∃ as,ReadsAll s.heap us ds as
  | [],_,_,h,r=>by
    cases h
    cases r
    exact ⟨_,ReadsAll.nil⟩
  | d::ds,_,_,h,r=>by
    cases h with
    | cons h1 h2=>
      cases r with
      | cons r1 r2=>
        obtain ⟨as,q1⟩:=Dp.reads I d _ _ h1 r1
        obtain ⟨bs,q2⟩:=Dp.readsAll I ds _ _ h2 r2
        exact ⟨_,ReadsAll.cons q1 q2⟩
end
end
section
variable {X:Cx}
def rEqD (K:PySem.W.Frag):R2:=fun x y H Q => ∃ d e,Dp K H x d∧Dp K H y e∧SeqAt.shaped d=true∧SeqAt.shaped e=true∧Q (.bl (PyData.eqv d e)) H
def rNeD (K:PySem.W.Frag):R2:=fun x y H Q => ∃ d e,Dp K H x d∧Dp K H y e∧SeqAt.shaped d=true∧SeqAt.shaped e=true∧Q (.bl (!PyData.eqv d e)) H
theorem op_eqD (hu:X.A.units+64<cLine):OpR X (compareOp .Eq) (rEqD X.K):=by
  intro pins s σ H x y v u Q I rx ry h
  obtain ⟨d,e,hd,he,sd,se,q⟩:=h
  obtain ⟨as,r1⟩:=Dp.reads I d x v hd rx
  obtain ⟨bs,r2⟩:=Dp.reads I e y u he ry
  exact SeqAt.compareEq_shaped r1 r2 sd se hu ⟨.bl _,H,I,rfl,q⟩
theorem op_neD (hu:X.A.units+64<cLine):OpR X (compareOp .NotEq) (rNeD X.K):=by
  intro pins s σ H x y v u Q I rx ry h
  obtain ⟨d,e,hd,he,sd,se,q⟩:=h
  obtain ⟨as,r1⟩:=Dp.reads I d x v hd rx
  obtain ⟨bs,r2⟩:=Dp.reads I e y u he ry
  exact SeqAt.compareNe_shaped r1 r2 sd se hu ⟨.bl _,H,I,rfl,q⟩
end
end L2
namespace L2
open PySem PySem.Spec PyProof.Rows
abbrev CellAt (h:Heap) (c:Addr) (v:Option Value):Prop:=h.IsCell c v
def relS (scope sc:Scope):Scope :=
  { scope with names:=scope.names.map fun (n,k)=>if (k == .free&&sc.kind == .function&&sc.names.lookup n == some .cell) then (n,.cell) else (n,k) }
def cloFrom (cells:List (Str×Addr)):List (Str×NameKind)→List (Str×Addr)→List (Str×Addr)
  | [],acc=>acc
  | (n,k)::r,acc=>if k == .free then cloFrom cells r ((n,(cells.lookup n).getD 0)::acc) else cloFrom cells r acc
theorem closure_loop (env:Env) (f:Str×NameKind→List (Str×Addr)→Sem (ForInStep (List (Str×Addr))))
    (hf:∀ n k c,f (n,k) c=if k == .free then (do let a ← cellOf env n; pure (.yield ((n,a)::c))) else pure (.yield c)) :
    ∀ (names:List (Str×NameKind)) (acc:List (Str×Addr)),(∀ y∈names,y.2 = .free→∃ c,env.cells.lookup y.1=some c)→forIn names acc f=pure (cloFrom env.cells names acc)
  | [],acc,_=>by rw [List.forIn_nil]; rfl
  | (n,k)::r,acc,h=>by
    rw [List.forIn_cons,hf]
    have ih:=fun acc=>closure_loop env f hf r acc fun y hy=>h y (List.mem_cons_of_mem _ hy)
    unfold cloFrom
    by_cases hk:(k == NameKind.free)=true
    · rw [if_pos hk,if_pos hk]
      obtain ⟨c,hc⟩:=h (n,k) List.mem_cons_self (by simpa using hk)
      have e:cellOf env n=pure c:=by unfold cellOf; rw [hc]
      rw [e]
      have e2:(env.cells.lookup n).getD 0=c:=by rw [hc]; rfl
      rw [e2]
      exact ih _
    · rw [if_neg hk,if_neg hk]
      exact ih _
theorem closure_ok {scope:Scope} {env:Env} (h:∀ y∈scope.names,y.2 = .free→∃ c,env.cells.lookup y.1=some c):closureFor scope env=pure (cloFrom env.cells scope.names []):=by
  simp only [closureFor]
  rw [closure_loop env _ (fun n k c=>rfl) scope.names [] h]
  rfl
theorem mem_lookup {α:Type}:∀ {l:List (Str×α)} {n:Str} {c:α},(n,c)∈l→∃ c',l.lookup n=some c'
  | (k,v)::r,n,c,h=>by
    rw [List.lookup_cons]
    cases hb:n == k with
    | true=>exact ⟨_,rfl⟩
    | false=>
      rcases List.mem_cons.mp h with e | h
      · cases e; simp at hb
      · exact mem_lookup h
theorem cloFrom_mem {cells:List (Str×Addr)}:∀ {names:List (Str×NameKind)} {acc:List (Str×Addr)} {n:Str} {c:Addr},(n,c)∈cloFrom cells names acc→(n,c)∈acc∨((n,.free)∈names∧c=(cells.lookup n).getD 0)
  | [],_,_,_,h => .inl h
  | (m,k)::r,acc,n,c,h=>by
    unfold cloFrom at h
    split at h
    · rename_i hk
      have hk:k = .free:=by simpa using hk
      rcases cloFrom_mem h with h | ⟨h1,h2⟩
      · rcases List.mem_cons.mp h with e | h
        · cases e; exact .inr ⟨hk▸List.mem_cons_self,rfl⟩
        · exact .inl h
      · exact .inr ⟨List.mem_cons_of_mem _ h1,h2⟩
    · rcases cloFrom_mem h with h | ⟨h1,h2⟩
      · exact .inl h
      · exact .inr ⟨List.mem_cons_of_mem _ h1,h2⟩
theorem cloFrom_acc {cells:List (Str×Addr)}:∀ {names:List (Str×NameKind)} {acc:List (Str×Addr)} {p:Str×Addr},p∈acc→p∈cloFrom cells names acc
  | [],_,_,h=>h
  | (m,k)::r,acc,p,h=>by
    unfold cloFrom
    split
    · exact cloFrom_acc (List.mem_cons_of_mem _ h)
    · exact cloFrom_acc h
theorem cloFrom_has {cells:List (Str×Addr)}:∀ {names:List (Str×NameKind)} {acc:List (Str×Addr)} {n:Str},(n,.free)∈names→(n,(cells.lookup n).getD 0)∈cloFrom cells names acc
  | (m,k)::r,acc,n,h=>by
    unfold cloFrom
    rcases List.mem_cons.mp h with e | h
    · cases e
      exact cloFrom_acc List.mem_cons_self
    · split
      · exact cloFrom_has h
      · exact cloFrom_has h
theorem cells_mem:∀ {names:List (Str×NameKind)} {h:Heap} {acc:List (Str×Addr)} {x:Str} {c:Addr},(x,c)∈cellsFrom h.objs.size names acc →
    (x,c)∈acc∨((x,.cell)∈names∧h.objs.size≤c∧CellAt (pushCells h names) c none)
  | [],_,_,_,_,h => .inl h
  | (n,k)::r,h,acc,x,c,hm=>by
    unfold cellsFrom at hm
    unfold pushCells
    split at hm
    · rename_i hk
      rw [if_pos hk]
      have hk:k = .cell:=by simpa using hk
      rw [← Heap.size_push h { cls:=.type "cell",data:=.cell none }] at hm
      rcases cells_mem hm with hm | ⟨h1,h2,h3⟩
      · rcases List.mem_cons.mp hm with e | hm
        · cases e
          exact .inr ⟨hk▸List.mem_cons_self,Nat.le_refl _,_,pushCells_keeps r _ _ _ (Heap.get?_push_size _ rfl),rfl⟩
        · exact .inl hm
      · rw [Heap.size_push] at h2
        exact .inr ⟨List.mem_cons_of_mem _ h1,Nat.le_of_succ_le h2,h3⟩
    · rename_i hk
      rw [if_neg hk]
      rcases cells_mem hm with hm | ⟨h1,h2,h3⟩
      · exact .inl hm
      · exact .inr ⟨List.mem_cons_of_mem _ h1,h2,h3⟩
theorem cells_acc:∀ {names:List (Str×NameKind)} {n:Nat} {acc:List (Str×Addr)} {p:Str×Addr},p∈acc→p∈cellsFrom n names acc
  | [],_,_,_,h=>h
  | (m,k)::r,n,acc,p,h=>by
    unfold cellsFrom
    split
    · exact cells_acc (List.mem_cons_of_mem _ h)
    · exact cells_acc h
theorem cells_has:∀ {names:List (Str×NameKind)} {n:Nat} {acc:List (Str×Addr)} {x:Str},(x,.cell)∈names→∃ c,(x,c)∈cellsFrom n names acc
  | (m,k)::r,n,acc,x,h=>by
    unfold cellsFrom
    rcases List.mem_cons.mp h with e | h
    · cases e
      exact ⟨n,cells_acc List.mem_cons_self⟩
    · split
      · exact cells_has h
      · exact cells_has h
theorem cells_inj:∀ {names:List (Str×NameKind)} {h:Heap} {acc:List (Str×Addr)} {x y:Str} {c:Addr},(∀ p∈acc,p.2<h.objs.size)→(∀ x y c,(x,c)∈acc→(y,c)∈acc→x=y) →
    (x,c)∈cellsFrom h.objs.size names acc→(y,c)∈cellsFrom h.objs.size names acc→x=y
  | [],_,_,_,_,_,_,hi,h1,h2=>hi _ _ _ h1 h2
  | (n,k)::r,h,acc,x,y,c,hl,hi,h1,h2=>by
    unfold cellsFrom at h1 h2
    split at h1
    · rename_i hk
      rw [if_pos hk] at h2
      rw [← Heap.size_push h { cls:=.type "cell",data:=.cell none }] at h1 h2
      refine cells_inj (h:=h.push _) (fun p hp => ?_) (fun x y c a b => ?_) h1 h2
      · rw [Heap.size_push]
        rcases List.mem_cons.mp hp with rfl | hp
        · exact Nat.lt_succ_self _
        · exact Nat.lt_succ_of_lt (hl p hp)
      · rcases List.mem_cons.mp a with e | a <;> rcases List.mem_cons.mp b with e' | b
        · cases e; cases e'; rfl
        · cases e; exact absurd (hl _ b) (Nat.lt_irrefl _)
        · cases e'; exact absurd (hl _ a) (Nat.lt_irrefl _)
        · exact hi _ _ _ a b
    · rename_i hk
      rw [if_neg hk] at h2
      exact cells_inj hl hi h1 h2
theorem newEnv_comp {M:Model} {A:Around} {E:Value→Shared→Prop} {s:Shared} {scope:Scope} {globals:Addr} {closure:List (Str×Addr)} {qual:Str} {func:Option Addr} {code:Value} {around:Env} {builtins:Addr} {Q:Env→Shared→Prop}
    (h:Q (newEnv scope s.heap.objs.size globals (cellsFrom (s.heap.objs.size+1) scope.names closure) qual func code (some around) builtins)
      { s with heap:=pushCells (s.heap.push { cls:=.type "dict",data:=.dict #[] }) scope.names }) :
    wpAny M A (newFunctionEnv scope globals closure [] qual func code (some around) builtins) Q E s:=by
  simp only [newFunctionEnv,Option.isSome_some,if_true]
  refine wpAny_bind (wpAny_alloc ?_)
  refine wpAny_bind (wpAny_layCells _ (fun n k c=>rfl) scope.names closure _ _ ?_)
  rw [show ({ s with heap:=s.heap.push { cls:=.type "dict",data:=.dict #[] } }:Shared).heap.objs.size=s.heap.objs.size+1 from Heap.size_push ..]
  rw [List.forIn_nil]
  exact wpAny_bind (wpAny_pure (wpAny_pure h))
theorem lookup_relS {sc:Scope}:∀ {names:List (Str×NameKind)} {x:Str} {k:NameKind},
    (names.map fun (n,k)=>if (k == NameKind.free&&sc.kind == .function&&sc.names.lookup n == some .cell) then (n,NameKind.cell) else (n,k)).lookup x=some k →
    ∃ k',names.lookup x=some k'∧(k=k'∨(k' = .free∧k = .cell))
  | [],_,_,h=>by simp at h
  | (n,k₀)::r,x,k,h=>by
    have ih:=@lookup_relS sc r x k
    have h':List.lookup x ((if (k₀ == NameKind.free&&sc.kind == .function&&sc.names.lookup n == some .cell)=true then (n,NameKind.cell) else (n,k₀))::(r.map _))=some k:=h
    cases hx:x == n with
    | true=>
      simp only [List.lookup_cons,hx]
      by_cases hc:(k₀ == NameKind.free&&sc.kind == .function&&sc.names.lookup n == some .cell)=true
      · rw [if_pos hc] at h'
        simp only [List.lookup_cons,hx] at h'
        cases h'
        simp only [Bool.and_eq_true,beq_iff_eq] at hc
        exact ⟨k₀,rfl,.inr ⟨hc.1.1,rfl⟩⟩
      · rw [if_neg hc] at h'
        simp only [List.lookup_cons,hx] at h'
        cases h'
        exact ⟨_,rfl,.inl rfl⟩
    | false=>
      simp only [List.lookup_cons,hx]
      by_cases hc:(k₀ == NameKind.free&&sc.kind == .function&&sc.names.lookup n == some .cell)=true
      · rw [if_pos hc] at h'
        simp only [List.lookup_cons,hx] at h'
        exact ih h'
      · rw [if_neg hc] at h'
        simp only [List.lookup_cons,hx] at h'
        exact ih h'
structure BlkOk (N:List Str) (sc scope:Scope) (own:List (Str×Nat)):Prop where
  kind:scope.kind = .function
  uniq:∀ y∈scope.names,scope.names.lookup y.1=some y.2
  ix:∀ p∈own,N[p.2]? = some p.1
  free:∀ y∈scope.names,y.2 = .free→sc.names.lookup y.1=some .cell∨sc.names.lookup y.1=some .free
  own:∀ y∈scope.names,y.2 = .local∨y.2 = .cell→y.1∈own.map (·.1)∨y.1 ∉ N
def wipe (σ:St):List Nat→St
  | []=>σ
  | v::vs=>(wipe σ vs).set v none
theorem wipe_length (σ:St):∀ vs:List Nat,(wipe σ vs).length=σ.length
  | []=>rfl
  | v::vs=>by unfold wipe; rw [List.length_set,wipe_length σ vs]
theorem wipe_some {σ:St} {i:Nat} {x:V}:∀ {vs:List Nat},(wipe σ vs)[i]? = some (some x)→σ[i]? = some (some x)∧i ∉ vs
  | [],h=>⟨h,by simp⟩
  | v::vs,h=>by
    unfold wipe at h
    by_cases hi:v=i
    · subst hi
      by_cases hv:v<(wipe σ vs).length
      · rw [List.getElem?_set_self hv] at h; cases h
      · rw [List.getElem?_eq_none (by simpa using hv)] at h; cases h
    · rw [List.getElem?_set_ne hi] at h
      obtain ⟨h1,h2⟩:=wipe_some h
      exact ⟨h1,by simp only [List.mem_cons,not_or]; exact ⟨fun e=>hi e.symm,h2⟩⟩
abbrev Cx.blk (X:Cx) (s:Shared) (H:Hp) (scope:Scope) (cenv:Env) (fp:List Addr):Cx:={ X with s_0:=s,H_0:=H,env:=cenv,outer:=X.stack,ex:=fp,fn:=fun x=>scope.names.lookup x == some .cell,pn:=[],xe:=fun _ _=>False }
section
variable {X:Cx} {pins:List (Addr×Obj)} {σ:St} {H:Hp} {s:Shared}
theorem block_start {scope:Scope} {own:List (Str×Nat)} {fp:List Addr} (I:Inv X pins σ H s) (ok:BlkOk X.N X.env.scope scope own) (hN:X.N.Nodup) (hfp:∀ b∈fp,FpOk X pins H b∧b<s.heap.objs.size) :
    Inv (X.blk s H scope (compEnvC scope (cellsFrom (s.heap.objs.size+1) scope.names (cloFrom X.env.cells scope.names [])) s.heap.objs.size X.env) fp) [] (wipe σ (own.map (·.2))) H { s with heap:=pushCells (s.heap.push { cls:=.type "dict",data:=.dict #[] }) scope.names }:=by
  have hfree:∀ y∈scope.names,y.2 = .free→∃ c,X.env.cells.lookup y.1=some c:=fun y hy e=>by
    rcases ok.free y hy e with k | k
    · exact I.ok.has _ (.inl k)
    · exact I.ok.has _ (.inr k)
  generalize hcenv:compEnvC scope (cellsFrom (s.heap.objs.size+1) scope.names (cloFrom X.env.cells scope.names [])) s.heap.objs.size X.env=cenv
  have kp:∀ b o,s.heap.get? b=some o→(pushCells (s.heap.push { cls:=.type "dict",data:=.dict #[] }) scope.names).get? b=some o:=fun b o e=>pushCells_keeps _ _ _ _ (Heap.get?_push_of_some _ e)
  have hL:cenv.locals=s.heap.objs.size:=by rw [← hcenv]; rfl
  have hcl:cenv.cells=cellsFrom (s.heap.objs.size+1) scope.names (cloFrom X.env.cells scope.names []):=by rw [← hcenv]; rfl
  have hsc:cenv.scope=relS scope X.env.scope:=by rw [← hcenv]; rfl
  rw [← Heap.size_push s.heap { cls:=.type "dict",data:=.dict #[] }] at hcl
  have cm:∀ {y c},(y,c)∈cloFrom X.env.cells scope.names []→X.env.cells.lookup y=some c∧c<s.heap.objs.size:=fun {y c} hm=>by
    rcases cloFrom_mem hm with hm | ⟨h1,rfl⟩
    · cases hm
    · obtain ⟨c,hc⟩:=hfree _ h1 rfl
      rw [hc]
      obtain ⟨w,z⟩:=I.cell _ _ hc
      exact ⟨rfl,z.lt⟩
  have mem:∀ {y c},cenv.cells.lookup y=some c→(X.env.cells.lookup y=some c∧c<s.heap.objs.size)∨(s.heap.objs.size+1≤c∧CellAt (pushCells (s.heap.push { cls:=.type "dict",data:=.dict #[] }) scope.names) c none):=fun {y c} e=>by
    rw [hcl] at e
    rcases cells_mem (PySem.mem_of_lookup e) with hm | ⟨_,h2,h3⟩
    · exact .inl (cm hm)
    · rw [Heap.size_push] at h2; exact .inr ⟨h2,h3⟩
  have look:∀ {y},scope.names.lookup y=some .free→∃ c,cenv.cells.lookup y=some c∧X.env.cells.lookup y=some c:=fun {y} hl=>by
    have hy:(y,NameKind.free)∈scope.names:=PySem.mem_of_lookup hl
    obtain ⟨c',e'⟩:=mem_lookup (cells_acc (names:=scope.names) (n:=(s.heap.push { cls:=.type "dict",data:=.dict #[] }).objs.size) (cloFrom_has (cells:=X.env.cells) (acc:=[]) hy))
    rw [← hcl] at e'
    refine ⟨c',e',?_⟩
    rw [hcl] at e'
    rcases cells_mem (PySem.mem_of_lookup e') with hm | ⟨h1,_,_⟩
    · exact (cm hm).1
    · have:=ok.uniq _ h1
      rw [hl] at this; cases this
  have okB:(X.blk s H scope cenv fp).Ok:=by
    refine ⟨I.ok.mod,by show cenv.scope.kind=_; rw [hsc]; exact ok.kind,by show cenv.globals=_; rw [← hcenv]; exact I.ok.glob,by show cenv.builtins=_; rw [← hcenv]; exact I.ok.blt,by show s.heap.objs.size≤cenv.locals; rw [hL]; exact Nat.le_refl _,
      fun y z c e1 e2 => ?_,fun y hy => ?_,fun y c z e => ?_,I.ok.hd,I.ok.frames,.inl rfl,fun b hb=>⟨?_,fun y c e z => ?_⟩,I.bs,Nat.le_trans I.ok.bsz I.sz,fun b o e hb => ?_,fun b hb z => ?_,I.stack,I.stkFree⟩
    · have e1:cenv.cells.lookup y=some c:=e1
      have e2:cenv.cells.lookup z=some c:=e2
      rw [hcl] at e1 e2
      refine cells_inj (fun p hp => ?_) (fun y z c a b=>I.ok.inj y z c (cm a).1 (cm b).1) (PySem.mem_of_lookup e1) (PySem.mem_of_lookup e2)
      rw [Heap.size_push]
      exact Nat.lt_succ_of_lt (cm (y:=p.1) (c:=p.2) hp).2
    · show ∃ c,cenv.cells.lookup y=some c
      have key:∀ k,cenv.kindOf y=some k→(k = .cell∨k = .free)→∃ c,cenv.cells.lookup y=some c:=fun k hk hk'=>by
        unfold Env.kindOf at hk
        rw [hsc] at hk
        obtain ⟨k',e,r⟩:=lookup_relS hk
        have:k' = .cell∨k' = .free:=by
          rcases r with rfl | ⟨rfl,_⟩
          · exact hk'
          · exact .inr rfl
        rcases this with rfl | rfl
        · obtain ⟨c,hm⟩:=cells_has (n:=(s.heap.push { cls:=.type "dict",data:=.dict #[] }).objs.size) (acc:=cloFrom X.env.cells scope.names []) (PySem.mem_of_lookup e)
          obtain ⟨c',e'⟩:=mem_lookup hm
          exact ⟨c',by rw [hcl]; exact e'⟩
        · obtain ⟨c,h1,_⟩:=look e
          exact ⟨c,h1⟩
      rcases hy with hy | hy
      · exact key _ hy (.inl rfl)
      · exact key _ hy (.inr rfl)
    · have z:(scope.names.lookup y == some NameKind.cell)=true:=z
      have z:scope.names.lookup y=some .cell:=by simpa using z
      have e:cenv.cells.lookup y=some c:=e
      rw [hcl] at e
      rcases cells_mem (PySem.mem_of_lookup e) with hm | ⟨_,h2,_⟩
      · rcases cloFrom_mem hm with hm | ⟨h1,_⟩
        · cases hm
        · have q:=ok.uniq _ h1
          rw [z] at q; cases q
      · rw [Heap.size_push] at h2
        exact Nat.le_of_succ_le h2
    · show b≠cenv.locals
      rw [hL]; exact Nat.ne_of_lt (hfp b hb).2
    · have e:cenv.cells.lookup y=some c:=e
      rcases mem e with ⟨h1,_⟩ | ⟨h1,_⟩
      · exact (hfp b hb).1.2.2.2.2.1 y c h1 z
      · have h2:s.heap.objs.size+1≤b:=by rw [← z]; exact h1
        exact absurd (Nat.lt_of_lt_of_le (hfp b hb).2 (Nat.le_of_succ_le h2)) (Nat.lt_irrefl _)
    · rcases (hfp b hb).1.2.2.2.1 with z | z
      · exact I.ok.noex b o e z
      · exact absurd (Nat.lt_of_lt_of_le (Heap.lt_size e) (Nat.le_trans I.ok.bsz z)) (Nat.lt_irrefl _)
    · rcases List.mem_cons.mp (I.stkSub b z) with z | z
      · exact (hfp b hb).1.2.1 z
      · exact (hfp b hb).1.2.2.1 z
  refine ⟨okB,rfl,I.bare,Un.kept kp,⟨fun _=>none,?_,fun i y av e1 e2 e3 => ?_⟩,fun y c e => ?_,?_,fun y c e => ?_,fun p hp => ?_,I.hok.kept kp,by rw [wipe_length]; exact I.len⟩
  · show Heap.Ns _ cenv.locals _
    rw [hL]
    exact Heap.Ns.keeps (Heap.Ns.new ..) fun b o e=>pushCells_keeps _ _ _ _ e
  · obtain ⟨e2,hne⟩:=wipe_some e2
    have hfr:scope.names.lookup y=some .free∧(cenv.kindOf y=some .cell∨cenv.kindOf y=some .free):=by
      have key:∀ k,cenv.scope.names.lookup y=some k→k = .local∨k = .cell∨k = .free→scope.names.lookup y=some .free∧(cenv.kindOf y=some .cell∨cenv.kindOf y=some .free):=fun k hk hk'=>by
        have hk0:=hk
        rw [hsc] at hk
        obtain ⟨k',e,r⟩:=lookup_relS hk
        have no:¬ (k' = .local∨k' = .cell):=fun hh=>by
          rcases ok.own _ (PySem.mem_of_lookup e) hh with e' | e'
          · obtain ⟨p,hp,hpy⟩:=List.mem_map.mp e'
            have e3:=ok.ix p hp
            have:p.1=y:=hpy
            rw [this] at e3
            exact hne (List.mem_map.mpr ⟨p,hp,nodup_ix hN e3 e1⟩)
          · exact e' (List.mem_of_getElem? e1)
        rcases r with rfl | ⟨rfl,rfl⟩
        · rcases hk' with rfl | rfl | rfl
          · exact absurd (.inl rfl) no
          · exact absurd (.inr rfl) no
          · exact ⟨e,.inr hk0⟩
        · exact ⟨e,.inl hk0⟩
      have e3:Vis cenv.scope y:=e3
      rcases e3 with e3 | e3 | e3
      · exact key _ e3 (.inl rfl)
      · exact key _ e3 (.inr (.inl rfl))
      · exact key _ e3 (.inr (.inr rfl))
    obtain ⟨m,hn,hl⟩:=I.loc
    have hvis:Vis X.env.scope y:=(ok.free _ (PySem.mem_of_lookup hfr.1) rfl).elim (fun k => .inr (.inl k)) (fun k => .inr (.inr k))
    obtain ⟨w,r,q⟩:=hl i y av e1 e2 hvis
    refine ⟨w,r,.inr ⟨hfr.2,?_⟩⟩
    obtain ⟨c,h1,h2⟩:=look hfr.1
    rcases q with ⟨k,_⟩ | ⟨_,c',e',z⟩
    · have k:X.env.scope.names.lookup y=some .local:=k
      rcases ok.free _ (PySem.mem_of_lookup hfr.1) rfl with k' | k' <;> rw [show X.env.scope.names.lookup y=_ from k'] at k <;> cases k
    · rw [h2] at e'; cases e'
      exact ⟨c,h1,z.keeps kp⟩
  · have e:cenv.cells.lookup y=some c:=e
    rcases mem e with ⟨h1,_⟩ | ⟨_,z⟩
    · obtain ⟨w,z⟩:=I.cell y c h1
      exact ⟨w,z.keeps kp⟩
    · exact ⟨_,z⟩
  · show H cenv.locals=none
    rw [hL]; exact I.hok.fresh (Nat.le_refl _)
  · have e:cenv.cells.lookup y=some c:=e
    rcases mem e with ⟨h1,_⟩ | ⟨h1,_⟩
    · exact I.freeC y c h1
    · exact I.hok.fresh (Nat.le_of_succ_le h1)
  · exact absurd (show p∈([]:List (Addr×Obj))++[] from hp) (by simp)
theorem app_ok {E:Value→Shared→Prop} {D:Addr} {xs:List V} {y:V} {v:Value} {Q:Value→Shared→Prop} (I:Inv X pins σ H s) (hD:H D=some (.lst xs)) (hz:xs.length<sizeLine) (r:RelV y v)
    (h:∀ s',Inv X pins σ (upd H D (.lst (xs++[y]))) s'→Q .none s'):wpAny (model X.prog X.w) X.A (call (.builtin "list.append") [.ref D,v]) Q E s:=by
  obtain ⟨hz',its,n,ri,e⟩:=I.hok D _ hD
  have hl:=ri.length
  refine append_at (hsz:=by rw [List.size_toArray]; omega) e fun h' sb ho' => ?_
  refine h { s with heap:=h' } (I.write (t':=s.toks) (by rw [hD]; trivial) (.inl rfl) (fun b u hb q=>(sb.2 b hb).trans q) ⟨_,ho'⟩ ⟨by rw [List.length_append]; exact hz,its++[v],n+1,ri.append (.cons r .nil),?_⟩)
  rw [ho']
  simp
def PTs (X:Cx) (ifs:List Expr) (t:TT):Prop :=
  ∀ (pins:List (Addr×Obj)) (s:Shared) (σ:St) (H:Hp) (Q:Bool→Hp→Prop),Inv X pins σ H s→t σ H Q →
    wpAny (model X.prog X.w) X.A (forIn ifs true fun c r=>if r=true then do let ok ← isTrue c X.env (eval c X.env); pure (ForInStep.yield ok) else pure (ForInStep.yield r)) (TP X pins σ Q) X.xe s
def tYes:TT:=fun _ H Q=>Q true H
theorem pts_nil:PTs X [] tYes:=fun _ _ _ H _ I h=>wpAny_tests_nil ⟨H,I,h⟩
theorem pts_one {c:Expr} {t:TT} (h:PT X c t):PTs X [c] t:=fun pins s σ H Q I hw=>wpAny_tests_one (h pins s σ H Q I hw)
end
theorem thnF {α:Type} {t:Sem α} {Q Q':α→Shared→Prop} {M:Model} {A:Around} {E:Value→Shared→Prop} {s:Shared} (h:wpAny M A t Q (fun _ _=>False) s) (hQ:∀ a s,Q a s→Q' a s):wpAny M A t Q' E s:=wpAny_mono h hQ fun _ _ z=>False.elim z
theorem compLoop_any {prog:Program} {w:World} {A:Around} {R:Result→Shared→Prop} {s:Shared} {elt target iter:Expr} {ifs:List Expr} {scope:Scope} {pos:Pos} {it acc:Value} {env:Env} (I:Nat→Shared→Prop)
    (turn:∀ n s,I n s→wpAny (model prog w) A (pyNext it) (fun r s₁=>match r with
      | none=>R (.ok .next) s₁
      | some v=>wpAny (model prog w) A (letOwnedTupleGo target it v) (fun _ s₁'=>wpAny (model prog w) A (assign target env v) (fun _ s₂=>
          wpAny (model prog w) A (forIn ifs true fun c r=>if r=true then do let ok ← isTrue c env (eval c env); pure (ForInStep.yield ok) else pure (ForInStep.yield r)) (fun ok s₃=>
            if ok=true then wpAny (model prog w) A (eval elt env) (fun x s₄=>
              wpAny (model prog w) A (call (.builtin "list.append") [acc,x]) (fun _ s₅ => ∃ m,m<n∧I m s₅) (notedBy (model prog w) A env fun e s'=>R (.error e) s') s₄) (notedBy (model prog w) A env fun e s'=>R (.error e) s') s₃
            else ∃ m,m<n∧I m s₃) (notedBy (model prog w) A env fun e s'=>R (.error e) s') s₂) (notedBy (model prog w) A env fun e s'=>R (.error e) s') s₁') (notedBy (model prog w) A env fun e s'=>R (.error e) s') s₁) (notedBy (model prog w) A env fun e s'=>R (.error e) s') s)
    (n:Nat) (h:I n s) :
    codeAny (model prog w) A (.compLoop (.ListComp elt [⟨target,iter,ifs,0⟩] scope pos) 0 it acc env) R s:=by
  refine codeAny_loop rfl I (fun n s hI => ?_) n h
  show wpAny _ A ((compTurn (.ListComp elt [⟨target,iter,ifs,0⟩] scope pos) 0 it acc env).onRaise (fun x=>do noteFrame x env; theTreesLotGoes x)) _ _ s
  refine wpAny_noted ?_
  rw [compTurn_list]
  refine wpAny_bind (wpAny_standAt (wpAny_bind (wpAny_mono (turn n s hI) (fun r s₁ h₁ => ?_) fun _ _ h'=>h')))
  cases r with
  | none=>exact wpAny_pure h₁
  | some v=>
    refine wpAny_bind (wpAny_mono h₁ (fun _ s₁' h₁' => ?_) fun _ _ h'=>h')
    refine wpAny_bind (wpAny_mono h₁' (fun _ s₂ h₂=>wpAny_bind (wpAny_mono h₂ (fun ok s₃ h₃ => ?_) fun _ _ h'=>h')) fun _ _ h'=>h')
    cases ok with
    | false=>exact wpAny_pure ⟨rfl,h₃⟩
    | true=>
      exact wpAny_bind (wpAny_bind (wpAny_mono h₃ (fun x s₄ h₄=>wpAny_bind (wpAny_mono h₄ (fun _ s₅ h₅=>wpAny_pure (wpAny_pure ⟨rfl,h₅⟩)) fun _ _ h'=>h')) fun _ _ h'=>h'))
section
variable {X:Cx}
def tLc (wi:TI) (g:TG) (tt:TT) (te:TE) (vs:List Nat):TE:=fun σ H Q=>wi σ H fun J H1 => ∀ D,H1 D=none→∃ W:Nat→Nat→Hp→Prop,(∃ m,W 0 m (upd H1 D (.lst [])))∧∀ i m H,W i m H →
  (J.stop i H∧Q (.ref D) H)∨(J.go i H∧∃ Nx:Hp→Prop,(∀ H',Nx H'→∃ m',m'<m∧W (i+1) m' H')∧∀ x H',J.yld i H x H'→g x (wipe σ vs) H' fun σ2 H2=>wipe σ2 vs=wipe σ vs∧tt σ2 H2 fun b H3=>
    if b=true then te σ2 H3 fun y H4 => ∃ acc,H4 D=some (.lst acc)∧acc.length<sizeLine∧Nx (upd H4 D (.lst (acc++[y]))) else Nx H3)
theorem lc_core {pins:List (Addr×Obj)} {s:Shared} {σ:St} {H:Hp} {Q:VK} {elt tg iter:Expr} {ifs:List Expr} {scope:Scope} {own:List (Str×Nat)} {pos pos':Pos} {wi:TI} {g:TG} {tt:TT} {te:TE} {use:Option (Value→Sem Unit)} {Qf:Value→Shared→Prop}
    (hc:X.calm=true) (hN:X.N.Nodup) (I:Inv X pins σ H s) (hi:PI X tg iter wi) (ok:BlkOk X.N X.env.scope scope own)
    (hg:∀ (s:Shared) (H:Hp) (C:Addr) (cl:List (Str×Addr)) (fp:List Addr),PG (X.blk s H scope (compEnvC scope cl C X.env) fp) tg g) (ht:∀ (s:Shared) (H:Hp) (C:Addr) (cl:List (Str×Addr)) (fp:List Addr),PTs (X.blk s H scope (compEnvC scope cl C X.env) fp) ifs tt)
    (he:∀ (s:Shared) (H:Hp) (C:Addr) (cl:List (Str×Addr)) (fp:List Addr),PE (X.blk s H scope (compEnvC scope cl C X.env) fp) elt te) (hs:∀ x,foldedSetIterable iter X.env x=pure x)
    (h:tLc wi g tt te (own.map (·.2)) σ H Q)
    (hRR:∀ D C s' m H',Inv X pins σ H' s'→Q (.ref D) H'→s'.heap.Ns C m→FpOk X pins H' C→compPost (model X.prog X.w) X.A X.xe use Qf (.ref D) C (.ok .next) s') :
    wpAny (model X.prog X.w) X.A (comprehension (.ListComp elt [⟨tg,iter,ifs,0⟩] scope pos) scope X.env pos' (newList []) false (eval iter X.env) use) Qf X.xe s:=by
  have hfree:∀ y∈scope.names,y.2 = .free→∃ c,X.env.cells.lookup y.1=some c:=fun y hy e=>by
    rcases ok.free y hy e with k | k
    · exact I.ok.has _ (.inl k)
    · exact I.ok.has _ (.inr k)
  refine wpAny_comprehension_free (use:=use) rfl hs (closure_ok hfree) ok.kind (fun y hy e=>by rw [ok.uniq y hy,e])
    (thn (hi pins s σ H _ I h) fun xv s1 hx=>thn hx fun itv s2 h2 => ?_)
  obtain ⟨it,fp,tn,J,H2,e,I2,T,st2,f2,q⟩:=h2
  subst e
  refine wpAny_newObj_type (newEnv_comp ?_) (by show 0≤sizeLine; decide)
  generalize hD:s2.heap.objs.size=D
  have hDn:H2 D=none:=I2.hok.fresh (Nat.le_of_eq hD)
  obtain ⟨W,⟨m0,w0⟩,turn⟩:=q D hDn
  generalize hs3:({ s2 with heap:=s2.heap.push { cls:=.type "list",data:=.seq ([]:List Value).toArray } }:Shared)=s3
  have I3:Inv X pins σ (upd H2 D (.lst [])) s3:=by
    rw [← hs3]
    refine I2.laid (t':=s2.toks) (fun b o e=>Heap.get?_push_of_some _ e) (Nat.le_of_eq hD) ⟨Nat.zero_le _,[],0,.nil,?_⟩
    rw [← hD]
    exact Heap.get?_push_size _ rfl
  have h3:s3.heap=s2.heap.push { cls:=.type "list",data:=.seq ([]:List Value).toArray }:=by rw [← hs3]
  have sz:∀ b∈fp,b<s2.heap.objs.size:=fun b hb=>by
    obtain ⟨o,e,_⟩:=T.obj _ _ st2 b hb
    exact Heap.lt_size e
  have f3:∀ b∈fp,FpOk X pins (upd H2 D (.lst [])) b∧b<s3.heap.objs.size:=fun b hb=>by
    have hlt:=sz b hb
    refine ⟨⟨?_,(f2 b hb).2⟩,by rw [h3,Heap.size_push]; exact Nat.lt_succ_of_lt hlt⟩
    rw [upd_ne (by rw [← hD]; exact Nat.ne_of_lt hlt)]
    exact (f2 b hb).1
  have st3:tn 0 s3.heap:=T.keep _ _ _ st2 fun b _ o e=>by rw [h3]; exact Heap.get?_push_of_some _ e
  have I4:=block_start I3 ok hN f3
  have pg:=hg s3 (upd H2 D (.lst [])) s3.heap.objs.size (cellsFrom (s3.heap.objs.size+1) scope.names (cloFrom X.env.cells scope.names [])) fp
  have pt:=ht s3 (upd H2 D (.lst [])) s3.heap.objs.size (cellsFrom (s3.heap.objs.size+1) scope.names (cloFrom X.env.cells scope.names [])) fp
  have pe:=he s3 (upd H2 D (.lst [])) s3.heap.objs.size (cellsFrom (s3.heap.objs.size+1) scope.names (cloFrom X.env.cells scope.names [])) fp
  show codeAny _ _ (.compStart (.ListComp elt [⟨tg,iter,ifs,0⟩] scope pos) 0 (.ref it) (.ref D) (compEnvC scope (cellsFrom (s3.heap.objs.size+1) scope.names (cloFrom X.env.cells scope.names [])) s3.heap.objs.size X.env)) (compPost (model X.prog X.w) X.A X.xe use Qf (.ref D) s3.heap.objs.size) { s3 with heap:=pushCells (s3.heap.push { cls:=.type "dict",data:=.dict #[] }) scope.names }
  have nfp:∀ b∈fp,(upd H2 D (.lst [])) b=none:=fun b hb=>(f3 b hb).1.1
  generalize hce:compEnvC scope (cellsFrom (s3.heap.objs.size+1) scope.names (cloFrom X.env.cells scope.names [])) s3.heap.objs.size X.env=ce at I4 pg pt pe ⊢
  have cL:ce.locals=s3.heap.objs.size:=by subst hce; rfl
  generalize hH3:upd H2 D (.lst [])=H3 at I3 I4 pg pt pe w0 nfp f3
  generalize hs4:({ s3 with heap:=pushCells (s3.heap.push { cls:=.type "dict",data:=.dict #[] }) scope.names }:Shared)=s4 at I4 ⊢
  have st4:tn 0 s4.heap:=T.keep _ _ _ st3 fun b _ o e=>by rw [← hs4]; exact pushCells_keeps _ _ _ _ (Heap.get?_push_of_some _ e)
  have stat:∀ {σ':St} {H':Hp} {s':Shared},Inv (X.blk s3 H3 scope ce fp) [] σ' H' s'→(∀ b∈fp,H' b=none)→∀ b∈fp,FpOk (X.blk s3 H3 scope ce fp) [] H' b:=fun {σ' H' s'} I' hn b hb=>
    ⟨hn b hb,(I'.ok.exf b hb).1,I'.ok.exfs b hb,.inl hb,fun x c e=>(I'.ok.exf b hb).2 x c e,fun p hp=>absurd (show p∈([]:List (Addr×Obj))++[] from hp) (by simp)⟩
  have loop:codeAny (model X.prog X.w) X.A (.compLoop (.ListComp elt [⟨tg,iter,ifs,0⟩] scope pos) 0 (.ref it) (.ref D) ce) (compPost (model X.prog X.w) X.A X.xe use Qf (.ref D) s3.heap.objs.size) s4:=by
    refine compLoop_any (fun n s' => ∃ i H',Inv (X.blk s3 H3 scope ce fp) [] (wipe σ (own.map (·.2))) H' s'∧tn i s'.heap∧(∀ b∈fp,H' b=none)∧W i n H') ?_ m0 ⟨0,H3,I4,st4,nfp,w0⟩
    rintro n s5 ⟨i,H5,I5,st5,n5,w5⟩
    rcases turn i n H5 w5 with ⟨stop,qq⟩ | ⟨go,Nx,hNx,step⟩
    · have td:=T.done (X.blk s3 H3 scope ce fp) rfl rfl rfl hc i [] s5 _ H5 (fun _ _=>False) I5 (stat I5 n5) st5 stop
      refine thnF td fun r s6 ⟨hr,I6⟩ => ?_
      subst hr
      have I7:Inv X pins σ H5 s6:=I3.call' (ch:=fp) I6.os I6.base I6.hok I6.bare fun b hb=>⟨(f3 b hb).1.2.2.2.1,(f3 b hb).1.2.1,(f3 b hb).1.2.2.2.2.1,(f3 b hb).1.2.2.2.2.2⟩
      have nC:H5 s3.heap.objs.size=none:=by
        have z:H5 ce.locals=none:=I6.free
        rw [cL] at z
        exact z
      obtain ⟨m,hn,_⟩:=I6.loc
      have hn:s6.heap.Ns ce.locals m:=hn
      rw [cL] at hn
      exact hRR D s3.heap.objs.size s6 m H5 I7 qq hn (I3.fpOk (Nat.le_refl _) nC)
    · have ti:=T.item (X.blk s3 H3 scope ce fp) rfl rfl rfl hc i [] s5 _ H5 (fun _ _=>False) I5 (stat I5 n5) st5 go
      refine thnF ti fun r s6 ⟨u,hr,h6⟩ => ?_
      subst hr
      refine thnF h6 fun _ s7 ⟨x,H7,I7,r7,y7,st7,n7⟩ => ?_
      have I7':=I7.pinned (stat I7 n7) (T.obj _ _ st7)
      refine thnF (pg _ s7 _ H7 x u _ I7' r7 (step x H7 y7)) fun _ s8 ⟨σ8,H8,I8,hw8,q8⟩ => ?_
      refine thnF (pt _ s8 σ8 H8 _ I8 q8) fun b s9 ⟨H9,I9,q9⟩ => ?_
      have fin:∀ {s':Shared} {H':Hp},Inv (X.blk s3 H3 scope ce fp) ([]++pinsAt fp s7.heap) σ8 H' s'→Nx H'→∃ m,m<n∧∃ i H',Inv (X.blk s3 H3 scope ce fp) [] (wipe σ (own.map (·.2))) H' s'∧tn i s'.heap∧(∀ b∈fp,H' b=none)∧W i m H':=fun {s' H'} I' nx=>by
        obtain ⟨m',hm,w'⟩:=hNx H' nx
        have pin':∀ b∈fp,∀ o,s7.heap.get? b=some o→s'.heap.get? b=some o∧H' b=none:=fun b hb o e=>
          let z:=I'.pin (b,o) (List.mem_append_right _ (List.mem_append_right _ (mem_pinsAt hb e)))
          ⟨z.1,z.2.1⟩
        have hl:(wipe σ (own.map (·.2))).length=σ8.length:=by rw [← hw8,wipe_length]
        refine ⟨m',hm,i+1,H',(I'.unpinned (pins:=[])).weak hl (fun j v e => ?_),T.keep _ _ _ st7 fun b hb o e=>(pin' b hb o e).1,fun b hb => ?_,w'⟩
        · rw [← hw8] at e
          exact (wipe_some e).1
        · obtain ⟨o,e,_⟩:=T.obj _ _ st7 b hb
          exact (pin' b hb o e).2
      cases b with
      | false=>
        simp only [Bool.false_eq_true,if_false] at q9 ⊢
        exact fin I9 q9
      | true=>
        simp only [if_true] at q9 ⊢
        refine thnF (pe _ s9 σ8 H9 _ I9 q9) fun z s10 ⟨yv,H10,I10,r10,acc,hD10,hz10,nx⟩ => ?_
        exact app_ok (X:=X.blk s3 H3 scope ce fp) I10 hD10 hz10 r10 fun s11 I11=>fin I11 nx
  exact codeAny_compStart_list loop (T.self X.A 0 _ _ _ st4 loop)
theorem pe_lc {elt tg iter:Expr} {ifs:List Expr} {scope:Scope} {own:List (Str×Nat)} {pos:Pos} {wi:TI} {g:TG} {tt:TT} {te:TE} (hc:X.calm=true) (hN:X.N.Nodup) (hi:PI X tg iter wi) (ok:BlkOk X.N X.env.scope scope own)
    (hg:∀ (s:Shared) (H:Hp) (C:Addr) (cl:List (Str×Addr)) (fp:List Addr),PG (X.blk s H scope (compEnvC scope cl C X.env) fp) tg g) (ht:∀ (s:Shared) (H:Hp) (C:Addr) (cl:List (Str×Addr)) (fp:List Addr),PTs (X.blk s H scope (compEnvC scope cl C X.env) fp) ifs tt)
    (he:∀ (s:Shared) (H:Hp) (C:Addr) (cl:List (Str×Addr)) (fp:List Addr),PE (X.blk s H scope (compEnvC scope cl C X.env) fp) elt te) (hs:∀ x,foldedSetIterable iter X.env x=pure x:=by intro _; rfl) :
    PE X (.ListComp elt [⟨tg,iter,ifs,0⟩] scope pos) (tLc wi g tt te (own.map (·.2))):=by
  intro pins s σ H Q I h
  rw [eval_ListComp]
  refine lc_core hc hN I hi ok hg ht he hs h fun D C s' m H' I' q hn f=>⟨m,hn,fun h'' sb => ?_⟩
  obtain ⟨f0,f1,f2,f3,f4,f5⟩:=f
  exact ⟨.ref D,H',I'.turned (t':=s'.toks) (fun b o hb e=>(sb.2 b hb).trans e) f0 f1 f3 f4 f5,rfl,q⟩
theorem ps_setLc {i:Nat} {y:Str} {py:Pos} {elt tg iter:Expr} {ifs:List Expr} {scope:Scope} {own:List (Str×Nat)} {pos spos:Pos} {wi:TI} {g:TG} {tt:TT} {te:TE} (hc:X.calm=true) (hN:X.N.Nodup) (hy:X.N[i]? = some y) (hyl:X.env.scope.names.lookup y=some .local)
    (hsw:swapsWith (.ListComp elt [⟨tg,iter,ifs,0⟩] scope pos) (some (.Name y py)) spos.line X.env=pure true) (hi:PI X tg iter wi) (ok:BlkOk X.N X.env.scope scope own)
    (hg:∀ (s:Shared) (H:Hp) (C:Addr) (cl:List (Str×Addr)) (fp:List Addr),PG (X.blk s H scope (compEnvC scope cl C X.env) fp) tg g) (ht:∀ (s:Shared) (H:Hp) (C:Addr) (cl:List (Str×Addr)) (fp:List Addr),PTs (X.blk s H scope (compEnvC scope cl C X.env) fp) ifs tt)
    (he:∀ (s:Shared) (H:Hp) (C:Addr) (cl:List (Str×Addr)) (fp:List Addr),PE (X.blk s H scope (compEnvC scope cl C X.env) fp) elt te) (hs:∀ x,foldedSetIterable iter X.env x=pure x:=by intro _; rfl) :
    PS X (.Assign [.Name y py] (.ListComp elt [⟨tg,iter,ifs,0⟩] scope pos) spos) (tAsg (tLc wi g tt te (own.map (·.2))) (gName i)):=by
  intro pins s σ H D I h
  rw [exec_Assign_Name_used _ _ _ _ hsw]
  refine wpAny_bind (wpAny_standAt (wpAny_bind ?_))
  show wpAny _ X.A (do let _ ← comprehension (.ListComp elt [⟨tg,iter,ifs,0⟩] scope pos) scope X.env (firstIterPos [⟨tg,iter,ifs,0⟩] pos) (newList []) false (eval iter X.env) (some (assign (.Name y py) X.env))) _ _ s
  have h:tLc wi g tt te (own.map (·.2)) σ H (fun x H1=>gName i x σ H1 D.nx):=h
  refine wpAny_bind (thn (lc_core (Qf:=fun _ s'=>SP X pins D .next s') hc hN I hi ok hg ht he hs h fun L C s' m H' I' q hn f => ?_) fun _ s' hq=>wpAny_pure (wpAny_pure hq))
  show wpAny _ _ (assign (.Name y py) X.env (.ref L)) _ _ _
  refine wpAny_assign_Name (store_ok2 (v:=V.ref L) I' hN hy (.inl hyl) rfl (fun s2 I2 ⟨a,sb,ha⟩ => ?_) (.inr hyl))
  obtain ⟨f0,f1,f2,f3,f4,f5⟩:=f
  have haC:C≠a:=by
    rcases ha with z | z
    · rw [z]; exact f1
    · exact fun e=>f4 y a z e.symm
  refine ⟨m,hn.sameBut sb haC,fun h3 sb3 => ?_⟩
  exact ⟨_,H',I2.turned (t':=s2.toks) (fun b o hb e=>(sb3.2 b hb).trans e) f0 f1 f3 f4 f5,q⟩
theorem sw_true {elt:Expr} {gs:List Comprehension} {scope:Scope} {pos py:Pos} {y:Str} {l:Nat} {env:Env} (hk:env.scope.kind = .function) (hy:env.scope.names.lookup y=some .local) (hl:(py.line == pos.line)=true)
    (ha:(scope.names.any fun (n,k)=>n == y&&(k == .local||k == .cell))=false):swapsWith (.ListComp elt gs scope pos) (some (.Name y py)) l env=pure true:=by
  have ky:env.kindOf y=some .local:=hy
  have hb:env.blockKind = .function:=by unfold Env.blockKind; rw [hk]; rfl
  unfold swapsWith
  simp only [hb,ky,ha,Expr.pos,hl]
  rfl
end
theorem lc_range {lo:Int} {n:Nat} {g:TG} {tt:TT} {te:TE} {vs:List Nat} {σ:St} {H1:Hp} {D:Addr} {Qd:Hp→Prop} (Pv:Nat→Hp→Prop) (h0:Pv 0 (upd H1 D (.lst [])))
    (hs:∀ i H,i<n→Pv i H→g (.int (lo+i)) (wipe σ vs) H fun σ2 H2=>wipe σ2 vs=wipe σ vs∧tt σ2 H2 fun b H3=>
      if b=true then te σ2 H3 fun y H4 => ∃ acc,H4 D=some (.lst acc)∧acc.length<sizeLine∧Pv (i+1) (upd H4 D (.lst (acc++[y]))) else Pv (i+1) H3) (hd:∀ H,Pv n H→Qd H) :
    ∃ W:Nat→Nat→Hp→Prop,(∃ m,W 0 m (upd H1 D (.lst [])))∧∀ i m H,W i m H →
      ((Itr lo n).stop i H∧Qd H)∨((Itr lo n).go i H∧∃ Nx:Hp→Prop,(∀ H',Nx H'→∃ m',m'<m∧W (i+1) m' H')∧∀ x H',(Itr lo n).yld i H x H'→g x (wipe σ vs) H' fun σ2 H2=>wipe σ2 vs=wipe σ vs∧tt σ2 H2 fun b H3=>
        if b=true then te σ2 H3 fun y H4 => ∃ acc,H4 D=some (.lst acc)∧acc.length<sizeLine∧Nx (upd H4 D (.lst (acc++[y]))) else Nx H3):=by
  refine ⟨fun i m H=>m=n - i∧i≤n∧Pv i H,⟨n,by simp,Nat.zero_le _,h0⟩,?_⟩
  rintro i m H ⟨rfl,hi,p⟩
  by_cases hlt:i<n
  · refine .inr ⟨hlt,Pv (i+1),fun H' p'=>⟨n - (i+1),by omega,rfl,hlt,p'⟩,fun x H' y => ?_⟩
    obtain ⟨e,y⟩:=y
    subst e y
    exact hs i _ hlt p
  · have e:i=n:=by omega
    subst e
    exact .inl ⟨Nat.le_refl _,hd H p⟩
theorem lc_list {K:PySem.W.Frag} {a:Addr} {xs:List V} {g:TG} {tt:TT} {te:TE} {vs:List Nat} {σ:St} {H1:Hp} {D:Addr} {Qd:Hp→Prop} (Pv:Nat→Hp→Prop) (h0:Pv 0 (upd H1 D (.lst []))) (hl:∀ i H,i≤xs.length→Pv i H→SqL K H a xs)
    (hs:∀ i x H,xs[i]? = some x→Pv i H→g x (wipe σ vs) H fun σ2 H2=>wipe σ2 vs=wipe σ vs∧tt σ2 H2 fun b H3=>
      if b=true then te σ2 H3 fun y H4 => ∃ acc,H4 D=some (.lst acc)∧acc.length<sizeLine∧Pv (i+1) (upd H4 D (.lst (acc++[y]))) else Pv (i+1) H3) (hd:∀ H,Pv xs.length H→Qd H) :
    ∃ W:Nat→Nat→Hp→Prop,(∃ m,W 0 m (upd H1 D (.lst [])))∧∀ i m H,W i m H →
      ((Itl K a).stop i H∧Qd H)∨((Itl K a).go i H∧∃ Nx:Hp→Prop,(∀ H',Nx H'→∃ m',m'<m∧W (i+1) m' H')∧∀ x H',(Itl K a).yld i H x H'→g x (wipe σ vs) H' fun σ2 H2=>wipe σ2 vs=wipe σ vs∧tt σ2 H2 fun b H3=>
        if b=true then te σ2 H3 fun y H4 => ∃ acc,H4 D=some (.lst acc)∧acc.length<sizeLine∧Nx (upd H4 D (.lst (acc++[y]))) else Nx H3):=by
  refine ⟨fun i m H=>m=xs.length - i∧i≤xs.length∧Pv i H,⟨xs.length,by simp,Nat.zero_le _,h0⟩,?_⟩
  rintro i m H ⟨rfl,hi,p⟩
  have q:=hl i H hi p
  by_cases hlt:i<xs.length
  · refine .inr ⟨⟨xs,xs[i],q,by simp [hlt]⟩,Pv (i+1),fun H' p'=>⟨xs.length - (i+1),by omega,rfl,hlt,p'⟩,fun x H' y => ?_⟩
    obtain ⟨e,y⟩:=y
    subst e
    exact hs i x _ (y xs q) p
  · have e:i=xs.length:=by omega
    subst e
    exact .inl ⟨⟨xs,q,Nat.le_refl _⟩,hd H p⟩
def blkC (N:List Str) (sc scope:Scope) (own:List (Str×Nat)):Bool :=
  (match scope.kind with | .function=>true | _=>false)&&(scope.names.all fun y=>decide (scope.names.lookup y.1=some y.2))&&(own.all fun p=>decide (N[p.2]? = some p.1)) &&
    (scope.names.all fun y=>match y.2 with
      | .free=>(match sc.names.lookup y.1 with | some .cell=>true | some .free=>true | _=>false)
      | .local=>decide (y.1∈own.map (·.1))||decide (y.1 ∉ N)
      | .cell=>decide (y.1∈own.map (·.1))||decide (y.1 ∉ N)
      | _=>true)
theorem blkOk_by {N:List Str} {sc scope:Scope} {own:List (Str×Nat)} (h:blkC N sc scope own=true):BlkOk N sc scope own:=by
  unfold blkC at h
  simp only [Bool.and_eq_true,List.all_eq_true,decide_eq_true_eq] at h
  obtain ⟨⟨⟨h1,h2⟩,h3⟩,h4⟩:=h
  refine ⟨?_,h2,h3,fun y hy e => ?_,fun y hy e => ?_⟩
  · split at h1
    · assumption
    · cases h1
  · have q:=h4 y hy
    simp only [e] at q
    split at q <;> first | exact .inl (by assumption) | exact .inr (by assumption) | cases q
  · have q:=h4 y hy
    rcases e with e | e <;> (simp only [e,Bool.or_eq_true,decide_eq_true_eq] at q; exact q)
end L2
namespace L2
open PySem PySem.Spec PyProof.Rows
section
variable {prog:Program} {w:World} {A:Around} {R:Result→Shared→Prop} {s:Shared} {elt t0 i0 t1 i1:Expr} {ifs0 ifs1:List Expr} {scope:Scope} {pos:Pos} {it acc:Value} {env:Env}
end
section
variable {X:Cx}
end
end L2
namespace L2
open PySem PySem.Spec PyProof.Rows
section
variable {κ:Type} [DecidableEq κ]
def valV (kvs:List (κ×V)) (k:κ):Option V:=(kvs.find? fun kv=>decide (kv.1=k)).map (·.2)
def putK (kvs:List (κ×V)) (k:κ) (v:V):List (κ×V) :=
  if (kvs.any fun kv=>decide (kv.1=k))=true then kvs.map (fun kv=>if kv.1=k then (kv.1,v) else kv) else kvs++[(k,v)]
def dropK (kvs:List (κ×V)) (k:κ):List (κ×V):=kvs.filter fun kv=>decide (kv.1≠k)
theorem valV_nil {k:κ}:valV ([]:List (κ×V)) k=none:=rfl
theorem valV_pos {p:κ×V} {r:List (κ×V)} {k:κ} (e:p.1=k):valV (p::r) k=some p.2:=by simp [valV,List.find?_cons,e]
theorem valV_neg {p:κ×V} {r:List (κ×V)} {k:κ} (e:¬ p.1=k):valV (p::r) k=valV r k:=by simp [valV,List.find?_cons,e]
theorem valV_any (k:κ):∀ kvs:List (κ×V),(kvs.any fun kv=>decide (kv.1=k))=(valV kvs k).isSome
  | []=>rfl
  | p::r=>by
    rw [List.any_cons]
    by_cases e:p.1=k
    · simp only [valV_pos e,decide_eq_true e,Bool.true_or,Option.isSome_some]
    · rw [valV_neg e,decide_eq_false e,Bool.false_or]; exact valV_any k r
theorem valV_map (k j:κ) (y:V):∀ kvs:List (κ×V),valV (kvs.map fun kv=>if kv.1=k then (kv.1,y) else kv) j=(valV kvs j).map fun x=>if j=k then y else x
  | []=>rfl
  | p::r=>by
    have ih:=valV_map k j y r
    rw [List.map_cons]
    by_cases h:p.1=k
    · rw [if_pos h]
      by_cases e:p.1=j
      · rw [valV_pos (p:=(p.1,y)) e,valV_pos e,Option.map_some,if_pos (e.symm.trans h)]
      · rw [valV_neg (p:=(p.1,y)) e,valV_neg e,ih]
    · rw [if_neg h]
      by_cases e:p.1=j
      · rw [valV_pos (p:=p) e,valV_pos e,Option.map_some,if_neg (fun z=>h (e.trans z))]
      · rw [valV_neg (p:=p) e,valV_neg e,ih]
theorem valV_snoc (k j:κ) (y:V):∀ kvs:List (κ×V),valV kvs k=none→valV (kvs++[(k,y)]) j=if j=k then some y else valV kvs j
  | [],_=>by
    by_cases e:k=j
    · rw [if_pos e.symm]; exact valV_pos (p:=(k,y)) e
    · rw [if_neg (fun z=>e z.symm)]; exact valV_neg (p:=(k,y)) e
  | p::r,hn=>by
    rw [List.cons_append]
    have hk:¬ p.1=k:=fun z=>by rw [valV_pos z] at hn; cases hn
    rw [valV_neg hk] at hn
    have ih:=valV_snoc k j y r hn
    by_cases e:p.1=j
    · rw [valV_pos e,valV_pos e,if_neg (fun z=>hk (e.trans z))]
    · rw [valV_neg e,valV_neg e,ih]
theorem valV_put (kvs:List (κ×V)) (k j:κ) (y:V):valV (putK kvs k y) j=if j=k then some y else valV kvs j:=by
  unfold putK
  by_cases a:(kvs.any fun kv=>decide (kv.1=k))=true
  · rw [if_pos a,valV_map]
    rw [valV_any] at a
    by_cases e:j=k
    · obtain ⟨x,hx⟩:=Option.isSome_iff_exists.mp a
      rw [if_pos e,e,hx,Option.map_some,if_pos rfl]
    · rw [if_neg e]
      cases valV kvs j with
      | none=>rfl
      | some x=>rw [Option.map_some,if_neg e]
  · rw [if_neg a]
    refine valV_snoc k j y kvs ?_
    rw [valV_any] at a
    cases q:valV kvs k with
    | none=>rfl
    | some x=>rw [q] at a; exact (a rfl).elim
theorem length_putK (kvs:List (κ×V)) (k:κ) (v:V):(putK kvs k v).length≤kvs.length+1:=by
  unfold putK
  split
  · rw [List.length_map]; omega
  · rw [List.length_append,List.length_cons,List.length_nil]; omega
theorem putK_new {kvs:List (κ×V)} {k:κ} (v:V) (h:valV kvs k=none):putK kvs k v=kvs++[(k,v)]:=by
  unfold putK
  rw [valV_any,h]
  exact if_neg (by decide)
theorem RelO.isSome_eq {o:Option V} {u:Option Value} (r:RelO o u):o.isSome=u.isSome:=by
  cases o with
  | none=>cases u with
    | none=>rfl
    | some _=>exact (show False from r).elim
  | some _=>cases u with
    | none=>exact (show False from r).elim
    | some _=>rfl
theorem RelO.getD {o:Option V} {u:Option Value} {d:V} {d':Value} (r:RelO o u) (rd:RelV d d'):RelV (o.getD d) (u.getD d'):=by
  cases o with
  | none=>cases u with
    | none=>exact rd
    | some _=>exact (show False from r).elim
  | some _=>cases u with
    | none=>exact (show False from r).elim
    | some _=>exact r
theorem KV.val {kvs:List (κ×V)} {vs:List (κ×Value)} (r:KV kvs vs) (k:κ):RelO (valV kvs k) (valueAt vs k):=by
  unfold KV at r
  induction r with
  | nil=>exact True.intro
  | @cons p q ps qs h t ih=>
    obtain ⟨h1,h2⟩:=h
    by_cases e:p.1=k
    · have e':q.1=k:=h1.symm.trans e
      have b:valueAt (q::qs) k=some q.2:=by simp [valueAt,List.find?_cons,e']
      rw [valV_pos e,b]; exact h2
    · have e':¬ q.1=k:=fun z=>e (h1.trans z)
      have b:valueAt (q::qs) k=valueAt qs k:=by simp [valueAt,List.find?_cons,e']
      rw [valV_neg e,b]; exact ih
theorem KV.any {kvs:List (κ×V)} {vs:List (κ×Value)} (r:KV kvs vs) (k:κ):(kvs.any fun kv=>decide (kv.1=k))=vs.any fun kv=>decide (kv.1=k):=by
  unfold KV at r
  induction r with
  | nil=>rfl
  | cons h t ih=>rw [List.any_cons,List.any_cons,ih,h.1]
theorem KV.repl {kvs:List (κ×V)} {vs:List (κ×Value)} (r:KV kvs vs) (k:κ) {y:V} {u:Value} (ry:RelV y u) :
    KV (kvs.map fun kv=>if kv.1=k then (kv.1,y) else kv) (vs.map fun kv=>if kv.1=k then (kv.1,u) else kv):=by
  unfold KV at r ⊢
  induction r with
  | nil=>exact .nil
  | @cons p q ps qs h t ih=>
    rw [List.map_cons,List.map_cons]
    refine .cons ?_ ih
    obtain ⟨h1,h2⟩:=h
    by_cases e:p.1=k
    · rw [if_pos e,if_pos (h1.symm.trans e)]; exact ⟨h1,ry⟩
    · rw [if_neg e,if_neg (fun z=>e (h1.trans z))]; exact ⟨h1,h2⟩
theorem KV.put {kvs:List (κ×V)} {vs:List (κ×Value)} (r:KV kvs vs) (k:κ) {y:V} {u:Value} (ry:RelV y u):KV (putK kvs k y) (stored vs k u):=by
  unfold putK stored
  rw [r.any k]
  by_cases e:(vs.any fun kv=>decide (kv.1=k))=true
  · rw [if_pos e,if_pos e]; exact r.repl k ry
  · rw [if_neg e,if_neg e]; exact Paired.snoc r ⟨rfl,ry⟩
theorem KV.drop {kvs:List (κ×V)} {vs:List (κ×Value)} (r:KV kvs vs) (k:κ):KV (dropK kvs k) (without vs k):=by
  unfold KV at r ⊢
  unfold dropK without
  induction r with
  | nil=>exact .nil
  | @cons p q ps qs h t ih=>
    obtain ⟨h1,h2⟩:=h
    rw [List.filter_cons,List.filter_cons]
    by_cases e:p.1=k
    · have a:¬ decide (p.1≠k)=true:=by simp [e]
      have b:¬ decide (q.1≠k)=true:=by simp [h1.symm.trans e]
      rw [if_neg a,if_neg b]; exact ih
    · have e':¬ q.1=k:=fun z=>e (h1.trans z)
      have a:decide (p.1≠k)=true:=by simp [e]
      have b:decide (q.1≠k)=true:=by simp [e']
      rw [if_pos a,if_pos b]; exact .cons ⟨h1,h2⟩ ih
theorem KV.length {kvs:List (κ×V)} {vs:List (κ×Value)} (r:KV kvs vs):kvs.length=vs.length:=Paired.length r
theorem dropK_le (kvs:List (κ×V)) (k:κ):(dropK kvs k).length≤kvs.length:=List.length_filter_le _ _
end
theorem kV_is {P:Program} {w:World} {k:Key} {u:Value} (r:RelV (kV k) u):(mixKind P w).is k u=true:=by
  cases k with
  | inl i=>obtain ⟨t,e⟩:=(show ∃ t,u=Value.int i t from r); subst e; exact mixKind_int P w i t
  | inr x=>obtain ⟨t,e⟩:=(show ∃ t,u=Value.str x t from r); subst e; exact mixKind_str P w x t
theorem items_are {P:Program} {w:World}:∀ {ks:List Key} {us:List Value},Vals (ks.map kV) us→ItemsAre (mixKind P w) ks us
  | [],_,r=>by rw [List.map_nil] at r; cases r; exact .nil
  | k::ks,_,r=>by
    rw [List.map_cons] at r
    cases r with
    | cons h t=>exact .cons (kV_is h) (items_are t)
abbrev KT (H:Hp):List (List Key×V)→List (List Key×Addr×Value)→Prop:=Paired fun p q=>p.1=q.1∧H q.2.1=some (.tup (p.1.map kV))∧RelV p.2 q.2.2
theorem KT.val {H:Hp} {kvs:List (List Key×V)} {xs:List (List Key×Addr×Value)} (r:KT H kvs xs) (k:List Key):RelO (valV kvs k) ((atKey xs k).map (·.2)):=by
  induction r with
  | nil=>exact True.intro
  | @cons p q ps qs h t ih=>
    obtain ⟨h1,_,h2⟩:=h
    by_cases e:p.1=k
    · have e':q.1=k:=h1.symm.trans e
      have b:atKey (q::qs) k=some q.2:=by simp [atKey,List.find?_cons,e']
      rw [valV_pos e,b]; exact h2
    · have e':¬ q.1=k:=fun z=>e (h1.trans z)
      have b:atKey (q::qs) k=atKey qs k:=by simp [atKey,List.find?_cons,e']
      rw [valV_neg e,b]; exact ih
theorem KT.repl {H:Hp} {kvs:List (List Key×V)} {xs:List (List Key×Addr×Value)} (r:KT H kvs xs) (k:List Key) {y:V} {u:Value} (ry:RelV y u) :
    KT H (kvs.map fun kv=>if kv.1=k then (kv.1,y) else kv) (xs.map (putAt k u)):=by
  induction r with
  | nil=>exact .nil
  | @cons p q ps qs h t ih=>
    rw [List.map_cons,List.map_cons]
    refine .cons ?_ ih
    obtain ⟨h1,h2,h3⟩:=h
    unfold putAt
    by_cases e:p.1=k
    · rw [if_pos e,if_pos (h1.symm.trans e)]; exact ⟨h1,h2,ry⟩
    · rw [if_neg e,if_neg (fun z=>e (h1.trans z))]; exact ⟨h1,h2,h3⟩
theorem KT.put {H:Hp} {kvs:List (List Key×V)} {xs:List (List Key×Addr×Value)} (r:KT H kvs xs) (k:List Key) {b:Addr} {y:V} {u:Value} (hb:H b=some (.tup (k.map kV))) (ry:RelV y u) :
    KT H (putK kvs k y) (storedH xs k b u):=by
  have e:(kvs.any fun kv=>decide (kv.1=k))=(atKey xs k).isSome:=by
    rw [valV_any,(r.val k).isSome_eq,Option.isSome_map]
  unfold putK storedH
  rw [e]
  by_cases q:(atKey xs k).isSome=true
  · rw [if_pos q,if_pos q]; exact r.repl k ry
  · rw [if_neg q,if_neg q]; exact Paired.snoc r ⟨rfl,hb,ry⟩
theorem KT.keeps {H H':Hp} {kvs:List (List Key×V)} {xs:List (List Key×Addr×Value)} (r:KT H kvs xs) (ht:∀ b ys,H b=some (.tup ys)→H' b=some (.tup ys)):KT H' kvs xs :=
  Paired.mapP r fun _ _ z=>⟨z.1,ht _ _ z.2.1,z.2.2⟩
section
variable {P:Program} {w:World} {H:Hp} {h:Heap} {a:Addr}
theorem rd_of {u:HO} (ok:HOk P w H h) (e:Rd H a u):ObjOk P w H h a u:=e.ok ok
theorem dk_rd {kvs:List (Key×V)} (ok:HOk P w H h) (e:Rd H a (.dK kvs)):kvs.length≤sizeLine∧(a == sysModules)=false∧∃ vs,KV kvs vs∧h.DictOf (mixKind P w) a vs :=
  show ObjOk P w H h a (.dK kvs) from rd_of ok e
theorem dk_of {kvs:List (Key×V)} (ok:HOk P w H h) (e:H a=some (.dK kvs)):kvs.length≤sizeLine∧(a == sysModules)=false∧∃ vs,KV kvs vs∧h.DictOf (mixKind P w) a vs:=dk_rd ok (.inl e)
theorem key_of {ks:List Key} (ok:HOk P w H h) (e:H a=some (.tup (ks.map kV))):(tupleKind (mixKind P w)).is h ks a:=by
  obtain ⟨_,its,r,o,h1,h2,n,h3⟩:=(show ObjOk P w H h a (.tup (ks.map kV)) from ok a _ e)
  exact ⟨o,its.toArray,n,h1,h2,h3,by simpa using items_are r⟩
theorem dt_rd {kvs:List (List Key×V)} (ok:HOk P w H h) (e:Rd H a (.dT kvs)):kvs.length≤sizeLine∧(a == sysModules)=false ∧
    ∃ xs,KT H kvs xs∧h.DictOfH (tupleKind (mixKind P w)) a xs:=by
  obtain ⟨z,y,xs,r,o,es,ep,h1,h2,h3,h4,h5⟩:=(show ObjOk P w H h a (.dT kvs) from rd_of ok e)
  refine ⟨z,y,xs,r,o,es,ep,h1,h2,h3,h4,fun x hx => ?_,h5⟩
  have all:∀ {l:List (List Key×V)} {m:List (List Key×Addr×Value)},KT H l m→∀ x∈m,(tupleKind (mixKind P w)).is h x.1 x.2.1:=by
    intro l m q
    induction q with
    | nil=>intro x hx; exact nomatch hx
    | @cons p q ps qs hq t ih=>
      intro x hx
      rcases List.mem_cons.mp hx with e | hx
      · subst e
        exact key_of ok (by rw [← hq.1]; exact hq.2.1)
      · exact ih x hx
  exact all r x hx
theorem dt_of {kvs:List (List Key×V)} (ok:HOk P w H h) (e:H a=some (.dT kvs)):kvs.length≤sizeLine∧(a == sysModules)=false ∧
    ∃ xs,KT H kvs xs∧h.DictOfH (tupleKind (mixKind P w)) a xs:=dt_rd ok (.inl e)
end
def DGet (H:Hp) (a:Addr) (y:V) (r:Option V):Prop :=
  (∃ kvs k,Rd H a (.dK kvs)∧y=kV k∧r=valV kvs k) ∨ ∃ kvs k b,Rd H a (.dT kvs)∧y = .ref b∧H b=some (.tup (k.map kV))∧r=valV kvs k
def DPut (H:Hp) (a:Addr) (y v:V) (H':Hp):Prop :=
  (∃ kvs k,H a=some (.dK kvs)∧y=kV k∧kvs.length<sizeLine∧H'=upd H a (.dK (putK kvs k v))) ∨
  ∃ kvs k b,H a=some (.dT kvs)∧y = .ref b∧H b=some (.tup (k.map kV))∧kvs.length<sizeLine∧H'=upd H a (.dT (putK kvs k v))
theorem DGet.k {H:Hp} {a:Addr} {kvs:List (Key×V)} {k:Key} (e:H a=some (.dK kvs)):DGet H a (kV k) (valV kvs k):=.inl ⟨kvs,k,.inl e,rfl,rfl⟩
theorem DPut.k {H:Hp} {a:Addr} {kvs:List (Key×V)} {k:Key} {v:V} (e:H a=some (.dK kvs)) (hl:kvs.length<sizeLine):DPut H a (kV k) v (upd H a (.dK (putK kvs k v))):=.inl ⟨kvs,k,e,rfl,hl,rfl⟩
section
variable {X:Cx} {pins:List (Addr×Obj)} {σ:St} {H:Hp} {s:Shared} {a:Addr} {y v:V} {u r:Value} {o:Option V} {A:Around} {E:Value→Shared→Prop}
theorem Inv.big (I:Inv X pins σ H s):sysModules<s.heap.objs.size:=by
  have h:mainGlobals<s.heap.objs.size:=(I.mod.glob.keeps I.bk).lt
  exact Nat.lt_trans (by decide) h
theorem d_getItem {Q:Value→Shared→Prop} (hu:A.units+1<cLine) (I:Inv X pins σ H s) (g:DGet H a y (some v)) (ry:RelV y u) (h:∀ w' s',Inv X pins σ H s'→RelV v w'→Q w' s') :
    wpAny (model X.prog X.w) A (getItem (.ref a) u) Q E s:=by
  rcases g with ⟨kvs,k,e,ey,l⟩ | ⟨kvs,k,b,e,ey,eb,l⟩
  · subst ey
    obtain ⟨z,hd,vs,rel,dd⟩:=dk_rd I.hok e
    obtain ⟨w',hw,rw'⟩:=RelO.some_of (v:=v) (o:=valueAt vs k) (by rw [l]; exact rel.val k)
    exact wpAny_getItem_of (kV_is ry) dd.mapOf hw (h w' _ (I.tok _) rw')
  · subst ey
    cases (show u=Value.ref b from ry)
    obtain ⟨z,hd,xs,rel,dd⟩:=dt_rd I.hok e
    obtain ⟨w',hw,rw'⟩:=RelO.some_of (v:=v) (o:=(atKey xs k).map (·.2)) (by rw [l]; exact rel.val k)
    obtain ⟨p,hp,hp2⟩:=Option.map_eq_some_iff.mp hw
    refine wpAny_getItem_heap (tupleKind_room_in1 hu) (key_of I.hok eb) dd hp ?_
    rw [hp2]
    exact h w' _ (I.tok _) rw'
theorem d_in {Q:Value→Shared→Prop} (hu:A.units+1<cLine) (I:Inv X pins σ H s) (g:DGet H a y o) (ry:RelV y u) (h:∀ s',Inv X pins σ H s'→Q (.bool o.isSome) s') :
    wpAny (model X.prog X.w) A (compareOp .In u (.ref a)) Q E s:=by
  rcases g with ⟨kvs,k,e,ey,l⟩ | ⟨kvs,k,b,e,ey,eb,l⟩
  · subst ey
    obtain ⟨z,hd,vs,rel,dd⟩:=dk_rd I.hok e
    refine wpAny_in_of (kV_is ry) hd dd.mapOf ?_
    rw [← (rel.val k).isSome_eq,← l]
    exact h _ (I.tok _)
  · subst ey
    cases (show u=Value.ref b from ry)
    obtain ⟨z,hd,xs,rel,dd⟩:=dt_rd I.hok e
    refine wpAny_in_heap (tupleKind_room_in1 hu) (key_of I.hok eb) hd dd ?_
    have q:=(rel.val k).isSome_eq
    rw [Option.isSome_map] at q
    rw [← q,← l]
    exact h _ (I.tok _)
theorem d_write {h':Heap} {t':Nat} {ob:HO} (I:Inv X pins σ H s) (mu:Mut (H a)) (hs:Heap.SameBut a s.heap h') (he:∃ q,h'.get? a=some q) (new:ObjOk X.prog X.w (upd H a ob) h' a ob) :
    Inv X pins σ (upd H a ob) { s with heap:=h',toks:=t' } :=
  I.write (x:=a) (e:=a) mu (.inl rfl) (fun b q hb z=>(hs.2 b hb).trans z) he new
theorem dk_new {P:Program} {w:World} {H':Hp} {h':Heap} {kvs:List (Key×V)} {vs:List (Key×Value)} (z:kvs.length≤sizeLine) (hd:(a == sysModules)=false) (rel:KV kvs vs) (dd:h'.DictOf (mixKind P w) a vs) :
    ObjOk P w H' h' a (.dK kvs):=⟨z,hd,vs,rel,dd⟩
theorem d_setItem {H':Hp} {Q:Unit→Shared→Prop} (hu:A.units+1<cLine) (I:Inv X pins σ H s) (g:DPut H a y v H') (ry:RelV y u) (rv:RelV v r) (h:∀ s',Inv X pins σ H' s'→Q () s') :
    wpAny (model X.prog X.w) A (setItem (.ref a) u r) Q E s:=by
  rcases g with ⟨kvs,k,e,ey,l,eH⟩ | ⟨kvs,k,b,e,ey,eb,l,eH⟩
  · subst ey eH
    obtain ⟨z,hd,vs,rel,dd⟩:=dk_of I.hok e
    have hz:vs.length≤sizeLine:=by rw [← rel.length]; exact z
    have hl:(putK kvs k v).length≤sizeLine:=by have:=length_putK kvs k v; omega
    refine wpAny_setItem_pairs (hsz:=hz) (kV_is ry) dd fun h' dd' hs=>h _ ?_
    have he:∃ q,h'.get? a=some q:=let ⟨q,_,_,hq,_⟩:=dd'; ⟨q,hq⟩
    exact d_write I (by rw [e]; exact True.intro) hs he (dk_new hl hd (rel.put k rv) dd')
  · subst ey eH
    cases (show u=Value.ref b from ry)
    obtain ⟨z,hd,xs,rel,dd⟩:=dt_of I.hok e
    have hz:xs.length≤sizeLine:=by rw [← Paired.length rel]; exact z
    have hl:(putK kvs k v).length≤sizeLine:=by have:=length_putK kvs k v; omega
    refine wpAny_setItem_heap (hsz:=hz) (tupleKind_room_in1 hu) (key_of I.hok eb) dd fun h' dd' hs=>h _ ?_
    obtain ⟨q,es,ep,hq,h2,h3,h4,_,h5⟩:=dd'
    refine d_write I (by rw [e]; exact True.intro) hs ⟨q,hq⟩ ⟨hl,hd,_,(rel.put k eb rv).keeps fun c ys ec => ?_,q,es,ep,hq,h2,h3,h4,h5⟩
    rw [upd_ne (ne_of ec e (fun z=>nomatch z))]
    exact ec
end
section
variable {X:Cx} {pins:List (Addr×Obj)} {σ:St} {H:Hp} {s:Shared} {a:Addr} {kvs:List (Key×V)} {k:Key} {u:Value} {A:Around} {E:Value→Shared→Prop}
theorem d_pop {v:V} {more:List Value} {Q:Value→Shared→Prop} (I:Inv X pins σ H s) (e:H a=some (.dK kvs)) (ry:RelV (kV k) u) (l:valV kvs k=some v) (hm:more=[] ∨ ∃ x,more=[x])
    (h:∀ w' s',Inv X pins σ (upd H a (.dK (dropK kvs k))) s'→RelV v w'→Q w' s'):wpAny (model X.prog X.w) A (call (.builtin "dict.pop") (.ref a::u::more)) Q E s:=by
  obtain ⟨z,hd,vs,rel,dd⟩:=dk_of I.hok e
  obtain ⟨w',hw,rw'⟩:=RelO.some_of (v:=v) (o:=valueAt vs k) (by rw [← l]; exact rel.val k)
  have hp:(keyPart u).isSome=true:=by
    cases k with
    | inl i=>obtain ⟨t,q⟩:=(show ∃ t,u=Value.int i t from ry); subst q; rfl
    | inr x=>obtain ⟨t,q⟩:=(show ∃ t,u=Value.str x t from ry); subst q; rfl
  have ha:argsOk "dict.pop" ⟨.ref a::u::more,[]⟩:=by
    rcases hm with q | ⟨x,q⟩
    · subst q; exact PySem.F.args_dict_pop_2 _ _
    · subst q; exact PySem.F.args_dict_pop_3 _ _ _
  refine call_meetsIn PySem.F.slot_dict_pop dd.typeIs PySem.F.entry_dict_pop ha (meets_dict_pop_there (mixKind X.prog X.w) a (kV_is ry) more hm hp)
    ⟨vs,w',dd,by rw [← rel.length]; exact z,hw,fun h' dd' hs=>h w' _ ?_ rw'⟩
  have he:∃ q,h'.get? a=some q:=let ⟨q,_,_,hq,_⟩:=dd'; ⟨q,hq⟩
  exact d_write I (by rw [e]; exact True.intro) hs he (dk_new (Nat.le_trans (dropK_le kvs k) z) hd (rel.drop k) dd')
theorem d_len {Q:Value→Shared→Prop} (I:Inv X pins σ H s) (e:Rd H a (.dK kvs)) (h:∀ t s',Inv X pins σ H s'→Q (.int kvs.length t) s'):wpAny (model X.prog X.w) A (call (.builtin "len") [.ref a]) Q E s:=by
  obtain ⟨z,hd,vs,rel,dd⟩:=dk_rd I.hok e
  refine call_len_dict hd dd (by rw [← rel.length]; rw [sizeLine_eq] at z; omega) ?_
  rw [← rel.length]
  exact h _ _ (I.tok _)
end
def NoSl (i:Expr):Prop:=∀ ov iv,subscripted i false ov iv=operate [ov,iv] (getItem ov iv)
theorem subD_of {prog:Program} {w:World} {A:Around} {E:Value→Shared→Prop} {s:Shared} {env:Env} {value slice:Expr} {pos:Pos} {T id:String} {Q:Value→Shared→Prop}
    (hl:typeLookup (.type T) "__getitem__" = pure (some (.builtin id))) (hs:NoSl slice)
    (h:wpAny (model prog w) A (eval value env) (fun o s₁=>wpAny (model prog w) A (eval slice env) (fun i s₂=>s₂.TypeIs o T∧wpAny (model prog w) A (getItem o i) Q E s₂) E s₁) E s) :
    wpAny (model prog w) A (eval (.Subscript value slice pos) env) Q E s:=by
  refine Subscript_ (wpAny_mono h (fun o s₁ h₁=>wpAny_mono h₁ (fun i s₂ h₂ => ?_) fun _ _ x=>x) fun _ _ x=>x)
  obtain ⟨hT,h₂⟩:=h₂
  unfold subscriptTail
  refine wpAny_bind ?_
  rw [getitemInPython_of_ne hT.not_modules]
  refine wpAny_bind (wpAny_specialOf hT hl ?_)
  have fin:wpAny (model prog w) A (subscripted slice false o i) (fun r s₃=>wpAny (model prog w) A (letTemporaryGo value o r >>= fun _=>pure r) Q E s₃) E s₂:=by
    rw [hs o i]
    exact wpAny_operating (wpAny_mono h₂ (fun r s₃ h₃=>wpAny_bind (wpAny_letTemporaryGo (wpAny_pure h₃))) fun _ _ x=>x)
  first
    | exact wpAny_pure (wpAny_bind fin)
    | exact wpAny_bind (wpAny_pure (wpAny_bind fin))
    | exact wpAny_bind fin
theorem dict_typeIs {X:Cx} {pins:List (Addr×Obj)} {σ:St} {H:Hp} {s:Shared} {a:Addr} {y:V} {o:Option V} (I:Inv X pins σ H s) (g:DGet H a y o):s.TypeIs (.ref a) "dict" := by
  rcases g with ⟨kvs,k,e,_,_⟩ | ⟨kvs,k,b,e,_,_,_⟩
  · obtain ⟨_,_,vs,_,dd⟩:=dk_rd I.hok e
    exact dd.typeIs
  · obtain ⟨_,_,xs,_,dd⟩:=dt_rd I.hok e
    exact dd.typeIs
def tDGet (td ty:TE):TE:=fun σ H Q=>td σ H fun x H1=>ty σ H1 fun y H2 => ∃ a v,x = .ref a∧DGet H2 a y (some v)∧Q v H2
def tDIn (ty td:TE):TE:=fun σ H Q=>ty σ H fun y H1=>td σ H1 fun x H2 => ∃ a o,x = .ref a∧DGet H2 a y o∧Q (.bl o.isSome) H2
def sDPut (td ty tv:TE):TS:=fun D σ H=>tv σ H fun v H1=>td σ H1 fun x H2=>ty σ H2 fun y H3 => ∃ a H4,x = .ref a∧DPut H3 a y v H4∧D.nx σ H4
section
variable {X:Cx} {o i e value:Expr} {pos pos' tpos:Pos} {td ty tv:TE}
theorem pe_dget (hu:X.A.units+1<cLine) (ho:PE X o td) (hi:PE X i ty) (hs:NoSl i):PE X (.Subscript o i pos) (tDGet td ty):=by
  intro pins s σ H Q I h
  refine subD_of PySem.F.slot_dict_getitem.lookup hs (thn (ho pins s σ H _ I h) fun u s1 ⟨x,H1,I1,rx,q1⟩=>thn (hi pins s1 σ H1 _ I1 q1) fun iv s2 ⟨y,H2,I2,ry,a,v,ex,g,q2⟩ => ?_)
  subst ex
  obtain rfl:u=Value.ref a:=rx
  exact ⟨dict_typeIs I2 g,d_getItem hu I2 g ry fun w' s3 I3 rw'=>⟨v,H2,I3,rw',q2⟩⟩
theorem pc_din (hu:X.A.units+1<cLine) (hi:PE X i ty) (ho:PE X o td):PC X .In i o (tDIn ty td):=by
  intro pins s σ H Q I h
  refine thn (hi pins s σ H _ I h) fun iv s1 ⟨y,H1,I1,ry,q1⟩=>thn (ho pins s1 σ H1 _ I1 q1) fun u s2 ⟨x,H2,I2,rx,a,ov,ex,g,q2⟩ => ?_
  subst ex
  obtain rfl:u=Value.ref a:=rx
  exact d_in hu I2 g ry fun s3 I3=>⟨.bl ov.isSome,H2,I3,rfl,q2⟩
theorem ps_dput (hu:X.A.units+1<cLine) (ho:PE X o td) (hi:PE X i ty) (hv:PE X value tv) (hs:swapsWith value (some (.Subscript o i pos')) pos.line X.env=pure false) :
    PS X (.Assign [.Subscript o i pos'] value pos) (sDPut td ty tv):=by
  intro pins s σ H D I h
  refine wpAny_Assign_Subscript (thn (hv pins s σ H _ I h) fun r s1 ⟨v,H1,I1,rv,q1⟩=>thn (ho pins s1 σ H1 _ I1 q1) fun u s2 ⟨x,H2,I2,rx,q2⟩=>thn (hi pins s2 σ H2 _ I2 q2) fun iv s3 ⟨y,H3,I3,ry,a,H4,ex,g,q3⟩ => ?_) hs
  subst ex
  obtain rfl:u=Value.ref a:=rx
  exact d_setItem hu I3 g ry rv fun s4 I4=>⟨σ,H4,I4,q3⟩
end
theorem dk_empty {P:Program} {w:World} {H:Hp} (h:Heap) (hb:sysModules<h.objs.size):ObjOk P w H (h.push { cls:=.type "dict",data:=.dict #[] }) h.objs.size (.dK []) :=
  ⟨Nat.zero_le _,beq_eq_false_iff_ne.mpr (Ne.symm (Nat.ne_of_lt hb)),[],.nil,Heap.DictOf.new h⟩
def tDNewK:TE:=fun _ H Q => ∀ p,H p=none→Q (.ref p) (upd H p (.dK []))
section
variable {X:Cx} {pos:Pos}
theorem pe_dnewK:PE X (.Dict [] [] pos) tDNewK:=fun pins s σ H Q I h=>
  wpAny_Dict_empty ⟨.ref s.heap.objs.size,_,I.laid (a:=s.heap.objs.size) (o:=.dK []) (t':=s.toks) (fun _ _ q=>Heap.get?_push_of_some _ q) (Nat.le_refl _) (dk_empty s.heap I.big),rfl,h _ (I.hok.fresh (Nat.le_refl _))⟩
end
structure M1 (X:Cx) (o:Expr) (m:Str) (apos:Pos) (e:Expr) (cpos:Pos):Prop where
  base:attributeBase o m X.env (eval o X.env)=eval o X.env
  few:((backTo cpos (starEach [e] X.env)).all (fun x => !x.1)&&(backToKw cpos (keywordEach [] X.env)).all (fun x=>x.1.isSome)
    && decide (([e]:List Expr).length+([]:List Keyword).length+(if ([]:List Keyword).isEmpty then 0 else 1)<30))=true
  line:(apos.endLine == cpos.line)=true
  trees:backTo cpos (starEach [e] X.env)=[(false,eval e X.env)]
structure M2 (X:Cx) (o:Expr) (m:Str) (apos:Pos) (e f:Expr) (cpos:Pos):Prop where
  base:attributeBase o m X.env (eval o X.env)=eval o X.env
  few:((backTo cpos (starEach [e,f] X.env)).all (fun x => !x.1)&&(backToKw cpos (keywordEach [] X.env)).all (fun x=>x.1.isSome)
    && decide (([e,f]:List Expr).length+([]:List Keyword).length+(if ([]:List Keyword).isEmpty then 0 else 1)<30))=true
  line:(apos.endLine == cpos.line)=true
  trees:backTo cpos (starEach [e,f] X.env)=[(false,eval e X.env),(false,eval f X.env)]
def IsD (H:Hp) (a:Addr):Prop:=(∃ kvs,Rd H a (.dK kvs)) ∨ ∃ kvs,Rd H a (.dT kvs)
theorem isD_at {X:Cx} {pins:List (Addr×Obj)} {σ:St} {H:Hp} {s:Shared} {a:Addr} (I:Inv X pins σ H s) (d:IsD H a) :
    s.TypeIs (.ref a) "dict" ∧ (∀ b,Value.ref a = .ref b→∃ ob,s.heap.get? b=some ob∧ob.dict=none)∧(a == sysModules)=false:=by
  rcases d with ⟨kvs,e⟩ | ⟨kvs,e⟩
  · obtain ⟨_,hd,vs,_,dd⟩:=dk_rd I.hok e
    refine ⟨dd.typeIs,fun b q => ?_,hd⟩
    cases q
    obtain ⟨ob,_,_,h1,h2,_⟩:=dd
    exact ⟨ob,h1,h2.2.1⟩
  · obtain ⟨_,hd,xs,_,dd⟩:=dt_rd I.hok e
    refine ⟨dd.typeIs,fun b q => ?_,hd⟩
    cases q
    obtain ⟨ob,_,_,h1,h2,_⟩:=dd
    exact ⟨ob,h1,h2.2.1⟩
section
variable {X:Cx} {pins:List (Addr×Obj)} {σ:St} {H:Hp} {s:Shared} {a:Addr} {y d:V} {u r:Value} {o:Option V} {A:Around} {E:Value→Shared→Prop}
theorem d_get2 {Q:Value→Shared→Prop} (hu:A.units+1<cLine) (I:Inv X pins σ H s) (g:DGet H a y o) (ry:RelV y u) (rd:RelV d r) (h:∀ w' s',Inv X pins σ H s'→RelV (o.getD d) w'→Q w' s') :
    wpAny (model X.prog X.w) A (call (.builtin "dict.get") [.ref a,u,r]) Q E s:=by
  rcases g with ⟨kvs,k,e,ey,l⟩ | ⟨kvs,k,b,e,ey,eb,l⟩
  · subst ey
    obtain ⟨z,hd,vs,rel,dd⟩:=dk_rd I.hok e
    refine call_meetsIn PySem.F.slot_dict_get dd.typeIs PySem.F.entry_dict_get (PySem.F.args_dict_get_3 _ _ _) (meets_dict_get_default (mixKind X.prog X.w) a (kV_is ry) hd r) ⟨_,dd.mapOf,h _ _ (I.tok _) ?_⟩
    rw [l]
    exact (rel.val k).getD rd
  · subst ey
    cases (show u=Value.ref b from ry)
    obtain ⟨z,hd,xs,rel,dd⟩:=dt_rd I.hok e
    refine call_meetsIn PySem.F.slot_dict_get dd.typeIs PySem.F.entry_dict_get (PySem.F.args_dict_get_3 _ _ _) (meetsH_dict_get_default (tupleKind (mixKind X.prog X.w)) a b hd r) ⟨tupleKind_room_in1 hu,k,xs,key_of I.hok eb,dd,h _ _ (I.tok _) ?_⟩
    rw [l]
    exact (rel.val k).getD rd
end
def tDGet2 (td ty tx:TE):TE:=fun σ H Q=>td σ H fun x H1 => ∃ a,x = .ref a∧IsD H1 a∧ty σ H1 fun y H2=>tx σ H2 fun z H3 => ∃ o,DGet H3 a y o∧Q (o.getD z) H3
def tDPop1 (td ty:TE):TE:=fun σ H Q=>td σ H fun x H1 => ∃ a,x = .ref a∧IsD H1 a∧ty σ H1 fun y H2 => ∃ kvs k v,H2 a=some (.dK kvs)∧y=kV k∧valV kvs k=some v∧Q v (upd H2 a (.dK (dropK kvs k)))
section
variable {X:Cx} {o e f:Expr} {apos cpos:Pos} {td ty tx:TE}
theorem pe_dget2 (hu:X.A.units+1<cLine) (ho:PE X o td) (he:PE X e ty) (hf:PE X f tx) (m:M2 X o "get" apos e f cpos):PE X (.Call (.Attribute o "get" apos) [e,f] [] cpos) (tDGet2 td ty tx):=by
  intro pins s σ H Q I h
  refine wpAny_Call_method m.base m.few m.line PySem.F.plainAttrs_dict PySem.F.slot_dict_get PySem.F.type_dict_get (thn (ho pins s σ H _ I h) fun u s1 ⟨x,H1,I1,rx,a,ex,d,q1⟩ => ?_)
  subst ex
  obtain rfl:u=Value.ref a:=rx
  obtain ⟨t1,t2,_⟩:=isD_at I1 d
  refine ⟨t1,t2,?_⟩
  rw [m.trees]
  refine Calls.callWith_builtin rfl (Calls.evalArgs_plain (Calls.spliced_cons (thn (he pins s1 σ H1 _ I1 q1) fun iv s2 ⟨y,H2,I2,ry,q2⟩=>
    Calls.spliced_cons (thn (hf pins s2 σ H2 _ I2 q2) fun fv s3 ⟨z,H3,I3,rz,ov,g,q3⟩=>Calls.spliced_nil ?_))))
  exact d_get2 hu I3 g ry rz fun w' s4 I4 rw'=>⟨_,H3,I4,rw',q3⟩
theorem pe_dpop1 (ho:PE X o td) (he:PE X e ty) (m:M1 X o "pop" apos e cpos):PE X (.Call (.Attribute o "pop" apos) [e] [] cpos) (tDPop1 td ty):=by
  intro pins s σ H Q I h
  refine wpAny_Call_method m.base m.few m.line PySem.F.plainAttrs_dict PySem.F.slot_dict_pop PySem.F.type_dict_pop (thn (ho pins s σ H _ I h) fun u s1 ⟨x,H1,I1,rx,a,ex,d,q1⟩ => ?_)
  subst ex
  obtain rfl:u=Value.ref a:=rx
  obtain ⟨t1,t2,_⟩:=isD_at I1 d
  refine ⟨t1,t2,?_⟩
  rw [m.trees]
  refine Calls.callWith_builtin rfl (Calls.evalArgs_plain (Calls.spliced_cons (thn (he pins s1 σ H1 _ I1 q1) fun iv s2 ⟨y,H2,I2,ry,kvs,k,v,ea,ey,l,q2⟩=>Calls.spliced_nil ?_)))
  subst ey
  exact d_pop I2 ea ry l (.inl rfl) fun w' s3 I3 rw'=>⟨v,_,I3,rw',q2⟩
end
section
variable {X:Cx} {pins:List (Addr×Obj)} {σ:St} {H:Hp} {s:Shared} {a:Addr} {kvs:List (Key×V)} {A:Around} {E:Value→Shared→Prop}
end
section
variable {X:Cx} {pins:List (Addr×Obj)} {σ:St} {H:Hp} {s:Shared} {a:Addr} {y:V} {u:Value} {A:Around} {E:Value→Shared→Prop}
end
end L2
namespace L2
open PySem PySem.Spec PyProof.Rows
section
variable {prog:Program} {w:World} {A:Around} {E:Value→Shared→Prop}
end
section
variable {X:Cx}
end
end L2
namespace L2
open PySem PySem.Spec PyProof.Rows
section
variable {X:Cx} {pins:List (Addr×Obj)} {σ:St} {H:Hp} {s:Shared} {h':Heap}
theorem Inv.turnedL {t':Nat} {ch:List Addr} (I:Inv X pins σ H s) (k:∀ b o,b ∉ ch→s.heap.get? b=some o→h'.get? b=some o) (hf:∀ b∈ch,FpOk X pins H b):Inv X pins σ H { s with heap:=h',toks:=t' }:=by
  have nit:∀ b u,H b=some u→b ∉ ch:=fun b u e z=>by
    have q:=(hf b z).1
    rw [q] at e; cases e
  refine I.step (g':=s.gens) (d':=s.drawn) (ch:=ch) (fun b hb=>⟨(hf b hb).2.2.2.1,(hf b hb).2.1,(hf b hb).2.2.2.2.1,(hf b hb).2.2.2.2.2⟩) (fun b o _ _ hc e _=>k b o hc e) (fun b o _ _ hc e _=>⟨o.slots,k b o hc e⟩)
    (fun _ _ _ _ n=>n) (fun b o hc e=>⟨o,k b o hc e⟩) (fun _ _ e=>e) (fun _ _ _ e=>e) (fun b ps e=>⟨#[],by rw [e]; simp⟩) (fun m hm => ?_) (fun b u e => ?_) I.bare
  · obtain ⟨o,es,ep,ho,r⟩:=hm
    exact ⟨o,es,ep,k _ o (fun z=>(hf _ z).2.1 rfl) ho,r⟩
  · refine (I.hok b u e).stay (fun c v hc q=>k c v ?_ q) (fun _ q=>q) fun _ _ q=>q
    rcases hc with z | z
    · rw [z]; exact nit b u e
    · exact nit c _ z
theorem Inv.turnedNew {t':Nat} {ch:List Addr} {T:Addr} {ob:HO} (I:Inv X pins σ H s) (k:∀ b o,b ∉ ch→s.heap.get? b=some o→h'.get? b=some o) (hf:∀ b∈ch,FpOk X pins H b) (hT:s.heap.objs.size≤T)
    (new:ObjOk X.prog X.w (upd H T ob) h' T ob):Inv X pins σ (upd H T ob) { s with heap:=h',toks:=t' }:=by
  have hn:H T=none:=I.hok.fresh hT
  have nit:∀ b u,H b=some u→b ∉ ch:=fun b u e z=>by
    have q:=(hf b z).1
    rw [q] at e; cases e
  refine I.step (g':=s.gens) (d':=s.drawn) (ch:=ch) (fun b hb=>⟨(hf b hb).2.2.2.1,(hf b hb).2.1,(hf b hb).2.2.2.2.1,(hf b hb).2.2.2.2.2⟩) (fun b o _ _ hc e _=>k b o hc e) (fun b o _ _ hc e _=>⟨o.slots,k b o hc e⟩)
    (fun b o _ e n => ?_) (fun b o hc e=>⟨o,k b o hc e⟩) (fun b xs e => ?_) (fun b o u e => ?_) (fun b ps e=>⟨#[],?_⟩) (fun m hm => ?_) (fun b u e => ?_) I.bare
  · rw [upd_ne (Nat.ne_of_lt (Nat.lt_of_lt_of_le (Heap.lt_size e) hT))]; exact n
  · rw [upd_ne (ne_of_none e hn)]; exact e
  · rw [upd_ne (ne_of_none e hn)]; exact e
  · rw [upd_ne (ne_of_none e hn),e]; simp
  · obtain ⟨o,es,ep,ho,r⟩:=hm
    exact ⟨o,es,ep,k _ o (fun z=>(hf _ z).2.1 rfl) ho,r⟩
  · by_cases hb:b=T
    · subst hb
      rw [upd_same] at e
      cases e
      exact new
    · rw [upd_ne hb] at e
      refine (I.hok b u e).stay (fun c v hc q=>k c v ?_ q) (fun c q=>by rw [upd_ne (ne_of_none q hn)]; exact q) fun c xs q=>by rw [upd_ne (ne_of_none q hn)]; exact q
      rcases hc with z | z
      · rw [z]; exact nit b u e
      · exact nit c _ z
end
section
variable {X:Cx}
theorem pi_one {tg:Expr} {pins:List (Addr×Obj)} {σ:St} {H:Hp} {s:Shared} {R:It→Hp→Prop} {J:It} {tn:Nat→Heap→Prop} {tk:Nat} (I:Inv X pins σ H s) (o:Obj)
    (T:Turn X.prog X.w X.K tg J [s.heap.objs.size] s.heap.objs.size tn) (st:tn 0 (s.heap.push o)) (q:R J H):PIE X pins σ tg R (.ref s.heap.objs.size) { s with heap:=s.heap.push o,toks:=tk }:=by
  refine ⟨s.heap.objs.size,[s.heap.objs.size],tn,J,H,rfl,I.kept fun b ob e=>Heap.get?_push_of_some _ e,T,st,fun b hb => ?_,q⟩
  have e:b=s.heap.objs.size:=by simpa using hb
  subst e
  exact I.fpOk (Nat.le_refl _) (I.hok.fresh (Nat.le_refl _))
end
def Itc (lo c:Int) (n:Nat):It:=⟨fun i _=>i<n,fun i H x H'=>H'=H∧x = .int (lo+(i:Nat)*c),fun i _=>n≤i⟩
theorem turn_rangeC {P:Program} {w:World} {K:PySem.W.Frag} {tg:Expr} (it:Addr) (lo c:Int) (n:Nat):Turn P w K tg (Itc lo c n) [it] it (fun i h=>IsRangeIter h it (lo+(i:Nat)*c) ((n:Int) - (i:Nat)) c) where
  mem:=by simp
  obj:=fun i h st b hb=>by
    have e:b=it:=by simpa using hb
    subst e
    exact ⟨_,st,fun v z=>nomatch z⟩
  keep:=fun i h h' st k=>k it (by simp) _ st
  item:=by
    intro X hP hw hK hc i pins s σ H E I hf st hg
    subst hP hw hK
    obtain ⟨f0,f1,f2,f3,f4,f5⟩:=hf it (by simp)
    have W:=Walks.range (prog:=X.prog) (w:=X.w) (I.ok.hd hc) it lo c n
    refine W.item i s _ _ hg st fun v h' tk hv st' kk => ?_
    obtain ⟨t,rfl⟩:=hv
    have I1:Inv X pins σ H { s with heap:=h',toks:=tk }:=I.turned (fun b o hb e=>kk b o (by simpa using hb) e) f0 f1 f3 f4 f5
    exact ⟨_,rfl,go_of (s:={ s with heap:=h',toks:=tk }) (n := "range_iterator") st' rfl rfl (by decide) ⟨.int (lo+(i:Nat)*c),H,I1,⟨t,rfl⟩,⟨rfl,rfl⟩,st',fun b hb=>(hf b hb).1⟩⟩
  done:=by
    intro X hP hw hK hc i pins s σ H E I hf st hg
    subst hP hw hK
    obtain ⟨f0,f1,f2,f3,f4,f5⟩:=hf it (by simp)
    exact wpAny_pyNext_range_end (I.ok.hd hc) st (by have:n≤i:=hg; omega) fun h' eb=>⟨rfl,I.turned (t':=s.toks) (fun b o hb e=>eb b o hb e) f0 f1 f3 f4 f5⟩
  self:=fun A i s Q E st h=>wpAny_pyIter_rangeiter st h
def RgC (i j c:Int) (n:Nat):Prop:=c≠0∧c.natAbs<1073741824∧Builtin.Range.small i j c=true∧Builtin.Range.rangeSize i j c=n
theorem RgC.neg {i j:Int} (ha : -(2 ^ 62)≤i) (ha':i<2 ^ 62) (hb : -(2 ^ 62)≤j) (hb':j<2 ^ 62):RgC i j (-1) (i - j).toNat :=
  ⟨by decide,by decide,PySem.W.small_down ha ha' hb hb',PySem.W.rangeSize_downNat i j⟩
def iRng3 (ta:TA):TI:=fun σ H R=>ta σ H fun vs H1 => ∃ (i j c:Int) (n:Nat),vs=[.int i,.int j,.int c]∧RgC i j c n∧R (Itc i c n) H1
section
variable {X:Cx} {tg:Expr}
theorem pi_range3 {a b c:Expr} {ta:TA} {p pos:Pos} (hg:Gl X "range") (hm:X.mg "range" = none) (ha:PA X [a,b,c] ta)
    (hs:starEach [a,b,c] X.env=(false,eval a X.env)::starEach [b,c] X.env:=by rfl) (hpl:(backTo pos (starEach [b,c] X.env)).any (·.1)=false:=by rfl) :
    PI X tg (.Call (.Name "range" p) [a,b,c] [] pos) (iRng3 ta):=by
  intro pins s σ H R I h
  refine Call_ (ld_blt I hg hm boot_range (PyProof.Rows.callWith_type1 (thn (ha pos pins s σ H _ I h) fun us s1 ⟨vs,H1,I1,r1,q1⟩ => ?_) hs hpl))
  obtain ⟨i,j,k,n,e,⟨c0,c1,c2,c3⟩,q⟩:=q1
  subst e
  cases r1 with
  | cons r rr=>
    cases rr with
    | cons r' rr=>
      cases rr with
      | cons r'' rr=>
        cases rr
        obtain ⟨t,rfl⟩:=r
        obtain ⟨t',rfl⟩:=r'
        obtain ⟨t'',rfl⟩:=r''
        refine call_range_3 c0 ?_ (.inl (PyProof.noPylong_small c1))
        refine wpAny_pyIter_range (IsRange.new ..) c2 ?_
        have I2:Inv X pins σ H1 { s1 with heap:=s1.heap.push { cls:=.type "range",data:=.fields #[.int i t,.int j t',.int k t''] } }:=I1.kept (t':=s1.toks) fun b o e=>Heap.get?_push_of_some _ e
        refine pi_one (tk:=s1.toks) I2 _ (turn_rangeC _ i k n) ?_ q
        have e1:i+((0:Nat):Int)*k=i:=by simp
        have e2:(n:Int) - ((0:Nat):Int)=Builtin.Range.rangeSize i j k:=by rw [c3]; simp
        show IsRangeIter _ _ (i+((0:Nat):Int)*k) ((n:Int) - ((0:Nat):Int)) k
        rw [e1,e2]
        exact Heap.get?_push_size _ rfl
end
theorem for_rangeC {lo c:Int} {n:Nat} {g:TG} {tb:TS} {D:Ends} {σ:St} {H:Hp} (Pv:Nat→St→Hp→Prop) (h0:Pv 0 σ H)
    (hs:∀ i σ H,i<n→Pv i σ H→g (.int (lo+(i:Nat)*c)) σ H fun σ2 H2=>tb { D with nx:=Pv (i+1),ct:=Pv (i+1),bk:=D.nx } σ2 H2) (hd:∀ σ H,Pv n σ H→D.nx σ H) :
    ∃ W:Nat→Nat→St→Hp→Prop,(∃ m,W 0 m σ H)∧∀ i m σ H,W i m σ H →
      ((Itc lo c n).stop i H∧D.nx σ H)∨((Itc lo c n).go i H∧∃ N:St→Hp→Prop,(∀ σ' H',N σ' H'→∃ m',m'<m∧W (i+1) m' σ' H')∧∀ x H',(Itc lo c n).yld i H x H'→g x σ H' fun σ2 H2=>tb { D with nx:=N,ct:=N,bk:=D.nx } σ2 H2):=by
  refine ⟨fun i m σ H=>m=n - i∧i≤n∧Pv i σ H,⟨n,by simp,Nat.zero_le _,h0⟩,?_⟩
  rintro i m σ H ⟨rfl,hi,p⟩
  by_cases hlt:i<n
  · refine .inr ⟨hlt,Pv (i+1),fun σ' H' p'=>⟨n - (i+1),by omega,rfl,hlt,p'⟩,fun x H' y => ?_⟩
    obtain ⟨e,y⟩:=y
    subst e y
    exact hs i σ _ hlt p
  · have e:i=n:=by omega
    subst e
    exact .inl ⟨Nat.le_refl _,hd σ H p⟩
section
variable {X:Cx} {tg:Expr}
end
section
variable {prog:Program} {w:World} {A:Around} {E:Value→Shared→Prop} {s:Shared}
end
theorem kv_get {κ:Type} {kvs:List (κ×V)} {vs:List (κ×Value)} (h:KV kvs vs):∀ {i:Nat} {k:κ} {v:V},kvs[i]? = some (k,v)→∃ u,vs[i]? = some (k,u)∧RelV v u:=by
  unfold KV at h
  induction h with
  | nil=>intro i k v e; simp at e
  | @cons a b l₁ l₂ r t ih=>
    intro i k v e
    cases i with
    | zero=>
      simp only [List.getElem?_cons_zero,Option.some.injEq] at e
      subst e
      refine ⟨b.2,?_,r.2⟩
      simp only [List.getElem?_cons_zero]
      exact congrArg some (Prod.ext r.1.symm rfl)
    | succ j=>
      simp only [List.getElem?_cons_succ] at e ⊢
      exact ih e
theorem relV_key {k:Key} {u:Value} (h:keyIs k u=true):RelV (kV k) u:=by
  rcases keyIs_shape h with ⟨i,t,rfl,rfl⟩ | ⟨x,t,rfl,rfl⟩
  · exact ⟨t,rfl⟩
  · exact ⟨t,rfl⟩
section
variable {X:Cx} {pins:List (Addr×Obj)} {σ:St} {H:Hp} {s:Shared} {d:Addr} {o:Obj}
end
section
variable {P:Program} {w:World} {K:PySem.W.Frag} {tg:Expr} {d:Addr} {o:Obj} {es:Array DictEntry} {ep:Nat}
end
section
variable {X:Cx} {tg e:Expr} {td:TE} {apos cpos:Pos}
end
def Ite (K:PySem.W.Frag) (a:Addr):It :=
  ⟨fun i H => ∃ (xs:List V) (x:V),SqL K H a xs∧xs[i]? = some x,fun i H v H' => ∃ T x,v = .ref T∧H T=none∧H'=upd H T (.tup [.int (i:Nat),x])∧∀ xs,SqL K H a xs→xs[i]? = some x,fun i H => ∃ xs:List V,SqL K H a xs∧xs.length≤i⟩
theorem turn_enum {P:Program} {w:World} {K:PySem.W.Frag} {elts:List Expr} {kk:Nat} {tpos:Pos} (a e it:Addr) :
    Turn P w K (.Tuple elts kk tpos) (Ite K a) [e,it] e (fun i h=>(∃ old,IsEnum h e it ((i:Nat):Int) old)∧h.IsListIter it a i∧e≠it) where
  mem:=by simp
  obj:=fun i h st b hb=>by
    obtain ⟨⟨old,he⟩,⟨o,ho,hc,hd⟩,_⟩:=st
    have e':b=e∨b=it:=by simpa using hb
    rcases e' with z | z
    · rw [z]; exact ⟨_,he,fun v q=>nomatch q⟩
    · rw [z]; exact ⟨o,ho,fun v q=>by rw [hd] at q; cases q⟩
  keep:=fun i h h' st k=>let ⟨⟨old,he⟩,hi,hne⟩:=st; ⟨⟨old,k e (by simp) _ he⟩,hi.at fun o q=>k it (by simp) o q,hne⟩
  item:=by
    intro X hP hw hK hc i pins s σ H E I hf st hg
    subst hP hw hK
    obtain ⟨⟨old,he⟩,hit,hne⟩:=st
    obtain ⟨xs,x,hq,hx⟩:=hg
    obtain ⟨its,rv,p,hz⟩:=I.list hq
    obtain ⟨u,hu,ru⟩:=rv.get hx
    have hel:e<s.heap.objs.size:=Heap.lt_size he
    have hil:it<s.heap.objs.size:=by obtain ⟨_,q,_⟩:=hit; exact Heap.lt_size q
    refine wpAny_pyNext_enum_item he hit p.isList (x:=u) (by simpa using hu) hne fun h' ho hit' hT hsz hk => ?_
    refine ⟨_,rfl,wpAny_letOwnedTupleGo_enum (s:={ s with heap:=h',toks:=s.toks+1 }) ho fun h'' he' sb => ?_⟩
    have hT2:h''.get? s.heap.objs.size=some { cls:=.type "tuple",data:=.seq #[.int i s.toks,u] }:=(sb.2 _ (Nat.ne_of_gt hel)).trans hT
    have new:ObjOk X.prog X.w (upd H s.heap.objs.size (.tup [.int (i:Nat),x])) h'' s.heap.objs.size (.tup [.int (i:Nat),x]) :=
      ⟨by show 2≤sizeLine; decide,[.int i s.toks,u],.cons ⟨_,rfl⟩ (.cons ru .nil),⟨_,hT2,rfl,_,rfl⟩⟩
    have I1:Inv X pins σ (upd H s.heap.objs.size (.tup [.int (i:Nat),x])) { s with heap:=h'',toks:=s.toks+1 } :=
      I.turnedNew (ch:=[e,it]) (fun b ob hb q=>(sb.2 b (fun z=>hb (by simp [z]))).trans (hk b ob (fun z=>hb (by simp [z])) (fun z=>hb (by simp [z])) q)) hf (Nat.le_refl _) new
    refine ⟨.ref s.heap.objs.size,_,I1,rfl,⟨_,x,rfl,I.hok.fresh (Nat.le_refl _),rfl,fun ys hy=>by rw [I.list_inj hy hq]; exact hx⟩,⟨⟨u,?_⟩,hit'.at fun o q=>(sb.2 it (Ne.symm hne)).trans q,hne⟩,fun b hb => ?_⟩
    · have e1:((i+1:Nat):Int)=(i:Int)+1:=by omega
      rw [e1]; exact he'
    · have hb':b<s.heap.objs.size:=by
        have e':b=e∨b=it:=by simpa using hb
        rcases e' with z | z
        · rw [z]; exact hel
        · rw [z]; exact hil
      rw [upd_ne (Nat.ne_of_lt hb')]
      exact (hf b hb).1
  done:=by
    intro X hP hw hK hc i pins s σ H E I hf st hg
    subst hP hw hK
    obtain ⟨⟨old,he⟩,hit,hne⟩:=st
    obtain ⟨xs,hq,hx⟩:=hg
    obtain ⟨its,rv,p,hz⟩:=I.list hq
    obtain ⟨f0,f1,f2,f3,f4,f5⟩:=hf it (by simp)
    have hl:=rv.length
    exact wpAny_pyNext_enum_end (I.ok.hd hc) he hit p.isList (by simp; omega) fun h' eb=>⟨rfl,I.turned (t':=s.toks) (fun b o hb q=>eb b o hb q) f0 f1 f3 f4 f5⟩
  self:=fun A i s Q E st h=>let ⟨⟨_,he⟩,_⟩:=st; wpAny_pyIter_enum he h
def iEnum (K:PySem.W.Frag) (ta:TA):TI:=fun σ H R=>ta σ H fun vs H1 => ∃ a xs,vs=[.ref a]∧SqL K H1 a xs∧R (Ite K a) H1
theorem pi_enum {X:Cx} {e:Expr} {ta:TA} {p pos tpos:Pos} {elts:List Expr} {kk:Nat} (hg:Gl X "enumerate") (hm:X.mg "enumerate" = none) (ha:PA X [e] ta) (hs:starEach [e] X.env=[(false,eval e X.env)]:=by rfl) :
    PI X (.Tuple elts kk tpos) (.Call (.Name "enumerate" p) [e] [] pos) (iEnum X.K ta):=by
  intro pins s σ H R I h
  refine Call_ (ld_blt I hg hm boot_enumerate (PyProof.Rows.callWith_type1 (thn (ha pos pins s σ H _ I h) fun us s1 ⟨vs,H1,I1,r1,q1⟩ => ?_) hs rfl))
  obtain ⟨a,xs,ex,hq,q⟩:=q1
  subst ex
  cases r1 with
  | cons r rr=>
    cases rr
    cases r
    obtain ⟨its,rv,p',hz⟩:=I1.list hq
    refine call_enumerate_list p'.isList fun h' he hit hsz hk=>wpAny_pyIter_enum he ?_
    have I2:Inv X pins σ H1 { s1 with heap:=h' }:=I1.kept (t':=s1.toks) hk
    refine ⟨s1.heap.objs.size+1,[s1.heap.objs.size+1,s1.heap.objs.size],_,_,H1,rfl,I2,turn_enum a (s1.heap.objs.size+1) s1.heap.objs.size,⟨⟨.none,he⟩,hit,Nat.succ_ne_self _⟩,fun b hb => ?_,q⟩
    have e':b=s1.heap.objs.size+1∨b=s1.heap.objs.size:=by simpa using hb
    have hle:s1.heap.objs.size≤b:=by
      rcases e' with z | z
      · rw [z]; exact Nat.le_add_right _ _
      · rw [z]; exact Nat.le_refl _
    exact I1.fpOk hle (I1.hok.fresh hle)
theorem boot_zip5:bootBuiltins "zip" = some (.type "zip"):=by decide +kernel
def Itz (K:PySem.W.Frag) (a b:Addr):It :=
  ⟨fun i H => ∃ (xs ys:List V) (x y:V),SqL K H a xs∧SqL K H b ys∧xs[i]? = some x∧ys[i]? = some y,
    fun i H v H' => ∃ T x y,v = .ref T∧H T=none∧H'=upd H T (.tup [x,y])∧(∀ xs,SqL K H a xs→xs[i]? = some x)∧∀ ys,SqL K H b ys→ys[i]? = some y,
    fun i H => ∃ xs ys:List V,SqL K H a xs∧SqL K H b ys∧(xs.length≤i∨ys.length≤i)⟩
theorem turn_zip {P:Program} {w:World} {K:PySem.W.Frag} {elts:List Expr} {kk:Nat} {tpos:Pos} {a b z TI TO i1 i2:Addr} (D:ZipApart z TI TO i1 i2 a b) :
    Turn P w K (.Tuple elts kk tpos) (Itz K a b) [z,TI,TO,i1,i2] z (fun i h=>IsZip h z TI TO .none∧IsPair h TI (.ref i1) (.ref i2)∧(∃ x y,IsPair h TO x y)∧h.IsListIter i1 a i∧h.IsListIter i2 b i) where
  mem:=by simp
  obj:=fun i h st c hc=>by
    obtain ⟨hz,hTI,⟨x,y,hTO⟩,⟨o1,e1,_,d1⟩,⟨o2,e2,_,d2⟩⟩:=st
    have e':c=z∨c=TI∨c=TO∨c=i1∨c=i2:=by simpa using hc
    rcases e' with q | q | q | q | q
    · rw [q]; exact ⟨_,hz,fun v q=>nomatch q⟩
    · rw [q]; exact ⟨_,hTI,fun v q=>nomatch q⟩
    · rw [q]; exact ⟨_,hTO,fun v q=>nomatch q⟩
    · rw [q]; exact ⟨o1,e1,fun v q=>by rw [d1] at q; cases q⟩
    · rw [q]; exact ⟨o2,e2,fun v q=>by rw [d2] at q; cases q⟩
  keep:=fun i h h' st k=>by
    obtain ⟨hz,hTI,⟨x,y,hTO⟩,h1,h2⟩:=st
    exact ⟨k z (by simp) _ hz,k TI (by simp) _ hTI,⟨x,y,k TO (by simp) _ hTO⟩,h1.at fun o q=>k i1 (by simp) o q,h2.at fun o q=>k i2 (by simp) o q⟩
  item:=by
    intro X hP hw hK hc i pins s σ H E I hf st hg
    subst hP hw hK
    obtain ⟨hz,hTI,⟨x0,y0,hTO⟩,h1,h2⟩:=st
    obtain ⟨xs,ys,x,y,hqx,hqy,hx,hy⟩:=hg
    obtain ⟨its,rv,p,_⟩:=I.list hqx
    obtain ⟨its2,rv2,p2,_⟩:=I.list hqy
    obtain ⟨u,hu,ru⟩:=rv.get hx
    obtain ⟨u2,hu2,ru2⟩:=rv2.get hy
    have hzl:z<s.heap.objs.size:=Heap.lt_size hz
    refine wpAny_pyNext_zip_item D hz hTI hTO h1 h2 p.isList p2.isList (x:=u) (y:=u2) (by simpa using hu) (by simpa using hu2) fun h' z' TO' h1' h2' hT hsz hk => ?_
    refine ⟨_,rfl,wpAny_letOwnedTupleGo_zip (s:={ s with heap:=h' }) z' fun h'' z'' sb => ?_⟩
    have hT2:h''.get? s.heap.objs.size=some { cls:=.type "tuple",data:=.seq #[u,u2] }:=(sb.2 _ (Nat.ne_of_gt hzl)).trans hT
    have new:ObjOk X.prog X.w (upd H s.heap.objs.size (.tup [x,y])) h'' s.heap.objs.size (.tup [x,y]) :=
      ⟨by show 2≤sizeLine; decide,[u,u2],.cons ru (.cons ru2 .nil),⟨_,hT2,rfl,_,rfl⟩⟩
    have I1:Inv X pins σ (upd H s.heap.objs.size (.tup [x,y])) { s with heap:=h'' } :=
      I.turnedNew (t':=s.toks) (ch:=[z,TI,TO,i1,i2]) (fun c o hb q=>(sb.2 c (fun q'=>hb (by simp [q']))).trans (hk c o (fun q'=>hb (by simp [q'])) (fun q'=>hb (by simp [q'])) (fun q'=>hb (by simp [q'])) (fun q'=>hb (by simp [q'])) q)) hf (Nat.le_refl _) new
    refine ⟨.ref s.heap.objs.size,_,I1,rfl,⟨_,x,y,rfl,I.hok.fresh (Nat.le_refl _),rfl,fun l hl=>by rw [I.list_inj hl hqx]; exact hx,fun l hl=>by rw [I.list_inj hl hqy]; exact hy⟩,⟨z'',?_,⟨u,u2,?_⟩,?_,?_⟩,fun c hcm => ?_⟩
    · exact (sb.2 _ D.TIz).trans (hk _ _ D.TIz D.TITO D.TIi1 D.TIi2 hTI)
    · exact (sb.2 _ D.TOz).trans TO'
    · exact h1'.at fun o q=>(sb.2 _ D.i1z).trans q
    · exact h2'.at fun o q=>(sb.2 _ D.i2z).trans q
    · have hlt:c<s.heap.objs.size:=by
        have e':c=z∨c=TI∨c=TO∨c=i1∨c=i2:=by simpa using hcm
        rcases e' with q | q | q | q | q
        · rw [q]; exact hzl
        · rw [q]; exact Heap.lt_size hTI
        · rw [q]; exact Heap.lt_size hTO
        · rw [q]; obtain ⟨_,e1,_⟩:=h1; exact Heap.lt_size e1
        · rw [q]; obtain ⟨_,e2,_⟩:=h2; exact Heap.lt_size e2
      rw [upd_ne (Nat.ne_of_lt hlt)]
      exact (hf c hcm).1
  done:=by
    intro X hP hw hK hc i pins s σ H E I hf st hg
    subst hP hw hK
    obtain ⟨hz,hTI,⟨x0,y0,hTO⟩,h1,h2⟩:=st
    obtain ⟨xs,ys,hqx,hqy,hend⟩:=hg
    obtain ⟨its,rv,p,_⟩:=I.list hqx
    obtain ⟨its2,rv2,p2,_⟩:=I.list hqy
    have l1:=rv.length
    have l2:=rv2.length
    have he:its.toArray[i]? = none∨its2.toArray[i]? = none:=by
      rcases hend with q | q
      · exact .inl (by simp; omega)
      · exact .inr (by simp; omega)
    exact wpAny_pyNext_zip_end (I.ok.hd hc) D hz hTI hTO h1 h2 p.isList p2.isList he fun h' hk=>⟨rfl,I.turnedL (t':=s.toks) (ch:=[z,TI,TO,i1,i2]) (fun c o hb q=>
      hk c o (fun q'=>hb (by simp [q'])) (fun q'=>hb (by simp [q'])) (fun q'=>hb (by simp [q'])) (fun q'=>hb (by simp [q'])) q) hf⟩
  self:=fun A i s Q E st h=>wpAny_pyIter_zip st.1 h
def iZip (K:PySem.W.Frag) (ta:TA):TI:=fun σ H R=>ta σ H fun vs H1 => ∃ a b xs ys,vs=[.ref a,.ref b]∧SqL K H1 a xs∧SqL K H1 b ys∧R (Itz K a b) H1
theorem pi_zip {X:Cx} {e e2:Expr} {ta:TA} {p pos tpos:Pos} {elts:List Expr} {kk:Nat} (hg:Gl X "zip") (hm:X.mg "zip" = none) (ha:PA X [e,e2] ta)
    (hs:starEach [e,e2] X.env=(false,eval e X.env)::starEach [e2] X.env:=by rfl) (hpl:(backTo pos (starEach [e2] X.env)).any (·.1)=false:=by rfl) :
    PI X (.Tuple elts kk tpos) (.Call (.Name "zip" p) [e,e2] [] pos) (iZip X.K ta):=by
  intro pins s σ H R I h
  refine Call_ (ld_blt I hg hm boot_zip5 (PyProof.Rows.callWith_type1 (thn (ha pos pins s σ H _ I h) fun us s1 ⟨vs,H1,I1,r1,q1⟩ => ?_) hs hpl))
  obtain ⟨a,b,xs,ys,ex,hqx,hqy,q⟩:=q1
  subst ex
  cases r1 with
  | cons r rr=>
    cases rr with
    | cons r' rr=>
      cases rr
      cases r
      cases r'
      obtain ⟨its,rv,p1,_⟩:=I1.list hqx
      obtain ⟨its2,rv2,p2,_⟩:=I1.list hqy
      have la:a<s1.heap.objs.size:=p1.lt
      have lb:b<s1.heap.objs.size:=p2.lt
      refine call_zip_2 p1.isList p2.isList fun h' hz hTI hTO h1 h2 hsz hk=>wpAny_pyIter_zip hz ?_
      have I2:Inv X pins σ H1 { s1 with heap:=h' }:=I1.kept (t':=s1.toks) hk
      refine ⟨s1.heap.objs.size+4,[s1.heap.objs.size+4,s1.heap.objs.size+2,s1.heap.objs.size+3,s1.heap.objs.size,s1.heap.objs.size+1],_,_,H1,rfl,I2,turn_zip (PySem.W.ktu_apart s1.heap.objs.size a b la lb),⟨hz,hTI,⟨_,_,hTO⟩,h1,h2⟩,fun c hcm => ?_,q⟩
      have e':c=s1.heap.objs.size+4∨c=s1.heap.objs.size+2∨c=s1.heap.objs.size+3∨c=s1.heap.objs.size∨c=s1.heap.objs.size+1:=by simpa using hcm
      have hle:s1.heap.objs.size≤c:=by
        rcases e' with z | z | z | z | z
        · rw [z]; exact Nat.le_add_right _ _
        · rw [z]; exact Nat.le_add_right _ _
        · rw [z]; exact Nat.le_add_right _ _
        · rw [z]; exact Nat.le_refl _
        · rw [z]; exact Nat.le_add_right _ _
      exact I1.fpOk hle (I1.hok.fresh hle)
end L2
namespace L2
open PySem PySem.Spec PyProof.Rows
open PySem.W (WData Codec OpenSpec Well WellAll ReadsW ReadsAllW)
set_option maxHeartbeats 2000000
mutual
inductive Dw (K:PySem.W.Frag) (H:Hp):V→WData→Prop
  | non:Dw K H .non .none
  | bl (b:Bool):Dw K H (.bl b) (.bool b)
  | int (i:Int):Dw K H (.int i) (.int i)
  | str (x:Str):Dw K H (.str x) (.str x)
  | byt (b:Array UInt8):Dw K H (.byt b) (.bytes b.toList)
  | lst {a:Addr} {xs:List V} {ds:List WData}:SqL K H a xs→DwAll K H xs ds→Dw K H (.ref a) (.list ds)
  | tup {a:Addr} {xs:List V} {ds:List WData}:SqT K H a xs→DwAll K H xs ds→Dw K H (.ref a) (.tuple ds)
inductive DwAll (K:PySem.W.Frag) (H:Hp):List V→List WData→Prop
  | nil:DwAll K H [] []
  | cons {v:V} {vs:List V} {d:WData} {ds:List WData}:Dw K H v d→DwAll K H vs ds→DwAll K H (v::vs) (d::ds)
end
theorem dw_ints {K:PySem.W.Frag} {H:Hp}:∀ ns:List Int,DwAll K H (ns.map V.int) (ns.map WData.int)
  | [] => .nil
  | n::r => .cons (.int n) (dw_ints r)
theorem ints_dw {K:PySem.W.Frag} {H:Hp}:∀ (ns:List Int) (xs:List V),DwAll K H xs (ns.map WData.int)→xs=ns.map V.int
  | [],xs,h=>by
    cases h
    rfl
  | n::r,xs,h=>by
    cases h with
    | cons h1 h2=>
      cases h1
      rw [ints_dw r _ h2] <;> rfl
section
variable {P:Program} {w:World} {K:PySem.W.Frag} {H:Hp} {h:Heap} {R:PySem.W.WRecords} {cl:Str→Option Addr}
theorem sqL_at {a:Addr} {xs:List V} (hok:HOk P w H h) (KX:K.In h) (q:SqL K H a xs):∃ (its:List Value) (o:Obj) (n:Nat),Vals xs its∧h.get? a=some o∧o.cls = .type "list" ∧ o.data = .seq its.toArray n:=by
  rcases q with q | ⟨o,its,n,e,hc,_,hd,_,hv⟩
  · obtain ⟨_,its,n,hv,e⟩:=(show ObjOk P w H h a (.lst xs) from q.ok hok)
    exact ⟨its,_,n,hv,e,rfl,rfl⟩
  · exact ⟨its.toList,o,n,hv,KX _ _ e,hc,by simp [hd]⟩
theorem sqT_at {a:Addr} {xs:List V} (hok:HOk P w H h) (KX:K.In h) (q:SqT K H a xs):∃ (its:List Value) (o:Obj) (n:Nat),Vals xs its∧h.get? a=some o∧o.cls = .type "tuple" ∧ o.data = .seq its.toArray n:=by
  rcases q with q | ⟨o,its,n,e,hc,hd,_,hv⟩
  · obtain ⟨_,its,hv,o,e,hc,n,hd⟩:=(show ObjOk P w H h a (.tup xs) from q.ok hok)
    exact ⟨its,o,n,hv,e,hc,hd⟩
  · exact ⟨its.toList,o,n,hv,KX _ _ e,hc,by simp [hd]⟩
mutual
theorem Dw.reads (hok:HOk P w H h) (KX:K.In h):∀ (d:WData) (v:V) (u:Value),Dw K H v d→RelV v u→∃ as,ReadsW R cl h u d as
  | .none,_,_,x,r=>by
    cases x
    cases r
    exact ⟨_,ReadsW.none⟩
  | .bool b,_,_,x,r=>by
    cases x
    cases r
    exact ⟨_,ReadsW.bool b⟩
  | .int i,_,_,x,r=>by
    cases x
    obtain ⟨t,rfl⟩:=r
    exact ⟨_,ReadsW.int i t⟩
  | .str s,_,_,x,r=>by
    cases x
    obtain ⟨t,rfl⟩:=r
    exact ⟨_,ReadsW.str s t⟩
  | .bytes b,_,_,x,r=>by
    cases x
    obtain ⟨t,rfl⟩:=r
    exact ⟨_,ReadsW.bytes _ t⟩
  | .list ds,_,_,x,r=>by
    cases x with
    | lst hs ha=>
      cases r
      obtain ⟨its,o,n,rv,ho,hc,hd⟩:=sqL_at hok KX hs
      obtain ⟨as,hr⟩:=Dw.readsAll hok KX ds _ its ha rv
      exact ⟨_,ReadsW.list ho hc hd hr⟩
  | .tuple ds,_,_,x,r=>by
    cases x with
    | tup hs ha=>
      cases r
      obtain ⟨its,o,n,rv,ho,hc,hd⟩:=sqT_at hok KX hs
      obtain ⟨as,hr⟩:=Dw.readsAll hok KX ds _ its ha rv
      exact ⟨_,ReadsW.tuple ho hc hd hr⟩
  | .float _,_,_,x,_=>by cases x
  | .dict _,_,_,x,_=>by cases x
  | .bytearray _,_,_,x,_=>by cases x
  | .set _,_,_,x,_=>by cases x
  | .frozenset _,_,_,x,_=>by cases x
  | .obj _ _,_,_,x,_=>by cases x
theorem Dw.readsAll (hok:HOk P w H h) (KX:K.In h):∀ (ds:List WData) (vs:List V) (us:List Value),DwAll K H vs ds→Vals vs us→∃ as,ReadsAllW R cl h us ds as
  | [],_,_,x,r=>by
    cases x
    cases r
    exact ⟨_,ReadsAllW.nil⟩
  | d::ds,_,_,x,r=>by
    cases x with
    | cons h1 h2=>
      cases r with
      | cons r1 r2=>
        obtain ⟨as,q1⟩:=Dw.reads hok KX d _ _ h1 r1
        obtain ⟨bs,q2⟩:=Dw.readsAll hok KX ds _ _ h2 r2
        exact ⟨_,ReadsAllW.cons q1 q2⟩
end
end
mutual
def plW:WData→Bool
  | .none=>true
  | .bool _=>true
  | .int _=>true
  | .str _=>true
  | .bytes _=>true
  | .list xs=>plWs xs
  | .tuple xs=>plWs xs
  | _=>false
def plWs:List WData→Bool
  | []=>true
  | x::r=>plW x&&plWs r
end
theorem plWs_map {α:Type} {f:α→WData} (h:∀ a,plW (f a)=true):∀ l:List α,plWs (l.map f)=true
  | []=>rfl
  | x::r=>by
    show (plW (f x)&&plWs (r.map f))=true
    rw [h x,plWs_map h r] <;> rfl
theorem pl_enc:∀ (c:Codec) (a:c.denote),plW (c.enc a)=true
  | .unit,_=>rfl
  | .bool,_=>rfl
  | .int _ _,_=>rfl
  | .nat _ _,_=>rfl
  | .u8,_=>rfl
  | .bytes _ _,_=>rfl
  | .text _ _ _ _,_=>rfl
  | .list _ _ c,a=>plWs_map (fun x=>pl_enc c x) a
  | .pair c d,a=>by
    show (plW (c.enc a.1)&&(plW (d.enc a.2)&&true))=true
    rw [pl_enc c a.1,pl_enc d a.2] <;> rfl
  | .triple c d e,a=>by
    show (plW (c.enc a.1)&&(plW (d.enc a.2.1)&&(plW (e.enc a.2.2)&&true)))=true
    rw [pl_enc c a.1,pl_enc d a.2.1,pl_enc e a.2.2] <;> rfl
  | .option c,none=>rfl
  | .option c,some x=>pl_enc c x
theorem pl_encAll:∀ (cs:List Codec) (a:Codec.denoteAll cs),plWs (Codec.encAll cs a)=true
  | [],_=>rfl
  | c::cs,a=>by
    show (plW (c.enc a.1)&&plWs (Codec.encAll cs a.2))=true
    rw [pl_enc c a.1,pl_encAll cs a.2] <;> rfl
theorem weight_mem:∀ {xs:List WData} {d:WData},d∈xs→d.weight≤WData.weightAll xs
  | [],d,h=>absurd h (by simp)
  | x::r,d,h=>by
    show d.weight≤x.weight+1+WData.weightAll r
    rcases List.mem_cons.mp h with e | m
    · rw [e]
      omega
    · have z:=weight_mem m
      omega
def toV:Value→V
  | .none => .non
  | .bool b => .bl b
  | .int i _ => .int i
  | .str x _ => .str x
  | .bytes b _ => .byt b
  | .ref a => .ref a
  | _ => .non
def OkU (A:List Addr):Value→Prop
  | .none=>True
  | .bool _=>True
  | .int _ _=>True
  | .str _ _=>True
  | .bytes _ _=>True
  | .ref a=>a∈A
  | _=>False
theorem OkU.mono {A B:List Addr} (h:∀ a∈A,a∈B):∀ {u:Value},OkU A u→OkU B u:=fun {u} x=>by
  cases u with
  | ref a=>exact h a x
  | none=>trivial
  | bool b=>trivial
  | int i t=>trivial
  | str s t=>trivial
  | bytes b t=>trivial
  | _=>exact False.elim x
theorem relV_toV {A:List Addr} {u:Value} (x:OkU A u):RelV (toV u) u:=by
  cases u with
  | ref a=>rfl
  | none=>rfl
  | bool b=>rfl
  | int i t=>exact ⟨t,rfl⟩
  | str s t=>exact ⟨t,rfl⟩
  | bytes b t=>exact ⟨t,rfl⟩
  | _=>exact False.elim x
theorem vals_toV {A:List Addr}:∀ {vs:List Value},(∀ u∈vs,OkU A u)→Vals (vs.map toV) vs
  | [],_ => .nil
  | u::r,h => .cons (relV_toV (h u (List.mem_cons_self ..))) (vals_toV fun x hx=>h x (List.mem_cons_of_mem _ hx))
def ArgOb (h:Heap) (A:List Addr) (a:Addr):Prop:=∃ vs:List Value,vs.length≤sizeLine∧(∀ u∈vs,OkU A u) ∧
  (h.get? a=some { cls:=.type "list",data:=.seq vs.toArray }∨h.get? a=some { cls:=.type "tuple",data:=.seq vs.toArray })
theorem ArgOb.mono {h:Heap} {A B:List Addr} {a:Addr} (k:∀ a∈A,a∈B) (x:ArgOb h A a):ArgOb h B a:=by
  obtain ⟨vs,h1,h2,h3⟩:=x
  exact ⟨vs,h1,fun u hu=>(h2 u hu).mono k,h3⟩
theorem wellAll_len {P:Params} {h:Heap}:∀ {vs:List Value} {ds:List WData},WellAll P h vs ds→vs.length=ds.length
  | _,_,.nil=>rfl
  | _,_,.cons _ b=>by
    show _+1=_+1
    rw [wellAll_len b]
theorem well_list {P:Params} {h:Heap} {v:Value} {ds:List WData} (x:Well P h v (.list ds)):∃ (a:Addr) (vs:List Value),v = .ref a∧h.get? a=some { cls:=.type "list",data:=.seq vs.toArray }∧WellAll P h vs ds:=by
  cases x with
  | list ho hall=>exact ⟨_,_,rfl,ho,hall⟩
theorem well_tuple {P:Params} {h:Heap} {v:Value} {ds:List WData} (x:Well P h v (.tuple ds)):∃ (a:Addr) (vs:List Value),v = .ref a∧h.get? a=some { cls:=.type "tuple",data:=.seq vs.toArray }∧WellAll P h vs ds:=by
  cases x with
  | tuple ho hall=>exact ⟨_,_,rfl,ho,hall⟩
theorem well_cons {P:Params} {h:Heap} {us:List Value} {d:WData} {ds:List WData} (x:WellAll P h us (d::ds)):∃ (v:Value) (vs:List Value),us=v::vs∧Well P h v d∧WellAll P h vs ds:=by
  cases x with
  | cons a b=>exact ⟨_,_,rfl,a,b⟩
theorem line_of {n:Nat} (h:n≤1048576):n≤sizeLine:=Nat.le_trans h (by decide)
section
variable {P:Params} {h:Heap}
mutual
theorem area_one:∀ (d:WData) (v:Value),Well P h v d→plW d=true→d.weight≤1048576→∃ A:List Addr,OkU A v∧∀ a∈A,ArgOb h A a
  | .none,_,x,_,_=>by
    cases x
    exact ⟨[],trivial,fun a m=>absurd m (by simp)⟩
  | .bool b,_,x,_,_=>by
    cases x
    exact ⟨[],trivial,fun a m=>absurd m (by simp)⟩
  | .int i,_,x,_,_=>by
    cases x
    exact ⟨[],trivial,fun a m=>absurd m (by simp)⟩
  | .str s,_,x,_,_=>by
    cases x
    exact ⟨[],trivial,fun a m=>absurd m (by simp)⟩
  | .bytes b,_,x,_,_=>by
    cases x
    exact ⟨[],trivial,fun a m=>absurd m (by simp)⟩
  | .list ds,_,x,p,z=>by
    obtain ⟨a,vs,rfl,ho,hall⟩:=well_list x
    have z2:WData.weightAll ds≤1048576:=z
    obtain ⟨A,h1,h2⟩:=area_all ds _ hall p fun d hd=>Nat.le_trans (weight_mem hd) z2
    have k:∀ b∈A,b∈a::A:=fun b hb=>List.mem_cons_of_mem _ hb
    refine ⟨a::A,List.mem_cons_self ..,fun b hb => ?_⟩
    rcases List.mem_cons.mp hb with e | m
    · rw [e]
      exact ⟨vs,line_of (by rw [wellAll_len hall]; exact Nat.le_trans (PySem.W.length_le_weightAllW ds) z2),fun u hu=>(h1 u hu).mono k,.inl ho⟩
    · exact (h2 b m).mono k
  | .tuple ds,_,x,p,z=>by
    obtain ⟨a,vs,rfl,ho,hall⟩:=well_tuple x
    have z2:WData.weightAll ds≤1048576:=z
    obtain ⟨A,h1,h2⟩:=area_all ds _ hall p fun d hd=>Nat.le_trans (weight_mem hd) z2
    have k:∀ b∈A,b∈a::A:=fun b hb=>List.mem_cons_of_mem _ hb
    refine ⟨a::A,List.mem_cons_self ..,fun b hb => ?_⟩
    rcases List.mem_cons.mp hb with e | m
    · rw [e]
      exact ⟨vs,line_of (by rw [wellAll_len hall]; exact Nat.le_trans (PySem.W.length_le_weightAllW ds) z2),fun u hu=>(h1 u hu).mono k,.inr ho⟩
    · exact (h2 b m).mono k
  | .float _,_,_,p,_=>Bool.noConfusion (show false=true from p)
  | .dict _,_,_,p,_=>Bool.noConfusion (show false=true from p)
  | .bytearray _,_,_,p,_=>Bool.noConfusion (show false=true from p)
  | .set _,_,_,p,_=>Bool.noConfusion (show false=true from p)
  | .frozenset _,_,_,p,_=>Bool.noConfusion (show false=true from p)
  | .obj _ _,_,_,p,_=>Bool.noConfusion (show false=true from p)
theorem area_all:∀ (ds:List WData) (vs:List Value),WellAll P h vs ds→plWs ds=true→(∀ d∈ds,d.weight≤1048576)→∃ A:List Addr,(∀ u∈vs,OkU A u)∧∀ a∈A,ArgOb h A a
  | [],_,x,_,_=>by
    cases x
    exact ⟨[],fun u m=>absurd m (by simp),fun a m=>absurd m (by simp)⟩
  | d::ds,_,x,p,z=>by
    obtain ⟨v,vs,rfl,x1,x2⟩:=well_cons x
    have q:plW d=true∧plWs ds=true:=Bool.and_eq_true_iff.mp p
    obtain ⟨A,a1,a2⟩:=area_one d v x1 q.1 (z d (List.mem_cons_self ..))
    obtain ⟨B,b1,b2⟩:=area_all ds vs x2 q.2 fun e he=>z e (List.mem_cons_of_mem _ he)
    have kA:∀ b∈A,b∈A++B:=fun b hb=>List.mem_append.mpr (.inl hb)
    have kB:∀ b∈B,b∈A++B:=fun b hb=>List.mem_append.mpr (.inr hb)
    refine ⟨A++B,fun u hu => ?_,fun b hb => ?_⟩
    · rcases List.mem_cons.mp hu with e | m
      · rw [e]
        exact a1.mono kA
      · exact (b1 u m).mono kB
    · rcases List.mem_append.mp hb with m | m
      · exact (a2 b m).mono kA
      · exact (b2 b m).mono kB
end
end
def hoOf (o:Obj):Option HO:=match o.data with
  | .seq vs _=>if (o.cls == Value.type "list")=true then some (.frz o (.lst (vs.toList.map toV))) else some (.frz o (.tup (vs.toList.map toV)))
  | _=>none
def argH (K:PySem.W.Frag) (h:Heap) (A:List Addr):Hp:=fun b=>if b∈A then (if (K.lookup b).isNone=true then (h.get? b).bind hoOf else none) else none
def OnlyF (H:Hp):Prop:=∀ b,H b=none ∨ ∃ o u,H b=some (.frz o u)
theorem hoOf_lst (vs:List Value):hoOf { cls:=.type "list",data:=.seq vs.toArray }=some (.frz { cls:=.type "list",data:=.seq vs.toArray } (.lst (vs.map toV))):=by
  show (if (Value.type "list" == Value.type "list")=true then some (HO.frz { cls:=.type "list",data:=.seq vs.toArray } (.lst (vs.toArray.toList.map toV))) else some (HO.frz { cls:=.type "list",data:=.seq vs.toArray } (.tup (vs.toArray.toList.map toV))))=_
  rw [if_pos (beq_self_eq_true _)]
theorem hoOf_tup (vs:List Value):hoOf { cls:=.type "tuple",data:=.seq vs.toArray }=some (.frz { cls:=.type "tuple",data:=.seq vs.toArray } (.tup (vs.map toV))):=by
  show (if (Value.type "tuple" == Value.type "list")=true then some (HO.frz { cls:=.type "tuple",data:=.seq vs.toArray } (.lst (vs.toArray.toList.map toV))) else some (HO.frz { cls:=.type "tuple",data:=.seq vs.toArray } (.tup (vs.toArray.toList.map toV))))=_
  rw [if_neg (by decide)]
section
variable {P:Program} {w:World} {K:PySem.W.Frag} {h:Heap} {A:List Addr}
theorem argH_at {b:Addr} {o:Obj} (hb:b∈A) (hk:K.lookup b=none) (e:h.get? b=some o):argH K h A b=hoOf o:=by
  unfold argH
  rw [if_pos hb,hk,if_pos (show (none:Option Obj).isNone=true from rfl),e] <;> rfl
theorem of_argH {b:Addr} {u:HO} (q:argH K h A b=some u):b∈A∧K.lookup b=none:=by
  unfold argH at q
  by_cases hb:b∈A
  · rw [if_pos hb] at q
    cases hk:K.lookup b with
    | none=>exact ⟨hb,rfl⟩
    | some o=>
      rw [hk,if_neg (by simp)] at q
      cases q
  · rw [if_neg hb] at q
    cases q
theorem argH_is (ar:∀ a∈A,ArgOb h A a) {b:Addr} {u:HO} (q:argH K h A b=some u):K.lookup b=none∧∃ vs:List Value,vs.length≤sizeLine∧(∀ u∈vs,OkU A u) ∧
    ((h.get? b=some { cls:=.type "list",data:=.seq vs.toArray }∧u = .frz { cls:=.type "list",data:=.seq vs.toArray } (.lst (vs.map toV))) ∨
     (h.get? b=some { cls:=.type "tuple",data:=.seq vs.toArray }∧u = .frz { cls:=.type "tuple",data:=.seq vs.toArray } (.tup (vs.map toV)))):=by
  obtain ⟨hb,hk⟩:=of_argH q
  obtain ⟨vs,h1,h2,h3⟩:=ar b hb
  refine ⟨hk,vs,h1,h2,?_⟩
  rcases h3 with e | e
  · rw [argH_at hb hk e,hoOf_lst] at q
    exact .inl ⟨e,(Option.some.inj q).symm⟩
  · rw [argH_at hb hk e,hoOf_tup] at q
    exact .inr ⟨e,(Option.some.inj q).symm⟩
theorem argH_only (ar:∀ a∈A,ArgOb h A a):OnlyF (argH K h A):=fun b=>by
  cases q:argH K h A b with
  | none=>exact .inl rfl
  | some u=>
    obtain ⟨_,vs,_,_,⟨_,e⟩ | ⟨_,e⟩⟩:=argH_is ar q
    · exact .inr ⟨_,_,by rw [e]⟩
    · exact .inr ⟨_,_,by rw [e]⟩
theorem argH_ok (ar:∀ a∈A,ArgOb h A a):HOk P w (argH K h A) h:=fun b u q=>by
  obtain ⟨_,vs,h1,h2,⟨e,rfl⟩ | ⟨e,rfl⟩⟩:=argH_is ar q
  · exact ⟨e,by rw [List.length_map]; exact h1,vs,_,vals_toV h2,e⟩
  · exact ⟨e,by rw [List.length_map]; exact h1,vs,vals_toV h2,_,e,rfl,_,rfl⟩
theorem seq_inj {c c':Value} {vs us:List Value} (e:(some { cls:=c,data:=.seq vs.toArray }:Option Obj)=some { cls:=c',data:=.seq us.toArray }):c=c'∧vs=us:=by
  have e1:=Option.some.inj e
  have e2:c=c':=congrArg Obj.cls e1
  have e3:Data.seq vs.toArray=Data.seq us.toArray:=congrArg Obj.data e1
  injection e3 with e4
  refine ⟨e2,?_⟩
  have e5:=congrArg Array.toList e4
  simpa using e5
theorem argL (KX:K.In h) (ar:∀ a∈A,ArgOb h A a) {a:Addr} {vs:List Value} (ha:a∈A) (e:h.get? a=some { cls:=.type "list",data:=.seq vs.toArray }):(∀ u∈vs,OkU A u)∧SqL K (argH K h A) a (vs.map toV):=by
  obtain ⟨us,h1,h2,h3⟩:=ar a ha
  have hu:us=vs:=by
    rcases h3 with q | q
    · rw [e] at q
      exact (seq_inj q).2.symm
    · rw [e] at q
      exact absurd (Value.type.inj (seq_inj q).1) (by decide)
  subst hu
  refine ⟨h2,?_⟩
  cases hk:K.lookup a with
  | none=>exact .inl (.inr ⟨_,by rw [argH_at ha hk e,hoOf_lst]⟩)
  | some o=>
    have e2:=KX a o hk
    rw [e] at e2
    obtain rfl:=Option.some.inj e2
    exact .inr ⟨_,us.toArray,_,hk,rfl,rfl,rfl,by rw [List.size_toArray]; exact h1,by simpa using vals_toV h2⟩
theorem argT (KX:K.In h) (ar:∀ a∈A,ArgOb h A a) {a:Addr} {vs:List Value} (ha:a∈A) (e:h.get? a=some { cls:=.type "tuple",data:=.seq vs.toArray }):(∀ u∈vs,OkU A u)∧SqT K (argH K h A) a (vs.map toV):=by
  obtain ⟨us,h1,h2,h3⟩:=ar a ha
  have hu:us=vs:=by
    rcases h3 with q | q
    · rw [e] at q
      exact absurd (Value.type.inj (seq_inj q).1) (by decide)
    · rw [e] at q
      exact (seq_inj q).2.symm
  subst hu
  refine ⟨h2,?_⟩
  cases hk:K.lookup a with
  | none=>exact .inl (.inr ⟨_,by rw [argH_at ha hk e,hoOf_tup]⟩)
  | some o=>
    have e2:=KX a o hk
    rw [e] at e2
    obtain rfl:=Option.some.inj e2
    exact .inr ⟨_,us.toArray,_,hk,rfl,rfl,by rw [List.size_toArray]; exact h1,by simpa using vals_toV h2⟩
mutual
theorem dw_one {Pm:Params} (KX:K.In h) (ar:∀ a∈A,ArgOb h A a):∀ (d:WData) (v:Value),Well Pm h v d→plW d=true→OkU A v→Dw K (argH K h A) (toV v) d
  | .none,_,x,_,_=>by
    cases x
    exact .non
  | .bool b,_,x,_,_=>by
    cases x
    exact .bl b
  | .int i,_,x,_,_=>by
    cases x
    exact .int i
  | .str s,_,x,_,_=>by
    cases x
    exact .str s
  | .bytes b,_,x,_,_=>by
    cases x
    have z:=Dw.byt (K:=K) (H:=argH K h A) b.toArray
    exact z
  | .list ds,_,x,p,hu=>by
    obtain ⟨a,vs,rfl,ho,hall⟩:=well_list x
    obtain ⟨h2,hs⟩:=argL KX ar hu ho
    exact .lst hs (dw_all KX ar ds _ hall p h2)
  | .tuple ds,_,x,p,hu=>by
    obtain ⟨a,vs,rfl,ho,hall⟩:=well_tuple x
    obtain ⟨h2,hs⟩:=argT KX ar hu ho
    exact .tup hs (dw_all KX ar ds _ hall p h2)
  | .float _,_,_,p,_=>Bool.noConfusion (show false=true from p)
  | .dict _,_,_,p,_=>Bool.noConfusion (show false=true from p)
  | .bytearray _,_,_,p,_=>Bool.noConfusion (show false=true from p)
  | .set _,_,_,p,_=>Bool.noConfusion (show false=true from p)
  | .frozenset _,_,_,p,_=>Bool.noConfusion (show false=true from p)
  | .obj _ _,_,_,p,_=>Bool.noConfusion (show false=true from p)
theorem dw_all {Pm:Params} (KX:K.In h) (ar:∀ a∈A,ArgOb h A a):∀ (ds:List WData) (vs:List Value),WellAll Pm h vs ds→plWs ds=true→(∀ u∈vs,OkU A u)→DwAll K (argH K h A) (vs.map toV) ds
  | [],_,x,_,_=>by
    cases x
    exact .nil
  | d::ds,_,x,p,hu=>by
    obtain ⟨v,vs,rfl,x1,x2⟩:=well_cons x
    have q:plW d=true∧plWs ds=true:=Bool.and_eq_true_iff.mp p
    exact .cons (dw_one KX ar d v x1 q.1 (hu _ (List.mem_cons_self ..))) (dw_all KX ar ds vs x2 q.2 fun u m=>hu u (List.mem_cons_of_mem _ m))
end
end
theorem spec_call {P:Program} {w:World} {K:PySem.W.Frag} {mg mb:Str→Option Value} {CX:CXT} {k:Nat} {fa:Addr} {fd:FuncData} {ps:List Str} {sp:Sp} {s₁:Shared} {vals:List Value} {ds:List WData} {R:PySem.W.WRecords} {cl:Str→Option Addr} {d0:WData}
    (KX:K.In s₁.heap) (hns:s₁.heap.Ns mainGlobals mg) (hb:s₁.heap.Ns builtinsNs mb) (hbb:∀ x:Str,x ≠ "__name__" → mb x=bootBuiltins x) (hlim:s₁.heap.NoLimit) (hseer:s₁.heap.NoSeer) (hg:s₁.gens = #[])
    (hwl:WellAll w.params s₁.heap vals ds) (hpl:plWs ds=true) (hwt:∀ d∈ds,d.weight≤1048576) (hr:Room k callerA)
    (F:∀ base:Heap,K.In base→base.Ns mainGlobals mg→FnOk P w K mg base CX k fa fd ps sp) (hbind:∀ (s:Shared) (us:List Value),us.length=ps.length→BindsTo s fd ⟨us,[]⟩ (ps.zip us)) (hlen:ds.length=ps.length)
    (hsp:∀ (H:Hp) (xs:List V),OnlyF H→DwAll K H xs ds→sp xs H (fun v H'=>Dw K H' v d0) fun _ _ _=>False)
    (hCX:∀ H e s',CX [] H s₁ (fun _ _ _=>False) e s'→False) :
    codeAny (model P w) callerA (.call (.ref fa) ⟨vals,[]⟩) (fun r s' => ∃ u as,r = .ok (.ret u)∧ReadsW R cl s'.heap u d0 as∧OldK s₁.heap s'.heap∧s'.os=s₁.os∧AllBare s'.gens) s₁:=by
  obtain ⟨A,ho,ar⟩:=area_all ds vals hwl hpl hwt
  have hO:OnlyF (argH K s₁.heap A):=argH_only ar
  have hok:HOk P w (argH K s₁.heap A) s₁.heap:=argH_ok ar
  have hS:=dw_all KX ar ds vals hwl hpl ho
  have hV:=vals_toV ho
  have hK:∀ b u,argH K s₁.heap A b=some u→K.lookup b=none:=fun b u q=>(argH_is ar q).1
  have noA:∀ {b:Addr} {o:Obj} {es:Array DictEntry} {ep:Nat},s₁.heap.get? b=some o→o.data = .dict es ep→argH K s₁.heap A b=none:=fun {b o es ep} e d=>by
    cases q:argH K s₁.heap A b with
    | none=>rfl
    | some u=>
      obtain ⟨_,vs,_,_,⟨e2,_⟩ | ⟨e2,_⟩⟩:=argH_is ar q
      · rw [e2] at e
        cases e
        have d':Data.seq vs.toArray _=Data.dict es ep:=d
        cases d'
      · rw [e2] at e
        cases e
        have d':Data.seq vs.toArray _=Data.dict es ep:=d
        cases d'
  have noM:∀ {b:Addr} {o:Obj},s₁.heap.get? b=some o→o.cls = .type "module" → argH K s₁.heap A b=none:=fun {b o} e d=>by
    cases q:argH K s₁.heap A b with
    | none=>rfl
    | some u=>
      obtain ⟨_,vs,_,_,⟨e2,_⟩ | ⟨e2,_⟩⟩:=argH_is ar q
      · rw [e2] at e
        cases e
        exact absurd (Value.type.inj d) (by decide)
      · rw [e2] at e
        cases e
        exact absurd (Value.type.inj d) (by decide)
  generalize argH K s₁.heap A=H at hO hok hS hK noA noM
  have base_of:∀ {b:Addr} {o:Obj},s₁.heap.get? b=some o→H b=none→(hidT s₁.heap H).get? b=some o:=fun e n=>hidT_get e n
  have nsK:∀ {b:Addr} {m:Str→Option Value},s₁.heap.Ns b m→(hidT s₁.heap H).Ns b m:=fun {b m} ⟨o,es,ep,e,d,r⟩=>⟨o,es,ep,base_of e (noA e d),d,r⟩
  have nK:∀ b o,K.lookup b=some o→H b=none:=fun b o e=>by
    cases q:H b with
    | none=>rfl
    | some u=>
      rw [hK b u q] at e
      cases e
  have hKb:K.In (hidT s₁.heap H):=fun b o e=>base_of (KX b o e) (nK b o e)
  have hSee:(hidT s₁.heap H).NoSeer:=by
    refine ⟨let ⟨mc,h1,h2⟩:=hseer.statics; ⟨mc,nsK h1,h2⟩,let ⟨mc,h1,h2⟩:=hseer.mods; ⟨mc,nsK h1,h2⟩,let ⟨mc,h1,h2⟩:=hseer.imp; ⟨mc,nsK h1,h2⟩,?_⟩
    obtain ⟨mg',bm,ob,h1,h2,h3,h4,h5⟩:=hseer.main
    exact ⟨mg',bm,ob,nsK h1,h2,base_of h3 (noM h3 h4),h4,h5⟩
  have hM:Mod K mg (hidT s₁.heap H):=⟨hKb,nsK hns,⟨mb,nsK hb,hbb⟩,(let ⟨mc,h1,h2⟩:=hlim; ⟨mc,nsK h1,h2⟩),hSee⟩
  have e0:Env0 P w K mg (hidT s₁.heap H) callerA [] s₁ H:=⟨rfl,hM,fun b o e=>of_hidT e,Nat.le_of_eq (hidT_size _ _),trivial,fun b hb=>absurd (show b∈([]:List Addr) from hb) (by simp),hok,.of_eq hg⟩
  have hl:vals.length=ps.length:=by rw [wellAll_len hwl]; exact hlen
  refine codeAny_mono ((F _ hKb (nsK hns)).run callerA [] s₁ H ⟨vals,[]⟩ vals (vals.map toV) _ _ hr e0 (hbind s₁ vals hl) hV (hsp H _ hO hS)) fun r s' x => ?_
  cases r with
  | error e=>exact (hCX H e s' x).elim
  | ok fl=>
    cases fl with
    | next=>exact False.elim x
    | brk=>exact False.elim x
    | cont=>exact False.elim x
    | ret u=>
      obtain ⟨v,H',os,bare,un,hok',r',q⟩:=x
      have kept:∀ b o,s₁.heap.get? b=some o→s'.heap.get? b=some o:=fun b o e=>by
        cases q2:H b with
        | none=>exact un.keep b o e q2 (by intro z; exact absurd (show b∈([]:List Addr) from z) (by simp)) (by simp)
        | some u2=>
          rcases hO b with z | ⟨ob,u3,z⟩
          · rw [q2] at z
            cases z
          · have z2:=un.frzs b ob _ z
            obtain ⟨e1,_⟩:=hok b _ z
            obtain ⟨e2,_⟩:=hok' b _ z2
            rw [e] at e1
            cases e1
            exact e2
      have KX':K.In s'.heap:=fun b o e=>kept b o (KX b o e)
      obtain ⟨as,hrd⟩:=Dw.reads (R:=R) (cl:=cl) hok' KX' d0 v u q r'
      exact ⟨u,as,rfl,hrd,OldK.of_keep kept,os,bare⟩
theorem layable_weight {ds:List WData} (h:WData.layableAll ds=true):∀ d∈ds,d.weight≤1048576:=fun d hd=>
  (PySem.W.layableW_iff.mp (List.all_eq_true.mp h d hd)).2.2
theorem encAll_len:∀ (cs:List Codec) (a:Codec.denoteAll cs),(Codec.encAll cs a).length=cs.length
  | [],_=>rfl
  | c::cs,a=>by
    show (Codec.encAll cs a.2).length+1=cs.length+1
    rw [encAll_len cs a.2]
theorem walk_spec {r:OpenSpec} {k:Nat} {q:Program} {loose:List Str} {XP:(Str→Option Value)→Heap→Prop} {YP:World→Heap→Prop} {d:DefRec} {K:Params→PySem.W.Frag} {CX:World→CXT} {ps:List Str} {sp:World→Sp}
    (himp:PyProof.Rows.importsNone q=true) (hwell:r.wellSaid=true) (hdf:d.params.defaults=[]) (hlen:r.args.length=ps.length) (hr:Room k callerA)
    (hY:∀ (w:World) (h:Heap),YP w h→(K w.params).In h)
    (F:∀ (w:World) (mg:Str→Option Value) (fa:Addr) (h:Heap),YP w h→(K w.params).In h→h.Ns mainGlobals mg→mg d.name=some (.ref fa) →
      ∃ fd:FuncData,(∀ (s:Shared) (us:List Value),us.length=ps.length→BindsTo s fd ⟨us,[]⟩ (ps.zip us)) ∧
        ∀ base:Heap,(K w.params).In base→base.Ns mainGlobals mg→FnOk r.prog w (K w.params) mg base (CX w) k fa fd ps (sp w))
    (hsp:∀ (w:World) (H:Hp) (xs:List V) (a:Codec.denoteAll r.args),OnlyF H→Codec.withinAll r.args a=true→Codec.app r.args r.asked a=true→DwAll (K w.params) H xs (Codec.encAll r.args a) →
      sp w xs H (fun v H'=>Dw (K w.params) H' v (r.ret.enc (Codec.app r.args r.f a))) fun _ _ _=>False)
    (hCX:∀ (w:World) (H:Hp) (s:Shared) (e:Value) (s':Shared),CX w [] H s (fun _ _ _=>False) e s'→False) :
    PySem.W.WalkOS q loose XP YP r d [] (fun f vs=>PySem.call f vs):=by
  intro w s_0 s₁ mg mb G Y fa o pm cd doc dV kV ho hd hcd hD hmg hg args vals as hpre hlay hrd hwl hlo
  obtain ⟨a,e1,e2⟩:=PySem.W.os_pre_some hpre
  obtain ⟨e3,hwi⟩:=Codec.encAll_of_decAll r.args args a e1
  subst e3
  have KX:=hY w _ Y
  obtain ⟨fd,hb,hF⟩:=F w mg fa _ Y KX G.T.g hmg
  refine PySem.W.enter_call (codeAny_mono (spec_call (R:=[]) (cl:=classAt s_0.heap) (d0:=r.ret.enc (Codec.app r.args r.f a)) KX G.T.g G.T.b G.T.builtins G.T.nolimit (G.T.seer himp) hg hwl (pl_encAll _ _) (layable_weight hlay) hr hF hb (by rw [encAll_len]; exact hlen)
    (fun H xs hO hS=>hsp w H xs a hO hwi e2 hS) fun H e s'=>hCX w H s₁ e s') fun r' s' hq => ?_)
  obtain ⟨u,as',rfl,h1,h2,h3,h4⟩:=hq
  exact ⟨.inl ⟨u,_,as',rfl,fun _=>rfl,h1,(OpenSpec.post_iff hwell hwi _ _).mpr rfl,fun z=>Bool.noConfusion (show false=true from z)⟩,h2,h3,h4⟩
theorem walk_specK {r:OpenSpec} {k:Nat} {q:Program} {loose:List Str} {XP:(Str→Option Value)→Heap→Prop} {YP:World→Heap→Prop} {d:DefRec} {K:Params→PySem.W.Frag} {CX:CXT} {ps:List Str} {sp:PySem.W.Frag→Sp}
    (himp:PyProof.Rows.importsNone q=true) (hwell:r.wellSaid=true) (hdf:d.params.defaults=[]) (hlen:r.args.length=ps.length) (hr:Room k callerA)
    (hY:∀ (w:World) (h:Heap),YP w h→(K w.params).In h)
    (F:∀ (w:World) (mg:Str→Option Value) (fa:Addr) (h:Heap),YP w h→(K w.params).In h→h.Ns mainGlobals mg→mg d.name=some (.ref fa) →
      ∃ fd:FuncData,(∀ (s:Shared) (us:List Value),us.length=ps.length→BindsTo s fd ⟨us,[]⟩ (ps.zip us)) ∧
        ∀ base:Heap,(K w.params).In base→base.Ns mainGlobals mg→FnOk r.prog w (K w.params) mg base CX k fa fd ps (sp (K w.params)))
    (hsp:∀ (K:PySem.W.Frag) (H:Hp) (xs:List V) (a:Codec.denoteAll r.args),OnlyF H→Codec.withinAll r.args a=true→Codec.app r.args r.asked a=true→DwAll K H xs (Codec.encAll r.args a) →
      sp K xs H (fun v H'=>Dw K H' v (r.ret.enc (Codec.app r.args r.f a))) fun _ _ _=>False)
    (hCX:∀ (H:Hp) (s:Shared) (e:Value) (s':Shared),CX [] H s (fun _ _ _=>False) e s'→False) :
    PySem.W.WalkOS q loose XP YP r d [] (fun f vs=>PySem.call f vs) :=
  walk_spec (K:=K) (CX:=fun _=>CX) (sp:=fun w=>sp (K w.params)) himp hwell hdf hlen hr hY F (fun w H xs a h1 h2 h3 h4=>hsp (K w.params) H xs a h1 h2 h3 h4) fun _ H s e s'=>hCX H s e s'
end L2
namespace L2
open PySem PySem.Spec PyProof.Rows
def inClass (s:Stmt) (j:Nat):Stmt:=match s with
  | .ClassDef _ _ _ body _ _ _ _ _ _ _=>body.getD j (.Pass ⟨0,0,0,0⟩)
  | _ => .Pass ⟨0,0,0,0⟩
def defArgs (s:Stmt):Arguments:=match s with
  | .FunctionDef _ a _ _ _ _ _ _ _ _=>a
  | _=>{ posonlyargs:=[],args:=[],vararg:=none,kwonlyargs:=[],kw_defaults:=[],kwarg:=none,defaults:=[] }
def defBody (s:Stmt):List Stmt:=match s with
  | .FunctionDef _ _ b _ _ _ _ _ _ _=>b
  | _=>[]
def defScope (s:Stmt):Scope:=match s with
  | .FunctionDef _ _ _ _ _ _ sc _ _ _=>sc
  | _=>{ kind:=.function,names:=[],isGenerator:=false,isCoroutine:=false }
abbrev CX0:CXT:=fun _ _ _ _ _ _=>False
abbrev E0:XK:=fun _ _ _=>False
theorem pass0 {X:Cx}:Passes CX0 X E0:=fun _ _ _ _ _ _ _ h=>h.elim
structure Fun (K:PySem.W.Frag) (x qual:Str) (st:Stmt) (f:Addr) (fd:FuncData):Prop where
  ex:∃ (oc:Value) (od:Option Addr) (kV doc pm:Value) (an:Option Addr) (cdv ct:Value) (osl:Array (Option Value)),
    fd=PySem.W.fnOf x qual (defArgs st) (defBody st) (defScope st) .none kV doc pm an cdv ct∧K.lookup f=some ⟨oc,od,.func fd,osl⟩∧PySem.W.codeIn K cdv qual=true
  kp:PySem.W.keepIn K (.ref f)=true
section
variable {P:Program} {w:World} {K:PySem.W.Frag} {mg:Str→Option Value} {base:Heap}
theorem Fun.ok {x qual:Str} {st:Stmt} {f:Addr} {fd:FuncData} {N ps:List Str} {k:Nat} {sp:Sp} (F:Fun K x qual st f fd) (S:FnScope N ps (defScope st)) (len:∀ vs H Q E,sp vs H Q E→vs.length=ps.length)
    (hbody:∀ (cdv:Value) (A:Around) (outer:List Env) (s:Shared) (H:Hp) (vs:List V) (Q:VK) (E:XK),Room k (A.deeper (envOfC qual (defScope st) s.heap.objs.size f cdv))→sp vs H Q E →
      ∃ t,PSs (cxOf CX0 P w K mg base N qual (defScope st) f cdv A outer s H E).nox (defBody st) t∧t { nx:=fun _ H'=>Q .non H',rt:=Q } (start N vs) H):FnOk P w K mg base CX0 (k+1) f fd ps sp:=by
  obtain ⟨oc,od,kV,doc,pm,an,cdv,ct,osl,rfl,lk,hcd⟩:=F.ex
  refine fn_of lk hcd S len fun A outer s H vs Q E hr hsp => ?_
  obtain ⟨t,h,q⟩:=hbody cdv A outer s H vs Q E hr hsp
  exact ⟨t,h.nox,q⟩
theorem Fun.binds {x qual:Str} {st:Stmt} {f:Addr} {fd:FuncData} {ps:List Str} (F:Fun K x qual st f fd)
    (h:∀ (kV doc pm:Value) (an:Option Addr) (cdv ct:Value) (us:List Value),us.length=ps.length→bindArgs (PySem.W.fnOf x qual (defArgs st) (defBody st) (defScope st) .none kV doc pm an cdv ct) ⟨us,[]⟩=pure (ps.zip us)):Binds K fd ps []:=by
  obtain ⟨oc,od,kV,doc,pm,an,cdv,ct,osl,rfl,lk,hcd⟩:=F.ex
  exact .all (h kV doc pm an cdv ct)
theorem fun_mk {x qual:Str} {st:Stmt} {f:Addr} {oc:Value} {od an:Option Addr} {osl:Array (Option Value)} {kV doc pm cdv ct:Value} (l:K.lookup f=some ⟨oc,od,.func (PySem.W.fnOf x qual (defArgs st) (defBody st) (defScope st) .none kV doc pm an cdv ct),osl⟩)
    (c:PySem.W.codeIn K cdv qual=true) (k:PySem.W.keepIn K (.ref f)=true):Fun K x qual st f (PySem.W.fnOf x qual (defArgs st) (defBody st) (defScope st) .none kV doc pm an cdv ct):=⟨⟨oc,od,kV,doc,pm,an,cdv,ct,osl,rfl,l,c⟩,k⟩
end
theorem hu_of {A:Around} {k:Nat} (hr:Room k A):A.units+1<cLine:=Nat.lt_of_le_of_lt (Nat.add_le_add_left (by decide:1≤64) _) hr.units
section
variable {X:Cx}
theorem pv (i:Nat) {x:Str} {pos:Pos} (hN:X.N[i]? = some x:=by rfl) (hv:Vis X.env.scope x:=by first | exact Or.inl rfl | exact Or.inr (Or.inl rfl) | exact Or.inr (Or.inr rfl)) (hd:(x == ("__debug__" : Str))=false:=by decide)
    (hcd:(x == ("__classdict__" : Str))=false:=by decide):PE X (.Name x pos) (tVar i):=pe_var hN hv hd hcd
theorem call_lenD:CallR X (.builtin "len") (fun xs H Q => ∃ a kvs,xs=[V.ref a]∧H a=some (.dK kvs)∧Q (.int kvs.length) H):=by
  intro pins s σ H xs us Q I r h
  obtain ⟨a,kvs,rfl,ha,q⟩:=h
  obtain ⟨u,rfl,ru⟩:=vals1 r
  cases ru
  exact d_len I (.inl ha) fun t s' I'=>⟨.int kvs.length,H,I',⟨t,rfl⟩,q⟩
end
def Same (H H':Hp):Prop:=∀ b o,H b=some o→H' b=some o
theorem Same.refl (H:Hp):Same H H:=fun _ _ h=>h
theorem Same.trans {H H1 H2:Hp} (a:Same H H1) (b:Same H1 H2):Same H H2:=fun c o h=>b c o (a c o h)
theorem Same.free {H H':Hp} (e:Same H H') {l:Addr} (h:H' l=Option.none):H l=Option.none:=by
  cases q:H l with
  | none=>rfl
  | some o=>
    rw [e l o q] at h
    cases h
theorem Same.seq {K:PySem.W.Frag} {H H':Hp} {a:Addr} {xs:List V} (e:Same H H') (h:SqL K H a xs):SqL K H' a xs:=by
  rcases h with (h | ⟨o,h⟩) | h
  · exact .inl (.inl (e _ _ h))
  · exact .inl (.inr ⟨o,e _ _ h⟩)
  · exact .inr h
section
variable {κ:Type} [DecidableEq κ]
theorem valV_not {kvs:List (κ×V)} {k:κ} (h:valV kvs k=none):¬ k∈kvs.map (·.1):=by
  intro m
  obtain ⟨p,hp,e⟩:=List.mem_map.mp m
  have q:(kvs.any fun kv=>decide (kv.1=k))=true:=List.any_eq_true.mpr ⟨p,hp,decide_eq_true e⟩
  rw [valV_any,h] at q
  exact absurd q (by simp)
theorem valV_in {kvs:List (κ×V)} {k:κ} {v:V} (h:valV kvs k=some v):k∈kvs.map (·.1):=by
  have q:(kvs.any fun kv=>decide (kv.1=k))=true:=by
    rw [valV_any,h]
    all_goals rfl
  obtain ⟨p,hp,e⟩:=List.any_eq_true.mp q
  exact List.mem_map.mpr ⟨p,hp,of_decide_eq_true e⟩
theorem nd_snoc:∀ {l:List κ} {k:κ},l.Nodup→¬ k∈l→(l++[k]).Nodup
  | [],k,_,_=>by simp
  | a::r,k,h,hk=>by
    obtain ⟨h1,h2⟩:=List.nodup_cons.mp h
    show (a::(r++[k])).Nodup
    refine List.nodup_cons.mpr ⟨fun m => ?_,nd_snoc h2 fun m=>hk (List.mem_cons.mpr (Or.inr m))⟩
    rcases List.mem_append.mp m with q | q
    · exact h1 q
    · exact hk (List.mem_cons.mpr (Or.inl (List.mem_singleton.mp q).symm))
theorem nd_putK {kvs:List (κ×V)} {k:κ} (v:V) (hn:(kvs.map (·.1)).Nodup) (h:valV kvs k=none):((putK kvs k v).map (·.1)).Nodup:=by
  rw [putK_new v h,List.map_append]
  exact nd_snoc hn (valV_not h)
theorem dropK_pos {p:κ×V} {r:List (κ×V)} {k:κ} (e:p.1=k):dropK (p::r) k=dropK r k:=by
  unfold dropK
  rw [List.filter_cons,if_neg (by simp [e])]
theorem dropK_neg {p:κ×V} {r:List (κ×V)} {k:κ} (e:¬ p.1=k):dropK (p::r) k=p::dropK r k:=by
  unfold dropK
  rw [List.filter_cons,if_pos (by simp [e])]
theorem dropK_mem {kvs:List (κ×V)} {k:κ} {p:κ×V} (h:p∈dropK kvs k):p∈kvs:=(List.mem_filter.mp h).1
theorem nd_dropK:∀ {kvs:List (κ×V)} {k:κ},(kvs.map (·.1)).Nodup→((dropK kvs k).map (·.1)).Nodup
  | [],_,_=>List.nodup_nil
  | p::r,k,h=>by
    have h:(p.1::r.map (·.1)).Nodup:=h
    obtain ⟨h1,h2⟩:=List.nodup_cons.mp h
    by_cases e:p.1=k
    · rw [dropK_pos e]
      exact nd_dropK h2
    · rw [dropK_neg e]
      show (p.1::(dropK r k).map (·.1)).Nodup
      refine List.nodup_cons.mpr ⟨fun m=>h1 ?_,nd_dropK h2⟩
      obtain ⟨q,hq,eq⟩:=List.mem_map.mp m
      exact List.mem_map.mpr ⟨q,dropK_mem hq,eq⟩
end
theorem at_of {xs:List V} {z:Int} {j:Nat} {v:V} (e:z=(j:Int)) (h:xs[j]? = some v):atI xs z=some v:=by
  rw [e]
  exact atI_nat h
theorem nd_ix {α:Type} {l:List α} (hN:l.Nodup) {i j:Nat} {x:α} (a:l[i]? = some x) (b:l[j]? = some x):i=j:=by
  obtain ⟨h1,e1⟩:=List.getElem?_eq_some_iff.mp a
  obtain ⟨h2,e2⟩:=List.getElem?_eq_some_iff.mp b
  exact (List.getElem_inj hN).mp (e1.trans e2.symm)
end L2
section
namespace Ts
open Vagraa
structure WF (f:Frac):Prop where
  pos:0<f.den
  cop:f.num.natAbs.Coprime f.den
theorem wf_ext {f g:Frac} (hf:WF f) (hg:WF g) (h:f.num*g.den=g.num*f.den):f=g:=by
  have h1:f.num.natAbs*g.den=g.num.natAbs*f.den:=by
    have:=congrArg Int.natAbs h
    rw [Int.natAbs_mul,Int.natAbs_mul] at this
    simpa using this
  have d1:f.den∣g.den:=hf.cop.symm.dvd_of_dvd_mul_left ⟨g.num.natAbs,by rw [h1,Nat.mul_comm]⟩
  have d2:g.den∣f.den:=hg.cop.symm.dvd_of_dvd_mul_left ⟨f.num.natAbs,by rw [← h1,Nat.mul_comm]⟩
  have e:f.den=g.den:=Nat.dvd_antisymm d1 d2
  have p:=hg.pos
  obtain ⟨fn,fd⟩:=f
  obtain ⟨gn,gd⟩:=g
  simp only at e h p
  subst e
  have hne:(fd:Int)≠0:=by omega
  have:=Int.eq_of_mul_eq_mul_right hne h
  rw [this]
theorem gcd_pos {n:Int} {d:Nat} (h:0<d):0<Nat.gcd n.natAbs d:=Nat.gcd_pos_of_pos_right _ h
theorem frac_def (n:Int) {d:Nat} (h:0<d):frac n d=⟨n / (Nat.gcd n.natAbs d:Nat),d / Nat.gcd n.natAbs d⟩:=by
  unfold frac
  rw [if_neg (by omega)]
theorem frac_wf (n:Int) {d:Nat} (h:0<d):WF (frac n d):=by
  rw [frac_def n h]
  have hg:=gcd_pos (n:=n) h
  constructor
  · exact Nat.div_pos (Nat.le_of_dvd h (Nat.gcd_dvd_right _ _)) hg
  · show (n / ((Nat.gcd n.natAbs d:Nat):Int)).natAbs.Coprime (d / Nat.gcd n.natAbs d)
    rw [Int.natAbs_ediv_of_dvd (Int.ofNat_dvd_left.mpr (Nat.gcd_dvd_left _ _)),Int.natAbs_natCast]
    exact Nat.coprime_div_gcd_div_gcd hg
theorem frac_eq (n:Int) {d:Nat} (h:0<d):(frac n d).num*d=n*(frac n d).den:=by
  rw [frac_def n h]
  have hg:=gcd_pos (n:=n) h
  obtain ⟨a,ha⟩:=Int.ofNat_dvd_left.mpr (Nat.gcd_dvd_left n.natAbs d)
  obtain ⟨b,hb⟩:=Nat.gcd_dvd_right n.natAbs d
  show n / ((Nat.gcd n.natAbs d:Nat):Int)*(d:Int)=n*((d / Nat.gcd n.natAbs d:Nat):Int)
  generalize Nat.gcd n.natAbs d=g at *
  subst hb
  rw [Nat.mul_div_cancel_left _ hg]
  rw [ha,Int.mul_ediv_cancel_left _ (by omega)]
  push_cast
  rw [Int.mul_comm (g:Int) a,Int.mul_assoc]
theorem frac_of {f:Frac} (hf:WF f) {n:Int} {d:Nat} (h:0<d) (e:f.num*d=n*f.den):f=frac n d:=by
  refine wf_ext hf (frac_wf n h) ?_
  have e2:=frac_eq n h
  have hd:(d:Int)≠0:=by omega
  refine Int.eq_of_mul_eq_mul_right hd ?_
  calc f.num*(frac n d).den*d=(f.num*d)*(frac n d).den:=by rw [Int.mul_right_comm]
    _=(n*f.den)*(frac n d).den:=by rw [e]
    _=(n*(frac n d).den)*f.den:=by rw [Int.mul_right_comm]
    _=((frac n d).num*d)*f.den:=by rw [e2]
    _=(frac n d).num*f.den*d:=by rw [Int.mul_right_comm]
theorem zero_wf:WF zero:=⟨by decide,by decide⟩
theorem one_wf:WF one:=⟨by decide,by decide⟩
theorem neg_wf {f:Frac} (h:WF f):WF (neg f):=⟨h.pos,by show (-f.num).natAbs.Coprime f.den; rw [Int.natAbs_neg]; exact h.cop⟩
theorem add_wf {f g:Frac} (hf:WF f) (hg:WF g):WF (add f g):=frac_wf _ (Nat.mul_pos hf.pos hg.pos)
theorem sub_wf {f g:Frac} (hf:WF f) (hg:WF g):WF (sub f g):=add_wf hf (neg_wf hg)
theorem mul_wf {f g:Frac} (hf:WF f) (hg:WF g):WF (mul f g):=frac_wf _ (Nat.mul_pos hf.pos hg.pos)
theorem inv_wf {f:Frac} (hf:WF f):WF (inv f):=by
  unfold inv
  split
  · exact ⟨by show 0<f.num.natAbs; omega,by show (-(f.den:Int)).natAbs.Coprime f.num.natAbs; rw [Int.natAbs_neg]; exact hf.cop.symm⟩
  · split
    · exact zero_wf
    · exact ⟨by show 0<f.num.natAbs; omega,by show ((f.den:Int)).natAbs.Coprime f.num.natAbs; exact hf.cop.symm⟩
theorem div_wf {f g:Frac} (hf:WF f) (hg:WF g):WF (div f g):=mul_wf hf (inv_wf hg)
theorem lowest_ok (n:Int) {d:Int} (h:0<d):n / ((Int.gcd n d:Nat):Int)=(frac n d.toNat).num∧d / ((Int.gcd n d:Nat):Int)=((frac n d.toNat).den:Int):=by
  obtain ⟨k,rfl⟩:=Int.eq_ofNat_of_zero_le (Int.le_of_lt h)
  have hk:0<k:=by omega
  rw [Int.toNat_natCast,frac_def n hk]
  refine ⟨rfl,?_⟩
  show (k:Int) / ((Nat.gcd n.natAbs (k:Int).natAbs:Nat):Int)=((k / Nat.gcd n.natAbs k:Nat):Int)
  rw [Int.natAbs_natCast]
  exact (Int.natCast_ediv _ _).symm
theorem cop_of_dvd {a b g:Nat} (h:a.Coprime b) (d:g∣a):g.Coprime b:=Nat.Coprime.coprime_dvd_left d h
theorem plus_nat {n1 n2:Int} {s p q:Nat} (hs:0<s) (c:p.Coprime q) (c1:n1.natAbs.Coprime (s*p)) (c2:n2.natAbs.Coprime (s*q)) :
    ((n1*(q:Int)+n2*(p:Int)) / ((Int.gcd (n1*(q:Int)+n2*(p:Int)) s:Nat):Int)).natAbs.Coprime (p*(s*q / Int.gcd (n1*(q:Int)+n2*(p:Int)) s)):=by
  have cp:(Int.gcd (n1*(q:Int)+n2*(p:Int)) p)=1:=by
    rw [Int.gcd_add_mul_right_left]
    show (n1*(q:Int)).natAbs.gcd p=1
    rw [Int.natAbs_mul,Int.natAbs_natCast]
    exact Nat.Coprime.mul_left (Nat.Coprime.coprime_dvd_right ⟨s,Nat.mul_comm _ _⟩ c1) c.symm
  have cq:(Int.gcd (n1*(q:Int)+n2*(p:Int)) q)=1:=by
    rw [Int.add_comm,Int.gcd_add_mul_right_left]
    show (n2*(p:Int)).natAbs.gcd q=1
    rw [Int.natAbs_mul,Int.natAbs_natCast]
    exact Nat.Coprime.mul_left (Nat.Coprime.coprime_dvd_right ⟨s,Nat.mul_comm _ _⟩ c2) c
  generalize n1*(q:Int)+n2*(p:Int)=t at *
  have hg:0<t.natAbs.gcd s:=Nat.gcd_pos_of_pos_right _ hs
  show (t / ((t.natAbs.gcd s:Nat):Int)).natAbs.Coprime (p*(s*q / (t.natAbs.gcd s)))
  have dt:(((t.natAbs.gcd s:Nat):Int))∣t:=Int.ofNat_dvd_left.mpr (Nat.gcd_dvd_left _ _)
  have ds:(t.natAbs.gcd s)∣s:=Nat.gcd_dvd_right _ _
  rw [Int.natAbs_ediv_of_dvd dt,Int.natAbs_natCast]
  have dd:t.natAbs / (t.natAbs.gcd s)∣t.natAbs:=Nat.div_dvd_of_dvd (Nat.gcd_dvd_left _ _)
  have k1:(t.natAbs / (t.natAbs.gcd s)).Coprime p:=cop_of_dvd (show t.natAbs.Coprime p from cp) dd
  have k2:(t.natAbs / (t.natAbs.gcd s)).Coprime q:=cop_of_dvd (show t.natAbs.Coprime q from cq) dd
  have k3:(t.natAbs / (t.natAbs.gcd s)).Coprime (s / (t.natAbs.gcd s)):=Nat.coprime_div_gcd_div_gcd hg
  have e:s*q / (t.natAbs.gcd s)=(s / (t.natAbs.gcd s))*q:=by
    rw [Nat.mul_comm s q,Nat.mul_div_assoc _ ds,Nat.mul_comm]
  rw [e]
  exact k1.mul_right (k3.mul_right k2)
theorem plus_ok {a b:Frac} (ha:WF a) (hb:WF b) {s p t g:Int} (es:s=((Int.gcd a.den b.den:Nat):Int)) (ep:p=(a.den:Int) / s) (et:t=a.num*((b.den:Int) / s)+b.num*p)
    (eg:g=((Int.gcd t s:Nat):Int)):t / g=(add a b).num∧p*((b.den:Int) / g)=((add a b).den:Int)∧0<s∧0<g:=by
  obtain ⟨n1,d1⟩:=a
  obtain ⟨n2,d2⟩:=b
  have h1:0<d1:=ha.pos
  have h2:0<d2:=hb.pos
  have es':s=((Nat.gcd d1 d2:Nat):Int):=es
  have hs:0<Nat.gcd d1 d2:=Nat.gcd_pos_of_pos_left _ h1
  obtain ⟨p',e1⟩:=Nat.gcd_dvd_left d1 d2
  obtain ⟨q',e2⟩:=Nat.gcd_dvd_right d1 d2
  have cpq:p'.Coprime q':=by
    have:=Nat.coprime_div_gcd_div_gcd hs
    have f1:d1 / Nat.gcd d1 d2=p':=by
      conv=>lhs; lhs; rw [e1]
      exact Nat.mul_div_cancel_left _ hs
    have f2:d2 / Nat.gcd d1 d2=q':=by
      conv=>lhs; lhs; rw [e2]
      exact Nat.mul_div_cancel_left _ hs
    rwa [f1,f2] at this
  have hp0:0<p':=Nat.pos_of_ne_zero (by rintro rfl; omega)
  have hq0:0<q':=Nat.pos_of_ne_zero (by rintro rfl; omega)
  generalize Nat.gcd d1 d2=s' at *
  subst e1 e2
  have sne:(s':Int)≠0:=by omega
  have ep2:p=(p':Int):=by
    rw [ep,es']
    show ((s'*p':Nat):Int) / (s':Int)=p'
    push_cast
    exact Int.mul_ediv_cancel_left _ sne
  have eq2:((s'*q':Nat):Int) / s=(q':Int):=by
    rw [es']
    push_cast
    exact Int.mul_ediv_cancel_left _ sne
  have et2:t=n1*(q':Int)+n2*(p':Int):=by rw [et,ep2]; show n1*(((s'*q':Nat):Int) / s)+_=_; rw [eq2]
  rw [es'] at eg
  have cop:=plus_nat hs cpq (show n1.natAbs.Coprime (s'*p') from ha.cop) (show n2.natAbs.Coprime (s'*q') from hb.cop)
  rw [← et2] at cop
  have g0:0<Int.gcd t s':=Nat.gcd_pos_of_pos_right _ (show 0<(s':Int).natAbs by simpa using hs)
  have gs:Int.gcd t s'∣s':=Nat.gcd_dvd_right t.natAbs s'
  have gt:((Int.gcd t s':Nat):Int)∣t:=Int.gcd_dvd_left _ _
  have sq:Int.gcd t s'∣s'*q':=Nat.dvd_trans gs ⟨q',rfl⟩
  have key:(⟨t / ((Int.gcd t s':Nat):Int),p'*(s'*q' / Int.gcd t s')⟩:Frac)=add ⟨n1,s'*p'⟩ ⟨n2,s'*q'⟩:=by
    refine frac_of ⟨?_,cop⟩ (Nat.mul_pos h1 h2) ?_
    · exact Nat.mul_pos hp0 (Nat.div_pos (Nat.le_of_dvd (Nat.mul_pos hs hq0) sq) g0)
    · show t / ((Int.gcd t s':Nat):Int)*((s'*p'*(s'*q'):Nat):Int)=(n1*((s'*q':Nat):Int)+n2*((s'*p':Nat):Int))*((p'*(s'*q' / Int.gcd t s'):Nat):Int)
      obtain ⟨x,ex⟩:=gt
      obtain ⟨y,ey⟩:=gs
      have e5:s'*q' / Int.gcd t s'=y*q':=by
        conv=>lhs; lhs; rw [ey]
        rw [Nat.mul_assoc,Nat.mul_div_cancel_left _ g0]
      rw [e5]
      have e6:t / ((Int.gcd t s':Nat):Int)=x:=by
        conv=>lhs; lhs; rw [ex]
        exact Int.mul_ediv_cancel_left _ (by omega)
      rw [e6]
      have e7:n1*((s'*q':Nat):Int)+n2*((s'*p':Nat):Int)=(s':Int)*t:=by
        rw [et2]; push_cast
        rw [Int.mul_add,Int.mul_left_comm n1,Int.mul_left_comm n2]
      rw [e7]
      generalize Int.gcd t s'=g' at *
      have ey':(s':Int)=(g':Int)*(y:Int):=by rw [ey]; push_cast; rfl
      rw [ex]; push_cast
      rw [ey']
      simp only [Int.mul_comm,Int.mul_left_comm,Int.mul_assoc]
  have k1:=congrArg Frac.num key
  have k2:=congrArg (fun f=>((Frac.den f:Nat):Int)) key
  refine ⟨by rw [eg]; exact k1,?_,by rw [es']; omega,by rw [eg]; omega⟩
  rw [← k2,eg,ep2]
  show (p':Int)*(((s'*q':Nat):Int) / ((Int.gcd t s':Nat):Int))=((p'*(s'*q' / Int.gcd t s'):Nat):Int)
  rw [Int.natCast_mul p',Int.natCast_ediv]
theorem times_ok {a b:Frac} (ha:WF a) (hb:WF b) {f r:Int} (ef:f=((Int.gcd a.num b.den:Nat):Int)) (er:r=((Int.gcd b.num a.den:Nat):Int)) :
    (a.num / f)*(b.num / r)=(mul a b).num∧((a.den:Int) / r)*((b.den:Int) / f)=((mul a b).den:Int)∧0<f∧0<r:=by
  obtain ⟨n1,d1⟩:=a
  obtain ⟨n2,d2⟩:=b
  have h1:0<d1:=ha.pos
  have h2:0<d2:=hb.pos
  have c1:n1.natAbs.Coprime d1:=ha.cop
  have c2:n2.natAbs.Coprime d2:=hb.cop
  have ef':f=((n1.natAbs.gcd d2:Nat):Int):=ef
  have er':r=((n2.natAbs.gcd d1:Nat):Int):=er
  have f0:0<n1.natAbs.gcd d2:=Nat.gcd_pos_of_pos_right _ h2
  have r0:0<n2.natAbs.gcd d1:=Nat.gcd_pos_of_pos_right _ h1
  have k1:(n1.natAbs / n1.natAbs.gcd d2).Coprime (d2 / n1.natAbs.gcd d2):=Nat.coprime_div_gcd_div_gcd f0
  have k2:(n2.natAbs / n2.natAbs.gcd d1).Coprime (d1 / n2.natAbs.gcd d1):=Nat.coprime_div_gcd_div_gcd r0
  have df1:((n1.natAbs.gcd d2:Nat):Int)∣n1:=Int.ofNat_dvd_left.mpr (Nat.gcd_dvd_left _ _)
  have df2:n1.natAbs.gcd d2∣d2:=Nat.gcd_dvd_right _ _
  have dr1:((n2.natAbs.gcd d1:Nat):Int)∣n2:=Int.ofNat_dvd_left.mpr (Nat.gcd_dvd_left _ _)
  have dr2:n2.natAbs.gcd d1∣d1:=Nat.gcd_dvd_right _ _
  have m1:n1.natAbs / n1.natAbs.gcd d2∣n1.natAbs:=Nat.div_dvd_of_dvd (Nat.gcd_dvd_left _ _)
  have m2:n2.natAbs / n2.natAbs.gcd d1∣n2.natAbs:=Nat.div_dvd_of_dvd (Nat.gcd_dvd_left _ _)
  have k3:(n1.natAbs / n1.natAbs.gcd d2).Coprime (d1 / n2.natAbs.gcd d1):=Nat.Coprime.coprime_dvd_right (Nat.div_dvd_of_dvd dr2) (cop_of_dvd c1 m1)
  have k4:(n2.natAbs / n2.natAbs.gcd d1).Coprime (d2 / n1.natAbs.gcd d2):=Nat.Coprime.coprime_dvd_right (Nat.div_dvd_of_dvd df2) (cop_of_dvd c2 m2)
  have key:(⟨n1 / ((n1.natAbs.gcd d2:Nat):Int)*(n2 / ((n2.natAbs.gcd d1:Nat):Int)),d1 / n2.natAbs.gcd d1*(d2 / n1.natAbs.gcd d2)⟩:Frac)=mul ⟨n1,d1⟩ ⟨n2,d2⟩:=by
    refine frac_of ⟨?_,?_⟩ (Nat.mul_pos h1 h2) ?_
    · exact Nat.mul_pos (Nat.div_pos (Nat.le_of_dvd h1 dr2) r0) (Nat.div_pos (Nat.le_of_dvd h2 df2) f0)
    · show (n1 / ((n1.natAbs.gcd d2:Nat):Int)*(n2 / ((n2.natAbs.gcd d1:Nat):Int))).natAbs.Coprime _
      rw [Int.natAbs_mul,Int.natAbs_ediv_of_dvd df1,Int.natAbs_ediv_of_dvd dr1,Int.natAbs_natCast,Int.natAbs_natCast]
      exact (k3.mul_right k1).mul_left (k2.mul_right k4)
    · show n1 / ((n1.natAbs.gcd d2:Nat):Int)*(n2 / ((n2.natAbs.gcd d1:Nat):Int))*((d1*d2:Nat):Int)=n1*n2*((d1 / n2.natAbs.gcd d1*(d2 / n1.natAbs.gcd d2):Nat):Int)
      generalize n1.natAbs.gcd d2=f' at *
      generalize n2.natAbs.gcd d1=r' at *
      obtain ⟨x1,rfl⟩:=df1
      obtain ⟨y1,rfl⟩:=df2
      obtain ⟨x2,rfl⟩:=dr1
      obtain ⟨y2,rfl⟩:=dr2
      rw [Nat.mul_div_cancel_left _ f0,Nat.mul_div_cancel_left _ r0,Int.mul_ediv_cancel_left _ (by omega),Int.mul_ediv_cancel_left _ (by omega)]
      push_cast
      simp only [Int.mul_comm,Int.mul_left_comm,Int.mul_assoc]
  have q1:=congrArg Frac.num key
  have q2:=congrArg (fun f=>((Frac.den f:Nat):Int)) key
  refine ⟨by rw [ef',er']; exact q1,?_,by rw [ef']; omega,by rw [er']; omega⟩
  rw [← q2,ef',er']
  show (d1:Int) / ((n2.natAbs.gcd d1:Nat):Int)*((d2:Int) / ((n1.natAbs.gcd d2:Nat):Int))=((d1 / n2.natAbs.gcd d1*(d2 / n1.natAbs.gcd d2):Nat):Int)
  rw [Int.natCast_mul,Int.natCast_ediv,Int.natCast_ediv]
end Ts
end
section
namespace Ts
open Vagraa
def Bd (D B:Nat) (f:Frac):Prop:=f.den∣D∧f.num.natAbs≤B*f.den
theorem den_dvd {f:Frac} (hf:WF f) {D:Nat} {y:Int} (e:f.num*D=y*f.den):f.den∣D:=by
  have h:f.num.natAbs*D=y.natAbs*f.den:=by
    have:=congrArg Int.natAbs e
    rw [Int.natAbs_mul,Int.natAbs_mul] at this
    simpa using this
  exact hf.cop.symm.dvd_of_dvd_mul_left ⟨y.natAbs,by rw [h,Nat.mul_comm]⟩
theorem Bd.mono {D D' B B':Nat} {f:Frac} (h:Bd D B f) (hD:D∣D') (hB:B≤B'):Bd D' B' f :=
  ⟨Nat.dvd_trans h.1 hD,Nat.le_trans h.2 (Nat.mul_le_mul_right _ hB)⟩
theorem Bd.zero (D B:Nat):Bd D B zero:=⟨Nat.one_dvd _,Nat.zero_le _⟩
theorem Bd.one (D:Nat) {B:Nat} (h:1≤B):Bd D B one:=⟨Nat.one_dvd _,by show 1≤B*1; omega⟩
theorem Bd.add {D B C:Nat} {f g:Frac} (hf:WF f) (hg:WF g) (h1:Bd D B f) (h2:Bd D C g):Bd D (B+C) (add f g):=by
  have hw:=add_wf hf hg
  have p1:=hf.pos
  have p2:=hg.pos
  have e:(Vagraa.add f g).num*((f.den*g.den:Nat):Int)=(f.num*g.den+g.num*f.den)*(Vagraa.add f g).den:=frac_eq _ (Nat.mul_pos p1 p2)
  generalize Vagraa.add f g=r at *
  have hpos:(0:Int)<((f.den*g.den:Nat):Int):=by have:=Nat.mul_pos p1 p2; omega
  constructor
  · obtain ⟨x,hx⟩:=h1.1
    obtain ⟨y,hy⟩:=h2.1
    refine den_dvd hw (y:=f.num*x+g.num*y) ?_
    have e3:(f.num*g.den+g.num*f.den)*(D:Int)=(f.num*x+g.num*y)*((f.den*g.den:Nat):Int):=by
      have a1:(D:Int)=f.den*x:=by rw [hx]; push_cast; rfl
      have a2:(D:Int)=g.den*y:=by rw [hy]; push_cast; rfl
      rw [Int.add_mul,Int.add_mul]
      push_cast
      congr 1
      · rw [a1]; simp only [Int.mul_comm,Int.mul_left_comm,Int.mul_assoc]
      · rw [a2]; simp only [Int.mul_comm,Int.mul_left_comm,Int.mul_assoc]
    refine Int.eq_of_mul_eq_mul_right (Int.ne_of_gt hpos) ?_
    calc r.num*D*((f.den*g.den:Nat):Int)=(r.num*((f.den*g.den:Nat):Int))*D:=by rw [Int.mul_right_comm]
      _=((f.num*g.den+g.num*f.den)*r.den)*D:=by rw [e]
      _=((f.num*g.den+g.num*f.den)*D)*r.den:=by rw [Int.mul_right_comm]
      _=((f.num*x+g.num*y)*((f.den*g.den:Nat):Int))*r.den:=by rw [e3]
      _=(f.num*x+g.num*y)*r.den*((f.den*g.den:Nat):Int):=by rw [Int.mul_right_comm]
  · have e2:r.num.natAbs*(f.den*g.den)=(f.num*g.den+g.num*f.den).natAbs*r.den:=by
      have:=congrArg Int.natAbs e
      rw [Int.natAbs_mul,Int.natAbs_mul,Int.natAbs_natCast,Int.natAbs_natCast] at this
      exact this
    have s1:(f.num*g.den+g.num*f.den).natAbs≤f.num.natAbs*g.den+g.num.natAbs*f.den:=by
      have:=Int.natAbs_add_le (f.num*g.den) (g.num*f.den)
      rw [Int.natAbs_mul,Int.natAbs_mul,Int.natAbs_natCast,Int.natAbs_natCast] at this
      exact this
    have s2:f.num.natAbs*g.den+g.num.natAbs*f.den≤(B+C)*(f.den*g.den):=by
      have t1:=Nat.mul_le_mul_right g.den h1.2
      have t2:=Nat.mul_le_mul_right f.den h2.2
      have u1:B*f.den*g.den=B*(f.den*g.den):=Nat.mul_assoc _ _ _
      have u2:C*g.den*f.den=C*(f.den*g.den):=by rw [Nat.mul_assoc,Nat.mul_comm g.den]
      rw [Nat.add_mul]
      omega
    have s3:r.num.natAbs*(f.den*g.den)≤(B+C)*r.den*(f.den*g.den):=by
      rw [e2]
      calc _≤(B+C)*(f.den*g.den)*r.den:=Nat.mul_le_mul_right _ (Nat.le_trans s1 s2)
        _=(B+C)*r.den*(f.den*g.den):=by rw [Nat.mul_right_comm]
    exact Nat.le_of_mul_le_mul_right s3 (Nat.mul_pos p1 p2)
theorem Bd.mul {D E B C:Nat} {f g:Frac} (hf:WF f) (hg:WF g) (h1:Bd D B f) (h2:Bd E C g):Bd (D*E) (B*C) (mul f g):=by
  have hw:=mul_wf hf hg
  have p1:=hf.pos
  have p2:=hg.pos
  have e:(Vagraa.mul f g).num*((f.den*g.den:Nat):Int)=f.num*g.num*(Vagraa.mul f g).den:=frac_eq _ (Nat.mul_pos p1 p2)
  generalize Vagraa.mul f g=r at *
  constructor
  · exact Nat.dvd_trans (den_dvd hw e) (Nat.mul_dvd_mul h1.1 h2.1)
  · have e2:r.num.natAbs*(f.den*g.den)=f.num.natAbs*g.num.natAbs*r.den:=by
      have:=congrArg Int.natAbs e
      rw [Int.natAbs_mul,Int.natAbs_mul,Int.natAbs_mul,Int.natAbs_natCast,Int.natAbs_natCast] at this
      exact this
    have s2:f.num.natAbs*g.num.natAbs≤(B*C)*(f.den*g.den):=by
      calc _≤(B*f.den)*(C*g.den):=Nat.mul_le_mul h1.2 h2.2
        _=(B*C)*(f.den*g.den):=by simp only [Nat.mul_comm,Nat.mul_left_comm,Nat.mul_assoc]
    have s3:r.num.natAbs*(f.den*g.den)≤B*C*r.den*(f.den*g.den):=by
      rw [e2]
      calc _≤(B*C)*(f.den*g.den)*r.den:=Nat.mul_le_mul_right _ s2
        _=B*C*r.den*(f.den*g.den):=by rw [Nat.mul_right_comm]
    exact Nat.le_of_mul_le_mul_right s3 (Nat.mul_pos p1 p2)
theorem Bd.frac {n:Int} {d:Nat} (h:0<d):Bd d n.natAbs (frac n d):=by
  have hw:=frac_wf n h
  have e:=frac_eq n h
  generalize Vagraa.frac n d=r at *
  refine ⟨den_dvd hw e,?_⟩
  have e2:r.num.natAbs*d=n.natAbs*r.den:=by
    have:=congrArg Int.natAbs e
    rw [Int.natAbs_mul,Int.natAbs_mul,Int.natAbs_natCast,Int.natAbs_natCast] at this
    exact this
  calc r.num.natAbs≤r.num.natAbs*d:=Nat.le_mul_of_pos_right _ h
    _=n.natAbs*r.den:=e2
theorem bits_lt {n k:Nat} (h:bits n≤k):n<2 ^ k:=by
  unfold bits at h
  by_cases h0:n=0
  · subst h0; exact Nat.two_pow_pos k
  · rw [if_neg h0] at h
    exact (Nat.log2_lt h0).mp h
theorem Bd.light {f:Frac} {k:Nat} (hf:WF f) (h:weight f≤k):f.den<2 ^ k∧f.num.natAbs<2 ^ k∧Bd f.den (2 ^ k) f:=by
  unfold weight at h
  have h1:f.den<2 ^ k:=bits_lt (by omega)
  have h2:f.num.natAbs<2 ^ k:=bits_lt (by omega)
  refine ⟨h1,h2,Nat.dvd_refl _,?_⟩
  have:=Nat.le_mul_of_pos_right (2 ^ k) hf.pos
  omega
theorem Bd.size {D B a b:Nat} {f:Frac} (h:Bd D B f) (h0:0<D) (hD:D<2 ^ a) (hB:B≤2 ^ b):f.num.natAbs<2 ^ (a+b)∧f.den<2 ^ (a+b):=by
  have hd:f.den<2 ^ a:=Nat.lt_of_le_of_lt (Nat.le_of_dvd h0 h.1) hD
  have p:0<2 ^ b:=Nat.two_pow_pos b
  rw [Nat.pow_add]
  constructor
  · calc f.num.natAbs≤B*f.den:=h.2
      _≤2 ^ b*f.den:=Nat.mul_le_mul_right _ hB
      _=f.den*2 ^ b:=Nat.mul_comm _ _
      _<2 ^ a*2 ^ b:=Nat.mul_lt_mul_of_pos_right hd p
  · calc f.den<2 ^ a:=hd
      _≤2 ^ a*2 ^ b:=Nat.le_mul_of_pos_right _ p
end Ts
end
section
namespace Ts
open Vagraa VagraLine
theorem take_snoc {α:Type}:∀ {l:List α} {i:Nat} {x:α},l[i]? = some x→l.take (i+1)=l.take i++[x]
  | [],i,x,h=>by simp at h
  | a::l,0,x,h=>by
    have e:a=x:=Option.some.inj h
    subst e
    rfl
  | a::l,i+1,x,h=>by
    have ih:=take_snoc (l:=l) (i:=i) (x:=x) h
    show a::l.take (i+1)=a::l.take i++[x]
    rw [ih]
    rfl
def LineT:Line→List Int→Prop
  | .input k,ns=>ns=[0,(k:Int)]
  | .num a,ns => ∃ n d,ns=[1,n,d]∧1≤d∧a=frac n d.toNat
  | .add i j,ns=>ns=[2,(i:Int),(j:Int)]
  | .sub i j,ns=>ns=[3,(i:Int),(j:Int)]
  | .mul i j,ns=>ns=[4,(i:Int),(j:Int)]
  | .div i j,ns=>ns=[5,(i:Int),(j:Int)]
  | .neg i,ns=>ns=[6,(i:Int)]
def behind (k:Int):Nat:=if k=0 then 1 else if k=6 then 1 else 2
def lineOf:List Int→Option Line
  | [0,k]=>if k<0 then none else some (.input k.toNat)
  | [1,n,d]=>if d<1 then none else some (.num (frac n d.toNat))
  | [2,i,j]=>if i<0∨j<0 then none else some (.add i.toNat j.toNat)
  | [3,i,j]=>if i<0∨j<0 then none else some (.sub i.toNat j.toNat)
  | [4,i,j]=>if i<0∨j<0 then none else some (.mul i.toNat j.toNat)
  | [5,i,j]=>if i<0∨j<0 then none else some (.div i.toNat j.toNat)
  | [6,i]=>if i<0 then none else some (.neg i.toNat)
  | _=>none
theorem codeOf_nil (f:Nat):codeOf f []=some []:=by cases f <;> rfl
theorem codeOf_fuel:∀ (f g:Nat) (l:List Int),l.length≤f→l.length≤g→codeOf f l=codeOf g l:=by
  intro f
  induction f with
  | zero=>
    intro g l h1 h2
    have:l=[]:=List.length_eq_zero_iff.mp (by omega)
    subst this
    rw [codeOf_nil,codeOf_nil]
  | succ f ih=>
    intro g l h1 h2
    cases g with
    | zero=>
      have:l=[]:=List.length_eq_zero_iff.mp (by omega)
      subst this
      rw [codeOf_nil,codeOf_nil]
    | succ g=>
      cases l with
      | nil=>rfl
      | cons op r=>
        unfold codeOf
        have key:∀ s:List Int,s.length<r.length→codeOf f s=codeOf g s:=fun s hs=>ih g s (by simp at h1; omega) (by simp at h2; omega)
        split <;> first
          | rfl
          | (rw [key _ (by simp only [List.length_cons]; omega)])
def code (l:List Int):Option Code:=codeOf l.length l
theorem code_nil:code []=some []:=rfl
theorem codeOf_code {f:Nat} {l:List Int} (h:l.length≤f):codeOf f l=code l:=codeOf_fuel f l.length l h (Nat.le_refl _)
theorem code_step {k:Int} {r:List Int} (h0:0≤k) (h6:k≤6) (hl:behind k≤r.length):code (k::r)=(lineOf (k::r.take (behind k))).bind fun l=>(code (r.drop (behind k))).map fun c=>l::c:=by
  have hk:k=0∨k=1∨k=2∨k=3∨k=4∨k=5∨k=6:=by omega
  rcases hk with rfl | rfl | rfl | rfl | rfl | rfl | rfl
  · match r,hl with
    | x::s,_=>
      show codeOf (s.length+1+1) (0::x::s)=(lineOf [0,x]).bind _
      unfold codeOf lineOf
      simp only
      rw [codeOf_code (show s.length≤s.length+1 by omega)]
      by_cases h:x<0
      · simp [h]
      · simp [h,behind]
  · match r,hl with
    | x::y::s,_=>
      show codeOf (s.length+1+1+1) (1::x::y::s)=(lineOf [1,x,y]).bind _
      unfold codeOf lineOf
      simp only
      rw [codeOf_code (show s.length≤s.length+1+1 by omega)]
      by_cases h:y<1
      · simp [h]
      · simp [h,behind]
    | [_],h=>simp [behind] at h
    | [],h=>simp [behind] at h
  all_goals first
    | (match r,hl with
      | x::y::s,_=>
        show codeOf (s.length+1+1+1) (_::x::y::s)=(lineOf [_,x,y]).bind _
        unfold codeOf lineOf
        simp only
        rw [codeOf_code (show s.length≤s.length+1+1 by omega)]
        by_cases h:x<0∨y<0
        · simp [h]
        · simp [h,behind]
      | [_],h=>simp [behind] at h
      | [],h=>simp [behind] at h)
    | (match r,hl with
      | x::s,_=>
        show codeOf (s.length+1+1) (6::x::s)=(lineOf [6,x]).bind _
        unfold codeOf lineOf
        simp only
        rw [codeOf_code (show s.length≤s.length+1 by omega)]
        by_cases h:x<0
        · simp [h]
        · simp [h,behind]
      | [],h=>simp [behind] at h)
theorem code_bad {k:Int} {r:List Int} (h:k<0∨6<k):code (k::r)=none:=by
  show codeOf (r.length+1) (k::r)=none
  unfold codeOf
  split <;> first
    | rfl
    | (exfalso; rename_i e; omega)
    | (exfalso; omega)
theorem code_short {k:Int} {r:List Int} (h0:0≤k) (h6:k≤6) (hl:r.length<behind k):code (k::r)=none:=by
  have hk:k=0∨k=1∨k=2∨k=3∨k=4∨k=5∨k=6:=by omega
  rcases hk with rfl | rfl | rfl | rfl | rfl | rfl | rfl
  all_goals
    match r,hl with
    | [],_=>rfl
    | [_],h=>first | rfl | (exfalso; simp [behind] at h; done)
    | _::_::_,h=>(exfalso; simp [behind] at h; try omega)
theorem lineOf_T {ns:List Int} {l:Line} (h:lineOf ns=some l):LineT l ns:=by
  unfold lineOf at h
  split at h
  case h_8=>cases h
  all_goals
    split at h
    · cases h
    · cases h
      first
        | (show _=_; congr 2 <;> omega)
        | (rename_i k hk; show [0,k]=[0,((k.toNat:Nat):Int)]; rw [Int.toNat_of_nonneg (by omega)])
        | (rename_i i hk; show [6,i]=[6,((i.toNat:Nat):Int)]; rw [Int.toNat_of_nonneg (by omega)])
        | (rename_i i j hk; show [_,i,j]=[_,((i.toNat:Nat):Int),((j.toNat:Nat):Int)]; rw [Int.toNat_of_nonneg (by omega),Int.toNat_of_nonneg (by omega)])
        | (rename_i n d hk; exact ⟨n,d,rfl,by omega,rfl⟩)
end Ts
end
section
namespace Ts
open Vagraa Vagraf
abbrev GM:=Nat→Nat→Option Frac
def comb:Option Frac→Frac→Frac
  | none,f=>f
  | some g,f=>add g f
abbrev Way:=(Nat×Nat)×Frac
def put (G:GM) (z:Way):GM:=fun u x=>if u=z.1.1∧x=z.1.2 then some (comb (G u x) z.2) else G u x
def puts (G:GM) (L:List Way):GM:=L.foldl put G
theorem put_at (G:GM) (z:Way):put G z z.1.1 z.1.2=some (comb (G z.1.1 z.1.2) z.2):=by unfold put; rw [if_pos ⟨rfl,rfl⟩]
theorem put_ne {G:GM} {z:Way} {u x:Nat} (h:(u,x)≠z.1):put G z u x=G u x:=by
  unfold put
  rw [if_neg]
  rintro ⟨rfl,rfl⟩
  exact h rfl
theorem puts_out:∀ (L:List Way) (G:GM) {u x:Nat},(u,x) ∉ L.map (·.1)→puts G L u x=G u x
  | [],_,_,_,_=>rfl
  | z::L,G,u,x,h=>by
    simp only [List.map_cons,List.mem_cons,not_or] at h
    show puts (put G z) L u x=G u x
    rw [puts_out L _ h.2,put_ne h.1]
theorem puts_in:∀ (L:List Way) (G:GM) {u x:Nat} {f:Frac},(L.map (·.1)).Nodup→((u,x),f)∈L→puts G L u x=some (comb (G u x) f)
  | [],_,_,_,_,_,h=>by cases h
  | z::L,G,u,x,f,n,h=>by
    rw [List.map_cons,List.nodup_cons] at n
    show puts (put G z) L u x=_
    rcases List.mem_cons.mp h with e | h
    · subst e
      rw [puts_out L _ n.1]
      exact put_at G _
    · have hk:(u,x)∈L.map (·.1):=List.mem_map.mpr ⟨_,h,rfl⟩
      rw [puts_in L _ n.2 h,put_ne]
      intro e
      rw [e] at hk
      exact n.1 hk
theorem puts_perm {L M:List Way} (p:L.Perm M) (n:(L.map (·.1)).Nodup) (G:GM):puts G L=puts G M:=by
  have n2:(M.map (·.1)).Nodup:=(p.map _).nodup_iff.mp n
  funext u x
  by_cases h:(u,x)∈L.map (·.1)
  · obtain ⟨⟨k,f⟩,h1,h2⟩:=List.mem_map.mp h
    have e:k=(u,x):=h2
    subst e
    rw [puts_in L G n h1,puts_in M G n2 (p.mem_iff.mp h1)]
  · rw [puts_out L G h,puts_out M G (fun q=>h ((p.map _).mem_iff.mpr q))]
def wget (w:Ways):GM:=fun u x=>(w.find? fun z=>decide (z.1=(u,x))).map (·.2)
theorem wget_eq {z:Way} {l:Ways} {u x:Nat} (h:z.1=(u,x)):wget (z::l) u x=some z.2:=by simp [wget,List.find?_cons,h]
theorem wget_ne {z:Way} {l:Ways} {u x:Nat} (h:¬ z.1=(u,x)):wget (z::l) u x=wget l u x:=by simp [wget,List.find?_cons,h]
theorem wget_mem:∀ {w:Ways} {u x:Nat} {f:Frac},(w.map (·.1)).Nodup→(wget w u x=some f↔((u,x),f)∈w)
  | [],u,x,f,_=>by simp [wget]
  | z::w,u,x,f,n=>by
    rw [List.map_cons,List.nodup_cons] at n
    by_cases h:z.1=(u,x)
    · rw [wget_eq h]
      constructor
      · intro e
        cases e
        rw [← h]
        exact List.mem_cons_self
      · intro e
        rcases List.mem_cons.mp e with e | e
        · rw [← e]
        · exact absurd (List.mem_map.mpr ⟨_,e,rfl⟩) (by rw [← h]; exact n.1)
    · rw [wget_ne h,wget_mem n.2]
      constructor
      · exact fun e=>List.mem_cons_of_mem _ e
      · intro e
        rcases List.mem_cons.mp e with e | e
        · exact absurd (by rw [← e]) h
        · exact e
theorem wget_none {w:Ways} {u x:Nat}:(wget w u x).isSome=true↔(u,x)∈w.map (·.1):=by
  induction w with
  | nil=>simp [wget]
  | cons z w ih=>
    by_cases h:z.1=(u,x)
    · rw [wget_eq h]; simp [h]
    · rw [wget_ne h,ih,List.map_cons,List.mem_cons]
      constructor
      · exact fun e => .inr e
      · rintro (e | e)
        · exact absurd e.symm h
        · exact e
theorem putWay_ok (z:Way):∀ w:Ways,wget (putWay z w).1=put (wget w) z∧(putWay z w).2=(wget w z.1.1 z.1.2).isSome∧(∀ k,k∈(putWay z w).1.map (·.1)↔k∈w.map (·.1)∨k=z.1)∧((w.map (·.1)).Nodup→((putWay z w).1.map (·.1)).Nodup)
  | []=>by
    refine ⟨?_,rfl,?_,?_⟩
    · funext u x
      show wget [z] u x=put (fun _ _=>none) z u x
      by_cases h:z.1=(u,x)
      · rw [wget_eq h]
        have:u=z.1.1∧x=z.1.2:=by rw [h]; exact ⟨rfl,rfl⟩
        unfold put
        rw [if_pos this]
        rfl
      · rw [wget_ne h,put_ne (fun e=>h e.symm)]
        rfl
    · intro k
      simp [putWay]
    · intro _
      simp [putWay]
  | y::w=>by
    obtain ⟨i1,i2,i3,i4⟩:=putWay_ok z w
    unfold putWay
    by_cases h:y.1=z.1
    · rw [if_pos h]
      refine ⟨?_,?_,?_,?_⟩
      · funext u x
        by_cases hk:y.1=(u,x)
        · rw [wget_eq (z:=(y.1,add y.2 z.2)) hk]
          have hz:z.1=(u,x):=h.symm.trans hk
          have:u=z.1.1∧x=z.1.2:=by rw [hz]; exact ⟨rfl,rfl⟩
          unfold put
          rw [if_pos this,wget_eq hk]
          rfl
        · rw [wget_ne (z:=(y.1,add y.2 z.2)) hk,put_ne (fun e=>hk (h.trans e.symm)),wget_ne hk]
      · rw [wget_eq (z:=y) (l:=w) (u:=z.1.1) (x:=z.1.2) h]
        rfl
      · intro k
        simp only [List.map_cons,List.mem_cons]
        constructor
        · exact fun q => .inl q
        · rintro (q | q)
          · exact q
          · exact .inl (q.trans h.symm)
      · exact fun n=>n
    · rw [if_neg h]
      refine ⟨?_,?_,?_,?_⟩
      · funext u x
        show wget (y::(putWay z w).1) u x=_
        by_cases hk:y.1=(u,x)
        · rw [wget_eq hk,put_ne (fun e=>h (hk.trans e)),wget_eq hk]
        · rw [wget_ne hk,i1]
          unfold put
          rw [wget_ne hk]
      · rw [wget_ne (z:=y) (l:=w) (u:=z.1.1) (x:=z.1.2) h]
        exact i2
      · intro k
        show k∈(y::(putWay z w).1).map (·.1)↔_
        simp only [List.map_cons,List.mem_cons,i3]
        constructor
        · rintro (q | q | q)
          · exact .inl (.inl q)
          · exact .inl (.inr q)
          · exact .inr q
        · rintro ((q | q) | q)
          · exact .inl q
          · exact .inr (.inl q)
          · exact .inr (.inr q)
      · intro n
        rw [List.map_cons,List.nodup_cons] at n
        show ((y::(putWay z w).1).map (·.1)).Nodup
        rw [List.map_cons,List.nodup_cons]
        refine ⟨fun q => ?_,i4 n.2⟩
        rcases (i3 _).mp q with q | q
        · exact n.1 q
        · exact h q
def stepW (w:Worked) (x:Way):Worked:=⟨(putWay x w.ways).1,w.products+1,w.sums+(if (putWay x w.ways).2=true then 1 else 0)⟩
theorem fold_ok:∀ (L:List Way) (w:Worked),(L.map (·.1)).Nodup→(w.ways.map (·.1)).Nodup→wget (L.foldl stepW w).ways=puts (wget w.ways) L∧(L.foldl stepW w).products=w.products+L.length ∧
    (L.foldl stepW w).sums=w.sums+L.countP (fun z=>(wget w.ways z.1.1 z.1.2).isSome)∧((L.foldl stepW w).ways.map (·.1)).Nodup
  | [],w,_,n=>⟨rfl,rfl,rfl,n⟩
  | z::L,w,hn,n=>by
    rw [List.map_cons,List.nodup_cons] at hn
    obtain ⟨p1,p2,p3,p4⟩:=putWay_ok z w.ways
    obtain ⟨i1,i2,i3,i4⟩:=fold_ok L (stepW w z) hn.2 (p4 n)
    have e:(stepW w z).ways=(putWay z w.ways).1:=rfl
    rw [e,p1] at i1 i3
    refine ⟨i1,?_,?_,i4⟩
    · show (L.foldl stepW (stepW w z)).products=_
      rw [i2]
      show w.products+1+L.length=w.products+(L.length+1)
      omega
    · show (L.foldl stepW (stepW w z)).sums=_
      rw [i3]
      show w.sums+(if (putWay z w.ways).2=true then 1 else 0)+_=_
      rw [p2,List.countP_cons]
      have c:L.countP (fun y=>(put (wget w.ways) z y.1.1 y.1.2).isSome)=L.countP (fun y=>(wget w.ways y.1.1 y.1.2).isSome):=by
        refine List.countP_congr fun y hy => ?_
        rw [put_ne]
        intro q
        exact hn.1 (List.mem_map.mpr ⟨y,hy,q⟩)
      rw [c]
      omega
def cut (v:Nat) (G:GM):GM:=fun u x=>if u=v∨x=v then none else G u x
theorem find_filter {α:Type} (p q:α→Bool):∀ l:List α,(∀ a∈l,q a=true→p a=true)→(l.filter p).find? q=l.find? q
  | [],_=>rfl
  | a::l,h=>by
    have ih:=find_filter p q l fun b hb=>h b (List.mem_cons_of_mem _ hb)
    by_cases hp:p a=true
    · rw [List.filter_cons_of_pos hp,List.find?_cons,List.find?_cons,ih]
    · have hq:q a=false:=by
        cases e:q a with
        | false=>rfl
        | true=>exact absurd (h a List.mem_cons_self e) hp
      rw [List.filter_cons_of_neg hp,List.find?_cons,hq,ih]
theorem wget_cut (v:Nat) (w:Ways):wget (w.filter fun x => !decide (x.1.1=v) && !decide (x.1.2=v))=cut v (wget w):=by
  funext u x
  unfold cut
  by_cases h:u=v∨x=v
  · rw [if_pos h]
    unfold wget
    rw [List.find?_eq_none.mpr]
    · rfl
    · intro z hz
      have:=(List.mem_filter.mp hz).2
      simp only [Bool.and_eq_true,Bool.not_eq_true',decide_eq_false_iff_not] at this
      simp only [decide_eq_true_eq]
      intro e
      rw [e] at this
      rcases h with h | h
      · exact this.1 h
      · exact this.2 h
  · rw [if_neg h]
    unfold wget
    rw [find_filter]
    intro z hz hq
    simp only [decide_eq_true_eq] at hq
    rw [hq]
    simp only [Bool.and_eq_true,Bool.not_eq_true',decide_eq_false_iff_not]
    exact ⟨fun q=>h (.inl q),fun q=>h (.inr q)⟩
structure SrcOf (W:GM) (v:Nat) (S:List Nat):Prop where
  nd:S.Nodup
  mem:∀ u,u∈S↔(W u v).isSome=true
structure DstOf (W:GM) (v:Nat) (O:List (Nat×Frac)):Prop where
  nd:(O.map (·.1)).Nodup
  mem:∀ x f,(x,f)∈O↔W v x=some f
theorem nd_of_map {α β:Type} {f:α→β} {l:List α} (h:(l.map f).Nodup):l.Nodup:=by
  induction l with
  | nil=>exact List.nodup_nil
  | cons a l ih=>
    rw [List.map_cons,List.nodup_cons] at h
    rw [List.nodup_cons]
    exact ⟨fun q=>h.1 (List.mem_map.mpr ⟨a,q,rfl⟩),ih h.2⟩
theorem nd_map_on {α β:Type} {f:α→β} {l:List α} (h:l.Nodup) (inj:∀ a∈l,∀ b∈l,f a=f b→a=b):(l.map f).Nodup:=by
  induction l with
  | nil=>exact List.nodup_nil
  | cons a l ih=>
    rw [List.nodup_cons] at h
    rw [List.map_cons,List.nodup_cons]
    refine ⟨fun q => ?_,ih h.2 fun x hx y hy=>inj x (List.mem_cons_of_mem _ hx) y (List.mem_cons_of_mem _ hy)⟩
    obtain ⟨b,hb,e⟩:=List.mem_map.mp q
    have:=inj b (List.mem_cons_of_mem _ hb) a List.mem_cons_self e
    subst this
    exact h.1 hb
theorem nd_filter {α:Type} {l:List α} (p:α→Bool) (h:l.Nodup):(l.filter p).Nodup:=List.Pairwise.filter p h
def insOf (v:Nat) (w:Ways):Ways:=w.filter fun x=>decide (x.1.2=v)
def outsOf (v:Nat) (w:Ways):Ways:=w.filter fun x=>decide (x.1.1=v)
theorem spec_src {w:Ways} (n:(w.map (·.1)).Nodup) (v:Nat):SrcOf (wget w) v ((insOf v w).map (·.1.1)):=by
  constructor
  · refine nd_map_on (nd_filter _ (nd_of_map n)) fun a ha b hb e => ?_
    have h1:=(List.mem_filter.mp ha).2
    have h2:=(List.mem_filter.mp hb).2
    simp only [decide_eq_true_eq] at h1 h2
    obtain ⟨⟨a1,a2⟩,a3⟩:=a
    obtain ⟨⟨b1,b2⟩,b3⟩:=b
    simp only at e h1 h2
    subst e h1 h2
    have m1:=(wget_mem n).mpr (List.mem_filter.mp ha).1
    have m2:=(wget_mem n).mpr (List.mem_filter.mp hb).1
    rw [m1] at m2
    cases m2
    rfl
  · intro u
    rw [wget_none]
    constructor
    · intro h
      obtain ⟨a,ha,rfl⟩:=List.mem_map.mp h
      obtain ⟨h1,h2⟩:=List.mem_filter.mp ha
      simp only [decide_eq_true_eq] at h2
      refine List.mem_map.mpr ⟨a,h1,?_⟩
      rw [← h2]
    · intro h
      obtain ⟨a,ha,e⟩:=List.mem_map.mp h
      refine List.mem_map.mpr ⟨a,List.mem_filter.mpr ⟨ha,by rw [e]; simp⟩,by rw [e]⟩
theorem spec_dst {w:Ways} (n:(w.map (·.1)).Nodup) (v:Nat):DstOf (wget w) v ((outsOf v w).map fun b=>(b.1.2,b.2)):=by
  constructor
  · rw [List.map_map]
    refine nd_map_on (nd_filter _ (nd_of_map n)) fun a ha b hb e => ?_
    have h1:=(List.mem_filter.mp ha).2
    have h2:=(List.mem_filter.mp hb).2
    simp only [decide_eq_true_eq] at h1 h2
    obtain ⟨⟨a1,a2⟩,a3⟩:=a
    obtain ⟨⟨b1,b2⟩,b3⟩:=b
    simp only [Function.comp] at e h1 h2
    subst e h1 h2
    have m1:=(wget_mem n).mpr (List.mem_filter.mp ha).1
    have m2:=(wget_mem n).mpr (List.mem_filter.mp hb).1
    rw [m1] at m2
    cases m2
    rfl
  · intro x f
    rw [wget_mem n]
    constructor
    · intro h
      obtain ⟨⟨⟨a1,a2⟩,a3⟩,ha,e⟩:=List.mem_map.mp h
      obtain ⟨h1,h2⟩:=List.mem_filter.mp ha
      simp only [decide_eq_true_eq] at h2
      cases e
      rw [← h2]
      exact h1
    · intro h
      exact List.mem_map.mpr ⟨_,List.mem_filter.mpr ⟨h,by simp⟩,rfl⟩
theorem SrcOf.perm {W:GM} {v:Nat} {S S':List Nat} (a:SrcOf W v S) (b:SrcOf W v S'):S.Perm S':=(List.perm_ext_iff_of_nodup a.nd b.nd).mpr fun u=>(a.mem u).trans (b.mem u).symm
theorem DstOf.perm {W:GM} {v:Nat} {O O':List (Nat×Frac)} (a:DstOf W v O) (b:DstOf W v O'):O.Perm O' :=
  (List.perm_ext_iff_of_nodup (nd_of_map a.nd) (nd_of_map b.nd)).mpr fun u=>(a.mem u.1 u.2).trans (b.mem u.1 u.2).symm
def prods (wt:Nat→Frac) (S:List Nat) (O:List (Nat×Frac)):List Way:=S.flatMap fun u=>O.map fun o=>((u,o.1),mul (wt u) o.2)
def wtOf (W:GM) (v u:Nat):Frac:=(W u v).getD zero
theorem prods_keys (wt:Nat→Frac) {S:List Nat} {O:List (Nat×Frac)} (h1:S.Nodup) (h2:(O.map (·.1)).Nodup):((prods wt S O).map (·.1)).Nodup:=by
  unfold prods
  rw [List.map_flatMap]
  unfold List.Nodup
  rw [List.pairwise_flatMap]
  constructor
  · intro u _
    rw [List.map_map]
    have e:(O.map ((fun x:Way=>x.1) ∘ fun o=>((u,o.1),mul (wt u) o.2)))=(O.map (·.1)).map fun x=>(u,x):=by rw [List.map_map]; rfl
    rw [e]
    exact nd_map_on h2 fun a _ b _ e=>(Prod.mk.inj e).2
  · refine List.Pairwise.imp (R:=fun a b=>a≠b) (fun {a b} hab x hx y hy e => ?_) h1
    rw [List.map_map] at hx hy
    obtain ⟨o,_,rfl⟩:=List.mem_map.mp hx
    obtain ⟨o',_,e'⟩:=List.mem_map.mp hy
    subst e
    exact hab (Prod.mk.inj e').1.symm
theorem prods_mem {W:GM} {v:Nat} {S:List Nat} {O:List (Nat×Frac)} (a:SrcOf W v S) (b:DstOf W v O) (u x:Nat) (f:Frac):((u,x),f)∈prods (wtOf W v) S O ↔ ∃ g h,W u v=some g∧W v x=some h∧f=mul g h:=by
  unfold prods
  rw [List.mem_flatMap]
  constructor
  · rintro ⟨u',hu,hm⟩
    obtain ⟨⟨x',h⟩,ho,e⟩:=List.mem_map.mp hm
    cases e
    obtain ⟨g,hg⟩:=Option.isSome_iff_exists.mp ((a.mem _).mp hu)
    refine ⟨g,h,hg,(b.mem _ _).mp ho,?_⟩
    unfold wtOf
    rw [hg]
    rfl
  · rintro ⟨g,h,hg,hh,rfl⟩
    refine ⟨u,(a.mem u).mpr (by rw [hg]; rfl),List.mem_map.mpr ⟨(x,h),(b.mem _ _).mpr hh,?_⟩⟩
    unfold wtOf
    rw [hg]
    rfl
def specProds (v:Nat) (w:Ways):List Way:=(insOf v w).flatMap fun a=>(outsOf v w).map fun b=>((a.1.1,b.1.2),mul a.2 b.2)
theorem specProds_eq {w:Ways} (n:(w.map (·.1)).Nodup) (v:Nat):specProds v w=prods (wtOf (wget w) v) ((insOf v w).map (·.1.1)) ((outsOf v w).map fun b=>(b.1.2,b.2)):=by
  unfold specProds prods
  rw [List.flatMap_map]
  have key:∀ l:Ways,(∀ a∈l,a∈insOf v w)→(l.flatMap fun a=>(outsOf v w).map fun b=>((a.1.1,b.1.2),mul a.2 b.2))=l.flatMap fun a=>((outsOf v w).map fun b=>(b.1.2,b.2)).map fun o=>((a.1.1,o.1),mul (wtOf (wget w) v a.1.1) o.2):=by
    intro l
    induction l with
    | nil=>intro _; rfl
    | cons a l ih=>
      intro h
      rw [List.flatMap_cons,List.flatMap_cons,ih fun b hb=>h b (List.mem_cons_of_mem _ hb),List.map_map]
      have ha:=h a List.mem_cons_self
      obtain ⟨h1,h2⟩:=List.mem_filter.mp ha
      simp only [decide_eq_true_eq] at h2
      obtain ⟨⟨a1,a2⟩,a3⟩:=a
      simp only at h2
      subst h2
      have:wtOf (wget w) a2 a1=a3:=by
        unfold wtOf
        rw [(wget_mem n).mpr h1]
        rfl
      simp only [this]
      rfl
  exact key _ fun _ h=>h
theorem takeOut_ok {w:Worked} (n:(w.ways.map (·.1)).Nodup) {v:Nat} {S:List Nat} {O:List (Nat×Frac)} (a:SrcOf (wget w.ways) v S) (b:DstOf (wget w.ways) v O) :
    wget (takeOut v w).ways=puts (cut v (wget w.ways)) (prods (wtOf (wget w.ways) v) S O)∧(takeOut v w).products=w.products+S.length*O.length ∧
    (takeOut v w).sums=w.sums+(prods (wtOf (wget w.ways) v) S O).countP (fun z=>(cut v (wget w.ways) z.1.1 z.1.2).isSome)∧((takeOut v w).ways.map (·.1)).Nodup:=by
  have e:takeOut v w=(specProds v w.ways).foldl stepW ⟨w.ways.filter fun x => !decide (x.1.1=v) && !decide (x.1.2=v),w.products,w.sums⟩:=rfl
  have a':=spec_src n v
  have b':=spec_dst n v
  have ks:=prods_keys (wtOf (wget w.ways) v) a'.nd b'.nd
  have kp:=prods_keys (wtOf (wget w.ways) v) a.nd b.nd
  have pm:(specProds v w.ways).Perm (prods (wtOf (wget w.ways) v) S O):=by
    rw [specProds_eq n]
    refine (List.perm_ext_iff_of_nodup (nd_of_map ks) (nd_of_map kp)).mpr fun z => ?_
    exact (prods_mem a' b' z.1.1 z.1.2 z.2).trans (prods_mem a b z.1.1 z.1.2 z.2).symm
  have ks':((specProds v w.ways).map (·.1)).Nodup:=by rw [specProds_eq n]; exact ks
  have nf:((w.ways.filter fun x => !decide (x.1.1=v) && !decide (x.1.2=v)).map (·.1)).Nodup:=by
    refine nd_map_on (nd_filter _ (nd_of_map n)) fun x hx y hy q => ?_
    obtain ⟨⟨x1,x2⟩,x3⟩:=x
    obtain ⟨⟨y1,y2⟩,y3⟩:=y
    cases q
    have m1:=(wget_mem n).mpr (List.mem_filter.mp hx).1
    have m2:=(wget_mem n).mpr (List.mem_filter.mp hy).1
    rw [m1] at m2
    cases m2
    rfl
  obtain ⟨f1,f2,f3,f4⟩:=fold_ok (specProds v w.ways) ⟨w.ways.filter fun x => !decide (x.1.1=v) && !decide (x.1.2=v),w.products,w.sums⟩ ks' nf
  rw [← e] at f1 f2 f3 f4
  simp only [wget_cut] at f1 f3
  refine ⟨by rw [f1,puts_perm pm ks'],?_,by rw [f3,pm.countP_eq],f4⟩
  rw [f2,pm.length_eq]
  unfold prods
  rw [List.length_flatMap]
  simp only [List.length_map]
  rw [List.map_const',List.sum_replicate_nat]
theorem price_ok {w:Ways} (n:(w.map (·.1)).Nodup) {v:Nat} {S:List Nat} {O:List (Nat×Frac)} (a:SrcOf (wget w) v S) (b:DstOf (wget w) v O):price w v=S.length*O.length:=by
  have h1:=(a.perm (spec_src n v)).length_eq
  have h2:=(b.perm (spec_dst n v)).length_eq
  rw [List.length_map] at h1 h2
  rw [h1,h2]
  rfl
end Ts
end
section
namespace Ts
open Vagraa Vagraf VagraLine
theorem common (k:Nat):∀ fs:List Frac,(∀ f∈fs,0<f.den∧f.den≤2 ^ k)→∃ D,0<D∧D≤2 ^ (k*fs.length)∧∀ f∈fs,f.den∣D
  | [],_=>⟨1,by decide,by simp,fun f hf=>by cases hf⟩
  | f::fs,h=>by
    obtain ⟨D,h0,h1,h2⟩:=common k fs fun g hg=>h g (List.mem_cons_of_mem _ hg)
    obtain ⟨p,q⟩:=h f List.mem_cons_self
    refine ⟨f.den*D,Nat.mul_pos p h0,?_,fun g hg => ?_⟩
    · rw [List.length_cons,Nat.mul_add,Nat.mul_one,Nat.add_comm,Nat.pow_add]
      exact Nat.mul_le_mul q h1
    · rcases List.mem_cons.mp hg with e | hg
      · subst e
        exact ⟨D,rfl⟩
      · exact Nat.dvd_trans (h2 g hg) ⟨f.den,Nat.mul_comm _ _⟩
structure Fit (a b D B:Nat):Prop where
  pos:0<D
  den:D≤2 ^ a
  num:B≤2 ^ b
theorem Fit.mul {a b a' b' D B E C:Nat} (h:Fit a b D B) (g:Fit a' b' E C):Fit (a+a') (b+b') (D*E) (B*C) :=
  ⟨Nat.mul_pos h.pos g.pos,by rw [Nat.pow_add]; exact Nat.mul_le_mul h.den g.den,by rw [Nat.pow_add]; exact Nat.mul_le_mul h.num g.num⟩
theorem Fit.pow {a b D B:Nat} (h:Fit a b D B) (n:Nat):Fit (a*n) (b*n) (D ^ n) (B ^ n) :=
  ⟨Nat.pow_pos h.pos,by rw [Nat.pow_mul]; exact Nat.pow_le_pow_left h.den n,by rw [Nat.pow_mul]; exact Nat.pow_le_pow_left h.num n⟩
theorem Fit.times {a b D B k j:Nat} (h:Fit a b D B) (hk:k≤2 ^ j):Fit a (j+b) D (k*B):=⟨h.pos,h.den,by rw [Nat.pow_add]; exact Nat.mul_le_mul hk h.num⟩
theorem Fit.small {a b D B:Nat} {f:Frac} (h:Fit a b D B) (g:Bd D B f) (hab:a+1+b≤60000000):f.num.natAbs<2 ^ 60000000∧f.den<2 ^ 60000000:=by
  have hD:D<2 ^ (a+1):=Nat.lt_of_le_of_lt h.den (Nat.pow_lt_pow_right (by decide) (Nat.lt_succ_self _))
  obtain ⟨h1,h2⟩:=g.size h.pos hD h.num
  have hp:2 ^ (a+1+b)≤2 ^ 60000000:=Nat.pow_le_pow_right (by decide) hab
  exact ⟨Nat.lt_of_lt_of_le h1 hp,Nat.lt_of_lt_of_le h2 hp⟩
def AllB (D B:Nat) (l:List Frac):Prop:=∀ f∈l,WF f∧Bd D B f
theorem AllB.at {D B:Nat} {l:List Frac} (h:AllB D B l) (i:Nat):WF (at_ l i)∧Bd D B (at_ l i):=by
  unfold VagraLine.at_
  rw [List.getD_eq_getElem?_getD]
  cases e:l[i]? with
  | none=>exact ⟨zero_wf,Bd.zero _ _⟩
  | some f=>exact h f (List.mem_of_getElem? e)
theorem AllB.mono {D B D' B':Nat} {l:List Frac} (h:AllB D B l) (hD:D∣D') (hB:B≤B'):AllB D' B' l:=fun f hf=>⟨(h f hf).1,(h f hf).2.mono hD hB⟩
theorem AllB.rep (D B n:Nat):AllB D B (List.replicate n zero):=fun f hf=>by
  rw [(List.mem_replicate.mp hf).2]
  exact ⟨zero_wf,Bd.zero _ _⟩
theorem AllB.set {D B:Nat} {l:List Frac} (h:AllB D B l) (i:Nat) {a:Frac} (wa:WF a) (ha:Bd D B a):AllB D B (l.set i a):=fun f hf=>by
  rcases List.mem_or_eq_of_mem_set hf with q | q
  · exact h f q
  · subst q; exact ⟨wa,ha⟩
theorem AllB.addAt {D B C:Nat} {l:List Frac} (h:AllB D B l) (i:Nat) {a:Frac} (wa:WF a) (ha:Bd D C a):AllB D (B+C) (addAt l i a) :=
  (h.mono (Nat.dvd_refl _) (Nat.le_add_right _ _)).set i (add_wf (h.at i).1 wa) (Bd.add (h.at i).1 wa (h.at i).2 ha)
theorem addAt_length (l:List Frac) (i:Nat) (a:Frac):(addAt l i a).length=l.length:=List.length_set
def swStep (l:List Frac) (x:List (Nat×Frac)×Nat):List Frac:=if isZero (at_ l x.2)=true then l else pass (at_ l x.2) x.1 l
def sweepN (t:List (List (Nat×Frac))) (l:List Frac) (m:Nat):List Frac:=((t.zipIdx.reverse).take m).foldl swStep l
theorem sweep_all (t:List (List (Nat×Frac))) (l:List Frac):sweep t l=sweepN t l t.length:=by
  unfold sweepN
  rw [List.take_of_length_le (by rw [List.length_reverse,List.length_zipIdx]; exact Nat.le_refl _)]
  rfl
theorem sweep_drop (t:List (List (Nat×Frac))) (l:List Frac) (k:Nat):((t.zipIdx.drop k).reverse).foldl (fun l x=>if isZero (at_ l x.2)=true then l else pass (at_ l x.2) x.1 l) l=sweepN t l (t.length - k):=by
  unfold sweepN
  rw [List.reverse_drop,List.length_zipIdx]
  rfl
theorem sweepN_zero (t:List (List (Nat×Frac))) (l:List Frac):sweepN t l 0=l:=rfl
theorem sweepN_succ {t:List (List (Nat×Frac))} {l:List Frac} {m:Nat} {ps:List (Nat×Frac)} (h:t[t.length - 1 - m]? = some ps) (hm:m<t.length):sweepN t l (m+1)=swStep (sweepN t l m) (ps,t.length - 1 - m):=by
  have e:t.zipIdx.reverse[m]? = some (ps,t.length - 1 - m):=by
    rw [List.getElem?_reverse (by rw [List.length_zipIdx]; exact hm),List.length_zipIdx,List.getElem?_zipIdx,h]
    simp
  have ts:∀ {α:Type} (l:List α) (i:Nat) (x:α),l[i]? = some x→l.take (i+1)=l.take i++[x]:=by
    intro α l i x hx
    obtain ⟨hi,e⟩:=List.getElem?_eq_some_iff.mp hx
    rw [List.take_succ_eq_append_getElem hi,e]
  unfold sweepN
  rw [ts _ _ _ e,List.foldl_append]
  rfl
theorem pass_nil (s:Frac) (l:List Frac):pass s [] l=l:=rfl
theorem pass_take {s:Frac} {ps:List (Nat×Frac)} {l:List Frac} {j:Nat} {p:Nat×Frac} (h:ps[j]? = some p):pass s (ps.take (j+1)) l=addAt (pass s (ps.take j) l) p.1 (mul s p.2):=by
  obtain ⟨hi,e⟩:=List.getElem?_eq_some_iff.mp h
  rw [List.take_succ_eq_append_getElem hi,e]
  unfold pass
  rw [List.foldl_append]
  rfl
theorem pass_length (s:Frac):∀ (ps:List (Nat×Frac)) (l:List Frac),(pass s ps l).length=l.length
  | [],_=>rfl
  | p::ps,l=>by
    show (pass s ps (addAt l p.1 (mul s p.2))).length=_
    rw [pass_length s ps,addAt_length]
theorem swStep_length (l:List Frac) (x:List (Nat×Frac)×Nat):(swStep l x).length=l.length:=by
  unfold swStep
  split
  · rfl
  · exact pass_length _ _ _
theorem sweepN_length (t:List (List (Nat×Frac))) (l:List Frac) (m:Nat):(sweepN t l m).length=l.length:=by
  unfold sweepN
  generalize (t.zipIdx.reverse).take m=xs
  induction xs generalizing l with
  | nil=>rfl
  | cons x xs ih=>
    rw [List.foldl_cons,ih,swStep_length]
theorem AllB.passed {D B E C:Nat} {l:List Frac} (h:AllB D B l) (hE:0<E) {s:Frac} (ws:WF s) (hs:Bd D B s) {ps:List (Nat×Frac)} (hp:∀ p∈ps,WF p.2∧Bd E C p.2):∀ j,j≤ps.length→AllB (D*E) (B+j*(B*C)) (pass s (ps.take j) l):=by
  intro j
  induction j with
  | zero=>
    intro _
    rw [List.take_zero,pass_nil]
    exact h.mono ⟨E,rfl⟩ (by omega)
  | succ j ih=>
    intro hj
    obtain ⟨p,hp'⟩:∃ p,ps[j]? = some p:=⟨_,List.getElem?_eq_getElem (by omega)⟩
    rw [pass_take hp']
    obtain ⟨w1,w2⟩:=hp p (List.mem_of_getElem? hp')
    have:=(ih (by omega)).addAt p.1 (mul_wf ws w1) (Bd.mul ws w1 hs w2)
    refine this.mono (Nat.dvd_refl _) ?_
    rw [Nat.succ_mul]
    omega
def TapeB (E C:Nat) (t:List (List (Nat×Frac))):Prop:=∀ ps∈t,ps.length≤2∧∀ p∈ps,WF p.2∧Bd E C p.2
theorem AllB.swept {D B E C:Nat} {l:List Frac} (h:AllB D B l) (hE:0<E) {x:List (Nat×Frac)×Nat} (h2:x.1.length≤2) (hp:∀ p∈x.1,WF p.2∧Bd E C p.2):AllB (D*E) (B*(1+2*C)) (swStep l x):=by
  have hB:B≤B*(1+2*C):=Nat.le_mul_of_pos_right _ (by omega)
  unfold swStep
  split
  · exact h.mono ⟨E,rfl⟩ hB
  · have:=h.passed hE (h.at x.2).1 (h.at x.2).2 hp x.1.length (Nat.le_refl _)
    rw [List.take_length] at this
    refine this.mono (Nat.dvd_refl _) ?_
    have e:B*(1+2*C)=B+2*(B*C):=by rw [Nat.mul_add,Nat.mul_one,Nat.mul_left_comm]
    rw [e]
    exact Nat.add_le_add_left (Nat.mul_le_mul_right _ h2) _
theorem AllB.sweptN {D B E C:Nat} {l:List Frac} {t:List (List (Nat×Frac))} (h:AllB D B l) (hE:0<E) (ht:TapeB E C t):∀ m,m≤t.length→AllB (D*E ^ m) (B*(1+2*C) ^ m) (sweepN t l m):=by
  intro m
  induction m with
  | zero=>
    intro _
    rw [sweepN_zero]
    exact h.mono ⟨1,by simp⟩ (by simp)
  | succ m ih=>
    intro hm
    obtain ⟨ps,hp⟩:∃ p,t[t.length - 1 - m]? = some p:=⟨_,List.getElem?_eq_getElem (by omega)⟩
    rw [sweepN_succ hp (by omega)]
    obtain ⟨h2,h3⟩:=ht ps (List.mem_of_getElem? hp)
    have:=(ih (by omega)).swept (x:=(ps,t.length - 1 - m)) hE h2 h3
    rw [Nat.pow_succ,Nat.pow_succ,← Nat.mul_assoc,← Nat.mul_assoc]
    exact this
def byStep (g:List Frac) (x:Line×Frac):List Frac:=match x.1 with
    | .input k=>addAt g k x.2
    | _=>g
def byN (n:Nat) (c:Code) (l:List Frac) (m:Nat):List Frac:=((c.zip l).take m).foldl byStep (List.replicate n zero)
theorem byN_succ {n:Nat} {c:Code} {l:List Frac} {m:Nat} {x:Line} {f:Frac} (h1:c[m]? = some x) (h2:l[m]? = some f):byN n c l (m+1)=byStep (byN n c l m) (x,f):=by
  have e:(c.zip l)[m]? = some (x,f):=List.getElem?_zip_eq_some.mpr ⟨h1,h2⟩
  obtain ⟨hi,e⟩:=List.getElem?_eq_some_iff.mp e
  unfold byN
  rw [List.take_succ_eq_append_getElem hi,e,List.foldl_append]
  rfl
theorem byN_all {n:Nat} {c:Code} {l:List Frac} {m:Nat} (h:c.length≤m):byN n c l m=byInput n c l:=by
  unfold byN
  rw [List.take_of_length_le (by rw [List.length_zip]; omega)]
  rfl
theorem byStep_length (g:List Frac) (x:Line×Frac):(byStep g x).length=g.length:=by
  unfold byStep
  split
  · exact addAt_length _ _ _
  · rfl
theorem byN_length (n:Nat) (c:Code) (l:List Frac) (m:Nat):(byN n c l m).length=n:=by
  unfold byN
  have:∀ (xs:List (Line×Frac)) (g:List Frac),(xs.foldl byStep g).length=g.length:=by
    intro xs
    induction xs with
    | nil=>intro g; rfl
    | cons x xs ih=>intro g; rw [List.foldl_cons,ih,byStep_length]
  rw [this,List.length_replicate]
theorem AllB.byN {D B:Nat} {l:List Frac} (h:AllB D B l) (n:Nat) (c:Code):∀ m,m≤c.length→m≤l.length→AllB D (m*B) (byN n c l m):=by
  intro m
  induction m with
  | zero=>intro _ _; exact AllB.rep _ _ _
  | succ m ih=>
    intro h1 h2
    rw [byN_succ (List.getElem?_eq_getElem (by omega)) (List.getElem?_eq_getElem (by omega))]
    have i:=ih (by omega) (by omega)
    rw [Nat.succ_mul]
    unfold byStep
    split
    · have hm:l[m]∈l:=List.getElem_mem _
      exact i.addAt _ (h _ hm).1 (h _ hm).2
    · exact i.mono (Nat.dvd_refl _) (Nat.le_add_right _ _)
theorem seeds_length (n:Nat) (ws:List (Nat×Frac)):(seeds n ws).length=n:=by
  unfold seeds
  have:∀ (xs:List (Nat×Frac)) (g:List Frac),(xs.foldl (fun l w=>addAt l w.1 w.2) g).length=g.length:=by
    intro xs
    induction xs with
    | nil=>intro g; rfl
    | cons x xs ih=>intro g; rw [List.foldl_cons,ih,addAt_length]
  rw [this,List.length_replicate]
theorem seeds_snoc (n:Nat) (ws:List (Nat×Frac)) (w:Nat×Frac):seeds n (ws++[w])=addAt (seeds n ws) w.1 w.2:=by
  unfold seeds
  rw [List.foldl_append]
  rfl
theorem AllB.seeds {D B:Nat} (n:Nat):∀ ws:List (Nat×Frac),(∀ w∈ws,WF w.2∧Bd D B w.2)→AllB D (ws.length*B) (seeds n ws):=by
  intro ws
  unfold Vagraf.seeds
  have:∀ (xs:List (Nat×Frac)) (g:List Frac) (C:Nat),(∀ w∈xs,WF w.2∧Bd D B w.2)→AllB D C g→AllB D (C+xs.length*B) (xs.foldl (fun l w=>Vagraf.addAt l w.1 w.2) g):=by
    intro xs
    induction xs with
    | nil=>intro g C _ h; simpa using h
    | cons x xs ih=>
      intro g C h hg
      rw [List.foldl_cons]
      have h1:=h x List.mem_cons_self
      have:=ih _ (C+B) (fun w hw=>h w (List.mem_cons_of_mem _ hw)) (hg.addAt x.1 h1.1 h1.2)
      rw [List.length_cons,Nat.succ_mul]
      refine this.mono (Nat.dvd_refl _) (by omega)
  intro h
  have:=this ws _ 0 h (AllB.rep D 0 n)
  rwa [Nat.zero_add] at this
def GoodW (N M D B:Nat) (G:GM):Prop:=∀ u x f,G u x=some f→u<N∧u<x∧x<M∧WF f∧Bd (D ^ (x - u)) (B ^ (x - u)) f
def GoodI (N M D B k:Nat) (G:GM):Prop:=∀ u x f,G u x=some f→u<N∧u<x∧x<M∧WF f∧Bd D (k*B) f
theorem GoodI.none (N M D B:Nat):GoodI N M D B 0 (fun _ _=>none):=fun u x f h=>by cases h
theorem GoodI.put {N M D B k:Nat} {G:GM} (h:GoodI N M D B k G) {z:Way} (h1:z.1.1<N) (h2:z.1.1<z.1.2) (h3:z.1.2<M) (h4:WF z.2) (h5:Bd D B z.2):GoodI N M D B (k+1) (put G z):=by
  intro u x f e
  unfold Ts.put at e
  by_cases hk:u=z.1.1∧x=z.1.2
  · rw [if_pos hk] at e
    obtain ⟨rfl,rfl⟩:=hk
    refine ⟨h1,h2,h3,?_⟩
    cases g:G z.1.1 z.1.2 with
    | none=>
      rw [g] at e
      cases e
      exact ⟨h4,h5.mono (Nat.dvd_refl _) (by rw [Nat.succ_mul]; exact Nat.le_add_left _ _)⟩
    | some y=>
      rw [g] at e
      cases e
      obtain ⟨_,_,_,w1,w2⟩:=h _ _ _ g
      refine ⟨add_wf w1 h4,?_⟩
      rw [Nat.succ_mul]
      exact Bd.add w1 h4 w2 h5
  · rw [if_neg hk] at e
    obtain ⟨a,b,c,w1,w2⟩:=h _ _ _ e
    exact ⟨a,b,c,w1,w2.mono (Nat.dvd_refl _) (Nat.mul_le_mul_right _ (Nat.le_succ _))⟩
theorem le_pow_self' {b n:Nat} (h:1≤n):b≤b ^ n:=by
  cases b with
  | zero=>exact Nat.zero_le _
  | succ b=>
    calc b+1=(b+1) ^ 1:=(Nat.pow_one _).symm
      _≤(b+1) ^ n:=Nat.pow_le_pow_right (by omega) h
theorem GoodI.good {N M D B k:Nat} {G:GM} (h:GoodI N M D B k G):GoodW N M D (k*B) G:=fun u x f e=>by
  obtain ⟨a,b,c,w1,w2⟩:=h u x f e
  refine ⟨a,b,c,w1,w2.mono ?_ (le_pow_self' (by omega))⟩
  obtain ⟨n,hn⟩:∃ n,x - u=n+1:=⟨x - u - 1,by omega⟩
  rw [hn,Nat.pow_succ]
  exact ⟨D ^ n,Nat.mul_comm _ _⟩
theorem GoodW.mono {N M D B B':Nat} {G:GM} (h:GoodW N M D B G) (hB:B≤B'):GoodW N M D B' G:=fun u x f e=>by
  obtain ⟨a,b,c,w1,w2⟩:=h u x f e
  exact ⟨a,b,c,w1,w2.mono (Nat.dvd_refl _) (Nat.pow_le_pow_left hB _)⟩
theorem GoodW.prod {N M D B:Nat} {G:GM} (h:GoodW N M D B G) {u v x:Nat} {g k:Frac} (h1:G u v=some g) (h2:G v x=some k):u<N∧u<x∧x<M∧u<v∧v<x∧WF (mul g k)∧Bd (D ^ (x - u)) (B ^ (x - u)) (mul g k):=by
  obtain ⟨a,b,c,w1,w2⟩:=h _ _ _ h1
  obtain ⟨a',b',c',w1',w2'⟩:=h _ _ _ h2
  refine ⟨a,by omega,c',b,b',mul_wf w1 w1',?_⟩
  have:=Bd.mul w1 w1' w2 w2'
  rw [← Nat.pow_add,← Nat.pow_add,show v - u+(x - v)=x - u by omega] at this
  exact this
theorem GoodW.step {N M D B:Nat} {W:GM} (h:GoodW N M D B W) {v:Nat} {S:List Nat} {O:List (Nat×Frac)} (a:SrcOf W v S) (b:DstOf W v O):GoodW N M D (2*B) (puts (cut v W) (prods (wtOf W v) S O)):=by
  intro u x f e
  have kn:=prods_keys (wtOf W v) a.nd b.nd
  by_cases hk:(u,x)∈(prods (wtOf W v) S O).map (·.1)
  · obtain ⟨⟨k,p⟩,hp,ek⟩:=List.mem_map.mp hk
    have ek':k=(u,x):=ek
    subst ek'
    rw [puts_in _ _ kn hp] at e
    obtain ⟨g,k,hg,hk',rfl⟩:=(prods_mem a b u x p).mp hp
    obtain ⟨q1,q2,q3,q4,q5,w1,w2⟩:=h.prod hg hk'
    refine ⟨q1,q2,q3,?_⟩
    have hB:B ^ (x - u)≤(2*B) ^ (x - u):=Nat.pow_le_pow_left (by omega) _
    have hc:cut v W u x=W u x:=by unfold cut; rw [if_neg]; omega
    rw [hc] at e
    cases q:W u x with
    | none=>
      rw [q] at e
      cases e
      exact ⟨w1,w2.mono (Nat.dvd_refl _) hB⟩
    | some y=>
      rw [q] at e
      cases e
      obtain ⟨_,_,_,w1',w2'⟩:=h _ _ _ q
      refine ⟨add_wf w1' w1,(Bd.add w1' w1 w2' w2).mono (Nat.dvd_refl _) ?_⟩
      have:(2*B) ^ (x - u)=2 ^ (x - u)*B ^ (x - u):=Nat.mul_pow _ _ _
      rw [this]
      have h2:2≤2 ^ (x - u):=le_pow_self' (by omega)
      calc B ^ (x - u)+B ^ (x - u)=2*B ^ (x - u):=by omega
        _≤2 ^ (x - u)*B ^ (x - u):=Nat.mul_le_mul_right _ h2
  · rw [puts_out _ _ hk] at e
    unfold cut at e
    split at e
    · cases e
    · exact h.mono (by omega) u x f e
theorem GoodW.small {N M D B a b:Nat} {G:GM} (h:GoodW N M D B G) (fit:Fit a b D B) (hab:a*M+1+b*M≤60000000) {u x:Nat} {f:Frac} (e:G u x=some f):WF f∧f.num.natAbs<2 ^ 60000000∧f.den<2 ^ 60000000:=by
  obtain ⟨h1,h2,h3,w1,w2⟩:=h u x f e
  refine ⟨w1,(fit.pow (x - u)).small w2 ?_⟩
  have e1:a*(x - u)≤a*M:=Nat.mul_le_mul_left _ (by omega)
  have e2:b*(x - u)≤b*M:=Nat.mul_le_mul_left _ (by omega)
  omega
theorem GoodW.smallP {N M D B a b:Nat} {G:GM} (h:GoodW N M D B G) (fit:Fit a b D B) (hab:a*M+1+b*M≤60000000) {u v x:Nat} {g k:Frac} (h1:G u v=some g) (h2:G v x=some k):WF (mul g k)∧(mul g k).num.natAbs<2 ^ 60000000∧(mul g k).den<2 ^ 60000000:=by
  obtain ⟨q1,q2,q3,q4,q5,w1,w2⟩:=h.prod h1 h2
  refine ⟨w1,(fit.pow (x - u)).small w2 ?_⟩
  have e1:a*(x - u)≤a*M:=Nat.mul_le_mul_left _ (by omega)
  have e2:b*(x - u)≤b*M:=Nat.mul_le_mul_left _ (by omega)
  omega
end Ts
end
section
namespace Ts
open Vagraa Vagraf VagraLine
def toldF (f:Frac):Prop:=WF f∧f.den≤2 ^ 60∧f.num.natAbs≤2 ^ 60*f.den
theorem told_frac {n d:Int} (hn:n.natAbs≤10 ^ 18) (hd:1≤d) (hd2:d.natAbs≤10 ^ 18):toldF (frac n d.toNat):=by
  have h0:0<d.toNat:=by omega
  obtain ⟨b1,b2⟩:=Bd.frac (n:=n) h0
  refine ⟨frac_wf n h0,?_,?_⟩
  · have:=Nat.le_of_dvd h0 b1
    omega
  · exact Nat.le_trans b2 (Nat.mul_le_mul_right _ (by omega))
theorem told_small {f:Frac} (h:toldF f):f.num.natAbs<2 ^ 60000000∧f.den<2 ^ 60000000:=by
  have fit:Fit 60 60 f.den (2 ^ 60):=⟨h.1.pos,h.2.1,Nat.le_refl _⟩
  exact fit.small ⟨Nat.dvd_refl _,h.2.2⟩ (by decide)
theorem told_common {fs:List Frac} (h:∀ f∈fs,toldF f):∃ D,Fit (60*fs.length) 60 D (2 ^ 60)∧AllB D (2 ^ 60) fs:=by
  obtain ⟨D,h0,h1,h2⟩:=common 60 fs fun f hf=>⟨(h f hf).1.pos,(h f hf).2.1⟩
  exact ⟨D,⟨h0,h1,Nat.le_refl _⟩,fun f hf=>⟨(h f hf).1,h2 f hf,(h f hf).2.2⟩⟩
theorem told_fit (n:Nat) {ws:List (Nat×Frac)} (h:∀ w∈ws,toldF w.2) {j:Nat} (hl:ws.length≤2 ^ j):∃ D B,Fit (60*ws.length) (j+60) D B∧AllB D B (seeds n ws):=by
  obtain ⟨D,f,hD⟩:=told_common (fs:=ws.map (·.2)) fun f hf=>by
    obtain ⟨w,hw,rfl⟩:=List.mem_map.mp hf
    exact h w hw
  rw [List.length_map] at f
  exact ⟨D,_,f.times hl,AllB.seeds n ws fun w hw=>hD _ (List.mem_map.mpr ⟨w,hw,rfl⟩)⟩
theorem weightsOf_len (N:Nat):∀ (ns:List Int) (ws:List (Nat×Frac)),weightsOf N ns=some ws→ns.length=3*ws.length
  | [],ws,h=>by
    have e:([]:List (Nat×Frac))=ws:=Option.some.inj h
    subst e
    rfl
  | [_],ws,h=>by cases h
  | [_,_],ws,h=>by cases h
  | i::n::d::r,ws,h=>by
    have h':(if 0≤i∧i<(N:Int)∧1≤d then (weightsOf N r).map fun l=>(i.toNat,frac n d.toNat)::l else none)=some ws:=h
    split at h'
    · cases e:weightsOf N r with
      | none=>rw [e] at h'; cases h'
      | some l=>
        rw [e] at h'
        have h2:=weightsOf_len N r l e
        have e3:(i.toNat,frac n d.toNat)::l=ws:=Option.some.inj h'
        subst e3
        simp only [List.length_cons]
        omega
    · cases h'
theorem weightsOf_mod {N:Nat} {ns:List Int} (h:ns.length % 3≠0):weightsOf N ns=none:=by
  cases e:weightsOf N ns with
  | none=>rfl
  | some ws=>
    have:=weightsOf_len N ns ws e
    omega
theorem drop_cons' {ns:List Int} {i:Nat} {k:Int} (h:ns[i]? = some k):ns.drop i=k::ns.drop (i+1):=by
  obtain ⟨hi,e⟩:=List.getElem?_eq_some_iff.mp h
  rw [List.drop_eq_getElem_cons hi,e]
theorem weightsOf_drop {N:Nat} {ns:List Int} {j:Nat} {i n d:Int} (h1:ns[j]? = some i) (h2:ns[j+1]? = some n) (h3:ns[j+2]? = some d) :
    weightsOf N (ns.drop j)=if 0≤i∧i<(N:Int)∧1≤d then (weightsOf N (ns.drop (j+3))).map fun l=>(i.toNat,frac n d.toNat)::l else none:=by
  rw [drop_cons' h1,drop_cons' h2,drop_cons' h3]
  rfl
theorem inner_mem {c:Code} {v:Nat}:v∈inner c→v<c.length:=by
  unfold inner
  intro h
  obtain ⟨⟨l,i⟩,hx,rfl⟩:=List.mem_map.mp h
  have:=(List.mem_filter.mp hx).1
  exact (List.mem_zipIdx' this).1
theorem inner_sorted (c:Code):(inner c).Pairwise (· < ·):=by
  unfold inner
  rw [List.pairwise_map]
  refine List.Pairwise.filter _ ?_
  have:∀ (l:List Line) (k:Nat),(l.zipIdx k).Pairwise fun a b=>a.2<b.2:=by
    intro l
    induction l with
    | nil=>intro k; simp
    | cons x l ih=>
      intro k
      rw [List.zipIdx_cons,List.pairwise_cons]
      refine ⟨fun a ha => ?_,ih (k+1)⟩
      obtain ⟨y,i⟩:=a
      have:=List.le_snd_of_mem_zipIdx ha
      show k<i
      simp only at this
      omega
  exact this c 0
theorem inner_nd (c:Code):(inner c).Nodup:=(inner_sorted c).imp fun h=>Nat.ne_of_lt h
theorem nodup_of_cover:∀ {l m:List Nat},m.Nodup→l.length=m.length→(∀ v∈m,v∈l)→l.Perm m:=by
  intro l m
  induction m generalizing l with
  | nil=>
    intro _ hl _
    rw [List.length_eq_zero_iff.mp hl]
  | cons a m ih=>
    intro hn hl hc
    rw [List.nodup_cons] at hn
    have ha:=hc a List.mem_cons_self
    have p:=List.perm_cons_erase ha
    have hl2:(l.erase a).length=m.length:=by
      have:=p.length_eq
      simp only [List.length_cons] at this hl
      omega
    have hc2:∀ v∈m,v∈l.erase a:=fun v hv=>by
      have h1:=hc v (List.mem_cons_of_mem _ hv)
      have h2:v≠a:=fun e=>hn.1 (e▸hv)
      exact (List.mem_erase_of_ne h2).mpr h1
    exact p.trans ((ih hn.2 hl2 hc2).cons a)
theorem order_iff {c:Code} {l ns:List Int} (hp:ns.Perm l) (hs:ns.Pairwise (· ≤ ·)) :
    (ns=(inner c).map Int.ofNat)↔((l.all fun i=>decide (0≤i))=true∧l.length=(inner c).length∧((inner c).all fun v=>(l.map Int.toNat).contains v)=true):=by
  constructor
  · rintro rfl
    refine ⟨?_,?_,?_⟩
    · rw [List.all_eq_true]
      intro i hi
      obtain ⟨v,_,rfl⟩:=List.mem_map.mp (hp.mem_iff.mpr hi)
      simp
    · have:=hp.length_eq
      rw [List.length_map] at this
      exact this.symm
    · rw [List.all_eq_true]
      intro v hv
      rw [List.contains_iff_mem]
      exact List.mem_map.mpr ⟨Int.ofNat v,hp.mem_iff.mp (List.mem_map.mpr ⟨v,hv,rfl⟩),rfl⟩
  · rintro ⟨h1,h2,h3⟩
    rw [List.all_eq_true] at h1 h3
    have p:(l.map Int.toNat).Perm (inner c):=nodup_of_cover (inner_nd c) (by rw [List.length_map]; exact h2) fun v hv=>by
      have:=h3 v hv
      rwa [List.contains_iff_mem] at this
    have e:(l.map Int.toNat).map Int.ofNat=l:=by
      rw [List.map_map]
      conv=>rhs; rw [← List.map_id l]
      refine List.map_congr_left fun i hi => ?_
      have:=h1 i hi
      simp only [decide_eq_true_eq] at this
      show ((i.toNat:Nat):Int)=i
      omega
    have p2:ns.Perm ((inner c).map Int.ofNat):=by
      have:=p.map Int.ofNat
      rw [e] at this
      exact hp.trans this
    refine List.Perm.eq_of_pairwise (le:=fun a b=>a≤b) (fun a b _ _ h h'=>Int.le_antisymm h h') hs ?_ p2
    rw [List.pairwise_map]
    exact (inner_sorted c).imp fun {a b} h=>by
      show ((a:Nat):Int)≤((b:Nat):Int)
      omega
theorem cheapest_ok {w:Ways}:∀ {l:List Nat} {i:Nat} {v:Nat},l[i]? = some v→(∀ j u,l[j]? = some u→price w v≤price w u∧(j<i→price w v<price w u))→cheapest w l=some v
  | [],i,v,h,_=>by simp at h
  | a::l,0,v,h,hm=>by
    have e:a=v:=by simpa using h
    subst e
    unfold cheapest
    cases e:cheapest w l with
    | none=>rfl
    | some u=>
      simp only
      have hu:u∈l:=by
        have:∀ (l:List Nat) (u:Nat),cheapest w l=some u→u∈l:=by
          intro l
          induction l with
          | nil=>intro u h; cases h
          | cons x l ih=>
            intro u h
            unfold cheapest at h
            cases e:cheapest w l with
            | none=>rw [e] at h; cases h; exact List.mem_cons_self
            | some y=>
              rw [e] at h
              simp only at h
              split at h
              · cases h; exact List.mem_cons_of_mem _ (ih _ e)
              · cases h; exact List.mem_cons_self
        exact this l u e
      obtain ⟨j,hj⟩:=List.getElem?_of_mem hu
      have:=(hm (j+1) u (by simpa using hj)).1
      rw [if_neg (by omega)]
  | a::l,i+1,v,h,hm=>by
    have ih:=cheapest_ok (w:=w) (l:=l) (i:=i) (v:=v) (by simpa using h) fun j u hu=>by
      have:=hm (j+1) u (by simpa using hu)
      exact ⟨this.1,fun hj=>this.2 (by omega)⟩
    unfold cheapest
    rw [ih]
    simp only
    have:=(hm 0 a rfl).2 (by omega)
    rw [if_pos this]
theorem filter_ne_erase {l:List Nat} {v:Nat} (n:l.Nodup):(l.filter fun u => !decide (u=v))=l.erase v:=by
  rw [List.Nodup.erase_eq_filter n]
  congr 1
end Ts
end
section
namespace Ts
open Vagraa Vagraf
def Gp (v:Nat) (A:List Nat) (G:GM) (L:List Way):GM:=fun u x=>if x=v∧u∈A then none else puts G L u x
def Ct (G:GM) (L:List Way):Nat→Nat→Bool:=fun u x=>(puts G L u x).isSome
theorem puts_snoc (G:GM) (L:List Way) (z:Way):puts G (L++[z])=put (puts G L) z:=by
  unfold puts
  rw [List.foldl_append]
  rfl
theorem Gp_ne {v:Nat} {A:List Nat} {G:GM} {L:List Way} {u x:Nat} (h:x≠v):Gp v A G L u x=puts G L u x:=by
  unfold Gp
  rw [if_neg (fun q=>h q.1)]
theorem Gp_put {v:Nat} {A:List Nat} {G:GM} {L:List Way} {z:Way} (hz:z.1.2≠v):put (Gp v A G L) z=Gp v A G (L++[z]):=by
  funext u x
  by_cases h:(u,x)=z.1
  · have h1:u=z.1.1:=by rw [← h]
    have h2:x=z.1.2:=by rw [← h]
    subst h1 h2
    rw [put_at,Gp_ne hz,Gp_ne hz,puts_snoc,put_at]
  · rw [put_ne h]
    unfold Gp
    rw [puts_snoc,put_ne h]
theorem Ct_put {v:Nat} {A:List Nat} {G:GM} {L:List Way} {z:Way} (hz:z.1.2≠v) (u x:Nat) :
    (if (Gp v A G L z.1.1 z.1.2).isSome=true then Ct G L u x else if u=z.1.1∧x=z.1.2 then true else Ct G L u x)=Ct G (L++[z]) u x:=by
  rw [Gp_ne hz]
  unfold Ct
  rw [puts_snoc]
  by_cases h:u=z.1.1∧x=z.1.2
  · obtain ⟨rfl,rfl⟩:=h
    rw [put_at]
    by_cases q:(puts G L z.1.1 z.1.2).isSome=true
    · rw [if_pos q,q]; rfl
    · rw [if_neg q,if_pos ⟨rfl,rfl⟩]; rfl
  · rw [put_ne (fun e=>h (by rw [← e]; exact ⟨rfl,rfl⟩)),if_neg h]
    split <;> rfl
theorem Gp_pop {v s:Nat} {A:List Nat} {G:GM} {L:List Way} (u x:Nat):(if u=s∧x=v then none else Gp v A G L u x)=Gp v (A++[s]) G L u x:=by
  unfold Gp
  by_cases h:u=s∧x=v
  · rw [if_pos h,if_pos ⟨h.2,by rw [h.1]; simp⟩]
  · rw [if_neg h]
    by_cases q:x=v∧u∈A
    · rw [if_pos q,if_pos ⟨q.1,List.mem_append_left _ q.2⟩]
    · rw [if_neg q,if_neg]
      rintro ⟨q1,q2⟩
      rcases List.mem_append.mp q2 with q2 | q2
      · exact q ⟨q1,q2⟩
      · exact h ⟨by simpa using q2,q1⟩
def row (wt:Nat→Frac) (s:Nat) (O:List (Nat×Frac)):List Way:=O.map fun o=>((s,o.1),mul (wt s) o.2)
theorem prods_succ {wt:Nat→Frac} {S:List Nat} {O:List (Nat×Frac)} {i s:Nat} (h:S[i]? = some s):prods wt (S.take (i+1)) O=prods wt (S.take i) O++row wt s O:=by
  obtain ⟨hi,e⟩:=List.getElem?_eq_some_iff.mp h
  unfold prods row
  rw [List.take_succ_eq_append_getElem hi,e,List.flatMap_append,List.flatMap_singleton]
theorem row_succ {wt:Nat→Frac} {O:List (Nat×Frac)} {j s:Nat} {o:Nat×Frac} (h:O[j]? = some o):row wt s (O.take (j+1))=row wt s (O.take j)++[((s,o.1),mul (wt s) o.2)]:=by
  obtain ⟨hi,e⟩:=List.getElem?_eq_some_iff.mp h
  unfold row
  rw [List.take_succ_eq_append_getElem hi,e,List.map_append]
  rfl
theorem nd_take {α:Type} {l:List α} (n:l.Nodup) {i:Nat} {x:α} (h:l[i]? = some x):x ∉ l.take i:=fun hm=>by
  obtain ⟨m,hm⟩:=List.getElem?_of_mem hm
  have hmi:m<i:=by
    have:=(List.getElem?_eq_some_iff.mp hm).1
    rw [List.length_take] at this
    omega
  rw [List.getElem?_take_of_lt hmi] at hm
  obtain ⟨h1,e1⟩:=List.getElem?_eq_some_iff.mp hm
  obtain ⟨h2,e2⟩:=List.getElem?_eq_some_iff.mp h
  have:=(List.getElem_inj n).mp (e1.trans e2.symm)
  omega
theorem fresh_key {wt:Nat→Frac} {S:List Nat} {O:List (Nat×Frac)} (n1:S.Nodup) (n2:(O.map (·.1)).Nodup) {i j s:Nat} {o:Nat×Frac} (h1:S[i]? = some s) (h2:O[j]? = some o) :
    (s,o.1) ∉ (prods wt (S.take i) O++row wt s (O.take j)).map (·.1):=by
  intro hm
  rw [List.map_append] at hm
  rcases List.mem_append.mp hm with hm | hm
  · obtain ⟨z,hz,e⟩:=List.mem_map.mp hm
    obtain ⟨u,hu,hz⟩:=List.mem_flatMap.mp hz
    obtain ⟨o',_,rfl⟩:=List.mem_map.mp hz
    have:u=s:=(Prod.mk.inj e).1
    subst this
    exact nd_take n1 h1 hu
  · obtain ⟨z,hz,e⟩:=List.mem_map.mp hm
    obtain ⟨o',ho',rfl⟩:=List.mem_map.mp hz
    have e2:o'.1=o.1:=(Prod.mk.inj e).2
    have:=nd_take n2 (i:=j) (x:=o.1) (by rw [List.getElem?_map,h2]; rfl)
    rw [← List.map_take] at this
    exact this (List.mem_map.mpr ⟨o',ho',e2⟩)
theorem at_fresh {v:Nat} {A:List Nat} {G:GM} {L:List Way} {u x:Nat} (hx:x≠v) (h:(u,x) ∉ L.map (·.1)):Gp v A G L u x=G u x:=by rw [Gp_ne hx,puts_out _ _ h]
def Away (v:Nat) (L:List Way):Prop:=∀ z∈L,z.1.1≠v∧z.1.2≠v
theorem Away.key {v:Nat} {L:List Way} (h:Away v L) {u x:Nat} (q:u=v∨x=v):(u,x) ∉ L.map (·.1):=fun hm=>by
  obtain ⟨z,hz,e⟩:=List.mem_map.mp hm
  obtain ⟨h1,h2⟩:=h z hz
  rcases q with q | q
  · exact h1 (by rw [e]; exact q)
  · exact h2 (by rw [e]; exact q)
theorem final_G {v:Nat} {S:List Nat} {G:GM} {L:List Way} (aw:Away v L) (kn:(L.map (·.1)).Nodup) (hS:SrcOf G v S) (u x:Nat):(if u=v then none else Gp v S G L u x)=puts (cut v G) L u x:=by
  by_cases hu:u=v
  · rw [if_pos hu,puts_out _ _ (aw.key (.inl hu))]
    unfold cut
    rw [if_pos (.inl hu)]
  · rw [if_neg hu]
    by_cases hx:x=v
    · rw [puts_out _ _ (aw.key (.inr hx))]
      unfold cut
      rw [if_pos (.inr hx)]
      unfold Gp
      by_cases hm:u∈S
      · rw [if_pos ⟨hx,hm⟩]
      · rw [if_neg (fun q=>hm q.2),puts_out _ _ (aw.key (.inr hx)),hx]
        cases e:G u v with
        | none=>rfl
        | some y=>exact absurd ((hS.mem u).mpr (by rw [e]; rfl)) hm
    · rw [Gp_ne hx]
      have hc:cut v G u x=G u x:=by unfold cut; rw [if_neg]; rintro (q | q) <;> contradiction
      by_cases hk:(u,x)∈L.map (·.1)
      · obtain ⟨⟨k,f⟩,h1,h2⟩:=List.mem_map.mp hk
        have h2':k=(u,x):=h2
        subst h2'
        rw [puts_in _ _ kn h1,puts_in _ _ kn h1,hc]
      · rw [puts_out _ _ hk,puts_out _ _ hk,hc]
theorem final_C {v:Nat} {T:List Nat} {G:GM} {L:List Way} (aw:Away v L) (kn:(L.map (·.1)).Nodup) (hT:∀ x,x∈T↔(G v x).isSome=true) (u x:Nat) :
    (if x=v then false else if u=v∧x∈T then false else Ct G L u x)=(puts (cut v G) L u x).isSome:=by
  by_cases hx:x=v
  · rw [if_pos hx,puts_out _ _ (aw.key (.inr hx))]
    unfold cut
    rw [if_pos (.inr hx)]
    rfl
  · rw [if_neg hx]
    by_cases hu:u=v
    · rw [puts_out _ _ (aw.key (.inl hu))]
      have hc:cut v G u x=none:=by unfold cut; rw [if_pos (.inl hu)]
      rw [hc]
      by_cases hm:x∈T
      · rw [if_pos ⟨hu,hm⟩]; rfl
      · rw [if_neg (fun q=>hm q.2)]
        unfold Ct
        rw [puts_out _ _ (aw.key (.inl hu)),hu]
        cases e:G v x with
        | none=>rfl
        | some y=>exact absurd ((hT x).mpr (by rw [e]; rfl)) hm
    · rw [if_neg (fun q=>hu q.1)]
      unfold Ct
      have hc:cut v G u x=G u x:=by unfold cut; rw [if_neg]; rintro (q | q) <;> contradiction
      by_cases hk:(u,x)∈L.map (·.1)
      · obtain ⟨⟨k,f⟩,h1,h2⟩:=List.mem_map.mp hk
        have h2':k=(u,x):=h2
        subst h2'
        rw [puts_in _ _ kn h1,puts_in _ _ kn h1]
        rfl
      · rw [puts_out _ _ hk,puts_out _ _ hk,hc]
theorem prods_length (wt:Nat→Frac) (S:List Nat) (O:List (Nat×Frac)):(prods wt S O).length=S.length*O.length:=by
  unfold prods
  rw [List.length_flatMap]
  simp only [List.length_map]
  rw [List.map_const',List.sum_replicate_nat]
def meets (v:Nat) (G:GM) (L:List Way):Nat:=L.countP fun z=>(cut v G z.1.1 z.1.2).isSome
theorem meets_snoc (v:Nat) (G:GM) (L:List Way) (z:Way):meets v G (L++[z])=meets v G L+if (cut v G z.1.1 z.1.2).isSome=true then 1 else 0:=by
  unfold meets
  rw [List.countP_append,List.countP_singleton]
theorem cut_at {v:Nat} {G:GM} {u x:Nat} (h1:u≠v) (h2:x≠v):cut v G u x=G u x:=by unfold cut; rw [if_neg]; rintro (q | q) <;> contradiction
end Ts
namespace Ts
open Vagraa Vagraf VagraLine
theorem Ct_put0 {G:GM} {L:List Way} {z:Way} (u x:Nat) :
    (if (puts G L z.1.1 z.1.2).isSome=true then Ct G L u x else if u=z.1.1∧x=z.1.2 then true else Ct G L u x)=Ct G (L++[z]) u x:=by
  have h:=Ct_put (v:=z.1.2+1) (A:=[]) (G:=G) (L:=L) (z:=z) (by omega) u x
  rw [Gp_ne (by omega)] at h
  exact h
def noWay:GM:=fun _ _=>none
def lineL (t:List (List (Nat×Frac))) (i:Nat):List Way:=(t.zipIdx.take i).flatMap fun x=>x.1.map fun p=>((p.1,x.2),p.2)
def rowL (ps:List (Nat×Frac)) (i:Nat):List Way:=ps.map fun p=>((p.1,i),p.2)
def outL (n:Nat) (outs:List Nat) (k:Nat):List Way:=(outs.zipIdx.take k).map fun o=>((o.1,n+o.2),one)
theorem lineL_succ {t:List (List (Nat×Frac))} {i:Nat} {ps:List (Nat×Frac)} (h:t[i]? = some ps):lineL t (i+1)=lineL t i++rowL ps i:=by
  have e:t.zipIdx[i]? = some (ps,i):=by rw [List.getElem?_zipIdx,h]; simp
  obtain ⟨hi,e⟩:=List.getElem?_eq_some_iff.mp e
  unfold lineL rowL
  rw [List.take_succ_eq_append_getElem hi,e,List.flatMap_append,List.flatMap_singleton]
theorem rowL_succ {ps:List (Nat×Frac)} {i j:Nat} {p:Nat×Frac} (h:ps[j]? = some p):rowL (ps.take (j+1)) i=rowL (ps.take j) i++[((p.1,i),p.2)]:=by
  obtain ⟨hi,e⟩:=List.getElem?_eq_some_iff.mp h
  unfold rowL
  rw [List.take_succ_eq_append_getElem hi,e,List.map_append]
  rfl
theorem outL_succ {n:Nat} {outs:List Nat} {k o:Nat} (h:outs[k]? = some o):outL n outs (k+1)=outL n outs k++[((o,n+k),one)]:=by
  have e:outs.zipIdx[k]? = some (o,k):=by rw [List.getElem?_zipIdx,h]; simp
  obtain ⟨hi,e⟩:=List.getElem?_eq_some_iff.mp e
  unfold outL
  rw [List.take_succ_eq_append_getElem hi,e,List.map_append]
  rfl
theorem ways_fold:∀ (L:List Way) (w:Ways),(w.map (·.1)).Nodup→wget (L.foldl (fun w x=>(putWay x w).1) w)=puts (wget w) L∧((L.foldl (fun w x=>(putWay x w).1) w).map (·.1)).Nodup
  | [],w,n=>⟨rfl,n⟩
  | z::L,w,n=>by
    obtain ⟨p1,_,_,p4⟩:=putWay_ok z w
    obtain ⟨i1,i2⟩:=ways_fold L (putWay z w).1 (p4 n)
    rw [p1] at i1
    exact ⟨i1,i2⟩
theorem waysOf_ok (c:Code) (vs:List Frac) (outs:List Nat):wget (waysOf c vs outs)=puts noWay (lineL (tape c vs) (tape c vs).length++outL c.length outs outs.length)∧((waysOf c vs outs).map (·.1)).Nodup:=by
  have e:waysOf c vs outs=(lineL (tape c vs) (tape c vs).length++outL c.length outs outs.length).foldl (fun w x=>(putWay x w).1) []:=by
    unfold waysOf lineL outL
    rw [List.take_of_length_le (by rw [List.length_zipIdx]; exact Nat.le_refl _),List.take_of_length_le (by rw [List.length_zipIdx]; exact Nat.le_refl _)]
  rw [e]
  exact ways_fold _ [] (by simp)
theorem lineL_len {t:List (List (Nat×Frac))} (h:∀ ps∈t,ps.length≤2):∀ i,i≤t.length→(lineL t i).length≤2*i:=by
  intro i
  induction i with
  | zero=>intro _; exact Nat.le_refl _
  | succ i ih=>
    intro hi
    obtain ⟨ps,hp⟩:∃ p,t[i]? = some p:=⟨_,List.getElem?_eq_getElem (by omega)⟩
    rw [lineL_succ hp,List.length_append]
    have h1:=h ps (List.mem_of_getElem? hp)
    have h2:(rowL ps i).length=ps.length:=List.length_map _
    have h3:=ih (by omega)
    omega
theorem outL_len (n:Nat) (outs:List Nat) (k:Nat):(outL n outs k).length≤k:=by
  unfold outL
  rw [List.length_map,List.length_take]
  exact Nat.min_le_left _ _
end Ts
end
section
namespace Ts
open Vagraa Vagraf
theorem erase_ix:∀ {l:List Nat},l.Nodup→∀ {j v:Nat},l[j]? = some v→l.eraseIdx j=l.erase v
  | [],_,_,_,h=>by simp at h
  | x::l,n,0,v,h=>by
    have e:x=v:=by simpa using h
    subst e
    simp
  | x::l,n,j+1,v,h=>by
    rw [List.nodup_cons] at n
    have h':l[j]? = some v:=by simpa using h
    have hne:x≠v:=fun e=>n.1 (e▸List.mem_of_getElem? h')
    rw [List.eraseIdx_cons_succ,erase_ix n.2 h',List.erase_cons_tail (by simpa using hne)]
theorem greedy_step {w:Worked} {l:List Nat} {v:Nat} (n:l.Nodup) (h:cheapest w.ways l=some v) (hv:v∈l):greedyFrom l.length l w=v::greedyFrom (l.erase v).length (l.erase v) (takeOut v w):=by
  have hl:l.length=(l.erase v).length+1:=by
    have:=List.length_erase_of_mem hv
    have h0:=List.length_pos_of_mem hv
    omega
  conv=>lhs; rw [hl]
  show (match cheapest w.ways l with
    | none=>[]
    | some u=>u::greedyFrom (l.erase v).length (l.filter fun x => !decide (x=u)) (takeOut u w))=_
  rw [h]
  show v::greedyFrom (l.erase v).length (l.filter fun x => !decide (x=v)) (takeOut v w)=_
  rw [filter_ne_erase n]
theorem taken_snoc (dn:List Nat) (v:Nat) (w:Worked):takenOut (dn++[v]) w=takeOut v (takenOut dn w):=by
  unfold takenOut
  rw [List.foldl_append]
  rfl
end Ts
end
section
namespace Ts
open Vagraa Vagraf VagraLine
def Der (f:Frac):Prop:=WF f∧f.den≤2 ^ 400∧f.num.natAbs≤2 ^ 400*f.den
def Lt200 (f:Frac):Prop:=WF f∧weight f≤200
theorem lt200_bd {f:Frac} (h:Lt200 f):f.den≤2 ^ 200∧f.num.natAbs≤2 ^ 200∧Bd f.den (2 ^ 200) f:=by
  obtain ⟨h1,h2,h3⟩:=Bd.light h.1 h.2
  exact ⟨Nat.le_of_lt h1,Nat.le_of_lt h2,h3⟩
theorem pow24:2 ^ 200≤2 ^ 400:=Nat.pow_le_pow_right (by decide) (by decide)
theorem pow224:2 ^ 200*2 ^ 200=2 ^ 400:=by rw [← Nat.pow_add]
theorem der_light {f:Frac} (h:Lt200 f):Der f:=by
  obtain ⟨h1,h2,h3⟩:=lt200_bd h
  exact ⟨h.1,Nat.le_trans h1 pow24,Nat.le_trans h3.2 (Nat.mul_le_mul_right _ pow24)⟩
theorem lt_zero:Lt200 zero:=⟨zero_wf,by decide⟩
theorem lt_one:Lt200 one:=⟨one_wf,by decide⟩
theorem der_neg {f:Frac} (h:Der f):Der (neg f):=⟨neg_wf h.1,h.2.1,by show (-f.num).natAbs≤_; rw [Int.natAbs_neg]; exact h.2.2⟩
theorem inv_bd {f:Frac} (h:Lt200 f):WF (inv f)∧(inv f).den≤2 ^ 200∧Bd (inv f).den (2 ^ 200) (inv f):=by
  obtain ⟨h1,h2,_⟩:=lt200_bd h
  have w:=inv_wf h.1
  refine ⟨w,?_,Nat.dvd_refl _,?_⟩
  · unfold inv
    split
    · exact h2
    · split
      · exact Nat.one_le_two_pow
      · exact h2
  · have hn:(inv f).num.natAbs≤2 ^ 200:=by
      unfold inv
      split
      · show (-(f.den:Int)).natAbs≤_
        rw [Int.natAbs_neg]
        exact h1
      · split
        · exact Nat.zero_le _
        · exact h1
    exact Nat.le_trans hn (Nat.le_mul_of_pos_right _ w.pos)
theorem der_mulInv {v f:Frac} (hv:Lt200 v) (h:Lt200 f):Der (mul v (inv f)):=by
  obtain ⟨h1,h2,h3⟩:=lt200_bd hv
  obtain ⟨g1,g2,g3⟩:=inv_bd h
  have b:=Bd.mul hv.1 g1 h3 g3
  rw [pow224] at b
  have p:0<v.den*(inv f).den:=Nat.mul_pos hv.1.pos g1.pos
  refine ⟨mul_wf hv.1 g1,?_,b.2⟩
  exact Nat.le_trans (Nat.le_of_dvd p b.1) (by rw [← pow224]; exact Nat.mul_le_mul h1 g2)
theorem at_lt {vs:List Frac} (h:∀ f∈vs,Lt200 f) (i:Nat):Lt200 (at_ vs i):=by
  unfold VagraLine.at_
  rw [List.getD_eq_getElem?_getD]
  cases e:vs[i]? with
  | none=>exact lt_zero
  | some f=>exact h f (List.mem_of_getElem? e)
theorem partials_ok {vs:List Frac} (h:∀ f∈vs,Lt200 f) {v:Frac} (hv:Lt200 v) (l:Line):(partials vs v l).length≤2∧∀ p∈partials vs v l,Der p.2:=by
  have mem2:∀ {x y p:Nat×Frac},Der x.2→Der y.2→p∈[x,y]→Der p.2:=fun hx hy hp=>by
    rcases List.mem_cons.mp hp with e | hp
    · subst e; exact hx
    · rw [List.mem_singleton.mp hp]; exact hy
  cases l with
  | input k=>exact ⟨Nat.zero_le _,fun p hp=>by cases hp⟩
  | num a=>exact ⟨Nat.zero_le _,fun p hp=>by cases hp⟩
  | add i j=>exact ⟨Nat.le_refl _,fun p hp=>mem2 (x:=(i,one)) (y:=(j,one)) (der_light lt_one) (der_light lt_one) hp⟩
  | sub i j=>exact ⟨Nat.le_refl _,fun p hp=>mem2 (x:=(i,one)) (y:=(j,neg one)) (der_light lt_one) (der_neg (der_light lt_one)) hp⟩
  | mul i j=>exact ⟨Nat.le_refl _,fun p hp=>mem2 (x:=(i,at_ vs j)) (y:=(j,at_ vs i)) (der_light (at_lt h j)) (der_light (at_lt h i)) hp⟩
  | div i j=>exact ⟨Nat.le_refl _,fun p hp=>mem2 (x:=(i,div one (at_ vs j))) (y:=(j,neg (div v (at_ vs j)))) (der_mulInv lt_one (at_lt h j)) (der_neg (der_mulInv hv (at_lt h j))) hp⟩
  | neg i=>
    refine ⟨by show 1≤2; decide,fun p hp => ?_⟩
    rw [List.mem_singleton.mp hp]
    exact der_neg (der_light lt_one)
theorem flat_len {α:Type}:∀ (t:List (List α)),(∀ ps∈t,ps.length≤2)→t.flatten.length≤2*t.length
  | [],_=>Nat.le_refl _
  | p::t,h=>by
    rw [List.flatten_cons,List.length_append,List.length_cons]
    have h1:=h p List.mem_cons_self
    have h2:=flat_len t fun q hq=>h q (List.mem_cons_of_mem _ hq)
    omega
theorem tape_fit {c:Code} {vs:List Frac} (hc:c.length≤80) (h:∀ f∈vs,Lt200 f):∃ E,TapeB E (2 ^ 400) (tape c vs)∧Fit 64000 400 E (2 ^ 400):=by
  have hp:∀ ps∈tape c vs,ps.length≤2∧∀ p∈ps,Der p.2:=fun ps hps=>by
    unfold tape at hps
    obtain ⟨x,hx,rfl⟩:=List.mem_map.mp hps
    exact partials_ok h (h x.2 (List.of_mem_zip hx).2) x.1
  obtain ⟨E,e0,e1,e2⟩:=common 400 ((tape c vs).flatten.map (·.2)) fun f hf=>by
    obtain ⟨p,hp',rfl⟩:=List.mem_map.mp hf
    obtain ⟨ps,hps,hpp⟩:=List.mem_flatten.mp hp'
    have d:=(hp ps hps).2 p hpp
    exact ⟨d.1.pos,d.2.1⟩
  have hl:((tape c vs).flatten.map (·.2)).length≤160:=by
    rw [List.length_map]
    have h1:=flat_len (tape c vs) fun ps hps=>(hp ps hps).1
    have h2:(tape c vs).length≤c.length:=by
      unfold tape
      rw [List.length_map,List.length_zip]
      exact Nat.min_le_left _ _
    omega
  refine ⟨E,fun ps hps=>⟨(hp ps hps).1,fun p hpp => ?_⟩,e0,?_,Nat.le_refl _⟩
  · have d:=(hp ps hps).2 p hpp
    exact ⟨d.1,e2 p.2 (List.mem_map.mpr ⟨p,List.mem_flatten.mpr ⟨ps,hps,hpp⟩,rfl⟩),d.2.2⟩
  · exact Nat.le_trans e1 (Nat.pow_le_pow_right (by decide) (by omega))
theorem fit402 {E:Nat} (h:Fit 64000 400 E (2 ^ 400)):Fit 64000 402 E (1+2*2 ^ 400):=by
  refine ⟨h.pos,h.den,?_⟩
  have e:2 ^ 402=2 ^ 400*2 ^ 2:=by rw [← Nat.pow_add]
  have p:0<2 ^ 400:=Nat.two_pow_pos 400
  rw [e]
  generalize 2 ^ 400=z at *
  omega
def ansR:Vagraf.R (List Int)→List Int
  | .ok l=>l
  | .error n=>[n]
theorem bindO {α β:Type} (x:α) (f:α→Vagraf.R β):((Except.ok x:Vagraf.R α) >>= f)=f x:=rfl
theorem step_ask {s:Vagraf.State} {c:Vagraf.Call} (h:outcome s c=(do let l ← s.asked c; .ok (s,l))):(Vagraf.step s c).1=s∧VagrafNeutral.encode (Vagraf.step s c).2=ansR (s.asked c):=by
  unfold Vagraf.step
  rw [h]
  cases s.asked c with
  | ok l=>exact ⟨rfl,rfl⟩
  | error n=>exact ⟨rfl,rfl⟩
theorem vals_none {s:Vagraf.State} (h:s.point=none):s.vals = .error (-4):=by unfold Vagraf.State.vals; rw [h]
theorem vals_fault {s:Vagraf.State} {p:List Frac} {e:Fault} (h:s.point=some p) (hr:run (some 200) p s.code = .error e):s.vals = .error (-5):=by
  unfold Vagraf.State.vals
  rw [h]
  show (match run (some 200) p s.code with | .ok vs=>_ | .error _=>_)=_
  rw [hr]
theorem vals_ok {s:Vagraf.State} {p vs:List Frac} (h:s.point=some p) (hr:run (some 200) p s.code = .ok vs):s.vals = .ok vs:=by
  unfold Vagraf.State.vals
  rw [h]
  show (match run (some 200) p s.code with | .ok vs=>_ | .error _=>_)=_
  rw [hr]
theorem line_in {s:Vagraf.State} {i:Int} (h:0≤i∧i<s.code.length):s.line i = .ok i.toNat:=by unfold Vagraf.State.line; rw [if_pos h]
theorem line_out {s:Vagraf.State} {i:Int} (h:¬ (0≤i∧i<s.code.length)):s.line i = .error (-1):=by unfold Vagraf.State.line; rw [if_neg h]
end Ts
namespace Ts
open Vagraa (Frac)
open Vagraf VagraLine
section
variable (s:Vagraf.State)
theorem asked_value (i:Int):s.asked (.value i)=(s.line i >>= fun i=>s.vals >>= fun vs=>counted [at_ vs i]):=rfl
theorem asked_values:s.asked .values=(s.vals >>= fun vs=>counted vs):=rfl
theorem asked_tape:s.asked .tape=(s.vals >>= fun vs=>Vagraf.tell (((Vagraf.tape s.code vs).length:Int)::(Vagraf.tape s.code vs).map fun x=>(x.length:Int)) ((Vagraf.tape s.code vs).flatMap fun x=>x.map fun p=>p.2)):=rfl
theorem asked_gradient (i:Int):s.asked (.gradient i)=(s.line i >>= fun i=>s.vals >>= fun vs=>counted (Vagraf.gradient s.inputs s.code vs i)):=rfl
theorem asked_pull (l:List Int):s.asked (.pull l)=(s.weights l >>= fun ws=>s.vals >>= fun vs=>counted (pulled s.inputs s.code vs ws)):=rfl
theorem asked_sums (l:List Int):s.asked (.sums l)=(s.weights l >>= fun ws=>s.vals >>= fun vs=>counted (Vagraf.sums s.code vs ws)):=rfl
theorem asked_sweep (k:Int) (l:List Int):s.asked (.sweep k l)=(s.line k >>= fun k=>s.weights l >>= fun ws=>s.vals >>= fun vs=>counted (sweepN (Vagraf.tape s.code vs) (seeds s.code.length ws) ((Vagraf.tape s.code vs).length - k))):=by
  show (s.line k >>= fun k=>s.weights l >>= fun ws=>s.vals >>= fun vs=>counted ((((Vagraf.tape s.code vs).zipIdx.drop k).reverse).foldl (fun l x=>if Vagraa.isZero (at_ l x.2)=true then l else pass (at_ l x.2) x.1 l) (seeds s.code.length ws)))=_
  congr 1
  funext k
  congr 1
  funext ws
  congr 1
  funext vs
  rw [sweep_drop]
theorem asked_cost (l:List Int):s.asked (.cost l)=(s.weights l >>= fun ws=>s.vals >>= fun vs => .ok [(VagraLine.ops s.code:Int),(sweepCost s.code (Vagraf.sums s.code vs ws):Int)]):=rfl
theorem asked_table (l:List Int):s.asked (.table l)=(s.outs l >>= fun outs=>s.vals >>= fun vs=>counted (outs.flatMap (Vagraf.gradient s.inputs s.code vs))):=rfl
theorem asked_along (i:Int) (l:List Int):s.asked (.along i l)=(s.line i >>= fun i=>Vagraf.fracs s.inputs l >>= fun d=>s.vals >>= fun vs=>counted [dot (Vagraf.gradient s.inputs s.code vs i) d]):=rfl
theorem asked_eliminate (l o:List Int):s.asked (.eliminate l o)=(s.outs l >>= fun outs=>s.order o >>= fun order=>s.vals >>= fun vs=>Vagraf.tell [((takenOut order (worked s.code vs outs)).products:Int),((takenOut order (worked s.code vs outs)).sums:Int)] (tableOf s.inputs s.code outs (takenOut order (worked s.code vs outs)).ways)):=rfl
theorem asked_greedy (l:List Int):s.asked (.greedy l)=(s.outs l >>= fun outs=>s.vals >>= fun vs => .ok ([((takenOut (Vagraf.greedy s.code vs outs) (worked s.code vs outs)).products:Int),((takenOut (Vagraf.greedy s.code vs outs) (worked s.code vs outs)).sums:Int)]++(Vagraf.greedy s.code vs outs).map Int.ofNat)):=rfl
theorem weights_some {l:List Int} {ws:List (Nat×Frac)} (h:weightsOf s.code.length l=some ws):s.weights l = .ok ws:=by unfold State.weights; rw [h]
theorem weights_none {l:List Int} (h:weightsOf s.code.length l=none):s.weights l = .error (-2):=by unfold State.weights; rw [h]
end
end Ts
namespace Ts
open Vagraa (Frac)
open Vagraf VagraLine
theorem fracs_eq (n:Nat) (l:List Int):Vagraf.fracs n l=match (match fracsOf l with | some fs=>if fs.length=n then some fs else none | none=>none) with | some fs => .ok fs | none => .error (-2):=by
  unfold Vagraf.fracs
  cases fracsOf l with
  | none=>rfl
  | some fs=>
    simp only
    split <;> rfl
theorem fracsOf_told:∀ (ns:List Int) (fs:List Frac),fracsOf ns=some fs→(∀ z∈ns,z.natAbs≤10 ^ 18)→∀ f∈fs,toldF f
  | [],fs,h,_=>by
    have e:([]:List Frac)=fs:=Option.some.inj h
    subst e
    intro f hf
    cases hf
  | [_],fs,h,_=>by cases h
  | n::d::r,fs,h,hb=>by
    have h':(if d<1 then none else (fracsOf r).map fun l=>Vagraa.frac n d.toNat::l)=some fs:=h
    by_cases hd:d<1
    · rw [if_pos hd] at h'; cases h'
    · rw [if_neg hd] at h'
      cases e:fracsOf r with
      | none=>rw [e] at h'; cases h'
      | some l=>
        rw [e] at h'
        have e3:Vagraa.frac n d.toNat::l=fs:=Option.some.inj h'
        subst e3
        intro f hf
        rcases List.mem_cons.mp hf with q | q
        · subst q
          exact told_frac (hb n (by simp)) (by omega) (hb d (by simp))
        · exact fracsOf_told r l e (fun z hz=>hb z (List.mem_cons_of_mem _ (List.mem_cons_of_mem _ hz))) f q
def dotN (l m:List Frac) (j:Nat):Frac:=((List.zipWith Vagraa.mul l m).take j).foldl Vagraa.add Vagraa.zero
theorem dotN_succ {l m:List Frac} {j:Nat} {x y:Frac} (h1:l[j]? = some x) (h2:m[j]? = some y):dotN l m (j+1)=Vagraa.add (dotN l m j) (Vagraa.mul x y):=by
  have e:(List.zipWith Vagraa.mul l m)[j]? = some (Vagraa.mul x y):=by
    rw [List.getElem?_zipWith,h1,h2]
  obtain ⟨hi,e⟩:=List.getElem?_eq_some_iff.mp e
  unfold dotN
  rw [List.take_succ_eq_append_getElem hi,e,List.foldl_append]
  rfl
theorem dotN_all {l m:List Frac} {n:Nat} (h:l.length≤n):dotN l m n=dot l m:=by
  unfold dotN
  rw [List.take_of_length_le (by rw [List.length_zipWith]; omega)]
  rfl
theorem dotN_bd {D B E C:Nat} {l m:List Frac} (hl:AllB D B l) (hm:AllB E C m):∀ j,j≤l.length→j≤m.length→WF (dotN l m j)∧Bd (D*E) (j*(B*C)) (dotN l m j):=by
  intro j
  induction j with
  | zero=>intro _ _; exact ⟨zero_wf,Bd.zero _ _⟩
  | succ j ih=>
    intro h1 h2
    rw [dotN_succ (List.getElem?_eq_getElem (by omega)) (List.getElem?_eq_getElem (by omega))]
    obtain ⟨w1,b1⟩:=ih (by omega) (by omega)
    have x1:=hl _ (List.getElem_mem (show j<l.length by omega))
    have x2:=hm _ (List.getElem_mem (show j<m.length by omega))
    refine ⟨add_wf w1 (mul_wf x1.1 x2.1),?_⟩
    rw [Nat.succ_mul]
    exact Bd.add w1 (mul_wf x1.1 x2.1) b1 (Bd.mul x1.1 x2.1 x1.2 x2.2)
def endL (G:GM) (N e:Nat):List Frac:=(List.range N).map fun i=>(G i e).getD Vagraa.zero
theorem table_eq (n:Nat) (c:Code) (outs:List Nat) (w:Ways):tableOf n c outs w=outs.zipIdx.flatMap fun o=>byInput n c (endL (wget w) c.length (c.length+o.2)):=by
  unfold tableOf
  congr 1
  funext o
  show byInput n c _=byInput n c _
  congr 1
  unfold endL
  refine List.map_congr_left fun i _ => ?_
  unfold wget
  cases w.find? fun x=>decide (x.1=(i,c.length+o.2)) with
  | none=>rfl
  | some x=>rfl
theorem end_AllB {N M D B:Nat} {G:GM} (h:GoodW N M D B G) (e:Nat):AllB (D ^ M) ((B+1) ^ M) (endL G N e):=fun f hf=>by
  obtain ⟨i,_,rfl⟩:=List.mem_map.mp hf
  cases q:G i e with
  | none=>exact ⟨zero_wf,Bd.zero _ _⟩
  | some y=>
    obtain ⟨h1,h2,h3,h4,h5⟩:=h i e y q
    refine ⟨h4,h5.mono (Nat.pow_dvd_pow _ (by omega)) ?_⟩
    exact Nat.le_trans (Nat.pow_le_pow_left (Nat.le_succ B) _) (Nat.pow_le_pow_right (by omega) (by omega))
theorem outs_in {s:Vagraf.State} {l:List Int} (h:(l.all fun i=>decide (0≤i)&&decide (i<(s.code.length:Int)))=true∧l.length≤12):s.outs l = .ok (l.map Int.toNat):=by
  unfold State.outs
  exact if_pos h
theorem outs_out {s:Vagraf.State} {l:List Int} (h:¬ ((l.all fun i=>decide (0≤i)&&decide (i<(s.code.length:Int)))=true∧l.length≤12)):s.outs l = .error (-2):=by
  unfold State.outs
  exact if_neg h
theorem order_in {s:Vagraf.State} {l:List Int} (h:(l.all fun i=>decide (0≤i))=true∧l.length=(inner s.code).length∧((inner s.code).all fun v=>(l.map Int.toNat).contains v)=true):s.order l = .ok (l.map Int.toNat):=by
  unfold State.order
  exact if_pos h
theorem order_out {s:Vagraf.State} {l:List Int} (h:¬ ((l.all fun i=>decide (0≤i))=true∧l.length=(inner s.code).length∧((inner s.code).all fun v=>(l.map Int.toNat).contains v)=true)):s.order l = .error (-2):=by
  unfold State.order
  exact if_neg h
theorem order_lt {c:Code} {l:List Int} (h:(l.all fun i=>decide (0≤i))=true∧l.length=(inner c).length∧((inner c).all fun v=>(l.map Int.toNat).contains v)=true):∀ v∈l.map Int.toNat,v<c.length:=fun v hv=>by
  have h3:=List.all_eq_true.mp h.2.2
  have p:(l.map Int.toNat).Perm (inner c):=nodup_of_cover (inner_nd c) (by rw [List.length_map]; exact h.2.1) fun v hv=>by
    have:=h3 v hv
    rwa [List.contains_iff_mem] at this
  exact inner_mem (p.mem_iff.mp hv)
end Ts
end
section
namespace Ts
open PyVagraf PyFlat
theorem whole_id (c:List (List Int)):whole c=c:=by unfold whole; split <;> rfl
section
variable {p:Int} {r:List Int} {c:List (List Int)} {t:List Int}
theorem call_of {n k:Nat} (hs:shape p=some (n,k)) (h:call shape (p::r)=some (c,t)):∃ xs,n≤r.length∧rows k (r.drop n)=some (xs,t)∧c=(p::r.take n)::xs:=by
  have h':(match shape p with
    | none=>none
    | some (n,k)=>if r.length<n then none else match rows k (r.drop n) with
      | none=>none
      | some (xs,t)=>some ((p::r.take n)::xs,t))=some (c,t):=h
  rw [hs] at h'
  simp only at h'
  by_cases hl:r.length<n
  · rw [if_pos hl] at h'; cases h'
  · rw [if_neg hl] at h'
    cases e:rows k (r.drop n) with
    | none=>rw [e] at h'; cases h'
    | some q=>
      obtain ⟨xs,u⟩:=q
      rw [e] at h'
      cases h'
      exact ⟨xs,by omega,rfl,rfl⟩
theorem call_00 (hs:shape p=some (0,0)) (h:call shape (p::r)=some (c,t)):c=[[p]]∧r=t:=by
  obtain ⟨xs,_,h2,rfl⟩:=call_of hs h
  cases h2
  exact ⟨rfl,rfl⟩
theorem take1 (h:1≤r.length):∃ x r',r=x::r':=by
  match r,h with
  | x::r',_=>exact ⟨x,r',rfl⟩
theorem call_10 (hs:shape p=some (1,0)) (h:call shape (p::r)=some (c,t)):∃ x,r=x::t∧c=[[p,x]]:=by
  obtain ⟨xs,h1,h2,rfl⟩:=call_of hs h
  obtain ⟨x,r',rfl⟩:=take1 h1
  cases h2
  exact ⟨x,rfl,rfl⟩
theorem rows1 (h:rows 1 r=some (c,t)):∃ x,PyFlat.row r=some (x,t)∧c=[x]:=by
  have h':(match PyFlat.row r with
    | none=>none
    | some (x,s)=>match rows 0 s with
      | none=>none
      | some (xs,t)=>some (x::xs,t))=some (c,t):=h
  cases e:PyFlat.row r with
  | none=>rw [e] at h'; cases h'
  | some q=>
    obtain ⟨x,s⟩:=q
    rw [e] at h'
    cases h'
    exact ⟨x,rfl,rfl⟩
theorem rows2 (h:rows 2 r=some (c,t)):∃ x s y,PyFlat.row r=some (x,s)∧PyFlat.row s=some (y,t)∧c=[x,y]:=by
  have h':(match PyFlat.row r with
    | none=>none
    | some (x,s)=>match rows 1 s with
      | none=>none
      | some (xs,t)=>some (x::xs,t))=some (c,t):=h
  cases e:PyFlat.row r with
  | none=>rw [e] at h'; cases h'
  | some q=>
    obtain ⟨x,s⟩:=q
    rw [e] at h'
    simp only at h'
    cases e2:rows 1 s with
    | none=>rw [e2] at h'; cases h'
    | some q2=>
      obtain ⟨xs,u⟩:=q2
      rw [e2] at h'
      cases h'
      obtain ⟨y,hy,rfl⟩:=rows1 e2
      exact ⟨x,s,y,rfl,hy,rfl⟩
theorem row_put' {x t:List Int} (h:PyFlat.row r=some (x,t)):r=(x.length:Int)::(x++t):=row_inv h
theorem call_01 (hs:shape p=some (0,1)) (h:call shape (p::r)=some (c,t)):∃ x,r=(x.length:Int)::(x++t)∧c=[[p],x]:=by
  obtain ⟨xs,h1,h2,rfl⟩:=call_of hs h
  obtain ⟨x,hx,rfl⟩:=rows1 h2
  exact ⟨x,row_put' hx,rfl⟩
theorem call_11 (hs:shape p=some (1,1)) (h:call shape (p::r)=some (c,t)):∃ z x,r=z::(x.length:Int)::(x++t)∧c=[[p,z],x]:=by
  obtain ⟨xs,h1,h2,rfl⟩:=call_of hs h
  obtain ⟨z,r',rfl⟩:=take1 h1
  obtain ⟨x,hx,rfl⟩:=rows1 h2
  exact ⟨z,x,by rw [show r'=(x.length:Int)::(x++t) from row_put' hx],rfl⟩
theorem call_02 (hs:shape p=some (0,2)) (h:call shape (p::r)=some (c,t)):∃ x y,r=(x.length:Int)::(x++((y.length:Int)::(y++t)))∧c=[[p],x,y]:=by
  obtain ⟨xs,h1,h2,rfl⟩:=call_of hs h
  obtain ⟨x,s,y,hx,hy,rfl⟩:=rows2 h2
  refine ⟨x,y,?_,rfl⟩
  have e1:r=(x.length:Int)::(x++s):=row_put' hx
  rw [e1,row_put' hy]
end
theorem calls_step {f:Nat} {p:Int} {r:List Int} {cs:List (List (List Int))} (h:calls shape f (p::r)=some cs):∃ f' c t cs',call shape (p::r)=some (c,t)∧calls shape f' t=some cs'∧cs=c::cs':=by
  cases f with
  | zero=>cases h
  | succ f=>
    have h':(match call shape (p::r) with
      | none=>none
      | some (c,t)=>match calls shape f t with
        | none=>none
        | some cs=>some (c::cs))=some cs:=h
    cases e:call shape (p::r) with
    | none=>rw [e] at h'; cases h'
    | some q=>
      obtain ⟨c,t⟩:=q
      rw [e] at h'
      simp only at h'
      cases e2:calls shape f t with
      | none=>rw [e2] at h'; cases h'
      | some cs'=>
        rw [e2] at h'
        cases h'
        exact ⟨f,c,t,cs',rfl,e2,rfl⟩
theorem calls_nil {f:Nat} {cs:List (List (List Int))} (h:calls shape f []=some cs):cs=[]:=by
  cases f <;> (cases h; rfl)
theorem shape_none {p:Int} (h:p<0∨13<p):shape p=none:=by
  unfold shape
  repeat rw [if_neg (by omega)]
theorem call_none {p:Int} {r:List Int} (h:shape p=none):call shape (p::r)=none:=by
  show (match shape p with
    | none=>none
    | some (n,k)=>if r.length<n then none else match rows k (r.drop n) with
      | none=>none
      | some (xs,t)=>some ((p::r.take n)::xs,t))=none
  rw [h]
theorem drop_at {l:List Int} {i:Nat} {z:Int} {r:List Int} (h:l.drop i=z::r):l[i]? = some z∧l.drop (i+1)=r∧i<l.length:=by
  have hi:i<l.length:=by
    rcases Nat.lt_or_ge i l.length with q | q
    · exact q
    · rw [List.drop_eq_nil_of_le q] at h; cases h
  rw [List.drop_eq_getElem_cons hi] at h
  obtain ⟨e1,e2⟩:=List.cons.inj h
  exact ⟨by rw [List.getElem?_eq_getElem hi,e1],e2,hi⟩
theorem drop_row {l:List Int} {i:Nat} {x t:List Int} (h:l.drop i=x++t):(l.drop i).take x.length=x∧l.drop (i+x.length)=t∧(i+x.length≤l.length∨x=[]):=by
  refine ⟨by rw [h,List.take_left],by rw [← List.drop_drop,h,List.drop_left],?_⟩
  cases x with
  | nil=>exact .inr rfl
  | cons y x=>
    left
    have:=congrArg List.length h
    rw [List.length_drop,List.length_append] at this
    simp only [List.length_cons] at this ⊢
    omega
theorem w60 {z:Int} (h:VagrafNeutral.whole60 z=true):z.natAbs≤10 ^ 18:=by
  unfold VagrafNeutral.whole60 at h
  simp only [Bool.and_eq_true,decide_eq_true_eq] at h
  omega
theorem w60s {t:List Int} (h:(t.all fun z=>VagrafNeutral.whole60 z)=true):∀ z∈t,z.natAbs≤10 ^ 18:=fun z hz=>w60 (List.all_eq_true.mp h z hz)
end Ts
end
section
set_option maxRecDepth 100000
set_option maxHeartbeats 2000000
namespace Ts
open PySem PySem.Spec PyProof.Rows L2
open Vagraa (Frac)
section
variable {X:Cx}
theorem op_fdivP (hd:X.A.depth+Builtin.pylongFrames<recursionLimit) (ht:X.prog.given.tree=none) (hst:X.stack=X.env::X.outer) (hg:X.env.scope.isGenerator=false) (hc:X.env.scope.isCoroutine=false) :
    OpR X (binaryOp .FloorDiv) (rI (fun _ j=>0<j) fun i j => .int (i / j)):=by
  intro pins s σ H x y v u Q I rx ry h
  obtain ⟨i,j,rfl,rfl,hj,q⟩:=h
  obtain ⟨t,rfl⟩:=rx
  obtain ⟨t',rfl⟩:=ry
  have hn:s.heap.NoSeer:=I.mod.seer.keeps I.bk
  have hfr:X.A.frames=some (X.env::X.outer):=by rw [I.ok.frames,hst]
  have hs:SeerAt (model X.prog X.w) X.A s.heap:=SeerAt.of hn ht hfr hg hc I.ok.blt I.ok.glob
  refine floordiv_int (by omega) ?_ (.inr (PylongRoom.of I.nolimit hd hs))
  rw [Int.fdiv_eq_ediv_of_nonneg i (by omega)]
  exact ⟨.int (i / j),H,I.tok _,⟨_,rfl⟩,q⟩
theorem op_mulB:OpR X (binaryOp .Mult) (rI IntMulOk fun i j => .int (i*j)):=opI fun _ _ _ _ _ _ _ hc q=>mul_int q hc
theorem mt_bits:MtR X "int.bit_length" (fun x xs H Q => ∃ i,x = .int i∧xs=[]∧Q (.int (Builtin.Int.intBits i)) H):=by
  intro pins s σ H x xs v us Q I rx rs h
  obtain ⟨i,rfl,rfl,h⟩:=h
  obtain ⟨t,rfl⟩:=rx
  cases rs
  exact PyProof.Rows.call_int_bit_length ⟨.int (Builtin.Int.intBits i),H,I.tok _,⟨_,rfl⟩,h⟩
end
section
open PySem.AutoSeq1 (wpAny_loadPart' idx_int)
theorem extend_tuple (l:Addr) (items:Array Value) (n:Nat) (b:Addr) (items2:Array Value) (n2:Nat) (dct:Option Addr) (sl:Array (Option Value)) (hs0:¬(!items.isEmpty&&Builtin.List.listTooLong (items.size+items2.size))=true) (hs1:items.size≤sizeLine) (hs2:items.size+items2.size≤sizeLine+1) :
    Meets (Builtin.«list.extend» ⟨[.ref l,.ref b],[]⟩) (fun _ R s=>s.heap.get? l=some { cls:=.type "list",dict:=none,data:=.seq items n,slots := #[] }∧s.heap.get? b=some { cls:=.type "tuple",dict:=dct,data:=.seq items2 n2,slots:=sl }∧R (.ok (.ret Value.none)) { s with heap:=s.heap.update l (Obj.mapSeq fun x=>x++items2),toks:=s.toks }) :=
  .of_wp fun prog w A R s h=>by
    obtain ⟨hp,g,d,tk,os⟩:=s
    obtain ⟨hl,hb,h⟩:=h
    have f1:=idx_int
    have f2:=F.sub_tuple_tuple
    have f3:=F.sub_list_list
    have f4:=F.sub_tuple_list
    have f5:=F.sub_list_tuple
    have hz':(items++items2).size≤sizeLine+1:=by rw [Array.size_append]; exact hs2
    wp_walk using (wpAny_updateSeq hl rfl (hz:=hs1) (_hz':=hz')),wpAny_loadPart' hl,wpAny_loadPart' hb
    exact ⟨_,rfl,h⟩
end
section
variable {X:Cx}
def rExtendT (K:PySem.W.Frag):V→List V→Hp→VK→Prop:=fun x vs H Q => ∃ l b xs zs,x = .ref l∧vs=[.ref b]∧H l=some (.lst xs)∧SqT K H b zs∧xs.length+zs.length≤sizeLine∧Q .non (upd H l (.lst (xs++zs)))
theorem mt_extendT:MtM X "list.extend" (rExtendT X.K):=by
  intro pins s σ H x vs v us Q I rx rv h
  obtain ⟨l,b,xs,zs,rfl,rfl,hH,hB,hz,q⟩:=h
  cases rx
  obtain ⟨u,rfl,ru⟩:=rv.one
  cases ru
  obtain ⟨z,its,n,r,hl,e⟩:=I.lstM hH
  obtain ⟨its2,r2,⟨o,e2,hc,n2,hd⟩,z2⟩:=I.tuple hB
  have hl2:=r2.length
  obtain ⟨c,dct,dat,sl⟩:=o
  have hc':c = .type "tuple" := hc
  have hd':dat = .seq its2.toArray n2:=hd
  subst hc' hd'
  have hsz:its.toArray.size+its2.toArray.size≤sizeLine:=by rw [List.size_toArray,List.size_toArray]; omega
  have hlong:¬ (!its.toArray.isEmpty&&Builtin.List.listTooLong (its.toArray.size+its2.toArray.size))=true:=by
    rw [notLongL hsz,Bool.and_false]
    exact Bool.false_ne_true
  refine call_meets F.slot_list_extend ⟨_,e,rfl⟩ F.entry_list_extend (F.args_list_extend_2 _ _)
    (extend_tuple l its.toArray n b its2.toArray n2 dct sl hlong (by rw [List.size_toArray]; omega) (by omega)) ⟨e,e2,?_⟩
  refine ⟨.non,_,I.lset (its':=its++its2) hH e (by simp) (r.append r2) ?_,rfl,q⟩
  rw [List.length_append]
  omega
def rMinT (K:PySem.W.Frag):List V→Hp→VK→Prop:=fun vs H Q => ∃ (a:Addr) (ns:List Int),vs=[V.ref a]∧SqT K H a (ns.map V.int)∧0<ns.length∧∀ m,m∈ns→(∀ y,y∈ns→m≤y)→Q (.int m) H
theorem min_rawT {prog:Program} {w:World} {A:Around} {E:Value→Shared→Prop} {s:Shared} {l:Addr} {its:List Value} {ns:List Int} {Q:Value→Shared→Prop} (hh:A.handled=none) (hl:IsTup s.heap l its.toArray) (hi:IntsAre its ns) (hne:0<ns.length)
    (h:∀ h' tk M t',(∀ b o,s.heap.get? b=some o→h'.get? b=some o)→M∈ns→(∀ a,a∈ns→M≤a)→Q (.int M t') { s with heap:=h',toks:=tk }):wpAny (model prog w) A (call (.builtin "min") [.ref l]) Q E s:=by
  obtain ⟨xs,e⟩:=hi.allInts.items
  have hn:numsOf (intItems xs).toList=ns:=by rw [← e]; exact hi.numsOf
  rw [nums_intItems] at hn
  subst hn
  rw [e] at hl
  have hsz:0<xs.size:=by simpa using hne
  have hlt:l<s.heap.objs.size:=hl.lt
  refine call_min_walk ?_
  refine wpAny_pyIter_tuple hl ?_
  refine ⟨_,[s.heap.objs.size,l],[s.heap.objs.size],_,_,_,_,rfl,Walks.tuple (A:=A.in1) hh _ l (Nat.ne_of_lt hlt) (intItems xs),⟨⟨_,Heap.get?_push_size _ rfl,rfl,rfl⟩,hl.push _⟩,?_,by simpa [intItems] using hsz,CmpOf.ints_lt (numAt xs) (fun _ _=>intItems_at),fun v h' tk hP hk => ?_⟩
  · intro b hb
    show b<(s.heap.objs.push _).size
    rw [Array.size_push]
    rcases List.mem_cons.mp hb with rfl | hb
    · exact Nat.lt_succ_self _
    · rcases List.mem_cons.mp hb with rfl | hb
      · exact Nat.lt_succ_of_lt hlt
      · cases hb
  have hv:(intItems xs)[argBest (fun i j=>decide (numAt xs i<numAt xs j)) (xs.size - 1)]? = some v:=by simpa [intItems] using hP
  obtain ⟨t,rfl⟩:=intItems_at hv
  obtain ⟨h1,h2⟩:=argBest_lt (numAt xs) (xs.size - 1)
  refine h h' tk _ t (fun b o e=>hk b o (fun hm => ?_) (Heap.get?_push_of_some _ e)) ?_ fun a ha => ?_
  · rcases List.mem_cons.mp hm with e1 | hm
    · exact absurd (e1▸Heap.lt_size e) (Nat.lt_irrefl _)
    · cases hm
  · rw [numAt_eq]; exact PySem.getD_mem (by rw [List.length_map,Array.length_toList]; omega)
  · obtain ⟨j,hj,rfl⟩:=mem_getD ha
    rw [List.length_map,Array.length_toList] at hj
    rw [← numAt_eq]; exact h2 j (by omega)
theorem cr_minT (hc:X.calm=true):CallR X (.builtin "min") (rMinT X.K):=by
  intro pins s σ H vs us Q I r h
  obtain ⟨a,ns,rfl,hs,hne,q⟩:=h
  obtain ⟨its,rv,hl,_⟩:=I.tuple hs
  rw [Vals.ref1 r]
  exact min_rawT (I.ok.hd hc) hl rv.ints hne fun h' tk m t' hk h1 h2=>⟨.int _,H,I.kept hk,⟨_,rfl⟩,q m h1 h2⟩
end
def Src (K:PySem.W.Frag) (mg:Str→Option Value) (x:Str) (st:Stmt) (ps:List Str):Prop:=∃ f fd,Fun K x x st f fd∧Binds K fd ps []∧mg x=some (.ref f)
def Can (P:Program) (w:World) (K:PySem.W.Frag) (mg:Str→Option Value) (base:Heap) (k:Nat) (x:Str) (ps:List Str) (sp:Sp):Prop :=
  ∃ f fd,FnOk P w K mg base CX0 k f fd ps sp∧Binds K fd ps []∧mg x=some (.ref f)∧PySem.W.keepIn K (.ref f)=true
def MSrc (K:PySem.W.Frag) (C:Addr) (m qual:Str) (st:Stmt) (ps:List Str):Prop:=∃ f fd,Fun K m qual st f fd∧Binds K fd ps []∧Meth K C m f
def CanM (P:Program) (w:World) (K:PySem.W.Frag) (mg:Str→Option Value) (base:Heap) (k:Nat) (C:Addr) (m:Str) (ps:List Str) (sp:Sp):Prop :=
  ∃ f fd,FnOk P w K mg base CX0 k f fd ps sp∧Binds K fd ps []∧Meth K C m f
section
variable {P:Program} {w:World} {K:PySem.W.Frag} {mg:Str→Option Value} {base:Heap} {C:Addr}
theorem Src.can {x:Str} {st:Stmt} {N ps:List Str} {k:Nat} {sp:Sp} (S:Src K mg x st ps) (sc:FnScope N ps (defScope st)) (len:∀ vs H Q E,sp vs H Q E→vs.length=ps.length)
    (hbody:∀ (f:Addr) (cdv:Value) (A:Around) (outer:List Env) (s:Shared) (H:Hp) (vs:List V) (Q:VK) (E:XK),Room k (A.deeper (envOfC x (defScope st) s.heap.objs.size f cdv))→sp vs H Q E →
      ∃ t,PSs (cxOf CX0 P w K mg base N x (defScope st) f cdv A outer s H E).nox (defBody st) t∧t { nx:=fun _ H'=>Q .non H',rt:=Q } (start N vs) H):Can P w K mg base (k+1) x ps sp:=by
  obtain ⟨f,fd,F,b,m⟩:=S
  exact ⟨f,fd,F.ok sc len (hbody f),b,m,F.kp⟩
theorem MSrc.can {m qual:Str} {st:Stmt} {N ps:List Str} {k:Nat} {sp:Sp} (S:MSrc K C m qual st ps) (sc:FnScope N ps (defScope st)) (len:∀ vs H Q E,sp vs H Q E→vs.length=ps.length)
    (hbody:∀ (f:Addr) (cdv:Value) (A:Around) (outer:List Env) (s:Shared) (H:Hp) (vs:List V) (Q:VK) (E:XK),Room k (A.deeper (envOfC qual (defScope st) s.heap.objs.size f cdv))→sp vs H Q E →
      ∃ t,PSs (cxOf CX0 P w K mg base N qual (defScope st) f cdv A outer s H E).nox (defBody st) t∧t { nx:=fun _ H'=>Q .non H',rt:=Q } (start N vs) H):CanM P w K mg base (k+1) C m ps sp:=by
  obtain ⟨f,fd,F,b,m⟩:=S
  exact ⟨f,fd,F.ok sc len (hbody f),b,m⟩
end
section
variable {X:Cx} {k:Nat} {x m:Str} {ps:List Str} {sp:Sp} {e o:Expr} {es:List Expr} {t:TA} {to:TE} {p pos apos:Pos} {C:Addr}
theorem pe_can (F:Can X.prog X.w X.K X.mg X.base k x ps sp) (hr:Room k X.A) (ha:PA X (e::es) t) (hg:Gl X x:=by rfl) (hdb:(x == ("__debug__" : Str))=false:=by decide) (he:starEach (e::es) X.env=(false,eval e X.env)::starEach es X.env:=by rfl) (hpl:(backTo pos (starEach es X.env)).any (·.1)=false:=by rfl) :
    PE X (.Call (.Name x p) (e::es) [] pos) (tCall sp [] E0 t):=by
  obtain ⟨f,fd,F,b,hm,hk⟩:=F
  exact pe_call F hr hg hm hk b .nil pass0 ha hdb he hpl
theorem pe_canM {pl:Sem Bool} (F:CanM X.prog X.w X.K X.mg X.base k C m ps sp) (c:Cls X.K C) (hr:Room k X.A) (ho:PE X o to) (ha:PA X (e::es) t)
    (hst:starEach (e::es) X.env=(false,eval e X.env)::starEach es X.env:=by rfl) (hpl:(backTo pos (starEach es X.env)).any (·.1)=false:=by rfl)
    (ht:eval (.Call (.Attribute o m apos) (e::es) [] pos) X.env=(do
      let ov ← eval o X.env
      standAt apos.atName
      let (f,first) ← holding [ov] (getMethod ov m pl)
      callWith pos f first (backTo pos (starEach (e::es) X.env)) (backToKw pos (keywordEach [] X.env))):=by rfl) :
    PE X (.Call (.Attribute o m apos) (e::es) [] pos) (tMeth C m sp [] E0 to t):=by
  obtain ⟨f,fd,F,b,hm⟩:=F
  exact pe_meth ho c hm F hr b .nil pass0 ha hst hpl ht
theorem pe_canM0 {pl:Sem Bool} (F:CanM X.prog X.w X.K X.mg X.base k C m ps sp) (c:Cls X.K C) (hr:Room k X.A) (ho:PE X o to)
    (ht:eval (.Call (.Attribute o m apos) [] [] pos) X.env=(do
      let ov ← eval o X.env
      standAt apos.atName
      let (f,first) ← holding [ov] (getMethod ov m pl)
      callWith pos f first (backTo pos (starEach [] X.env)) (backToKw pos (keywordEach [] X.env))):=by rfl) :
    PE X (.Call (.Attribute o m apos) [] [] pos) (tMeth C m sp [] E0 to tNil):=by
  obtain ⟨f,fd,F,b,hm⟩:=F
  exact pe_meth0 ho c hm F hr b .nil pass0 ht
end
theorem iteBT {b:Bool} {A B:Prop} (hb:b=true) (h:A):if b=true then A else B:=by rw [if_pos hb]; exact h
theorem iteBF {b:Bool} {A B:Prop} (hb:b=false) (h:B):if b=true then A else B:=by rw [if_neg (by simp [hb])]; exact h
def tupF (f:Frac):List V:=[.int f.num,.int f.den]
structure IsF (K:PySem.W.Frag) (H:Hp) (a:Addr) (f:Frac):Prop where
  at_:SqT K H a (tupF f)
  wf:WF f
theorem Same.tup {K:PySem.W.Frag} {H H':Hp} {a:Addr} {xs:List V} (e:Same H H') (h:SqT K H a xs):SqT K H' a xs:=by
  rcases h with (h | ⟨o,h⟩) | h
  · exact .inl (.inl (e _ _ h))
  · exact .inl (.inr ⟨o,e _ _ h⟩)
  · exact .inr h
theorem Same.new {H:Hp} {a:Addr} {o:HO} (n:H a=none):Same H (upd H a o):=fun b u e=>by rw [upd_ne (ne_of_none e n)]; exact e
theorem IsF.keep {K:PySem.W.Frag} {H H':Hp} {a:Addr} {f:Frac} (h:IsF K H a f) (e:Same H H'):IsF K H' a f:=⟨Same.tup e h.at_,h.wf⟩
theorem IsF.new {K:PySem.W.Frag} {H:Hp} {a:Addr} {f:Frac} (h:WF f):IsF K (upd H a (.tup (tupF f))) a f:=⟨SqT.of upd_same,h⟩
theorem at0 {a b:V}:atI [a,b] 0=some a:=rfl
theorem at1 {a b:V}:atI [a,b] 1=some b:=rfl
def Sm (f:Frac):Prop:=f.num.natAbs<2 ^ 60000000∧f.den<2 ^ 60000000
theorem mulOk {x y:Int} (hx:x.natAbs<2 ^ 60000000) (hy:y.natAbs<2 ^ 60000000):IntMulOk x y:=IntMulOk.of_le (intBits_le_iff.mpr hx) (intBits_le_iff.mpr hy) (by decide)
def Gc (mg:Str→Option Value) (x:Str) (v:V):Prop:=∃ u,mg x=some u∧RelV v u
theorem pe_gc {X:Cx} {x:Str} {v:V} {pos:Pos} (h:Gc X.mg x v) (hg:Gl X x:=by rfl) (hd:(x == ("__debug__" : Str))=false:=by decide):PE X (.Name x pos) (tC v):=by
  obtain ⟨u,h1,h2⟩:=h
  exact pe_glob hg h1 h2 hd
structure Txt (K:PySem.W.Frag) (mg:Str→Option Value):Prop where
  n_abs:mg "abs" = none
  n_enumerate:mg "enumerate" = none
  n_len:mg "len" = none
  n_list:mg "list" = none
  n_min:mg "min" = none
  n_range:mg "range" = none
  n_sorted:mg "sorted" = none
  n_tuple:mg "tuple" = none
  n_zip:mg "zip" = none
  t_ZERO:∃ a,mg "ZERO" = some (.ref a)∧∀ H,SqT K H a [V.int 0,V.int 1]
  t_ONE:∃ a,mg "ONE" = some (.ref a)∧∀ H,SqT K H a [V.int 1,V.int 1]
  t_MINUS_ONE:∃ a,mg "MINUS_ONE" = some (.ref a)∧∀ H,SqT K H a [V.int (-1),V.int 1]
  c_INPUT:Gc mg "INPUT" (.int 0)
  c_CONSTANT:Gc mg "CONSTANT" (.int 1)
  c_SUM:Gc mg "SUM" (.int 2)
  c_DIFFERENCE:Gc mg "DIFFERENCE" (.int 3)
  c_PRODUCT:Gc mg "PRODUCT" (.int 4)
  c_QUOTIENT:Gc mg "QUOTIENT" (.int 5)
  c_NEGATIVE:Gc mg "NEGATIVE" (.int 6)
  t_NUMBERS_BEHIND_KIND:∃ a,mg "NUMBERS_BEHIND_KIND" = some (.ref a)∧∀ H,SqT K H a [V.int 1,V.int 2,V.int 2,V.int 2,V.int 2,V.int 2,V.int 1]
  c_BAD_NUMBER:Gc mg "BAD_NUMBER" (.int (-1))
  c_BAD_FORM:Gc mg "BAD_FORM" (.int (-2))
  c_TOO_MANY_LINES:Gc mg "TOO_MANY_LINES" (.int (-7))
  c_BAD_USE:Gc mg "BAD_USE" (.int (-3))
  c_NO_POINT:Gc mg "NO_POINT" (.int (-4))
  c_FAULTY_RUN:Gc mg "FAULTY_RUN" (.int (-5))
  c_TOO_HEAVY:Gc mg "TOO_HEAVY" (.int (-6))
  c_NO_FAULT:Gc mg "NO_FAULT" (.int 0)
  c_DIVISION_BY_ZERO:Gc mg "DIVISION_BY_ZERO" (.int 1)
  c_VALUE_TOO_HEAVY:Gc mg "VALUE_TOO_HEAVY" (.int 2)
  c_MOST_VALUE_WEIGHT:Gc mg "MOST_VALUE_WEIGHT" (.int 200)
  t_PRICES:∃ a,mg "PRICES" = some (.ref a)∧∀ H,SqT K H a [V.int 0,V.int 0,V.int 2,V.int 2,V.int 4,V.int 4,V.int 1]
  c_MOST_OUTS:Gc mg "MOST_OUTS" (.int 12)
  c_MOST_INPUTS:Gc mg "MOST_INPUTS" (.int 12)
  c_MOST_LINES:Gc mg "MOST_LINES" (.int 80)
  c_MOST_TOLD_WEIGHT:Gc mg "MOST_TOLD_WEIGHT" (.int 800)
  c_CODE:Gc mg "CODE" (.int 0)
  c_POINT:Gc mg "POINT" (.int 1)
  c_VALUE:Gc mg "VALUE" (.int 2)
  c_VALUES:Gc mg "VALUES" (.int 3)
  c_TAPE:Gc mg "TAPE" (.int 4)
  c_GRADIENT:Gc mg "GRADIENT" (.int 5)
  c_PULL:Gc mg "PULL" (.int 6)
  c_SUMS:Gc mg "SUMS" (.int 7)
  c_SWEEP:Gc mg "SWEEP" (.int 8)
  c_COST:Gc mg "COST" (.int 9)
  c_TABLE:Gc mg "TABLE" (.int 10)
  c_ALONG:Gc mg "ALONG" (.int 11)
  c_ELIMINATE:Gc mg "ELIMINATE" (.int 12)
  c_GREEDY:Gc mg "GREEDY" (.int 13)
theorem deep {A:Around} {k:Nat} (hr:Room (k+32) A):A.depth+Builtin.pylongFrames<recursionLimit:=by
  have:=hr.dp
  show A.depth+100<recursionLimit
  omega
def top (i:Nat):Stmt:=PySem.Challenge.pw_tapesweep_s01_answers.main.body.getD i (.Pass ⟨0,0,0,0⟩)
theorem for_enum {K:PySem.W.Frag} {a:Addr} {xs:List V} {g:TG} {tb:TS} {D:Ends} {σ:L2.St} {H:Hp} (Pv:Nat→L2.St→Hp→Prop) (h0:Pv 0 σ H) (hl:∀ i σ H,i≤xs.length→Pv i σ H→SqL K H a xs)
    (hs:∀ i x T σ H,xs[i]? = some x→Pv i σ H→H T=none→g (.ref T) σ (upd H T (.tup [.int (i:Nat),x])) fun σ2 H2=>tb { D with nx:=Pv (i+1),ct:=Pv (i+1),bk:=D.nx } σ2 H2) (hd:∀ σ H,Pv xs.length σ H→D.nx σ H) :
    ∃ W:Nat→Nat→L2.St→Hp→Prop,(∃ m,W 0 m σ H)∧∀ i m σ H,W i m σ H →
      ((Ite K a).stop i H∧D.nx σ H)∨((Ite K a).go i H∧∃ N:L2.St→Hp→Prop,(∀ σ' H',N σ' H'→∃ m',m'<m∧W (i+1) m' σ' H')∧∀ x H',(Ite K a).yld i H x H'→g x σ H' fun σ2 H2=>tb { D with nx:=N,ct:=N,bk:=D.nx } σ2 H2):=by
  refine ⟨fun i m σ H=>m=xs.length - i∧i≤xs.length∧Pv i σ H,⟨xs.length,by simp,Nat.zero_le _,h0⟩,?_⟩
  rintro i m σ H ⟨rfl,hi,p⟩
  have q:=hl i σ H hi p
  by_cases hlt:i<xs.length
  · refine .inr ⟨⟨xs,xs[i],q,by simp [hlt]⟩,Pv (i+1),fun σ' H' p'=>⟨xs.length - (i+1),by omega,rfl,hlt,p'⟩,fun v H' y => ?_⟩
    obtain ⟨T,x,rfl,hT,rfl,hx⟩:=y
    exact hs i x T σ H (hx xs q) p hT
  · have e:i=xs.length:=by omega
    subst e
    exact .inl ⟨⟨xs,q,Nat.le_refl _⟩,hd σ H p⟩
theorem for_zip {K:PySem.W.Frag} {a b:Addr} {xs ys:List V} {g:TG} {tb:TS} {D:Ends} {σ:L2.St} {H:Hp} (he:xs.length=ys.length) (Pv:Nat→L2.St→Hp→Prop) (h0:Pv 0 σ H) (hl:∀ i σ H,i≤xs.length→Pv i σ H→SqL K H a xs∧SqL K H b ys)
    (hs:∀ i x y T σ H,xs[i]? = some x→ys[i]? = some y→Pv i σ H→H T=none→g (.ref T) σ (upd H T (.tup [x,y])) fun σ2 H2=>tb { D with nx:=Pv (i+1),ct:=Pv (i+1),bk:=D.nx } σ2 H2) (hd:∀ σ H,Pv xs.length σ H→D.nx σ H) :
    ∃ W:Nat→Nat→L2.St→Hp→Prop,(∃ m,W 0 m σ H)∧∀ i m σ H,W i m σ H →
      ((Itz K a b).stop i H∧D.nx σ H)∨((Itz K a b).go i H∧∃ N:L2.St→Hp→Prop,(∀ σ' H',N σ' H'→∃ m',m'<m∧W (i+1) m' σ' H')∧∀ x H',(Itz K a b).yld i H x H'→g x σ H' fun σ2 H2=>tb { D with nx:=N,ct:=N,bk:=D.nx } σ2 H2):=by
  refine ⟨fun i m σ H=>m=xs.length - i∧i≤xs.length∧Pv i σ H,⟨xs.length,by simp,Nat.zero_le _,h0⟩,?_⟩
  rintro i m σ H ⟨rfl,hi,p⟩
  obtain ⟨q1,q2⟩:=hl i σ H hi p
  by_cases hlt:i<xs.length
  · have hlt2:i<ys.length:=by omega
    refine .inr ⟨⟨xs,ys,xs[i],ys[i],q1,q2,by simp [hlt],by simp [hlt2]⟩,Pv (i+1),fun σ' H' p'=>⟨xs.length - (i+1),by omega,rfl,hlt,p'⟩,fun v H' y => ?_⟩
    obtain ⟨T,x,y,rfl,hT,rfl,hx,hy⟩:=y
    exact hs i x y T σ H (hx xs q1) (hy ys q2) p hT
  · have e:i=xs.length:=by omega
    subst e
    exact .inl ⟨⟨xs,ys,q1,q2,.inl (Nat.le_refl _)⟩,hd σ H p⟩
theorem lc_zip {K:PySem.W.Frag} {a b:Addr} {xs ys:List V} {g:TG} {tt:TT} {te:TE} {vs:List Nat} {σ:L2.St} {H1:Hp} {D:Addr} {Qd:Hp→Prop} (he:xs.length=ys.length) (Pv:Nat→Hp→Prop) (h0:Pv 0 (upd H1 D (.lst []))) (hl:∀ i H,i≤xs.length→Pv i H→SqL K H a xs∧SqL K H b ys)
    (hs:∀ i x y T H,xs[i]? = some x→ys[i]? = some y→Pv i H→H T=none→g (.ref T) (wipe σ vs) (upd H T (.tup [x,y])) fun σ2 H2=>wipe σ2 vs=wipe σ vs∧tt σ2 H2 fun b H3=>
      if b=true then te σ2 H3 fun y H4 => ∃ acc,H4 D=some (.lst acc)∧acc.length<sizeLine∧Pv (i+1) (upd H4 D (.lst (acc++[y]))) else Pv (i+1) H3) (hd:∀ H,Pv xs.length H→Qd H) :
    ∃ W:Nat→Nat→Hp→Prop,(∃ m,W 0 m (upd H1 D (.lst [])))∧∀ i m H,W i m H →
      ((Itz K a b).stop i H∧Qd H)∨((Itz K a b).go i H∧∃ Nx:Hp→Prop,(∀ H',Nx H'→∃ m',m'<m∧W (i+1) m' H')∧∀ x H',(Itz K a b).yld i H x H'→g x (wipe σ vs) H' fun σ2 H2=>wipe σ2 vs=wipe σ vs∧tt σ2 H2 fun b H3=>
        if b=true then te σ2 H3 fun y H4 => ∃ acc,H4 D=some (.lst acc)∧acc.length<sizeLine∧Nx (upd H4 D (.lst (acc++[y]))) else Nx H3):=by
  refine ⟨fun i m H=>m=xs.length - i∧i≤xs.length∧Pv i H,⟨xs.length,by simp,Nat.zero_le _,h0⟩,?_⟩
  rintro i m H ⟨rfl,hi,p⟩
  obtain ⟨q1,q2⟩:=hl i H hi p
  by_cases hlt:i<xs.length
  · have hlt2:i<ys.length:=by omega
    refine .inr ⟨⟨xs,ys,xs[i],ys[i],q1,q2,by simp [hlt],by simp [hlt2]⟩,Pv (i+1),fun H' p'=>⟨xs.length - (i+1),by omega,rfl,hlt,p'⟩,fun v H' y => ?_⟩
    obtain ⟨T,x,y,rfl,hT,rfl,hx,hy⟩:=y
    exact hs i x y T H (hx xs q1) (hy ys q2) p hT
  · have e:i=xs.length:=by omega
    subst e
    exact .inl ⟨⟨xs,ys,q1,q2,.inl (Nat.le_refl _)⟩,hd H p⟩
theorem rg_step {c n:Nat} (hc:0<c) (hc2:c<1000) (hn:n≤1000000):RgC 0 ((c*n:Nat):Int) (c:Int) n:=by
  have hb:c*n≤1000*1000000:=Nat.mul_le_mul (by omega) hn
  have hs:Builtin.Range.rangeSize 0 ((c*n:Nat):Int) (c:Int)=n:=by
    rw [PyProof.Rows.rangeSize_pos (by omega) (by omega)]
    have e:((c*n:Nat):Int)+c - 1=((c:Int) - 1)+n*c:=by push_cast; rw [Int.mul_comm (c:Int)]; omega
    rw [e,Int.add_mul_ediv_right _ _ (by omega),Int.ediv_eq_zero_of_lt (by omega) (by omega)]
    omega
  refine ⟨by omega,by omega,?_,hs⟩
  unfold Builtin.Range.small
  rw [hs]
  have hnc:(n:Int)*(c:Int)=((c*n:Nat):Int):=by push_cast; exact Int.mul_comm _ _
  simp only [Builtin.Range.rangeFitsLong,Bool.and_eq_true,Bool.or_eq_true,decide_eq_true_eq,beq_iff_eq,show (c:Int) > 0 by omega,if_true]
  omega
end Ts
end
section
set_option maxRecDepth 100000
set_option maxHeartbeats 2000000
namespace Ts
open PySem PySem.Spec PyProof.Rows L2
open Vagraa (Frac)
section
variable {P:Program} {w:World} {K:PySem.W.Frag} {mg:Str→Option Value} {base:Heap}
abbrev st_common_divisor:Stmt:=top 4
theorem sc_common_divisor:FnScope ["first","second","rest"] ["first","second"] (defScope st_common_divisor):=⟨rfl,rfl,rfl,by decide +kernel,rfl,by decide +kernel,by decide +kernel⟩
def spGcd:Sp:=fun vs H Q _ => ∃ a b:Int,vs=[.int a,.int b]∧0<b∧Q (.int ((Int.gcd a b:Nat):Int)) H
theorem gcd_step (x y:Int):Int.gcd y (x % y)=Int.gcd x y:=by
  have h:x % y=x + -(x / y)*y:=by
    have:=Int.mul_ediv_add_emod x y
    rw [Int.neg_mul,Int.mul_comm (x / y)]
    omega
  rw [h,Int.gcd_comm,Int.gcd_add_mul_right_left]
theorem can_common_divisor (S:Src K mg "common_divisor" st_common_divisor ["first","second"]):Can P w K mg base 41 "common_divisor" ["first","second"] spGcd:=by
  refine S.can sc_common_divisor (fun vs H Q E h => ?_) (fun f cdv A outer s H vs Q E hr h => ?_)
  · obtain ⟨a,b,rfl,_⟩:=h
    rfl
  · obtain ⟨a,b,rfl,hb,q⟩:=h
    refine ⟨_,(pss_cons (ps_while PassesOwn.never (pt_cmpR op_ne (pv 1) pe_int (nomark _)) (pss_cons (ps_set (i:=2) sc_common_divisor.nd rfl (Or.inl rfl) (pe_op op_mod (pv 0) (pv 1)))
      (pss_cons (ps_set (i:=0) sc_common_divisor.nd rfl (Or.inl rfl) (pv 1))
      (pss_one (ps_set (i:=1) sc_common_divisor.nd rfl (Or.inl rfl) (pv 2))))))
      (pss_one (ps_ret (pv 0)))),?_⟩
    refine while_by (fun σ H' => ∃ (x y:Int) (z:Option V),σ=[some (.int x),some (.int y),z]∧0≤y∧(y=0→0<x)∧Int.gcd x y=Int.gcd a b∧H'=H)
      (fun σ _=>match σ with | _::some (.int y)::_=>y.toNat | _=>0) ⟨a,b,none,rfl,by omega,by omega,rfl,rfl⟩ ?_ (fun σ H Q Q' hQ ⟨v,e1,e2,k,e3,q⟩=>⟨v,e1,e2,k,e3,hQ _ _ q⟩)
    rintro σ H' ⟨x,y,z,rfl,h0,h1,hg,rfl⟩
    refine ⟨_,rfl,rfl,_,rfl,?_⟩
    by_cases hy:y=0
    · subst hy
      refine iteBF (by simp) ?_
      refine ⟨_,rfl,?_⟩
      have e:Int.gcd a b=x.natAbs:=by rw [← hg]; simp
      have hx:=h1 rfl
      have e2:((Int.gcd a b:Nat):Int)=x:=by rw [e]; omega
      rw [e2] at q
      exact q
    · refine iteBT (by simp [hy]) ?_
      have m1:=Int.emod_nonneg x hy
      have m2:=Int.emod_lt_of_pos x (show 0<y by omega)
      refine ⟨_,rfl,_,rfl,_,_,rfl,rfl,(by show 0<y; omega),_,rfl,_,rfl,⟨_,_,_,rfl,m1,fun _=>by omega,(by rw [gcd_step]; exact hg),rfl⟩,?_⟩
      show (x % y).toNat<y.toNat
      omega
abbrev st_lowest:Stmt:=top 5
theorem sc_lowest:FnScope ["numerator","denominator","divisor"] ["numerator","denominator"] (defScope st_lowest):=⟨rfl,rfl,rfl,by decide +kernel,rfl,by decide +kernel,by decide +kernel⟩
def spLowest:Sp:=fun vs H Q _ => ∃ n d:Int,vs=[.int n,.int d]∧0<d∧∀ p,H p=none→Q (.ref p) (upd H p (.tup (tupF (Vagraa.frac n d.toNat))))
theorem gcd_pos' (n:Int) {d:Int} (h:0<d):(0:Int)<((Int.gcd n d:Nat):Int):=by
  have:0<Int.gcd n d:=Nat.gcd_pos_of_pos_right _ (by omega)
  omega
theorem can_lowest (hP:P.given.tree=none) (S:Src K mg "lowest" st_lowest ["numerator","denominator"]) (c_common_divisor:Can P w K mg base 41 "common_divisor" ["first","second"] spGcd) :
    Can P w K mg base 43 "lowest" ["numerator","denominator"] spLowest:=by
  refine S.can sc_lowest (fun vs H Q E h => ?_) (fun f cdv A outer s H vs Q E hr h => ?_)
  · obtain ⟨a,b,rfl,_⟩:=h
    rfl
  · obtain ⟨n,d,rfl,hd,q⟩:=h
    refine ⟨_,(pss_cons (ps_set (i:=2) sc_lowest.nd rfl (Or.inl rfl) (pe_can c_common_divisor (hr.mono (by decide)) (pa_cons (pv 0) (pa_cons (pv 1) pa_nil))))
      (pss_one (ps_ret (pe_tup (pa_cons (pe_op (op_fdivP (deep hr) hP rfl rfl rfl) (pv 0) (pv 2)) (pa_cons (pe_op (op_fdivP (deep hr) hP rfl rfl rfl) (pv 1) (pv 2)) pa_nil)))))),?_⟩
    have hg:=gcd_pos' n hd
    have e:tupF (Vagraa.frac n d.toNat)=[V.int (n / ((Int.gcd n d:Nat):Int)),V.int (d / ((Int.gcd n d:Nat):Int))]:=by
      obtain ⟨e1,e2⟩:=lowest_ok n hd
      rw [e1,e2]
      rfl
    rw [e] at q
    refine ⟨_,rfl,_,rfl,n,d,rfl,hd,?_⟩
    refine ⟨_,rfl,_,rfl,_,_,rfl,rfl,hg,_,rfl,_,rfl,_,_,rfl,rfl,hg,(by show 2≤sizeLine; decide),fun p hp=>q p hp⟩
abbrev st_negative:Stmt:=top 6
theorem sc_negative:FnScope ["fraction"] ["fraction"] (defScope st_negative):=⟨rfl,rfl,rfl,by decide +kernel,rfl,by decide +kernel,by decide +kernel⟩
def spNegative (K:PySem.W.Frag):Sp:=fun vs H Q _ => ∃ a f,vs=[.ref a]∧IsF K H a f∧∀ p,H p=none→Q (.ref p) (upd H p (.tup (tupF (Vagraa.neg f))))
theorem can_negative (S:Src K mg "negative" st_negative ["fraction"]):Can P w K mg base 43 "negative" ["fraction"] (spNegative K):=by
  refine S.can sc_negative (fun vs H Q E h => ?_) (fun f cdv A outer s H vs Q E hr h => ?_)
  · obtain ⟨a,f,rfl,_⟩:=h
    rfl
  · obtain ⟨a,f,rfl,hf,q⟩:=h
    refine ⟨_,(pss_one (ps_ret (pe_tup (pa_cons (pe_un un_neg (pe_ix ix_tup (pv 0) pe_int (fun _ _=>rfl))) (pa_cons (pe_ix ix_tup (pv 0) pe_int (fun _ _=>rfl)) pa_nil))))),?_⟩
    exact ⟨_,rfl,_,_,_,_,rfl,rfl,hf.at_,at0,_,rfl,_,rfl,_,_,_,_,rfl,rfl,hf.at_,at1,(by show 2≤sizeLine; decide),fun p hp=>q p hp⟩
abbrev st_inverse:Stmt:=top 7
theorem sc_inverse:FnScope ["fraction"] ["fraction"] (defScope st_inverse):=⟨rfl,rfl,rfl,by decide +kernel,rfl,by decide +kernel,by decide +kernel⟩
def spInverse (K:PySem.W.Frag):Sp:=fun vs H Q _ => ∃ a f,vs=[.ref a]∧IsF K H a f∧f.num≠0∧∀ p,H p=none→Q (.ref p) (upd H p (.tup (tupF (Vagraa.inv f))))
theorem can_inverse (S:Src K mg "inverse" st_inverse ["fraction"]):Can P w K mg base 43 "inverse" ["fraction"] (spInverse K):=by
  refine S.can sc_inverse (fun vs H Q E h => ?_) (fun f cdv A outer s H vs Q E hr h => ?_)
  · obtain ⟨a,f,rfl,_⟩:=h
    rfl
  · obtain ⟨a,f,rfl,hf,h0,q⟩:=h
    refine ⟨_,(pss_cons (ps_if (pt_cmpR op_lt (pe_ix ix_tup (pv 0) pe_int (fun _ _=>rfl)) pe_int (nomark _)) (pss_one (ps_ret (pe_tup (pa_cons (pe_un un_neg (pe_ix ix_tup (pv 0) pe_int (fun _ _=>rfl))) (pa_cons (pe_un un_neg (pe_ix ix_tup (pv 0) pe_int (fun _ _=>rfl))) pa_nil))))) pss_nil)
      (pss_one (ps_ret (pe_tup (pa_cons (pe_ix ix_tup (pv 0) pe_int (fun _ _=>rfl)) (pa_cons (pe_ix ix_tup (pv 0) pe_int (fun _ _=>rfl)) pa_nil)))))),?_⟩
    refine ⟨_,rfl,_,_,_,_,rfl,rfl,hf.at_,at0,_,_,rfl,rfl,_,rfl,?_⟩
    by_cases hn:f.num<0
    · refine iteBT (by simpa using hn) ?_
      refine ⟨_,rfl,_,_,_,_,rfl,rfl,hf.at_,at1,_,rfl,_,rfl,_,_,_,_,rfl,rfl,hf.at_,at0,_,rfl,(by show 2≤sizeLine; decide),fun p hp => ?_⟩
      have e:tupF (Vagraa.inv f)=[V.int (-(f.den:Int)),V.int (-f.num)]:=by
        unfold Vagraa.inv tupF
        rw [if_pos hn]
        show [V.int (-(f.den:Int)),V.int ((f.num.natAbs:Nat):Int)]=_
        rw [show ((f.num.natAbs:Nat):Int) = -f.num by omega]
      rw [e] at q
      exact q p hp
    · refine iteBF (by simpa using hn) ?_
      refine ⟨_,rfl,_,_,_,_,rfl,rfl,hf.at_,at1,_,rfl,_,_,_,_,rfl,rfl,hf.at_,at0,(by show 2≤sizeLine; decide),fun p hp => ?_⟩
      have e:tupF (Vagraa.inv f)=[V.int (f.den:Int),V.int f.num]:=by
        unfold Vagraa.inv tupF
        rw [if_neg hn,if_neg h0]
        show [V.int (f.den:Int),V.int ((f.num.natAbs:Nat):Int)]=_
        rw [show ((f.num.natAbs:Nat):Int)=f.num by omega]
      rw [e] at q
      exact q p hp
abbrev st_plus:Stmt:=top 8
theorem sc_plus:FnScope ["first","second","shared","first_part","numerator","divisor"] ["first","second"] (defScope st_plus):=⟨rfl,rfl,rfl,by decide +kernel,rfl,by decide +kernel,by decide +kernel⟩
def spPlus (K:PySem.W.Frag):Sp:=fun vs H Q _ => ∃ a b f g,vs=[.ref a,.ref b]∧IsF K H a f∧IsF K H b g∧Sm f∧Sm g∧∀ p,H p=none→Q (.ref p) (upd H p (.tup (tupF (Vagraa.add f g))))
theorem ediv_le {a b:Int} (ha:0≤a) (hb:0<b):(a / b).natAbs≤a.natAbs:=by
  have h1:=Int.ediv_nonneg ha (Int.le_of_lt hb)
  have h2:=Int.ediv_le_self b ha
  omega
theorem can_plus (hP:P.given.tree=none) (S:Src K mg "plus" st_plus ["first","second"]) (c_common_divisor:Can P w K mg base 41 "common_divisor" ["first","second"] spGcd) :
    Can P w K mg base 43 "plus" ["first","second"] (spPlus K):=by
  refine S.can sc_plus (fun vs H Q E h => ?_) (fun f cdv A outer s H vs Q E hr h => ?_)
  · obtain ⟨a,b,f,g,rfl,_⟩:=h
    rfl
  · obtain ⟨a,b,f,g,rfl,hf,hg,sf,sg,q⟩:=h
    refine ⟨_,(pss_cons (ps_set (i:=2) sc_plus.nd rfl (Or.inl rfl) (pe_can c_common_divisor (hr.mono (by decide)) (pa_cons (pe_ix ix_tup (pv 0) pe_int (fun _ _=>rfl)) (pa_cons (pe_ix ix_tup (pv 1) pe_int (fun _ _=>rfl)) pa_nil))))
      (pss_cons (ps_set (i:=3) sc_plus.nd rfl (Or.inl rfl) (pe_op (op_fdivP (deep hr) hP rfl rfl rfl) (pe_ix ix_tup (pv 0) pe_int (fun _ _=>rfl)) (pv 2)))
      (pss_cons (ps_set (i:=4) sc_plus.nd rfl (Or.inl rfl) (pe_op op_add (pe_op op_mulB (pe_ix ix_tup (pv 0) pe_int (fun _ _=>rfl)) (pe_op (op_fdivP (deep hr) hP rfl rfl rfl) (pe_ix ix_tup (pv 1) pe_int (fun _ _=>rfl)) (pv 2))) (pe_op op_mulB (pe_ix ix_tup (pv 1) pe_int (fun _ _=>rfl)) (pv 3))))
      (pss_cons (ps_set (i:=5) sc_plus.nd rfl (Or.inl rfl) (pe_can c_common_divisor (hr.mono (by decide)) (pa_cons (pv 4) (pa_cons (pv 2) pa_nil))))
      (pss_one (ps_ret (pe_tup (pa_cons (pe_op (op_fdivP (deep hr) hP rfl rfl rfl) (pv 4) (pv 5)) (pa_cons (pe_op op_mulB (pv 3) (pe_op (op_fdivP (deep hr) hP rfl rfl rfl) (pe_ix ix_tup (pv 1) pe_int (fun _ _=>rfl)) (pv 5))) pa_nil))))))))),?_⟩
    have d1:(0:Int)<f.den:=by have:=hf.wf.pos; omega
    have d2:(0:Int)<g.den:=by have:=hg.wf.pos; omega
    obtain ⟨e1,e2,s0,g0⟩:=plus_ok hf.wf hg.wf rfl rfl rfl rfl
    have l1:((f.den:Int) / ((Int.gcd f.den g.den:Nat):Int)).natAbs<2 ^ 60000000:=Nat.lt_of_le_of_lt (ediv_le (Int.le_of_lt d1) s0) (by rw [Int.natAbs_natCast]; exact sf.2)
    have l2:((g.den:Int) / ((Int.gcd f.den g.den:Nat):Int)).natAbs<2 ^ 60000000:=Nat.lt_of_le_of_lt (ediv_le (Int.le_of_lt d2) s0) (by rw [Int.natAbs_natCast]; exact sg.2)
    have l3:=Nat.lt_of_le_of_lt (ediv_le (Int.le_of_lt d2) g0) (by rw [Int.natAbs_natCast]; exact sg.2)
    refine ⟨_,rfl,_,_,_,_,rfl,rfl,hf.at_,at1,_,rfl,_,_,_,_,rfl,rfl,hg.at_,at1,_,_,rfl,d2,?_⟩
    refine ⟨_,rfl,_,_,_,_,rfl,rfl,hf.at_,at1,_,rfl,_,_,rfl,rfl,s0,?_⟩
    refine ⟨_,rfl,_,_,_,_,rfl,rfl,hf.at_,at0,_,rfl,_,_,_,_,rfl,rfl,hg.at_,at1,_,rfl,_,_,rfl,rfl,s0,_,_,rfl,rfl,mulOk sf.1 l2,?_⟩
    refine ⟨_,rfl,_,_,_,_,rfl,rfl,hg.at_,at0,_,rfl,_,_,rfl,rfl,mulOk sg.1 l1,_,_,rfl,rfl,?_⟩
    refine ⟨_,rfl,_,rfl,_,_,rfl,s0,?_⟩
    refine ⟨_,rfl,_,rfl,_,_,rfl,rfl,g0,_,rfl,_,rfl,_,_,_,_,rfl,rfl,hg.at_,at1,_,rfl,_,_,rfl,rfl,g0,_,_,rfl,rfl,mulOk l1 l3,(by show 2≤sizeLine; decide),fun p hp => ?_⟩
    have e:tupF (Vagraa.add f g)=[V.int _,V.int _]:=congr (congrArg (fun x y=>[V.int x,V.int y]) e1.symm) e2.symm
    rw [e] at q
    exact q p hp
end
end Ts
end
section
set_option maxRecDepth 100000
set_option maxHeartbeats 2000000
namespace Ts
open PySem PySem.Spec PyProof.Rows L2
open Vagraa (Frac)
theorem negS {f:Frac} (h:Sm f):Sm (Vagraa.neg f):=⟨by show (-f.num).natAbs<_; rw [Int.natAbs_neg]; exact h.1,h.2⟩
theorem invS {f:Frac} (h:Sm f):Sm (Vagraa.inv f):=by
  unfold Vagraa.inv
  split
  · exact ⟨by show (-(f.den:Int)).natAbs<_; rw [Int.natAbs_neg]; exact h.2,h.1⟩
  · split
    · exact ⟨by show (0:Int).natAbs<_; exact Nat.lt_of_le_of_lt (Nat.zero_le _) h.2,by show 1<_; exact Nat.one_lt_two_pow (by decide)⟩
    · exact ⟨h.2,h.1⟩
section
variable {P:Program} {w:World} {K:PySem.W.Frag} {mg:Str→Option Value} {base:Heap}
abbrev st_minus:Stmt:=top 9
theorem sc_minus:FnScope ["first","second"] ["first","second"] (defScope st_minus):=⟨rfl,rfl,rfl,by decide +kernel,rfl,by decide +kernel,by decide +kernel⟩
def spMinus (K:PySem.W.Frag):Sp:=fun vs H Q _ => ∃ a b f g,vs=[.ref a,.ref b]∧IsF K H a f∧IsF K H b g∧Sm f∧Sm g∧∀ H' p,Same H H'→IsF K H' p (Vagraa.sub f g)→Q (.ref p) H'
theorem can_minus (S:Src K mg "minus" st_minus ["first","second"]) (c_plus:Can P w K mg base 43 "plus" ["first","second"] (spPlus K)) (c_negative:Can P w K mg base 43 "negative" ["fraction"] (spNegative K)) :
    Can P w K mg base 45 "minus" ["first","second"] (spMinus K):=by
  refine S.can sc_minus (fun vs H Q E h => ?_) (fun f cdv A outer s H vs Q E hr h => ?_)
  · obtain ⟨a,b,f,g,rfl,_⟩:=h
    rfl
  · obtain ⟨a,b,f,g,rfl,hf,hg,sf,sg,q⟩:=h
    refine ⟨_,(pss_one (ps_ret (pe_can c_plus (hr.mono (by decide)) (pa_cons (pv 0) (pa_cons (pe_can c_negative (hr.mono (by decide)) (pa_cons (pv 1) pa_nil)) pa_nil))))),?_⟩
    refine ⟨_,rfl,_,rfl,_,_,rfl,hg,fun p hp => ?_⟩
    have s1:=Same.new (o:=.tup (tupF (Vagraa.neg g))) hp
    refine ⟨_,_,_,_,rfl,hf.keep s1,IsF.new (neg_wf hg.wf),sf,negS sg,fun p2 hp2 => ?_⟩
    exact q _ _ (s1.trans (Same.new hp2)) (IsF.new (sub_wf hf.wf hg.wf))
abbrev st_times:Stmt:=top 10
theorem sc_times:FnScope ["first","second","falling","rising","numerator"] ["first","second"] (defScope st_times):=⟨rfl,rfl,rfl,by decide +kernel,rfl,by decide +kernel,by decide +kernel⟩
def spTimes (K:PySem.W.Frag):Sp:=fun vs H Q _ => ∃ a b f g,vs=[.ref a,.ref b]∧IsF K H a f∧IsF K H b g∧Sm f∧Sm g∧∀ p,H p=none→Q (.ref p) (upd H p (.tup (tupF (Vagraa.mul f g))))
theorem ediv_le' (a:Int) {b:Int} (hb:0<b):(a / b).natAbs≤a.natAbs:=by
  have h:=natAbs_fdiv_le a b
  rw [Int.fdiv_eq_ediv_of_nonneg a (by omega)] at h
  exact h
theorem can_times (hP:P.given.tree=none) (S:Src K mg "times" st_times ["first","second"]) (c_common_divisor:Can P w K mg base 41 "common_divisor" ["first","second"] spGcd) :
    Can P w K mg base 43 "times" ["first","second"] (spTimes K):=by
  refine S.can sc_times (fun vs H Q E h => ?_) (fun f cdv A outer s H vs Q E hr h => ?_)
  · obtain ⟨a,b,f,g,rfl,_⟩:=h
    rfl
  · obtain ⟨a,b,f,g,rfl,hf,hg,sf,sg,q⟩:=h
    refine ⟨_,(pss_cons (ps_set (i:=2) sc_times.nd rfl (Or.inl rfl) (pe_can c_common_divisor (hr.mono (by decide)) (pa_cons (pe_ix ix_tup (pv 0) pe_int (fun _ _=>rfl)) (pa_cons (pe_ix ix_tup (pv 1) pe_int (fun _ _=>rfl)) pa_nil))))
      (pss_cons (ps_set (i:=3) sc_times.nd rfl (Or.inl rfl) (pe_can c_common_divisor (hr.mono (by decide)) (pa_cons (pe_ix ix_tup (pv 1) pe_int (fun _ _=>rfl)) (pa_cons (pe_ix ix_tup (pv 0) pe_int (fun _ _=>rfl)) pa_nil))))
      (pss_cons (ps_set (i:=4) sc_times.nd rfl (Or.inl rfl) (pe_op op_mulB (pe_op (op_fdivP (deep hr) hP rfl rfl rfl) (pe_ix ix_tup (pv 0) pe_int (fun _ _=>rfl)) (pv 2)) (pe_op (op_fdivP (deep hr) hP rfl rfl rfl) (pe_ix ix_tup (pv 1) pe_int (fun _ _=>rfl)) (pv 3))))
      (pss_one (ps_ret (pe_tup (pa_cons (pv 4) (pa_cons (pe_op op_mulB (pe_op (op_fdivP (deep hr) hP rfl rfl rfl) (pe_ix ix_tup (pv 0) pe_int (fun _ _=>rfl)) (pv 3)) (pe_op (op_fdivP (deep hr) hP rfl rfl rfl) (pe_ix ix_tup (pv 1) pe_int (fun _ _=>rfl)) (pv 2))) pa_nil)))))))),?_⟩
    have d1:(0:Int)<f.den:=by have:=hf.wf.pos; omega
    have d2:(0:Int)<g.den:=by have:=hg.wf.pos; omega
    obtain ⟨e1,e2,f0,r0⟩:=times_ok hf.wf hg.wf rfl rfl
    have l1:=Nat.lt_of_le_of_lt (ediv_le' f.num f0) sf.1
    have l2:=Nat.lt_of_le_of_lt (ediv_le' g.num r0) sg.1
    have l3:=Nat.lt_of_le_of_lt (ediv_le' (f.den:Int) r0) (by rw [Int.natAbs_natCast]; exact sf.2)
    have l4:=Nat.lt_of_le_of_lt (ediv_le' (g.den:Int) f0) (by rw [Int.natAbs_natCast]; exact sg.2)
    refine ⟨_,rfl,_,_,_,_,rfl,rfl,hf.at_,at0,_,rfl,_,_,_,_,rfl,rfl,hg.at_,at1,_,_,rfl,d2,?_⟩
    refine ⟨_,rfl,_,_,_,_,rfl,rfl,hg.at_,at0,_,rfl,_,_,_,_,rfl,rfl,hf.at_,at1,_,_,rfl,d1,?_⟩
    refine ⟨_,rfl,_,_,_,_,rfl,rfl,hf.at_,at0,_,rfl,_,_,rfl,rfl,f0,_,rfl,_,_,_,_,rfl,rfl,hg.at_,at0,_,rfl,_,_,rfl,rfl,r0,_,_,rfl,rfl,mulOk l1 l2,?_⟩
    refine ⟨_,rfl,_,rfl,_,_,_,_,rfl,rfl,hf.at_,at1,_,rfl,_,_,rfl,rfl,r0,_,rfl,_,_,_,_,rfl,rfl,hg.at_,at1,_,rfl,_,_,rfl,rfl,f0,_,_,rfl,rfl,mulOk l3 l4,(by show 2≤sizeLine; decide),fun p hp => ?_⟩
    have e:tupF (Vagraa.mul f g)=[V.int _,V.int _]:=congr (congrArg (fun x y=>[V.int x,V.int y]) e1.symm) e2.symm
    rw [e] at q
    exact q p hp
abbrev st_over:Stmt:=top 11
theorem sc_over:FnScope ["first","second"] ["first","second"] (defScope st_over):=⟨rfl,rfl,rfl,by decide +kernel,rfl,by decide +kernel,by decide +kernel⟩
def spOver (K:PySem.W.Frag):Sp:=fun vs H Q _ => ∃ a b f g,vs=[.ref a,.ref b]∧IsF K H a f∧IsF K H b g∧g.num≠0∧Sm f∧Sm g∧∀ H' p,Same H H'→IsF K H' p (Vagraa.div f g)→Q (.ref p) H'
theorem can_over (S:Src K mg "over" st_over ["first","second"]) (c_times:Can P w K mg base 43 "times" ["first","second"] (spTimes K)) (c_inverse:Can P w K mg base 43 "inverse" ["fraction"] (spInverse K)) :
    Can P w K mg base 45 "over" ["first","second"] (spOver K):=by
  refine S.can sc_over (fun vs H Q E h => ?_) (fun f cdv A outer s H vs Q E hr h => ?_)
  · obtain ⟨a,b,f,g,rfl,_⟩:=h
    rfl
  · obtain ⟨a,b,f,g,rfl,hf,hg,h0,sf,sg,q⟩:=h
    refine ⟨_,(pss_one (ps_ret (pe_can c_times (hr.mono (by decide)) (pa_cons (pv 0) (pa_cons (pe_can c_inverse (hr.mono (by decide)) (pa_cons (pv 1) pa_nil)) pa_nil))))),?_⟩
    refine ⟨_,rfl,_,rfl,_,_,rfl,hg,h0,fun p hp => ?_⟩
    have s1:=Same.new (o:=.tup (tupF (Vagraa.inv g))) hp
    refine ⟨_,_,_,_,rfl,hf.keep s1,IsF.new (inv_wf hg.wf),sf,invS sg,fun p2 hp2 => ?_⟩
    exact q _ _ (s1.trans (Same.new hp2)) (IsF.new (div_wf hf.wf hg.wf))
abbrev st_weight:Stmt:=top 12
theorem sc_weight:FnScope ["fraction"] ["fraction"] (defScope st_weight):=⟨rfl,rfl,rfl,by decide +kernel,rfl,by decide +kernel,by decide +kernel⟩
def spWeight (K:PySem.W.Frag):Sp:=fun vs H Q _ => ∃ a f,vs=[.ref a]∧IsF K H a f∧Q (.int ((Vagraa.weight f:Nat):Int)) H
theorem bits_abs (i:Int):Builtin.Int.intBits (if i<0 then -i else i)=Vagraa.bits i.natAbs:=by
  unfold Builtin.Int.intBits Vagraa.bits
  by_cases h:i<0
  · have hb:(-i == 0)=false:=by simp; omega
    have hn:i.natAbs≠0:=by omega
    simp only [if_pos h,hb,Bool.false_eq_true,if_false,if_neg hn,Int.natAbs_neg]
  · simp only [if_neg h]
    by_cases h0:i=0
    · subst h0; rfl
    · have hb:(i == 0)=false:=by simp [h0]
      have hn:i.natAbs≠0:=by omega
      simp only [hb,Bool.false_eq_true,if_false,if_neg hn]
theorem bits_nat (n:Nat):Builtin.Int.intBits (n:Int)=Vagraa.bits n:=by
  have h:=bits_abs (n:Int)
  rw [if_neg (by omega),Int.natAbs_natCast] at h
  exact h
theorem can_weight (T:Txt K mg) (S:Src K mg "weight" st_weight ["fraction"]):Can P w K mg base 43 "weight" ["fraction"] (spWeight K):=by
  refine S.can sc_weight (fun vs H Q E h => ?_) (fun f cdv A outer s H vs Q E hr h => ?_)
  · obtain ⟨a,f,rfl,_⟩:=h
    rfl
  · obtain ⟨a,f,rfl,hf,q⟩:=h
    refine ⟨_,(pss_one (ps_ret (pe_op op_add (pe_bm0 PySem.F.plainAttrs_int PyProof.Rows.slot_int_bit_length PyProof.Rows.type_int_bit_length mt_bits (pe_callB call_abs rfl T.n_abs boot_abs (pa_cons (pe_ix ix_tup (pv 0) pe_int (fun _ _=>rfl)) pa_nil))) (pe_bm0 PySem.F.plainAttrs_int PyProof.Rows.slot_int_bit_length PyProof.Rows.type_int_bit_length mt_bits (pe_ix ix_tup (pv 0) pe_int (fun _ _=>rfl)))))),?_⟩
    refine ⟨_,rfl,_,_,_,_,rfl,rfl,hf.at_,at0,_,rfl,rfl,_,rfl,rfl,_,rfl,_,_,_,_,rfl,rfl,hf.at_,at1,rfl,_,rfl,rfl,_,_,rfl,rfl,?_⟩
    have e:((Vagraa.weight f:Nat):Int)=((Builtin.Int.intBits (if f.num<0 then -f.num else f.num):Nat):Int)+((Builtin.Int.intBits (f.den:Int):Nat):Int):=by
      rw [bits_abs,bits_nat]
      unfold Vagraa.weight
      omega
    rw [e] at q
    exact q
end
end Ts
end
section
set_option maxRecDepth 100000
set_option maxHeartbeats 2000000
namespace Ts
open PySem PySem.Spec PyProof.Rows L2
open Vagraa (Frac)
open VagraLine (Line)
section
variable {α β:Type} {F:α→β→Prop}
theorem pget:∀ {xs:List α} {ys:List β} {i:Nat} {y:β},Paired F xs ys→ys[i]? = some y→∃ x,xs[i]? = some x∧F x y
  | _,_,_,_,.nil,h=>by simp at h
  | _,_,0,_,.cons r _,h=>by simp at h; subst h; exact ⟨_,rfl,r⟩
  | _,_,i+1,_,.cons _ t,h=>by
    obtain ⟨x,h1,h2⟩:=pget (i:=i) t (by simpa using h)
    exact ⟨x,by simpa using h1,h2⟩
theorem pgetL:∀ {xs:List α} {ys:List β} {i:Nat} {x:α},Paired F xs ys→xs[i]? = some x→∃ y,ys[i]? = some y∧F x y
  | _,_,_,_,.nil,h=>by simp at h
  | _,_,0,_,.cons r _,h=>by simp at h; subst h; exact ⟨_,rfl,r⟩
  | _,_,i+1,_,.cons _ t,h=>by
    obtain ⟨x,h1,h2⟩:=pgetL (i:=i) t (by simpa using h)
    exact ⟨x,by simpa using h1,h2⟩
theorem pset {x:α} {y:β} (h:F x y):∀ {xs:List α} {ys:List β} (i:Nat),Paired F xs ys→Paired F (xs.set i x) (ys.set i y)
  | _,_,_,.nil => .nil
  | _,_,0,.cons _ t => .cons h t
  | _,_,i+1,.cons q t => .cons q (pset h i t)
theorem prep {x:α} {y:β} (h:F x y):∀ n:Nat,Paired F (List.replicate n x) (List.replicate n y)
  | 0 => .nil
  | n+1 => .cons h (prep h n)
end
theorem imap {xs:List Addr} {i:Nat} {x:Addr} (h:xs[i]? = some x):(xs.map V.ref)[i]? = some (V.ref x):=by rw [List.getElem?_map,h]; rfl
theorem imapI {xs:List Int} {i:Nat} {x:Int} (h:xs[i]? = some x):(xs.map V.int)[i]? = some (V.int x):=by rw [List.getElem?_map,h]; rfl
theorem ofmap {xs:List Addr} {i:Nat} {y:V} (h:(xs.map V.ref)[i]? = some y):∃ x,xs[i]? = some x∧y=V.ref x:=by
  rw [List.getElem?_map] at h
  cases e:xs[i]? with
  | none=>rw [e] at h; cases h
  | some x=>rw [e] at h; exact ⟨x,rfl,(Option.some.inj h).symm⟩
theorem ofmapI {xs:List Int} {i:Nat} {y:V} (h:(xs.map V.int)[i]? = some y):∃ x,xs[i]? = some x∧y=V.int x:=by
  rw [List.getElem?_map] at h
  cases e:xs[i]? with
  | none=>rw [e] at h; cases h
  | some x=>rw [e] at h; exact ⟨x,rfl,(Option.some.inj h).symm⟩
theorem atc0 {x:V} {r:List V}:atI (x::r) 0=some x:=atI_nat (j:=0) rfl
theorem atc1 {x y:V} {r:List V}:atI (x::y::r) 1=some y:=atI_nat (j:=1) rfl
theorem atc2 {x y z:V} {r:List V}:atI (x::y::z::r) 2=some z:=atI_nat (j:=2) rfl
theorem atN {xs:List V} {z:Int} {j:Nat} {v:V} (e:z=(j:Int)) (h:xs[j]? = some v):atI xs z=some v:=at_of e h
def IsFs (K:PySem.W.Frag) (H:Hp) (l:Addr) (fs:List Frac):Prop:=∃ as:List Addr,H l=some (.lst (as.map V.ref))∧Paired (IsF K H) as fs
def IsLn (K:PySem.W.Frag) (H:Hp) (a:Addr) (l:Line):Prop:=∃ ns:List Int,SqT K H a (ns.map V.int)∧LineT l ns
def IsLns (K:PySem.W.Frag) (H:Hp) (l:Addr) (c:List Line):Prop:=∃ as:List Addr,H l=some (.lst (as.map V.ref))∧Paired (IsLn K H) as c
section
variable {K:PySem.W.Frag} {H H':Hp}
theorem IsLn.keep {a:Addr} {l:Line} (h:IsLn K H a l) (e:Same H H'):IsLn K H' a l:=let ⟨ns,h1,h2⟩:=h; ⟨ns,Same.tup e h1,h2⟩
theorem keepF {as:List Addr} {fs:List Frac} (h:Paired (IsF K H) as fs) (e:Same H H'):Paired (IsF K H') as fs:=Paired.mapP h fun _ _ x=>x.keep e
theorem keepL {as:List Addr} {c:List Line} (h:Paired (IsLn K H) as c) (e:Same H H'):Paired (IsLn K H') as c:=Paired.mapP h fun _ _ x=>x.keep e
theorem IsFs.keep {l:Addr} {fs:List Frac} (h:IsFs K H l fs) (e:Same H H'):IsFs K H' l fs:=let ⟨as,h1,h2⟩:=h; ⟨as,e _ _ h1,keepF h2 e⟩
theorem IsLns.keep {l:Addr} {c:List Line} (h:IsLns K H l c) (e:Same H H'):IsLns K H' l c:=let ⟨as,h1,h2⟩:=h; ⟨as,e _ _ h1,keepL h2 e⟩
theorem sameOn {H H1 H2:Hp} {l:Addr} (n:H l=none) (s:Same H H1) (k:∀ b o,H1 b=some o→b≠l→H2 b=some o):Same H H2:=fun b o e=>k b o (s b o e) (ne_of_none e n)
theorem samePut {H H1:Hp} {l:Addr} {o:HO} (n:H l=none) (s:Same H H1):Same H (upd H1 l o):=sameOn n s fun b u e hb=>by rw [upd_ne hb]; exact e
theorem SqT.put {a l:Addr} {xs ys zs:List V} (h:SqT K H a xs) (hl:H l=some (.lst ys)):SqT K (upd H l (.lst zs)) a xs:=by
  rcases h with (h | ⟨o,h⟩) | h
  · exact .inl (.inl (by rw [upd_ne (ne_of h hl (by intro q; cases q))]; exact h))
  · exact .inl (.inr ⟨o,by rw [upd_ne (ne_of h hl (by intro q; cases q))]; exact h⟩)
  · exact .inr h
theorem IsF.put {a l:Addr} {f:Frac} {ys zs:List V} (h:IsF K H a f) (hl:H l=some (.lst ys)):IsF K (upd H l (.lst zs)) a f:=⟨SqT.put h.at_ hl,h.wf⟩
theorem IsLn.put {a l:Addr} {f:Line} {ys zs:List V} (h:IsLn K H a f) (hl:H l=some (.lst ys)):IsLn K (upd H l (.lst zs)) a f:=let ⟨ns,h1,h2⟩:=h; ⟨ns,SqT.put h1 hl,h2⟩
theorem putF' {as:List Addr} {fs:List Frac} {l:Addr} {ys zs:List V} (h:Paired (IsF K H) as fs) (hl:H l=some (.lst ys)):Paired (IsF K (upd H l (.lst zs))) as fs:=Paired.mapP h fun _ _ x=>x.put hl
theorem putL' {as:List Addr} {fs:List Line} {l:Addr} {ys zs:List V} (h:Paired (IsLn K H) as fs) (hl:H l=some (.lst ys)):Paired (IsLn K (upd H l (.lst zs))) as fs:=Paired.mapP h fun _ _ x=>x.put hl
end
theorem cut_nat {α:Type} (f:α→V) (ns:List α) (i j:Nat) (hj:j≤ns.length):cutV (ns.map f) (some (i:Int)) (some (j:Int))=((ns.drop i).take (j - i)).map f:=by
  unfold cutV
  rw [HT.sIx_nat,HT.sIx_nat,List.length_map,Nat.min_eq_left hj,← List.map_drop,← List.map_take]
  by_cases h:i≤ns.length
  · rw [Nat.min_eq_left h]
  · rw [Nat.min_eq_right (by omega)]
    rw [List.drop_eq_nil_of_le (Nat.le_refl _),List.drop_eq_nil_of_le (by omega)]
    simp
theorem cut_from {α:Type} (f:α→V) (x:α) (r:List α):cutV ((x::r).map f) (some 1) none=r.map f:=by
  unfold cutV
  have e:HT.sIx ((x::r).map f).length 0 (some 1)=1:=by
    have:=HT.sIx_nat ((x::r).map f).length 0 1
    rw [show (some (1:Int))=some (((1:Nat)):Int) from rfl,this,List.length_map,List.length_cons]
    omega
  rw [e,HT.sIx_none,List.map_cons,List.drop_one,List.tail_cons,List.length_cons]
  rw [List.take_of_length_le (by omega)]
theorem cut_part {α:Type} (f:α→V) (x:α) (r:List α):¬ (HT.sIx ((x::r).map f).length 0 (some 1)=0∧HT.sIx ((x::r).map f).length ((x::r).map f).length none=((x::r).map f).length):=by
  have e:HT.sIx ((x::r).map f).length 0 (some 1)=1:=by
    have:=HT.sIx_nat ((x::r).map f).length 0 1
    rw [show (some (1:Int))=some (((1:Nat)):Int) from rfl,this,List.length_map,List.length_cons]
    omega
  intro h
  rw [e] at h
  omega
section
variable {P:Program} {w:World} {K:PySem.W.Frag} {mg:Str→Option Value} {base:Heap}
abbrev st_well_formed:Stmt:=top 23
theorem sc_well_formed:FnScope ["line"] ["line"] (defScope st_well_formed):=⟨rfl,rfl,rfl,by decide +kernel,rfl,by decide +kernel,by decide +kernel⟩
def spWell (K:PySem.W.Frag):Sp:=fun vs H Q _ => ∃ (a:Addr) (k:Int) (r:List Int),vs=[.ref a]∧SqT K H a ((k::r).map V.int)∧0≤k∧k≤6∧r.length=behind k∧∀ H',Same H H'→Q (.bl (lineOf (k::r)).isSome) H'
theorem well_min {k:Int} {r:List Int} (h0:0≤k) (h6:k≤6) (h1:k≠1) (hl:r.length=behind k) {m:Int} (hm:m∈r) (hy:∀ y,y∈r→m≤y):decide (0≤m)=(lineOf (k::r)).isSome:=by
  have hk:k=0∨k=2∨k=3∨k=4∨k=5∨k=6:=by omega
  rcases hk with rfl | rfl | rfl | rfl | rfl | rfl
  all_goals first
    | (match r,hl with
      | [x],_=>
        have e:m=x:=by simpa using hm
        subst e
        unfold lineOf
        by_cases h:m<0
        · simp [h,show ¬ 0≤m by omega]
        · simp [h,show 0≤m by omega]
      | _::_::_,h=>(exfalso; simp [behind] at h; try omega)
      | [],h=>(exfalso; simp [behind] at h; done))
    | (match r,hl with
      | [x,y],_=>
        have e:m=x∨m=y:=by simpa using hm
        have b1:=hy x (by simp)
        have b2:=hy y (by simp)
        unfold lineOf
        by_cases h:x<0∨y<0
        · simp only [if_pos h,Option.isSome_none,decide_eq_false_iff_not]; omega
        · simp only [if_neg h,Option.isSome_some,decide_eq_true_eq]; omega
      | _::_::_::_,h=>(exfalso; simp [behind] at h; try omega)
      | [_],h=>(exfalso; simp [behind] at h; done)
      | [],h=>(exfalso; simp [behind] at h; done))
theorem can_well_formed (T:Txt K mg) (S:Src K mg "well_formed" st_well_formed ["line"]):Can P w K mg base 43 "well_formed" ["line"] (spWell K):=by
  refine S.can sc_well_formed (fun vs H Q E h => ?_) (fun f cdv A outer s H vs Q E hr h => ?_)
  · obtain ⟨a,k,r,rfl,_⟩:=h
    rfl
  · obtain ⟨a,k,r,rfl,ha,h0,h6,hl,q⟩:=h
    refine ⟨_,(pss_cons (ps_if (pt_cmpR op_eq (pe_ix ix_tup (pv 0) pe_int (fun _ _=>rfl)) (pe_gc T.c_CONSTANT) (nomark _)) (pss_one (ps_ret (pe_cmpR op_ge (pe_ix ix_tup (pv 0) pe_int (fun _ _=>rfl)) pe_int (nomark _)))) pss_nil)
      (pss_one (ps_ret (pe_cmpR op_ge (pe_callB (cr_minT rfl) rfl T.n_min boot_min (pa_cons (pe_slice sl_tup (pv 0) (po_some pe_int) po_none) pa_nil)) pe_int (nomark _))))),?_⟩
    refine ⟨_,rfl,_,_,_,_,rfl,rfl,ha,atc0,rfl,_,rfl,?_⟩
    by_cases h1:k=1
    · subst h1
      refine iteBT (by simp) ?_
      match r,hl with
      | [n,d],_=>
        refine ⟨_,rfl,_,_,_,_,rfl,rfl,ha,atc2,_,_,rfl,rfl,?_⟩
        have e:(lineOf [1,n,d]).isSome=decide (1≤d):=by
          unfold lineOf
          by_cases h:d<1
          · simp [h,show ¬ 1≤d by omega]
          · simp [h,show 1≤d by omega]
        have q':=q H (Same.refl H)
        rw [e] at q'
        exact q'
      | _::_::_::_,h=>(exfalso; simp [behind] at h; try omega)
      | [_],h=>(exfalso; simp [behind] at h; done)
      | [],h=>(exfalso; simp [behind] at h; done)
    · refine iteBF (by simp [h1]) ?_
      have hne:0<r.length:=by rw [hl]; unfold behind; split <;> (try split) <;> omega
      refine ⟨_,rfl,_,rfl,_,_,rfl,ha,cut_part _ _ _,fun p hp => ?_⟩
      rw [cut_from]
      refine ⟨_,r,rfl,SqT.of upd_same,hne,fun m hm hy=>⟨_,_,rfl,rfl,?_⟩⟩
      have q':=q _ (Same.new (o:=.tup (r.map V.int)) hp)
      rw [← well_min h0 h6 h1 hl hm hy] at q'
      exact q'
end
end Ts
end
section
set_option maxRecDepth 100000
set_option maxHeartbeats 2000000
namespace Ts
open PySem PySem.Spec PyProof.Rows L2
open Vagraa (Frac)
open VagraLine (Line)
theorem line_lt {n:Nat} (h:n<16777216):n<sizeLine:=by rw [sizeLine_eq]; exact h
theorem line_le {n:Nat} (h:n≤16777216):n≤sizeLine:=by rw [sizeLine_eq]; exact h
section
variable {P:Program} {w:World} {K:PySem.W.Frag} {mg:Str→Option Value} {base:Heap}
abbrev st_read_lines:Stmt:=top 24
theorem sc_read_lines:FnScope ["numbers","lines","at","kind","end","line"] ["numbers"] (defScope st_read_lines):=⟨rfl,rfl,rfl,by decide +kernel,rfl,by decide +kernel,by decide +kernel⟩
def spReadLines (K:PySem.W.Frag):Sp:=fun vs H Q _ => ∃ (a:Addr) (ns:List Int),vs=[.ref a]∧SqL K H a (ns.map V.int)∧ns.length≤1000000 ∧
  (∀ H',Same H H'→code ns=none→Q .non H')∧∀ H' p c,Same H H'→H p=none→code ns=some c→IsLns K H' p c→Q (.ref p) H'
theorem behind_at {k:Int} (h0:0≤k) (h6:k≤6):atI [V.int 1,V.int 2,V.int 2,V.int 2,V.int 2,V.int 2,V.int 1] k=some (V.int (behind k)):=by
  have hk:k=0∨k=1∨k=2∨k=3∨k=4∨k=5∨k=6:=by omega
  rcases hk with rfl | rfl | rfl | rfl | rfl | rfl | rfl <;> rfl
theorem drop_cons {ns:List Int} {i:Nat} {k:Int} (h:ns[i]? = some k):ns.drop i=k::ns.drop (i+1):=by
  obtain ⟨hi,e⟩:=List.getElem?_eq_some_iff.mp h
  rw [List.drop_eq_getElem_cons hi,e]
theorem can_read_lines (T:Txt K mg) (S:Src K mg "read_lines" st_read_lines ["numbers"]) (c_well_formed:Can P w K mg base 43 "well_formed" ["line"] (spWell K)):Can P w K mg base 45 "read_lines" ["numbers"] (spReadLines K):=by
  obtain ⟨a_NUMBERS_BEHIND_KIND,h_NUMBERS_BEHIND_KIND,i_NUMBERS_BEHIND_KIND⟩:=T.t_NUMBERS_BEHIND_KIND
  refine S.can sc_read_lines (fun vs H Q E h => ?_) (fun f cdv A outer s H vs Q E hr h => ?_)
  · obtain ⟨a,ns,rfl,_⟩:=h
    rfl
  · obtain ⟨a,ns,rfl,ha,hlen,qN,qS⟩:=h
    refine ⟨_,(pss_cons (ps_set (i:=1) sc_read_lines.nd rfl (Or.inl rfl) (pe_lst pa_nil))
      (pss_cons (ps_set (i:=2) sc_read_lines.nd rfl (Or.inl rfl) pe_int)
      (pss_cons (ps_while PassesOwn.never (pt_cmpR op_lt (pv 2) (pe_callB call_len_seq rfl T.n_len PySem.boot_len (pa_cons (pv 0) pa_nil)) (nomark _)) (pss_cons (ps_set (i:=3) sc_read_lines.nd rfl (Or.inl rfl) (pe_ix ix_list (pv 0) (pv 2) (fun _ _=>rfl)))
      (pss_cons (ps_if (PW.pt (pw_or (pt_cmpR op_lt (pv 3) (pe_gc T.c_INPUT) (nomark _)) (pw_or1 (pt_cmpR op_gt (pv 3) (pe_gc T.c_NEGATIVE) (nomark _))))) (pss_one (ps_ret pe_non)) pss_nil)
      (pss_cons (ps_set (i:=4) sc_read_lines.nd rfl (Or.inl rfl) (pe_op op_add (pe_op op_add (pv 2) pe_int) (pe_ix ix_tup (pe_glob rfl h_NUMBERS_BEHIND_KIND rfl (v:=V.ref a_NUMBERS_BEHIND_KIND)) (pv 3) (fun _ _=>rfl))))
      (pss_cons (ps_if (pt_cmpR op_gt (pv 4) (pe_callB call_len_seq rfl T.n_len PySem.boot_len (pa_cons (pv 0) pa_nil)) (nomark _)) (pss_one (ps_ret pe_non)) pss_nil)
      (pss_cons (ps_set (i:=5) sc_read_lines.nd rfl (Or.inl rfl) (pe_callTy call_tuple_of rfl T.n_tuple boot_tuple (pa_cons (pe_slice sl_list (pv 0) (po_some (pv 2)) (po_some (pv 4))) pa_nil)))
      (pss_cons (ps_if (pt_not (pt_val (pe_can c_well_formed (hr.mono (by decide)) (pa_cons (pv 5) pa_nil)))) (pss_one (ps_ret pe_non)) pss_nil)
      (pss_cons (ps_expr (pe_bm PySem.F.plainAttrs_list PySem.F.slot_list_append PySem.F.type_list_append mt_append (pv 1) (pa_cons (pv 5) pa_nil)))
      (pss_one (ps_set (i:=2) sc_read_lines.nd rfl (Or.inl rfl) (pv 4)))))))))))
      (pss_one (ps_ret (pv 1)))))),?_⟩
    refine ⟨Nat.zero_le _,fun l hl => ?_⟩
    refine while_by (fun σ H' => ∃ (i:Nat) (v3 v4 v5:Option V) (dn:List Line),σ=[some (.ref a),some (.ref l),some (.int (i:Int)),v3,v4,v5]∧i≤ns.length∧dn.length≤i∧Same H H'∧IsLns K H' l dn∧code ns=(code (ns.drop i)).map fun c=>dn++c)
      (fun σ _=>match σ with | _::_::some (.int z)::_=>ns.length - z.toNat | _=>0) ⟨0,none,none,none,[],rfl,Nat.zero_le _,Nat.le_refl _,Same.new hl,⟨[],upd_same,.nil⟩,by simp⟩ ?_
      (fun σ H Q Q' hQ ⟨v,e1,u,e2,b,ys,e3,e4,i,j,e5,e6,k,e7,q⟩=>⟨v,e1,u,e2,b,ys,e3,e4,i,j,e5,e6,k,e7,hQ _ _ q⟩)
    rintro σ H1 ⟨i,v3,v4,v5,dn,rfl,hi,hdn,s1,hL,hc⟩
    have sq:=s1.seq ha
    refine ⟨_,rfl,_,rfl,_,_,rfl,.inl sq,_,_,rfl,rfl,_,rfl,?_⟩
    by_cases hlt:i<ns.length
    · refine iteBT (by simp [hlt]) ?_
      obtain ⟨k,hk⟩:∃ k,ns[i]? = some k:=⟨_,List.getElem?_eq_getElem hlt⟩
      have hd:=drop_cons hk
      refine ⟨_,rfl,_,rfl,_,_,_,_,rfl,rfl,sq,atN rfl (imapI hk),?_⟩
      refine ⟨_,rfl,_,_,rfl,rfl,_,rfl,?_⟩
      by_cases hneg:k<0
      · refine iteBT (by simp [hneg]) (iteBT rfl ?_)
        exact qN _ s1 (by rw [hc,hd,code_bad (.inl hneg)]; rfl)
      refine iteBF (by simp [hneg]) ?_
      refine ⟨_,rfl,_,_,rfl,rfl,_,rfl,?_⟩
      by_cases hbig:6<k
      · refine iteBT (by simpa using hbig) ?_
        exact qN _ s1 (by rw [hc,hd,code_bad (.inr hbig)]; rfl)
      refine iteBF (by simpa using hbig) ?_
      have h0:0≤k:=by omega
      have h6:k≤6:=by omega
      refine ⟨_,rfl,_,_,rfl,rfl,_,rfl,_,_,_,_,rfl,rfl,i_NUMBERS_BEHIND_KIND _,behind_at h0 h6,_,_,rfl,rfl,?_⟩
      refine ⟨_,rfl,_,rfl,_,_,rfl,.inl sq,_,_,rfl,rfl,_,rfl,?_⟩
      by_cases hend:ns.length<i+1+behind k
      · refine iteBT (by rw [List.length_map]; simp; omega) ?_
        refine qN _ s1 (by rw [hc,hd,code_short h0 h6 (by rw [List.length_drop]; omega)]; rfl)
      refine iteBF (by rw [List.length_map]; simp; omega) ?_
      have ecut:=cut_nat V.int ns i (i+1+behind k) (by omega)
      have er:(ns.drop i).take (i+1+behind k - i)=k::(ns.drop (i+1)).take (behind k):=by
        rw [hd,show i+1+behind k - i=behind k+1 by omega,List.take_succ_cons]
      rw [er] at ecut
      refine ⟨_,rfl,_,rfl,_,rfl,_,rfl,_,rfl,_,_,rfl,sq,fun p1 hp1 => ?_⟩
      have ecut2:cutV (ns.map V.int) (some (i:Int)) (some ((i:Int)+1+(behind k:Int)))=(k::(ns.drop (i+1)).take (behind k)).map V.int:=by
        rw [← ecut,show ((i:Int)+1+(behind k:Int))=(((i+1+behind k:Nat)):Int) by push_cast; rfl]
      refine ⟨_,_,rfl,.inl ⟨SqL.of upd_same,fun p2 hp2 => ?_⟩⟩
      have s2:Same H1 (upd (upd H1 p1 (.lst (cutV (ns.map V.int) (some (i:Int)) (some ((i:Int)+1+(behind k:Int)))))) p2 (.tup (cutV (ns.map V.int) (some (i:Int)) (some ((i:Int)+1+(behind k:Int)))))) :=
        L2.Same.trans (Same.new hp1) (Same.new hp2)
      have ht:SqT K (upd (upd H1 p1 (.lst (cutV (ns.map V.int) (some (i:Int)) (some ((i:Int)+1+(behind k:Int)))))) p2 (.tup (cutV (ns.map V.int) (some (i:Int)) (some ((i:Int)+1+(behind k:Int)))))) p2 ((k::(ns.drop (i+1)).take (behind k)).map V.int):=by
        rw [ecut2]
        exact SqT.of upd_same
      refine ⟨_,rfl,_,k,(ns.drop (i+1)).take (behind k),rfl,ht,h0,h6,by rw [List.length_take,List.length_drop]; omega,fun H2 s3=>⟨_,rfl,?_⟩⟩
      have hstep:=code_step (r:=ns.drop (i+1)) h0 h6 (by rw [List.length_drop]; omega)
      have s4:Same H H2:=(s1.trans s2).trans s3
      cases el:lineOf (k::(ns.drop (i+1)).take (behind k)) with
      | none=>
        refine iteBT (by rfl) ?_
        exact qN _ s4 (by rw [hc,hd,hstep,el]; rfl)
      | some ln=>
        refine iteBF (by rfl) ?_
        obtain ⟨as,hl1,hp⟩:=hL.keep (s2.trans s3)
        refine ⟨_,rfl,.inl ⟨rfl,_,SqL.of hl1⟩,_,rfl,l,_,_,rfl,rfl,hl1,?_,?_⟩
        · rw [List.length_map,Paired.length hp]
          exact line_lt (by omega)
        refine ⟨_,rfl,⟨i+1+behind k,_,_,_,dn++[ln],rfl,by omega,by rw [List.length_append]; simp; omega,samePut hl s4,⟨as++[p2],by rw [upd_same,List.map_append]; rfl,?_⟩,?_⟩,?_⟩
        · exact Paired.snoc (putL' hp hl1) ⟨_,SqT.put (Same.tup s3 ht) hl1,lineOf_T el⟩
        · rw [hc,hd,hstep,el,List.drop_drop]
          show Option.map _ (Option.map _ (code (ns.drop (i+1+behind k))))=_
          rw [Option.map_map]
          congr 1
          funext c
          simp
        · show ns.length - ((i:Int)+1+(behind k:Int)).toNat<ns.length - (i:Int).toNat
          omega
    · refine iteBF (by simp; omega) ?_
      have e:i=ns.length:=by omega
      subst e
      refine ⟨_,rfl,?_⟩
      exact qS _ _ dn s1 hl (by rw [hc,List.drop_length,code_nil]; simp) hL
end
end Ts
end
section
set_option maxRecDepth 100000
set_option maxHeartbeats 2000000
namespace Ts
open PySem PySem.Spec PyProof.Rows L2
open Vagraa (Frac)
open VagraLine (Line)
def kindOf:Line→Int
  | .input _=>0
  | .num _=>1
  | .add _ _=>2
  | .sub _ _=>3
  | .mul _ _=>4
  | .div _ _=>5
  | .neg _=>6
theorem LineT.head {l:Line} {ns:List Int} (h:LineT l ns):∃ r,ns=kindOf l::r:=by
  cases l with
  | num a=>obtain ⟨n,d,e,_⟩:=h; exact ⟨_,e⟩
  | _=>exact ⟨_,h⟩
section
variable {P:Program} {w:World} {K:PySem.W.Frag} {mg:Str→Option Value} {base:Heap}
abbrev st_is_operation:Stmt:=top 25
theorem sc_is_operation:FnScope ["line"] ["line"] (defScope st_is_operation):=⟨rfl,rfl,rfl,by decide +kernel,rfl,by decide +kernel,by decide +kernel⟩
def spIsOp (K:PySem.W.Frag):Sp:=fun vs H Q _ => ∃ (a:Addr) (l:Line),vs=[.ref a]∧IsLn K H a l∧Q (.bl l.isOp) H
theorem isOp_kind (l:Line):l.isOp=(!decide (kindOf l=0) && !decide (kindOf l=1)):=by cases l <;> rfl
theorem can_is_operation (T:Txt K mg) (S:Src K mg "is_operation" st_is_operation ["line"]):Can P w K mg base 41 "is_operation" ["line"] (spIsOp K):=by
  refine S.can sc_is_operation (fun vs H Q E h => ?_) (fun f cdv A outer s H vs Q E hr h => ?_)
  · obtain ⟨a,l,rfl,_⟩:=h
    rfl
  · obtain ⟨a,l,rfl,⟨ns,ha,hT⟩,q⟩:=h
    refine ⟨_,(pss_one (ps_ret (pe_and (pe_cmpR op_ne (pe_ix ix_tup (pv 0) pe_int (fun _ _=>rfl)) (pe_gc T.c_INPUT) (nomark _)) (pe_one (pe_cmpR op_ne (pe_ix ix_tup (pv 0) pe_int (fun _ _=>rfl)) (pe_gc T.c_CONSTANT) (nomark _)))))),?_⟩
    obtain ⟨r,rfl⟩:=hT.head
    rw [isOp_kind] at q
    refine ⟨_,rfl,_,_,_,_,rfl,rfl,ha,atc0,rfl,_,rfl,?_⟩
    by_cases h0:kindOf l=0
    · refine iteBF (by simp [h0]) ?_
      rw [h0] at q
      exact q
    · refine iteBT (by simp [h0]) ?_
      refine ⟨_,rfl,_,_,_,_,rfl,rfl,ha,atc0,rfl,?_⟩
      have e:(!decide (kindOf l=0) && !decide (kindOf l=1)) = !decide (V.int (kindOf l)=V.int 1):=by simp [h0]
      rw [e] at q
      exact q
abbrev st_lines_used:Stmt:=top 26
theorem sc_lines_used:FnScope ["line"] ["line"] (defScope st_lines_used):=⟨rfl,rfl,rfl,by decide +kernel,rfl,by decide +kernel,by decide +kernel⟩
def natV (l:List Nat):List V:=l.map fun (i:Nat)=>V.int (i:Int)
def spUsed (K:PySem.W.Frag):Sp:=fun vs H Q _ => ∃ (a:Addr) (l:Line),vs=[.ref a]∧IsLn K H a l∧∀ H' p,Same H H'→H p=none→H' p=some (.lst (natV l.uses))→Q (.ref p) H'
theorem can_lines_used (T:Txt K mg) (S:Src K mg "lines_used" st_lines_used ["line"]) (c_is_operation:Can P w K mg base 41 "is_operation" ["line"] (spIsOp K)):Can P w K mg base 43 "lines_used" ["line"] (spUsed K):=by
  refine S.can sc_lines_used (fun vs H Q E h => ?_) (fun f cdv A outer s H vs Q E hr h => ?_)
  · obtain ⟨a,l,rfl,_⟩:=h
    rfl
  · obtain ⟨a,l,rfl,hLn,q⟩:=h
    obtain ⟨ns,ha,hT⟩:=id hLn
    refine ⟨_,(pss_cons (ps_if (pt_not (pt_val (pe_can c_is_operation (hr.mono (by decide)) (pa_cons (pv 0) pa_nil)))) (pss_one (ps_ret (pe_lst pa_nil))) pss_nil)
      (pss_one (ps_ret (pe_callTy call_list_of rfl T.n_list boot_list (pa_cons (pe_slice sl_tup (pv 0) (po_some pe_int) po_none) pa_nil))))),?_⟩
    obtain ⟨r,rfl⟩:=hT.head
    refine ⟨_,rfl,a,l,rfl,hLn,_,rfl,?_⟩
    by_cases h0:l.isOp=true
    · refine iteBF (by simp [h0]) ?_
      refine ⟨_,rfl,_,rfl,_,_,rfl,ha,cut_part _ _ _,fun p hp => ?_⟩
      rw [cut_from]
      refine ⟨_,_,rfl,.inr (SqT.of upd_same),fun p2 hp2 => ?_⟩
      refine q _ p2 (L2.Same.trans (Same.new hp) (Same.new hp2)) ((Same.new hp).free hp2) ?_
      rw [upd_same]
      have e:r.map V.int=natV l.uses:=by
        cases l with
        | input k=>exact absurd h0 (by simp [VagraLine.Line.isOp])
        | num x=>exact absurd h0 (by simp [VagraLine.Line.isOp])
        | add i j=>cases (show (2:Int)::r=[2,(i:Int),(j:Int)] from hT); rfl
        | sub i j=>cases (show (3:Int)::r=[3,(i:Int),(j:Int)] from hT); rfl
        | mul i j=>cases (show (4:Int)::r=[4,(i:Int),(j:Int)] from hT); rfl
        | div i j=>cases (show (5:Int)::r=[5,(i:Int),(j:Int)] from hT); rfl
        | neg i=>cases (show (6:Int)::r=[6,(i:Int)] from hT); rfl
      rw [e]
    · refine iteBT (by simp [h0]) ⟨Nat.zero_le _,fun p hp => ?_⟩
      refine q _ p (Same.new hp) hp ?_
      rw [upd_same]
      cases l <;> first | rfl | (exact absurd rfl h0)
abbrev st_uses_are_sound:Stmt:=top 27
theorem sc_uses_are_sound:FnScope ["lines","inputs","number","line","used"] ["lines","inputs"] (defScope st_uses_are_sound):=⟨rfl,rfl,rfl,by decide +kernel,rfl,by decide +kernel,by decide +kernel⟩
def spSound (K:PySem.W.Frag):Sp:=fun vs H Q _ => ∃ (l:Addr) (c:List Line) (n:Nat),vs=[.ref l,.int (n:Int)]∧IsLns K H l c∧∀ H',Same H H'→Q (.bl (VagraLine.well n c)) H'
def inOk (n:Nat):Line→Bool
  | .input k=>decide (k<n)
  | _=>true
theorem wellFrom_cons (n i:Nat) (l:Line) (r:List Line):VagraLine.wellFrom n i (l::r)=(l.uses.all (fun j=>decide (j<i))&&inOk n l&&VagraLine.wellFrom n (i+1) r):=by
  cases l <;> rfl
theorem wellFrom_drop {n i:Nat} {c:List Line} {l:Line} (h:c[i]? = some l):VagraLine.wellFrom n i (c.drop i)=(l.uses.all (fun j=>decide (j<i))&&inOk n l&&VagraLine.wellFrom n (i+1) (c.drop (i+1))):=by
  obtain ⟨hi,e⟩:=List.getElem?_eq_some_iff.mp h
  rw [List.drop_eq_getElem_cons hi,e,wellFrom_cons]
theorem can_uses_are_sound (T:Txt K mg) (S:Src K mg "uses_are_sound" st_uses_are_sound ["lines","inputs"]) (c_lines_used:Can P w K mg base 43 "lines_used" ["line"] (spUsed K)) :
    Can P w K mg base 45 "uses_are_sound" ["lines","inputs"] (spSound K):=by
  refine S.can sc_uses_are_sound (fun vs H Q E h => ?_) (fun f cdv A outer s H vs Q E hr h => ?_)
  · obtain ⟨l,c,n,rfl,_⟩:=h
    rfl
  · obtain ⟨l,c,n,rfl,⟨as,hl,hp⟩,q⟩:=h
    refine ⟨_,(pss_cons (ps_for PassesOwn.never rfl (pi_enum rfl T.n_enumerate (pa_cons (pv 0) pa_nil)) (pg_tup rfl (pgs_cons (pg_name (i:=2) sc_uses_are_sound.nd rfl (Or.inl rfl)) (pgs_cons (pg_name (i:=3) sc_uses_are_sound.nd rfl (Or.inl rfl)) pgs_nil))) (pss_cons (ps_if (PW.pt (pw_and (pt_cmpR op_eq (pe_ix ix_tup (pv 3) pe_int (fun _ _=>rfl)) (pe_gc T.c_INPUT) (nomark _)) (pw_and1 (pt_cmpR op_ge (pe_ix ix_tup (pv 3) pe_int (fun _ _=>rfl)) (pv 1) (nomark _))))) (pss_one (ps_ret pe_bl)) pss_nil)
      (pss_one (ps_for PassesOwn.never rfl (pi_list (pe_can c_lines_used (hr.mono (by decide)) (pa_cons (pv 3) pa_nil))) (pg_name (i:=4) sc_uses_are_sound.nd rfl (Or.inl rfl)) (pss_one (ps_if (pt_cmpR op_ge (pv 4) (pv 2) (nomark _)) (pss_one (ps_ret pe_bl)) pss_nil))))))
      (pss_one (ps_ret pe_bl))),?_⟩
    have hlen:=Paired.length hp
    refine ⟨_,rfl,_,_,rfl,SqL.of hl,for_enum (K:=K) (a:=l) (xs:=as.map V.ref) (fun i σ H' => ∃ v2 v3 v4:Option V,σ=[some (.ref l),some (.int (n:Int)),v2,v3,v4]∧Same H H'∧VagraLine.well n c=VagraLine.wellFrom n i (c.drop i))
      ⟨none,none,none,rfl,Same.refl H,rfl⟩ (fun i σ H' _ ⟨_,_,_,_,s1,_⟩=>SqL.of (s1 _ _ hl)) ?_ ?_⟩
    · rintro i x Tp σ H1 hx ⟨v2,v3,v4,rfl,s1,hw⟩ hT
      obtain ⟨a,hax,rfl⟩:=ofmap hx
      obtain ⟨ln,hln,hLn⟩:=pgetL hp hax
      have s2:Same H (upd H1 Tp (.tup [.int (i:Nat),.ref a])):=L2.Same.trans s1 (Same.new hT)
      refine ⟨Tp,_,rfl,SqT.of upd_same,rfl,_,_,rfl,_,_,rfl,rfl,?_⟩
      have hLn1:=hLn.keep s2
      obtain ⟨ns,hns,hTn⟩:=hLn1
      obtain ⟨r,rfl⟩:=hTn.head
      have hstep:=wellFrom_drop (n:=n) hln
      refine ⟨_,rfl,_,_,_,_,rfl,rfl,hns,atc0,rfl,_,rfl,?_⟩
      have rest:inOk n ln=true→∀ H2,Same H H2→IsLn K H2 a ln →
          tFor (iList K (tCall (spUsed K) [] E0 (tCons (tVar 3) tNil))) (gName 4) (tIfS (tTest (tOp (rI0 fun i j => .bl (decide (j≤i))) (tVar 4) (tVar 2))) (tRet (tC (.bl false))) tNext)
            { nx:=fun σ H' => ∃ v2 v3 v4:Option V,σ=[some (.ref l),some (.int (n:Int)),v2,v3,v4]∧Same H H'∧VagraLine.well n c=VagraLine.wellFrom n (i+1) (c.drop (i+1)),rt:=Q,
              bk:=tRet (tC (.bl true)) { nx:=fun _ H'=>Q .non H',rt:=Q },
              ct:=fun σ H' => ∃ v2 v3 v4:Option V,σ=[some (.ref l),some (.int (n:Int)),v2,v3,v4]∧Same H H'∧VagraLine.well n c=VagraLine.wellFrom n (i+1) (c.drop (i+1)) }
            [some (.ref l),some (.int (n:Int)),some (.int (i:Int)),some (.ref a),v4] H2:=by
        intro hin H2 s3 hL2
        refine ⟨_,rfl,a,ln,rfl,hL2,fun H3 p s4 hp0 hp3 => ?_⟩
        refine ⟨p,rfl,⟨_,SqL.of hp3⟩,for_list (K:=K) (a:=p) (xs:=natV ln.uses) (fun j σ H' => ∃ v:Option V,σ=[some (.ref l),some (.int (n:Int)),some (.int (i:Int)),some (.ref a),v]∧H'=H3∧(ln.uses.take j).all (fun u=>decide (u<i))=true)
          ⟨v4,rfl,rfl,rfl⟩ (fun j σ H' _ ⟨_,_,e,_⟩=>by rw [e]; exact SqL.of hp3) ?_ ?_⟩
        · rintro j y σ H4 hy ⟨v,rfl,rfl,hall⟩
          obtain ⟨u,hu,rfl⟩:∃ u,ln.uses[j]? = some u∧y=V.int ((u:Nat):Int):=by
            unfold natV at hy
            rw [List.getElem?_map] at hy
            cases e:ln.uses[j]? with
            | none=>rw [e] at hy; cases hy
            | some u=>rw [e] at hy; exact ⟨u,rfl,(Option.some.inj hy).symm⟩
          refine ⟨_,rfl,_,rfl,_,_,rfl,rfl,_,rfl,?_⟩
          by_cases hge:(i:Int)≤(u:Int)
          · refine iteBT (by simpa using hge) ?_
            have q':=q H4 (s3.trans s4)
            have e:VagraLine.well n c=false:=by
              rw [hw,hstep]
              have:ln.uses.all (fun j=>decide (j<i))=false:=by
                rw [List.all_eq_false]
                exact ⟨u,List.mem_of_getElem? hu,by simp; omega⟩
              rw [this]
              rfl
            rw [e] at q'
            exact q'
          · refine iteBF (by simpa using hge) ?_
            refine ⟨_,rfl,rfl,?_⟩
            rw [take_snoc hu,List.all_append,hall]
            simp
            omega
        · rintro σ H4 ⟨v,rfl,rfl,hall⟩
          refine ⟨_,_,_,rfl,s3.trans s4,?_⟩
          rw [show (natV ln.uses).length=ln.uses.length by unfold natV; simp,List.take_length] at hall
          rw [hw,hstep,hall,hin]
          rfl
      have hL1:IsLn K (upd H1 Tp (.tup [.int (i:Nat),.ref a])) a ln:=hLn.keep s2
      by_cases h0:kindOf ln=0
      · refine iteBT (by simp [h0]) ?_
        cases ln with
        | input k=>
          cases (show (0:Int)::r=[0,(k:Int)] from hTn)
          refine ⟨_,rfl,_,_,_,_,rfl,rfl,hns,atc1,_,rfl,_,_,rfl,rfl,_,rfl,?_⟩
          by_cases hk:(n:Int)≤(k:Int)
          · refine iteBT (by simpa using hk) ?_
            have q':=q _ s2
            have e:VagraLine.well n c=false:=by
              rw [hw,hstep]
              have:inOk n (.input k)=false:=by show decide (k<n)=false; simp; omega
              rw [this,Bool.and_false]
              rfl
            rw [e] at q'
            exact q'
          · refine iteBF (by simpa using hk) ?_
            exact rest (by show decide (k<n)=true; simp; omega) _ s2 hL1
        | _=>(exact absurd h0 (by simp [kindOf]))
      · refine iteBF (by simp [h0]) (iteBF rfl ?_)
        exact rest (by cases ln <;> first | rfl | exact absurd rfl h0) _ s2 hL1
    · rintro σ H1 ⟨v2,v3,v4,rfl,s1,hw⟩
      rw [List.length_map,hlen,List.drop_length] at hw
      have q':=q H1 s1
      rw [hw] at q'
      exact q'
end
end Ts
end
section
set_option maxRecDepth 100000
set_option maxHeartbeats 2000000
namespace Ts
open PySem PySem.Spec PyProof.Rows L2
open Vagraa (Frac)
open VagraLine (Line fracsOf)
def fracsN (n:Nat) (ns:List Int):Option (List Frac):=match fracsOf ns with
  | some fs=>if fs.length=n then some fs else none
  | none=>none
theorem fracsOf_len:∀ (ns:List Int) (fs:List Frac),fracsOf ns=some fs→ns.length=2*fs.length
  | [],fs,h=>by
    have e:([]:List Frac)=fs:=Option.some.inj h
    subst e
    rfl
  | [_],fs,h=>by cases h
  | n::d::r,fs,h=>by
    have h':(if d<1 then none else (fracsOf r).map fun l=>Vagraa.frac n d.toNat::l)=some fs:=h
    by_cases hd:d<1
    · rw [if_pos hd] at h'; cases h'
    · rw [if_neg hd] at h'
      cases e:fracsOf r with
      | none=>rw [e] at h'; cases h'
      | some l=>
        rw [e] at h'
        have h2:=fracsOf_len r l e
        have e3:Vagraa.frac n d.toNat::l=fs:=Option.some.inj h'
        subst e3
        simp only [List.length_cons]
        omega
theorem fracsN_ne {n:Nat} {ns:List Int} (h:ns.length≠2*n):fracsN n ns=none:=by
  unfold fracsN
  cases e:fracsOf ns with
  | none=>rfl
  | some fs=>
    have:=fracsOf_len ns fs e
    show (if fs.length=n then some fs else none)=none
    rw [if_neg (by omega)]
theorem fracsOf_drop {ns:List Int} {j:Nat} {x d:Int} (h1:ns[j]? = some x) (h2:ns[j+1]? = some d):fracsOf (ns.drop j)=if d<1 then none else (fracsOf (ns.drop (j+2))).map fun l=>Vagraa.frac x d.toNat::l:=by
  rw [drop_cons h1,drop_cons h2]
  rfl
section
variable {P:Program} {w:World} {K:PySem.W.Frag} {mg:Str→Option Value} {base:Heap}
abbrev st_read_fractions:Stmt:=top 13
theorem sc_read_fractions:FnScope ["numbers","count","fractions","at"] ["numbers","count"] (defScope st_read_fractions):=⟨rfl,rfl,rfl,by decide +kernel,rfl,by decide +kernel,by decide +kernel⟩
def spReadFr (K:PySem.W.Frag):Sp:=fun vs H Q _ => ∃ (a:Addr) (ns:List Int) (n:Nat),vs=[.ref a,.int (n:Int)]∧SqL K H a (ns.map V.int)∧ns.length≤1000000∧n≤1000000 ∧
  (∀ H',Same H H'→fracsN n ns=none→Q .non H')∧∀ H' p fs,Same H H'→H p=none→fracsN n ns=some fs→IsFs K H' p fs→Q (.ref p) H'
theorem can_read_fractions (T:Txt K mg) (S:Src K mg "read_fractions" st_read_fractions ["numbers","count"]) (c_lowest:Can P w K mg base 43 "lowest" ["numerator","denominator"] spLowest) :
    Can P w K mg base 45 "read_fractions" ["numbers","count"] (spReadFr K):=by
  refine S.can sc_read_fractions (fun vs H Q E h => ?_) (fun f cdv A outer s H vs Q E hr h => ?_)
  · obtain ⟨a,ns,n,rfl,_⟩:=h
    rfl
  · obtain ⟨a,ns,n,rfl,ha,hl1,hl2,qN,qS⟩:=h
    refine ⟨_,(pss_cons (ps_if (pt_cmpR op_ne (pe_callB call_len_seq rfl T.n_len PySem.boot_len (pa_cons (pv 0) pa_nil)) (pe_op op_mulB pe_int (pv 1)) (nomark _)) (pss_one (ps_ret pe_non)) pss_nil)
      (pss_cons (ps_set (i:=2) sc_read_fractions.nd rfl (Or.inl rfl) (pe_lst pa_nil))
      (pss_cons (ps_for PassesOwn.never rfl (pi_range3 rfl T.n_range (pa_cons pe_int (pa_cons (pe_callB call_len_seq rfl T.n_len PySem.boot_len (pa_cons (pv 0) pa_nil)) (pa_cons pe_int pa_nil)))) (pg_name (i:=3) sc_read_fractions.nd rfl (Or.inl rfl)) (pss_cons (ps_if (pt_cmpR op_lt (pe_ix ix_list (pv 0) (pe_op op_add (pv 3) pe_int) (fun _ _=>rfl)) pe_int (nomark _)) (pss_one (ps_ret pe_non)) pss_nil)
      (pss_one (ps_expr (pe_bm PySem.F.plainAttrs_list PySem.F.slot_list_append PySem.F.type_list_append mt_append (pv 2) (pa_cons (pe_can c_lowest (hr.mono (by decide)) (pa_cons (pe_ix ix_list (pv 0) (pv 3) (fun _ _=>rfl)) (pa_cons (pe_ix ix_list (pv 0) (pe_op op_add (pv 3) pe_int) (fun _ _=>rfl)) pa_nil))) pa_nil))))))
      (pss_one (ps_ret (pv 2)))))),?_⟩
    refine ⟨_,rfl,_,_,rfl,.inl ha,_,rfl,_,_,rfl,rfl,(by exact IntMulOk.of_left (by decide)),rfl,_,rfl,?_⟩
    by_cases hne:ns.length=2*n
    case neg=>
      refine iteBT (by rw [List.length_map]; simp; omega) ?_
      exact qN _ (Same.refl H) (fracsN_ne hne)
    refine iteBF (by rw [List.length_map]; simp; omega) ?_
    refine ⟨Nat.zero_le _,fun l hl => ?_⟩
    have sq:SqL K (upd H l (.lst [])) a (ns.map V.int):=(Same.new hl).seq ha
    have hrg:=rg_step (c:=2) (n:=n) (by decide) (by decide) hl2
    refine ⟨_,rfl,_,_,rfl,.inl sq,_,_,_,n,rfl,?_,for_rangeC (lo:=0) (c:=2) (n:=n) (fun i σ H' => ∃ (v:Option V) (dn:List Frac),σ=[some (.ref a),some (.int (n:Int)),some (.ref l),v]∧Same H H'∧IsFs K H' l dn∧dn.length=i∧fracsOf ns=(fracsOf (ns.drop (2*i))).map fun c=>dn++c)
      ⟨none,[],rfl,Same.new hl,⟨[],upd_same,.nil⟩,rfl,by simp⟩ ?_ ?_⟩
    · rw [List.length_map,hne]
      exact hrg
    · rintro i σ H1 hi ⟨v,dn,rfl,s1,⟨as,hl3,hp⟩,hdn,hc⟩
      have sq1:=s1.seq ha
      obtain ⟨x,hx⟩:∃ x,ns[2*i]? = some x:=⟨_,List.getElem?_eq_getElem (by omega)⟩
      obtain ⟨d,hd⟩:∃ d,ns[2*i+1]? = some d:=⟨_,List.getElem?_eq_getElem (by omega)⟩
      have hstep:=fracsOf_drop hx hd
      have e1:(0:Int)+(i:Nat)*2=((2*i:Nat):Int):=by push_cast; omega
      have e2:(0:Int)+(i:Nat)*2+1=((2*i+1:Nat):Int):=by push_cast; omega
      refine ⟨_,rfl,_,rfl,_,_,rfl,rfl,_,_,_,_,rfl,rfl,sq1,atN e2 (imapI hd),_,_,rfl,rfl,_,rfl,?_⟩
      by_cases hd1:d<1
      · refine iteBT (by simpa using hd1) ?_
        refine qN _ s1 ?_
        unfold fracsN
        rw [hc,hstep,if_pos hd1]
        rfl
      refine iteBF (by simpa using hd1) ?_
      refine ⟨_,rfl,.inl ⟨rfl,_,SqL.of hl3⟩,_,rfl,_,rfl,_,_,_,_,rfl,rfl,sq1,atN e1 (imapI hx),_,rfl,_,rfl,_,_,rfl,rfl,_,_,_,_,rfl,rfl,sq1,atN e2 (imapI hd),_,_,rfl,by omega,fun p hp0 => ?_⟩
      have s2:=Same.new (o:=.tup (tupF (Vagraa.frac x d.toNat))) hp0
      have hl4:=s2 _ _ hl3
      refine ⟨l,_,_,rfl,rfl,hl4,?_,?_⟩
      · rw [List.length_map,Paired.length hp]
        exact line_lt (by omega)
      refine ⟨_,dn++[Vagraa.frac x d.toNat],rfl,samePut hl (s1.trans s2),⟨as++[p],by rw [upd_same,List.map_append]; rfl,?_⟩,by rw [List.length_append,hdn]; rfl,?_⟩
      · exact Paired.snoc (putF' (keepF hp s2) hl4) ((IsF.new (frac_wf _ (by omega))).put hl4)
      · rw [hc,hstep,if_neg hd1,Option.map_map]
        congr 1
        funext c
        simp
    · rintro σ H1 ⟨v,dn,rfl,s1,hF,hdn,hc⟩
      refine ⟨_,rfl,?_⟩
      refine qS _ _ dn s1 hl ?_ hF
      rw [show ns.drop (2*n)=[] from List.drop_eq_nil_of_le (by omega)] at hc
      unfold fracsN
      rw [hc]
      show (if (dn++[]).length=n then some (dn++[]) else none)=some dn
      rw [List.append_nil,if_pos hdn]
end
end Ts
end
section
set_option maxRecDepth 100000
set_option maxHeartbeats 2000000
namespace Ts
open PySem PySem.Spec PyProof.Rows L2
open Vagraa (Frac)
open VagraLine (Line at_)
theorem lightS {f:Frac} (hf:WF f) {k:Nat} (h:Vagraa.weight f≤k) (hk:k≤60000000):Sm f:=by
  obtain ⟨h1,h2,_⟩:=Bd.light hf h
  exact ⟨Nat.lt_of_lt_of_le h2 (Nat.pow_le_pow_right (by decide) hk),Nat.lt_of_lt_of_le h1 (Nat.pow_le_pow_right (by decide) hk)⟩
def Light (vs:List Frac):Prop:=∀ f∈vs,Vagraa.weight f≤200
theorem well_at {n:Nat} {c:List Line} (h:VagraLine.well n c=true) {i:Nat} {l:Line} (hl:c[i]? = some l):(∀ u∈l.uses,u<i)∧inOk n l=true:=by
  have key:∀ j,j≤i→VagraLine.wellFrom n j (c.drop j)=true:=by
    intro j
    induction j with
    | zero=>intro _; exact h
    | succ j ih=>
      intro hj
      have hi:=(List.getElem?_eq_some_iff.mp hl).1
      have e:=ih (by omega)
      rw [wellFrom_drop (l:=c[j]) (List.getElem?_eq_getElem (by omega))] at e
      simp only [Bool.and_eq_true] at e
      exact e.2
  have e:=key i (Nat.le_refl _)
  rw [wellFrom_drop hl] at e
  simp only [Bool.and_eq_true,List.all_eq_true,decide_eq_true_eq] at e
  exact ⟨e.1.1,e.1.2⟩
theorem at_get {vs:List Frac} {i:Nat} (h:i<vs.length):vs[i]? = some (at_ vs i):=by
  unfold VagraLine.at_
  rw [List.getD_eq_getElem?_getD,List.getElem?_eq_getElem h]
  rfl
section
variable {P:Program} {w:World} {K:PySem.W.Frag} {mg:Str→Option Value} {base:Heap}
theorem dpF {H:Hp} {a:Addr} {f:Frac} (h:SqT K H a (tupF f)):Dp K H (.ref a) (.tuple [.int f.num,.int f.den]):=.tup h (.cons (.int _) (.cons (.int _) .nil))
theorem eqv_zero {f:Frac} (hf:WF f):PyData.eqv (.tuple [.int f.num,.int (f.den:Int)]) (.tuple [.int 0,.int 1])=Vagraa.isZero f:=by
  show ((f.num == 0)&&(((f.den:Int) == 1)&&true))=decide (f.num=0)
  by_cases h:f.num=0
  · have hd:f.den=1:=by
      have:=hf.cop
      rw [h] at this
      simpa using this
    simp [h,hd]
  · simp [h]
theorem IsFs.at {H:Hp} {l:Addr} {fs:List Frac} (h:IsFs K H l fs) {i:Nat} (hi:i<fs.length):∃ (as:List Addr) (a:Addr),H l=some (.lst (as.map V.ref))∧(as.map V.ref)[i]? = some (.ref a)∧IsF K H a (at_ fs i):=by
  obtain ⟨as,h1,h2⟩:=h
  obtain ⟨a,ha,hf⟩:=pget h2 (at_get hi)
  exact ⟨as,a,h1,imap ha,hf⟩
abbrev st_line_value:Stmt:=top 40
theorem sc_line_value:FnScope ["line","results","point","kind","first","second"] ["line","results","point"] (defScope st_line_value):=⟨rfl,rfl,rfl,by decide +kernel,rfl,by decide +kernel,by decide +kernel⟩
def spLineValue (K:PySem.W.Frag):Sp:=fun vs H Q _ => ∃ (a rl pl:Addr) (l:Line) (rs ps:List Frac),vs=[.ref a,.ref rl,.ref pl]∧IsLn K H a l∧IsFs K H rl rs∧IsFs K H pl ps∧Light rs∧(∀ u∈l.uses,u<rs.length)∧inOk ps.length l=true ∧
  (∀ H',Same H H'→l.value ps rs=none→Q .non H')∧∀ H' p v,Same H H'→l.value ps rs=some v→IsF K H' p v→Q (.ref p) H'
theorem can_line_value (T:Txt K mg) (S:Src K mg "line_value" st_line_value ["line","results","point"]) (c_lowest:Can P w K mg base 43 "lowest" ["numerator","denominator"] spLowest)
    (c_negative:Can P w K mg base 43 "negative" ["fraction"] (spNegative K)) (c_plus:Can P w K mg base 43 "plus" ["first","second"] (spPlus K)) (c_minus:Can P w K mg base 45 "minus" ["first","second"] (spMinus K))
    (c_times:Can P w K mg base 43 "times" ["first","second"] (spTimes K)) (c_over:Can P w K mg base 45 "over" ["first","second"] (spOver K)) :
    Can P w K mg base 47 "line_value" ["line","results","point"] (spLineValue K):=by
  obtain ⟨a_ZERO,h_ZERO,i_ZERO⟩:=T.t_ZERO
  refine S.can sc_line_value (fun vs H Q E h => ?_) (fun f cdv A outer s H vs Q E hr h => ?_)
  · obtain ⟨a,rl,pl,l,rs,ps,rfl,_⟩:=h
    rfl
  · obtain ⟨a,rl,pl,l,rs,ps,rfl,⟨ns,hns,hT⟩,hR,hPt,hLt,hu,hin,qN,qS⟩:=h
    refine ⟨_,(pss_cons (ps_set (i:=3) sc_line_value.nd rfl (Or.inl rfl) (pe_ix ix_tup (pv 0) pe_int (fun _ _=>rfl)))
      (pss_cons (ps_if (pt_cmpR op_eq (pv 3) (pe_gc T.c_INPUT) (nomark _)) (pss_one (ps_ret (pe_ix ix_list (pv 2) (pe_ix ix_tup (pv 0) pe_int (fun _ _=>rfl)) (fun _ _=>rfl)))) pss_nil)
      (pss_cons (ps_if (pt_cmpR op_eq (pv 3) (pe_gc T.c_CONSTANT) (nomark _)) (pss_one (ps_ret (pe_can c_lowest (hr.mono (by decide)) (pa_cons (pe_ix ix_tup (pv 0) pe_int (fun _ _=>rfl)) (pa_cons (pe_ix ix_tup (pv 0) pe_int (fun _ _=>rfl)) pa_nil))))) pss_nil)
      (pss_cons (ps_set (i:=4) sc_line_value.nd rfl (Or.inl rfl) (pe_ix ix_list (pv 1) (pe_ix ix_tup (pv 0) pe_int (fun _ _=>rfl)) (fun _ _=>rfl)))
      (pss_cons (ps_if (pt_cmpR op_eq (pv 3) (pe_gc T.c_NEGATIVE) (nomark _)) (pss_one (ps_ret (pe_can c_negative (hr.mono (by decide)) (pa_cons (pv 4) pa_nil)))) pss_nil)
      (pss_cons (ps_set (i:=5) sc_line_value.nd rfl (Or.inl rfl) (pe_ix ix_list (pv 1) (pe_ix ix_tup (pv 0) pe_int (fun _ _=>rfl)) (fun _ _=>rfl)))
      (pss_cons (ps_if (pt_cmpR op_eq (pv 3) (pe_gc T.c_SUM) (nomark _)) (pss_one (ps_ret (pe_can c_plus (hr.mono (by decide)) (pa_cons (pv 4) (pa_cons (pv 5) pa_nil))))) pss_nil)
      (pss_cons (ps_if (pt_cmpR op_eq (pv 3) (pe_gc T.c_DIFFERENCE) (nomark _)) (pss_one (ps_ret (pe_can c_minus (hr.mono (by decide)) (pa_cons (pv 4) (pa_cons (pv 5) pa_nil))))) pss_nil)
      (pss_cons (ps_if (pt_cmpR op_eq (pv 3) (pe_gc T.c_PRODUCT) (nomark _)) (pss_one (ps_ret (pe_can c_times (hr.mono (by decide)) (pa_cons (pv 4) (pa_cons (pv 5) pa_nil))))) pss_nil)
      (pss_cons (ps_if (pt_cmpR (op_eqD hr.units) (pv 5) (pe_glob rfl h_ZERO rfl (v:=V.ref a_ZERO)) (nomark _)) (pss_one (ps_ret pe_non)) pss_nil)
      (pss_one (ps_ret (pe_can c_over (hr.mono (by decide)) (pa_cons (pv 4) (pa_cons (pv 5) pa_nil))))))))))))))),?_⟩
    have lt:∀ {i:Nat},i<rs.length→Vagraa.weight (at_ rs i)≤200:=fun hi=>hLt _ (List.mem_of_getElem? (at_get hi))
    have sm:∀ {i:Nat} {b:Addr},i<rs.length→IsF K H b (at_ rs i)→Sm (at_ rs i):=fun hi hf=>lightS hf.wf (lt hi) (by decide)
    obtain ⟨r,rfl⟩:=hT.head
    refine ⟨_,rfl,_,_,_,_,rfl,rfl,hns,atc0,?_⟩
    cases l with
    | input k=>
      cases (show (0:Int)::r=[0,(k:Int)] from hT)
      have hk:k<ps.length:=by simpa [inOk] using hin
      obtain ⟨as,b,h1,h2,h3⟩:=hPt.at hk
      refine ⟨_,rfl,rfl,_,rfl,iteBT rfl ?_⟩
      refine ⟨_,rfl,_,rfl,_,_,_,_,rfl,rfl,hns,atc1,_,_,_,_,rfl,rfl,SqL.of h1,atN rfl h2,?_⟩
      exact qS _ _ _ (Same.refl H) rfl h3
    | num x=>
      obtain ⟨n,d,e,hd,rfl⟩:=hT
      cases e
      refine ⟨_,rfl,rfl,_,rfl,iteBF rfl ?_⟩
      refine ⟨_,rfl,rfl,_,rfl,iteBT rfl ?_⟩
      refine ⟨_,rfl,_,_,_,_,rfl,rfl,hns,atc1,_,rfl,_,_,_,_,rfl,rfl,hns,atc2,_,_,rfl,by omega,fun p hp => ?_⟩
      exact qS _ _ _ (Same.new hp) rfl (IsF.new (frac_wf _ (by omega)))
    | neg i=>
      cases (show (6:Int)::r=[6,(i:Int)] from hT)
      obtain ⟨as,b,h1,h2,h3⟩:=hR.at (hu i (by simp [VagraLine.Line.uses]))
      refine ⟨_,rfl,rfl,_,rfl,iteBF rfl ?_⟩
      refine ⟨_,rfl,rfl,_,rfl,iteBF rfl ?_⟩
      refine ⟨_,rfl,_,rfl,_,_,_,_,rfl,rfl,hns,atc1,_,_,_,_,rfl,rfl,SqL.of h1,atN rfl h2,?_⟩
      refine ⟨_,rfl,rfl,_,rfl,iteBT rfl ?_⟩
      refine ⟨_,rfl,_,_,rfl,h3,fun p hp => ?_⟩
      exact qS _ _ _ (Same.new hp) rfl (IsF.new (neg_wf h3.wf))
    | add i j=>
      cases (show (2:Int)::r=[2,(i:Int),(j:Int)] from hT)
      have hi:=hu i (by simp [VagraLine.Line.uses])
      have hj:=hu j (by simp [VagraLine.Line.uses])
      obtain ⟨as,b,h1,h2,h3⟩:=hR.at hi
      obtain ⟨as',b',h1',h2',h3'⟩:=hR.at hj
      refine ⟨_,rfl,rfl,_,rfl,iteBF rfl ?_⟩
      refine ⟨_,rfl,rfl,_,rfl,iteBF rfl ?_⟩
      refine ⟨_,rfl,_,rfl,_,_,_,_,rfl,rfl,hns,atc1,_,_,_,_,rfl,rfl,SqL.of h1,atN rfl h2,?_⟩
      refine ⟨_,rfl,rfl,_,rfl,iteBF rfl ?_⟩
      refine ⟨_,rfl,_,rfl,_,_,_,_,rfl,rfl,hns,atc2,_,_,_,_,rfl,rfl,SqL.of h1',atN rfl h2',?_⟩
      refine ⟨_,rfl,rfl,_,rfl,iteBT rfl ?_⟩
      refine ⟨_,rfl,_,rfl,_,_,_,_,rfl,h3,h3',sm hi h3,sm hj h3',fun p hp => ?_⟩
      exact qS _ _ _ (Same.new hp) rfl (IsF.new (add_wf h3.wf h3'.wf))
    | sub i j=>
      cases (show (3:Int)::r=[3,(i:Int),(j:Int)] from hT)
      have hi:=hu i (by simp [VagraLine.Line.uses])
      have hj:=hu j (by simp [VagraLine.Line.uses])
      obtain ⟨as,b,h1,h2,h3⟩:=hR.at hi
      obtain ⟨as',b',h1',h2',h3'⟩:=hR.at hj
      refine ⟨_,rfl,rfl,_,rfl,iteBF rfl ?_⟩
      refine ⟨_,rfl,rfl,_,rfl,iteBF rfl ?_⟩
      refine ⟨_,rfl,_,rfl,_,_,_,_,rfl,rfl,hns,atc1,_,_,_,_,rfl,rfl,SqL.of h1,atN rfl h2,?_⟩
      refine ⟨_,rfl,rfl,_,rfl,iteBF rfl ?_⟩
      refine ⟨_,rfl,_,rfl,_,_,_,_,rfl,rfl,hns,atc2,_,_,_,_,rfl,rfl,SqL.of h1',atN rfl h2',?_⟩
      refine ⟨_,rfl,rfl,_,rfl,iteBF rfl ?_⟩
      refine ⟨_,rfl,rfl,_,rfl,iteBT rfl ?_⟩
      refine ⟨_,rfl,_,rfl,_,_,_,_,rfl,h3,h3',sm hi h3,sm hj h3',fun H' p s1 hf => ?_⟩
      exact qS _ _ _ s1 rfl hf
    | mul i j=>
      cases (show (4:Int)::r=[4,(i:Int),(j:Int)] from hT)
      have hi:=hu i (by simp [VagraLine.Line.uses])
      have hj:=hu j (by simp [VagraLine.Line.uses])
      obtain ⟨as,b,h1,h2,h3⟩:=hR.at hi
      obtain ⟨as',b',h1',h2',h3'⟩:=hR.at hj
      refine ⟨_,rfl,rfl,_,rfl,iteBF rfl ?_⟩
      refine ⟨_,rfl,rfl,_,rfl,iteBF rfl ?_⟩
      refine ⟨_,rfl,_,rfl,_,_,_,_,rfl,rfl,hns,atc1,_,_,_,_,rfl,rfl,SqL.of h1,atN rfl h2,?_⟩
      refine ⟨_,rfl,rfl,_,rfl,iteBF rfl ?_⟩
      refine ⟨_,rfl,_,rfl,_,_,_,_,rfl,rfl,hns,atc2,_,_,_,_,rfl,rfl,SqL.of h1',atN rfl h2',?_⟩
      refine ⟨_,rfl,rfl,_,rfl,iteBF rfl ?_⟩
      refine ⟨_,rfl,rfl,_,rfl,iteBF rfl ?_⟩
      refine ⟨_,rfl,rfl,_,rfl,iteBT rfl ?_⟩
      refine ⟨_,rfl,_,rfl,_,_,_,_,rfl,h3,h3',sm hi h3,sm hj h3',fun p hp => ?_⟩
      exact qS _ _ _ (Same.new hp) rfl (IsF.new (mul_wf h3.wf h3'.wf))
    | div i j=>
      cases (show (5:Int)::r=[5,(i:Int),(j:Int)] from hT)
      have hi:=hu i (by simp [VagraLine.Line.uses])
      have hj:=hu j (by simp [VagraLine.Line.uses])
      obtain ⟨as,b,h1,h2,h3⟩:=hR.at hi
      obtain ⟨as',b',h1',h2',h3'⟩:=hR.at hj
      refine ⟨_,rfl,rfl,_,rfl,iteBF rfl ?_⟩
      refine ⟨_,rfl,rfl,_,rfl,iteBF rfl ?_⟩
      refine ⟨_,rfl,_,rfl,_,_,_,_,rfl,rfl,hns,atc1,_,_,_,_,rfl,rfl,SqL.of h1,atN rfl h2,?_⟩
      refine ⟨_,rfl,rfl,_,rfl,iteBF rfl ?_⟩
      refine ⟨_,rfl,_,rfl,_,_,_,_,rfl,rfl,hns,atc2,_,_,_,_,rfl,rfl,SqL.of h1',atN rfl h2',?_⟩
      refine ⟨_,rfl,rfl,_,rfl,iteBF rfl ?_⟩
      refine ⟨_,rfl,rfl,_,rfl,iteBF rfl ?_⟩
      refine ⟨_,rfl,rfl,_,rfl,iteBF rfl ?_⟩
      refine ⟨_,rfl,_,_,dpF h3'.at_,.tup (i_ZERO _) (.cons (.int _) (.cons (.int _) .nil)),rfl,rfl,_,rfl,?_⟩
      have ev:=eqv_zero h3'.wf
      by_cases hz:Vagraa.isZero (at_ rs j)=true
      · refine iteBT (by rw [ev]; exact hz) ?_
        refine qN _ (Same.refl H) ?_
        show (if Vagraa.isZero (at_ rs j)=true then none else _)=none
        rw [if_pos hz]
      · refine iteBF (by rw [ev]; simpa using hz) ?_
        have hn:(at_ rs j).num≠0:=by simpa [Vagraa.isZero] using hz
        refine ⟨_,rfl,_,rfl,_,_,_,_,rfl,h3,h3',hn,sm hi h3,sm hj h3',fun H' p s1 hf => ?_⟩
        refine qS _ _ _ s1 ?_ hf
        show (if Vagraa.isZero (at_ rs j)=true then none else some _)=some _
        rw [if_neg hz]
end
end Ts
end
section
set_option maxRecDepth 100000
set_option maxHeartbeats 2000000
namespace Ts
open PySem PySem.Spec PyProof.Rows L2
open Vagraa (Frac)
open VagraLine (Line at_)
theorem runFrom_step {ps vs:List Frac} {c:List Line} {i:Nat} {l:Line} (h:c[i]? = some l):VagraLine.runFrom (some 200) ps vs (c.drop i)=match l.value ps vs with
    | none => .error ⟨vs.length,1⟩
    | some a=>if 200<Vagraa.weight a then .error ⟨vs.length,2⟩ else VagraLine.runFrom (some 200) ps (vs++[a]) (c.drop (i+1)):=by
  obtain ⟨hi,e⟩:=List.getElem?_eq_some_iff.mp h
  rw [List.drop_eq_getElem_cons hi,e]
  rw [VagraLine.runFrom]
  cases l.value ps vs with
  | none=>rfl
  | some a=>
    show (if decide (200<Vagraa.weight a)=true then _ else _)=(if 200<Vagraa.weight a then _ else _)
    by_cases hw:200<Vagraa.weight a
    · rw [if_pos (by simpa using hw),if_pos hw]
    · rw [if_neg (by simpa using hw),if_neg hw]
def RunIs (ps:List Frac) (c:List Line) (k:Int) (fs:List Frac):Prop:=match VagraLine.run (some 200) ps c with
  | .ok vs=>k=0∧fs=vs
  | .error e=>k=(e.kind:Int)∧fs.length=e.line∧k≠0
theorem run_ok:∀ {ps:List Frac} (r:List Line) (pre vs:List Frac),VagraLine.runFrom (some 200) ps pre r = .ok vs→Light pre→Light vs∧vs.length=pre.length+r.length∧vs.take pre.length=pre ∧
    ∀ (i:Nat) (l:Line),r[i]? = some l→l.value ps (vs.take (pre.length+i))=some (at_ vs (pre.length+i))
  | ps,[],pre,vs,h,hL=>by
    have e:pre=vs:=Except.ok.inj h
    subst e
    exact ⟨hL,by simp,List.take_length,fun i l hi=>by simp at hi⟩
  | ps,l::r,pre,vs,h,hL=>by
    have st:=runFrom_step (ps:=ps) (vs:=pre) (c:=l::r) (i:=0) (l:=l) rfl
    rw [List.drop_zero,h] at st
    cases e:l.value ps pre with
    | none=>rw [e] at st; cases st
    | some a=>
      rw [e] at st
      simp only at st
      by_cases hw:200<Vagraa.weight a
      · rw [if_pos hw] at st; cases st
      · rw [if_neg hw] at st
        have hL2:Light (pre++[a]):=fun f hf=>by
          rcases List.mem_append.mp hf with q | q
          · exact hL f q
          · have:f=a:=by simpa using q
            subst this
            omega
        obtain ⟨h1,h2,h3,h4⟩:=run_ok r (pre++[a]) vs st.symm hL2
        have hlen:(pre++[a]).length=pre.length+1:=by simp
        rw [hlen] at h2 h3 h4
        have h5:vs.take pre.length=pre:=by
          have:=congrArg (List.take pre.length) h3
          rw [List.take_take,Nat.min_eq_left (by omega),List.take_append_of_le_length (Nat.le_refl _),List.take_length] at this
          exact this
        refine ⟨h1,by simp only [List.length_cons]; omega,h5,fun i l' hi => ?_⟩
        cases i with
        | zero=>
          have:l=l':=by simpa using hi
          subst this
          rw [Nat.add_zero,h5,e]
          have:at_ vs pre.length=a:=by
            have g:vs[pre.length]? = some a:=by
              have:(vs.take (pre.length+1))[pre.length]? = (pre++[a])[pre.length]? := by rw [h3]
              rw [List.getElem?_take_of_lt (by omega)] at this
              rw [this]
              simp
            unfold VagraLine.at_
            rw [List.getD_eq_getElem?_getD,g]
            rfl
          rw [this]
        | succ i=>
          have:=h4 i l' (by simpa using hi)
          rw [show pre.length+1+i=pre.length+(i+1) by omega] at this
          exact this
section
variable {P:Program} {w:World} {K:PySem.W.Frag} {mg:Str→Option Value} {base:Heap}
abbrev st_run:Stmt:=top 41
theorem sc_run:FnScope ["lines","point","results","line","value"] ["lines","point"] (defScope st_run):=⟨rfl,rfl,rfl,by decide +kernel,rfl,by decide +kernel,by decide +kernel⟩
def spRun (K:PySem.W.Frag):Sp:=fun vs H Q _ => ∃ (l pl:Addr) (c:List Line) (ps:List Frac),vs=[.ref l,.ref pl]∧IsLns K H l c∧IsFs K H pl ps∧VagraLine.well ps.length c=true∧c.length≤1000000 ∧
  ∀ H' t rl k fs,Same H H'→H rl=none→SqT K H' t [.int k,.ref rl]→IsFs K H' rl fs→RunIs ps c k fs→Q (.ref t) H'
theorem can_run (T:Txt K mg) (S:Src K mg "run" st_run ["lines","point"]) (c_line_value:Can P w K mg base 47 "line_value" ["line","results","point"] (spLineValue K)) (c_weight:Can P w K mg base 43 "weight" ["fraction"] (spWeight K)) :
    Can P w K mg base 49 "run" ["lines","point"] (spRun K):=by
  refine S.can sc_run (fun vs H Q E h => ?_) (fun f cdv A outer s H vs Q E hr h => ?_)
  · obtain ⟨l,pl,c,ps,rfl,_⟩:=h
    rfl
  · obtain ⟨l,pl,c,ps,rfl,⟨as,hl,hp⟩,hPt,hw,hcl,q⟩:=h
    refine ⟨_,(pss_cons (ps_set (i:=2) sc_run.nd rfl (Or.inl rfl) (pe_lst pa_nil))
      (pss_cons (ps_for PassesOwn.never rfl (pi_list (pv 0)) (pg_name (i:=3) sc_run.nd rfl (Or.inl rfl)) (pss_cons (ps_set (i:=4) sc_run.nd rfl (Or.inl rfl) (pe_can c_line_value (hr.mono (by decide)) (pa_cons (pv 3) (pa_cons (pv 2) (pa_cons (pv 1) pa_nil)))))
      (pss_cons (ps_if (pt_cmpR op_isN (pv 4) pe_non (nomark _)) (pss_one (ps_ret (pe_tup (pa_cons (pe_gc T.c_DIVISION_BY_ZERO) (pa_cons (pv 2) pa_nil))))) pss_nil)
      (pss_cons (ps_if (pt_cmpR op_gt (pe_can c_weight (hr.mono (by decide)) (pa_cons (pv 4) pa_nil)) (pe_gc T.c_MOST_VALUE_WEIGHT) (nomark _)) (pss_one (ps_ret (pe_tup (pa_cons (pe_gc T.c_VALUE_TOO_HEAVY) (pa_cons (pv 2) pa_nil))))) pss_nil)
      (pss_one (ps_expr (pe_bm PySem.F.plainAttrs_list PySem.F.slot_list_append PySem.F.type_list_append mt_append (pv 2) (pa_cons (pv 4) pa_nil))))))))
      (pss_one (ps_ret (pe_tup (pa_cons (pe_gc T.c_NO_FAULT) (pa_cons (pv 2) pa_nil))))))),?_⟩
    have hlen:=Paired.length hp
    refine ⟨Nat.zero_le _,fun rl hrl => ?_⟩
    refine ⟨_,rfl,_,rfl,⟨_,SqL.of (Same.new hrl _ _ hl)⟩,for_list (K:=K) (a:=l) (xs:=as.map V.ref) (fun i σ H' => ∃ (v3 v4:Option V) (rs:List Frac),σ=[some (.ref l),some (.ref pl),some (.ref rl),v3,v4]∧Same H H'∧IsFs K H' rl rs∧rs.length=i∧Light rs∧VagraLine.run (some 200) ps c=VagraLine.runFrom (some 200) ps rs (c.drop i))
      ⟨none,none,[],rfl,Same.new hrl,⟨[],upd_same,.nil⟩,rfl,fun f hf=>by simp at hf,rfl⟩ (fun i σ H' _ ⟨_,_,_,_,s1,_⟩=>SqL.of (s1 _ _ hl)) ?_ ?_⟩
    · rintro i x σ H1 hx ⟨v3,v4,rs,rfl,s1,hR,hi,hLt,hc⟩
      obtain ⟨a,hax,rfl⟩:=ofmap hx
      obtain ⟨ln,hln,hLn⟩:=pgetL hp hax
      have hstep:=runFrom_step (ps:=ps) (vs:=rs) hln
      obtain ⟨hu,hin⟩:=well_at hw hln
      refine ⟨_,rfl,_,rfl,_,rfl,a,rl,pl,ln,rs,ps,rfl,hLn.keep s1,hR,hPt.keep s1,hLt,(by rw [hi]; exact hu),hin,fun H2 s2 ev => ?_,fun H2 p v s2 ev hv => ?_⟩
      · refine ⟨_,rfl,rfl,_,rfl,iteBT rfl ?_⟩
        refine ⟨_,rfl,(by show 2≤sizeLine; decide),fun t ht => ?_⟩
        refine q _ t rl 1 rs (L2.Same.trans (s1.trans s2) (Same.new ht)) hrl (SqT.of upd_same) ((hR.keep s2).keep (Same.new ht)) ?_
        unfold RunIs
        rw [hc,hstep,ev]
        exact ⟨rfl,rfl,by decide⟩
      · refine ⟨_,rfl,rfl,_,rfl,iteBF rfl ?_⟩
        refine ⟨_,rfl,p,v,rfl,hv,_,_,rfl,rfl,_,rfl,?_⟩
        by_cases hwt:200<Vagraa.weight v
        · refine iteBT (by simp; omega) ?_
          refine ⟨_,rfl,(by show 2≤sizeLine; decide),fun t ht => ?_⟩
          refine q _ t rl 2 rs (L2.Same.trans (s1.trans s2) (Same.new ht)) hrl (SqT.of upd_same) ((hR.keep s2).keep (Same.new ht)) ?_
          unfold RunIs
          rw [hc,hstep,ev]
          simp only
          rw [if_pos hwt]
          exact ⟨rfl,rfl,by decide⟩
        · refine iteBF (by simp; omega) ?_
          obtain ⟨rs',hl3,hp3⟩:=hR.keep s2
          have hl4:=Paired.length hp3
          have hii:i<c.length:=(List.getElem?_eq_some_iff.mp hln).1
          refine ⟨_,rfl,.inl ⟨rfl,_,SqL.of hl3⟩,_,rfl,rl,_,_,rfl,rfl,hl3,?_,?_⟩
          · rw [List.length_map,hl4]
            exact line_lt (by omega)
          refine ⟨_,_,rs++[v],rfl,samePut hrl (s1.trans s2),⟨rs'++[p],by rw [upd_same,List.map_append]; rfl,?_⟩,by rw [List.length_append,hi]; rfl,?_,?_⟩
          · exact Paired.snoc (putF' hp3 hl3) (hv.put hl3)
          · intro f hf
            rcases List.mem_append.mp hf with z | z
            · exact hLt f z
            · have:f=v:=by simpa using z
              subst this
              omega
          · rw [hc,hstep,ev]
            simp only
            rw [if_neg hwt]
    · rintro σ H1 ⟨v3,v4,rs,rfl,s1,hR,hi,hLt,hc⟩
      rw [List.length_map,hlen] at hi
      refine ⟨_,rfl,(by show 2≤sizeLine; decide),fun t ht => ?_⟩
      refine q _ t rl 0 rs (L2.Same.trans s1 (Same.new ht)) hrl (SqT.of upd_same) (hR.keep (Same.new ht)) ?_
      unfold RunIs
      rw [hc,List.length_map,hlen,List.drop_length]
      exact ⟨rfl,rfl⟩
end
end Ts
end
section
set_option maxRecDepth 100000
set_option maxHeartbeats 2000000
namespace Ts
open PySem PySem.Spec PyProof.Rows L2
open Vagraa (Frac)
open VagraLine (Line at_)
theorem one_mul {g:Frac} (h:WF g):Vagraa.mul Vagraa.one g=g:=by
  refine (frac_of h (Nat.mul_pos (by decide) h.pos) ?_).symm
  show g.num*((1*g.den:Nat):Int)=1*g.num*g.den
  rw [Nat.one_mul,Int.one_mul]
def ownD (vs:List Frac) (v:Frac) (l:Line):List Frac:=(Vagraf.partials vs v l).map (·.2)
def IsTp (K:PySem.W.Frag) (H:Hp) (t:Addr) (tp:List (List Frac)):Prop:=∃ as:List Addr,H t=some (.lst (as.map V.ref))∧Paired (IsFs K H) as tp
def IsTpN (K:PySem.W.Frag) (H0 H:Hp) (t:Addr) (tp:List (List Frac)):Prop:=∃ as:List Addr,H t=some (.lst (as.map V.ref))∧Paired (IsFs K H) as tp∧∀ y∈as,H0 y=none
section
variable {K:PySem.W.Frag} {H H':Hp}
theorem keepFs {as:List Addr} {tp:List (List Frac)} (h:Paired (IsFs K H) as tp) (e:Same H H'):Paired (IsFs K H') as tp:=Paired.mapP h fun _ _ x=>x.keep e
theorem IsTp.keep {t:Addr} {tp:List (List Frac)} (h:IsTp K H t tp) (e:Same H H'):IsTp K H' t tp:=let ⟨as,h1,h2⟩:=h; ⟨as,e _ _ h1,keepFs h2 e⟩
end
section
variable {P:Program} {w:World} {K:PySem.W.Frag} {mg:Str→Option Value} {base:Heap}
abbrev st_own_derivatives:Stmt:=top 42
theorem sc_own_derivatives:FnScope ["line","value","results","kind","share"] ["line","value","results"] (defScope st_own_derivatives):=⟨rfl,rfl,rfl,by decide +kernel,rfl,by decide +kernel,by decide +kernel⟩
def spOwn (K:PySem.W.Frag):Sp:=fun vs H Q _ => ∃ (a b rl:Addr) (l:Line) (v:Frac) (rs:List Frac),vs=[.ref a,.ref b,.ref rl]∧IsLn K H a l∧IsF K H b v∧IsFs K H rl rs∧Vagraa.weight v≤200∧Light rs∧(∀ u∈l.uses,u<rs.length)∧(∀ i j,l = .div i j→(at_ rs j).num≠0) ∧
  ∀ H' p,Same H H'→H p=none→IsFs K H' p (ownD rs v l)→Q (.ref p) H'
theorem can_own_derivatives (T:Txt K mg) (S:Src K mg "own_derivatives" st_own_derivatives ["line","value","results"]) (c_inverse:Can P w K mg base 43 "inverse" ["fraction"] (spInverse K))
    (c_negative:Can P w K mg base 43 "negative" ["fraction"] (spNegative K)) (c_times:Can P w K mg base 43 "times" ["first","second"] (spTimes K)) :
    Can P w K mg base 45 "own_derivatives" ["line","value","results"] (spOwn K):=by
  obtain ⟨a_ONE,h_ONE,i_ONE⟩:=T.t_ONE
  obtain ⟨a_MINUS_ONE,h_MINUS_ONE,i_MINUS_ONE⟩:=T.t_MINUS_ONE
  refine S.can sc_own_derivatives (fun vs H Q E h => ?_) (fun f cdv A outer s H vs Q E hr h => ?_)
  · obtain ⟨a,b,rl,l,v,rs,rfl,_⟩:=h
    rfl
  · obtain ⟨a,b,rl,l,v,rs,rfl,⟨ns,hns,hT⟩,hv,hR,hwv,hLt,hu,hdv,q⟩:=h
    refine ⟨_,(pss_cons (ps_set (i:=3) sc_own_derivatives.nd rfl (Or.inl rfl) (pe_ix ix_tup (pv 0) pe_int (fun _ _=>rfl)))
      (pss_cons (ps_if (pt_cmpR op_eq (pv 3) (pe_gc T.c_SUM) (nomark _)) (pss_one (ps_ret (pe_lst (pa_cons (pe_glob rfl h_ONE rfl (v:=V.ref a_ONE)) (pa_cons (pe_glob rfl h_ONE rfl (v:=V.ref a_ONE)) pa_nil))))) pss_nil)
      (pss_cons (ps_if (pt_cmpR op_eq (pv 3) (pe_gc T.c_DIFFERENCE) (nomark _)) (pss_one (ps_ret (pe_lst (pa_cons (pe_glob rfl h_ONE rfl (v:=V.ref a_ONE)) (pa_cons (pe_glob rfl h_MINUS_ONE rfl (v:=V.ref a_MINUS_ONE)) pa_nil))))) pss_nil)
      (pss_cons (ps_if (pt_cmpR op_eq (pv 3) (pe_gc T.c_PRODUCT) (nomark _)) (pss_one (ps_ret (pe_lst (pa_cons (pe_ix ix_list (pv 2) (pe_ix ix_tup (pv 0) pe_int (fun _ _=>rfl)) (fun _ _=>rfl)) (pa_cons (pe_ix ix_list (pv 2) (pe_ix ix_tup (pv 0) pe_int (fun _ _=>rfl)) (fun _ _=>rfl)) pa_nil))))) pss_nil)
      (pss_cons (ps_if (pt_cmpR op_eq (pv 3) (pe_gc T.c_QUOTIENT) (nomark _)) (pss_cons (ps_set (i:=4) sc_own_derivatives.nd rfl (Or.inl rfl) (pe_can c_inverse (hr.mono (by decide)) (pa_cons (pe_ix ix_list (pv 2) (pe_ix ix_tup (pv 0) pe_int (fun _ _=>rfl)) (fun _ _=>rfl)) pa_nil)))
      (pss_one (ps_ret (pe_lst (pa_cons (pv 4) (pa_cons (pe_can c_negative (hr.mono (by decide)) (pa_cons (pe_can c_times (hr.mono (by decide)) (pa_cons (pv 1) (pa_cons (pv 4) pa_nil))) pa_nil)) pa_nil)))))) pss_nil)
      (pss_cons (ps_if (pt_cmpR op_eq (pv 3) (pe_gc T.c_NEGATIVE) (nomark _)) (pss_one (ps_ret (pe_lst (pa_cons (pe_glob rfl h_MINUS_ONE rfl (v:=V.ref a_MINUS_ONE)) pa_nil)))) pss_nil)
      (pss_one (ps_ret (pe_lst pa_nil))))))))),?_⟩
    have lt:∀ {i:Nat},i<rs.length→Vagraa.weight (at_ rs i)≤200:=fun hi=>hLt _ (List.mem_of_getElem? (at_get hi))
    have sm:∀ {i:Nat} {b:Addr},i<rs.length→IsF K H b (at_ rs i)→Sm (at_ rs i):=fun hi hf=>lightS hf.wf (lt hi) (by decide)
    have one:∀ H,IsF K H a_ONE Vagraa.one:=fun H=>⟨i_ONE H,one_wf⟩
    have mone:∀ H,IsF K H a_MINUS_ONE (Vagraa.neg Vagraa.one):=fun H=>⟨i_MINUS_ONE H,neg_wf one_wf⟩
    obtain ⟨r,rfl⟩:=hT.head
    refine ⟨_,rfl,_,_,_,_,rfl,rfl,hns,atc0,?_⟩
    cases l with
    | add i j=>
      refine ⟨_,rfl,rfl,_,rfl,iteBT rfl ⟨(by show 2≤sizeLine; decide),fun p hp => ?_⟩⟩
      exact q _ p (Same.new hp) hp ⟨[a_ONE,a_ONE],upd_same,.cons (one _) (.cons (one _) .nil)⟩
    | sub i j=>
      refine ⟨_,rfl,rfl,_,rfl,iteBF rfl ?_⟩
      refine ⟨_,rfl,rfl,_,rfl,iteBT rfl ⟨(by show 2≤sizeLine; decide),fun p hp => ?_⟩⟩
      exact q _ p (Same.new hp) hp ⟨[a_ONE,a_MINUS_ONE],upd_same,.cons (one _) (.cons (mone _) .nil)⟩
    | mul i j=>
      cases (show (4:Int)::r=[4,(i:Int),(j:Int)] from hT)
      obtain ⟨as,b1,h1,h2,h3⟩:=hR.at (hu i (by simp [VagraLine.Line.uses]))
      obtain ⟨as',b2,h1',h2',h3'⟩:=hR.at (hu j (by simp [VagraLine.Line.uses]))
      refine ⟨_,rfl,rfl,_,rfl,iteBF rfl ?_⟩
      refine ⟨_,rfl,rfl,_,rfl,iteBF rfl ?_⟩
      refine ⟨_,rfl,rfl,_,rfl,iteBT rfl ?_⟩
      refine ⟨_,rfl,_,rfl,_,_,_,_,rfl,rfl,hns,atc2,_,_,_,_,rfl,rfl,SqL.of h1',atN rfl h2',_,rfl,_,rfl,_,_,_,_,rfl,rfl,hns,atc1,_,_,_,_,rfl,rfl,SqL.of h1,atN rfl h2,(by show 2≤sizeLine; decide),fun p hp => ?_⟩
      exact q _ p (Same.new hp) hp ⟨[b2,b1],upd_same,.cons (h3'.keep (Same.new hp)) (.cons (h3.keep (Same.new hp)) .nil)⟩
    | div i j=>
      cases (show (5:Int)::r=[5,(i:Int),(j:Int)] from hT)
      have hj:=hu j (by simp [VagraLine.Line.uses])
      obtain ⟨as',b2,h1',h2',h3'⟩:=hR.at hj
      have hn:=hdv i j rfl
      refine ⟨_,rfl,rfl,_,rfl,iteBF rfl ?_⟩
      refine ⟨_,rfl,rfl,_,rfl,iteBF rfl ?_⟩
      refine ⟨_,rfl,rfl,_,rfl,iteBF rfl ?_⟩
      refine ⟨_,rfl,rfl,_,rfl,iteBT rfl ?_⟩
      refine ⟨_,rfl,_,rfl,_,_,_,_,rfl,rfl,hns,atc2,_,_,_,_,rfl,rfl,SqL.of h1',atN rfl h2',_,_,rfl,h3',hn,fun p1 hp1 => ?_⟩
      have s1:=Same.new (o:=.tup (tupF (Vagraa.inv (at_ rs j)))) hp1
      have fI:IsF K (upd H p1 (.tup (tupF (Vagraa.inv (at_ rs j))))) p1 (Vagraa.inv (at_ rs j)):=IsF.new (inv_wf h3'.wf)
      refine ⟨_,rfl,_,rfl,_,rfl,_,_,_,_,rfl,hv.keep s1,fI,lightS hv.wf hwv (by decide),invS (sm hj h3'),fun p2 hp2 => ?_⟩
      have s2:=Same.new (o:=.tup (tupF (Vagraa.mul v (Vagraa.inv (at_ rs j))))) hp2
      refine ⟨_,_,rfl,IsF.new (mul_wf hv.wf (inv_wf h3'.wf)),fun p3 hp3 => ?_⟩
      have s3:=Same.new (o:=.tup (tupF (Vagraa.neg (Vagraa.mul v (Vagraa.inv (at_ rs j)))))) hp3
      refine ⟨(by show 2≤sizeLine; decide),fun p hp => ?_⟩
      have s4:=Same.new (o:=.lst [V.ref p1,V.ref p3]) hp
      refine q _ p (((s1.trans s2).trans s3).trans s4) (((s1.trans s2).trans s3).free hp) ⟨[p1,p3],upd_same,?_⟩
      have e:ownD rs v (.div i j)=[Vagraa.inv (at_ rs j),Vagraa.neg (Vagraa.mul v (Vagraa.inv (at_ rs j)))]:=by
        show [Vagraa.mul Vagraa.one (Vagraa.inv (at_ rs j)),_]=_
        rw [one_mul (inv_wf h3'.wf)]
        rfl
      rw [e]
      exact .cons (((fI.keep s2).keep s3).keep s4) (.cons ((IsF.new (neg_wf (mul_wf hv.wf (inv_wf h3'.wf)))).keep s4) .nil)
    | neg i=>
      refine ⟨_,rfl,rfl,_,rfl,iteBF rfl ?_⟩
      refine ⟨_,rfl,rfl,_,rfl,iteBF rfl ?_⟩
      refine ⟨_,rfl,rfl,_,rfl,iteBF rfl ?_⟩
      refine ⟨_,rfl,rfl,_,rfl,iteBF rfl ?_⟩
      refine ⟨_,rfl,rfl,_,rfl,iteBT rfl ⟨(by show 1≤sizeLine; decide),fun p hp => ?_⟩⟩
      exact q _ p (Same.new hp) hp ⟨[a_MINUS_ONE],upd_same,.cons (mone _) .nil⟩
    | input k=>
      refine ⟨_,rfl,rfl,_,rfl,iteBF rfl ?_⟩
      refine ⟨_,rfl,rfl,_,rfl,iteBF rfl ?_⟩
      refine ⟨_,rfl,rfl,_,rfl,iteBF rfl ?_⟩
      refine ⟨_,rfl,rfl,_,rfl,iteBF rfl ?_⟩
      refine ⟨_,rfl,rfl,_,rfl,iteBF rfl ⟨Nat.zero_le _,fun p hp => ?_⟩⟩
      exact q _ p (Same.new hp) hp ⟨[],upd_same,.nil⟩
    | num x=>
      refine ⟨_,rfl,rfl,_,rfl,iteBF rfl ?_⟩
      refine ⟨_,rfl,rfl,_,rfl,iteBF rfl ?_⟩
      refine ⟨_,rfl,rfl,_,rfl,iteBF rfl ?_⟩
      refine ⟨_,rfl,rfl,_,rfl,iteBF rfl ?_⟩
      refine ⟨_,rfl,rfl,_,rfl,iteBF rfl ⟨Nat.zero_le _,fun p hp => ?_⟩⟩
      exact q _ p (Same.new hp) hp ⟨[],upd_same,.nil⟩
abbrev st_make_tape:Stmt:=top 43
theorem sc_make_tape:FnScope ["lines","results","line","value"] ["lines","results"] (defScope st_make_tape):=⟨rfl,rfl,rfl,by decide +kernel,rfl,by decide +kernel,by decide +kernel⟩
def tapeD (c:List Line) (vs:List Frac):List (List Frac):=(c.zip vs).map fun x=>ownD vs x.2 x.1
def spTape (K:PySem.W.Frag):Sp:=fun vs H Q _ => ∃ (l rl:Addr) (c:List Line) (rs:List Frac),vs=[.ref l,.ref rl]∧IsLns K H l c∧IsFs K H rl rs∧c.length=rs.length∧c.length≤1000000∧Light rs∧(∀ x∈c,∀ u∈x.uses,u<rs.length)∧(∀ i j,VagraLine.Line.div i j∈c→(at_ rs j).num≠0) ∧
  ∀ H' p,Same H H'→H p=none→IsTpN K H H' p (tapeD c rs)→Q (.ref p) H'
theorem can_make_tape (T:Txt K mg) (S:Src K mg "make_tape" st_make_tape ["lines","results"]) (c_own_derivatives:Can P w K mg base 45 "own_derivatives" ["line","value","results"] (spOwn K)) :
    Can P w K mg base 47 "make_tape" ["lines","results"] (spTape K):=by
  refine S.can sc_make_tape (fun vs H Q E h => ?_) (fun f cdv A outer s H vs Q E hr h => ?_)
  · obtain ⟨l,rl,c,rs,rfl,_⟩:=h
    rfl
  · obtain ⟨l,rl,c,rs,rfl,⟨as,hl,hp⟩,⟨bs,hrl,hpr⟩,hcl,hcm,hLt,hu,hdv,q⟩:=h
    refine ⟨_,(pss_one (ps_ret (pe_lc (g:=(gTup K 2 (gCons (gName 2) (gCons (gName 3) gNil)))) (own:=[("line",2),("value",3)]) rfl sc_make_tape.nd (pi_zip rfl T.n_zip (pa_cons (pv 0) (pa_cons (pv 1) pa_nil))) (blkOk_by (N:=["lines","results","line","value"]) (sc:=defScope st_make_tape) (by decide +kernel)) (fun _ _ _ _ _=>(pg_tup rfl (pgs_cons (pg_name (i:=2) sc_make_tape.nd rfl (Or.inl rfl)) (pgs_cons (pg_name (i:=3) sc_make_tape.nd rfl (Or.inl rfl)) pgs_nil)))) (fun _ _ _ _ _=>pts_nil) (fun _ _ _ _ _=>(pe_can c_own_derivatives (hr.mono (by decide)) (pa_cons (pv 2) (pa_cons (pv 3) (pa_cons (pv 1) pa_nil)))))))),?_⟩
    have hla:=Paired.length hp
    have hlb:=Paired.length hpr
    refine ⟨_,rfl,_,rfl,_,_,_,_,rfl,SqL.of hl,SqL.of hrl,fun D hD => ?_⟩
    refine lc_zip (K:=K) (a:=l) (b:=rl) (xs:=as.map V.ref) (ys:=bs.map V.ref) (by rw [List.length_map,List.length_map]; omega)
      (fun i H'=>Same H H'∧∃ ds:List Addr,H' D=some (.lst (ds.map V.ref))∧Paired (IsFs K H') ds ((tapeD c rs).take i)∧D ∉ ds∧∀ y∈ds,H y=none)
      ⟨Same.new hD,[],upd_same,by simp; exact .nil,by simp,by simp⟩ (fun i H' _ ⟨s1,_⟩=>⟨SqL.of (s1 _ _ hl),SqL.of (s1 _ _ hrl)⟩) ?_ ?_
    · rintro i x y Tp H1 hx hy ⟨s1,ds,hD1,hpd,hnd,hnn⟩ hT
      obtain ⟨a,ha,rfl⟩:=ofmap hx
      obtain ⟨b,hb,rfl⟩:=ofmap hy
      obtain ⟨ln,hln,hLn⟩:=pgetL hp ha
      obtain ⟨v,hv,hV⟩:=pgetL hpr hb
      have s2:Same H1 (upd H1 Tp (.tup [.ref a,.ref b])):=Same.new hT
      refine ⟨Tp,_,rfl,SqT.of upd_same,rfl,_,_,rfl,_,_,rfl,rfl,rfl,?_⟩
      unfold tYes
      refine iteBT rfl ?_
      have s12:=s1.trans s2
      refine ⟨_,rfl,_,rfl,_,rfl,a,b,rl,ln,v,rs,rfl,hLn.keep s12,hV.keep s12,IsFs.keep ⟨bs,hrl,hpr⟩ s12,hLt v (List.mem_of_getElem? hv),hLt,hu ln (List.mem_of_getElem? hln),(fun i' j' e=>hdv i' j' (by rw [← e]; exact List.mem_of_getElem? hln)),fun H2 p s3 hp0 hF => ?_⟩
      have s123:=s12.trans s3
      have hD2:=s3 _ _ (s2 _ _ hD1)
      have hpD:p≠D:=fun e=>by
        rw [e,s2 _ _ hD1] at hp0
        cases hp0
      have hdl:ds.length=i:=by
        have h1:=Paired.length hpd
        rw [List.length_take] at h1
        have h2:i<(tapeD c rs).length:=by
          unfold tapeD
          rw [List.length_map,List.length_zip]
          have:=(List.getElem?_eq_some_iff.mp hln).1
          omega
        omega
      have hii:=(List.getElem?_eq_some_iff.mp hln).1
      refine ⟨_,hD2,by rw [List.length_map,hdl]; exact line_lt (by omega),?_⟩
      have htp:(tapeD c rs)[i]? = some (ownD rs v ln):=by
        unfold tapeD
        rw [List.getElem?_map,List.getElem?_zip_eq_some (z:=(ln,v)) |>.mpr ⟨hln,hv⟩]
        rfl
      refine ⟨samePut hD s123,ds++[p],by rw [upd_same,List.map_append]; rfl,?_,by simp [hnd]; exact fun e=>hpD e.symm,fun y hy=>(List.mem_append.mp hy).elim (hnn y) fun z=>by rw [List.mem_singleton.mp z]; exact s12.free hp0⟩
      rw [take_snoc htp]
      have up:∀ {d:Addr} {fs:List Frac},d≠D→IsFs K H2 d fs→IsFs K (upd H2 D (.lst (ds.map V.ref++[V.ref p]))) d fs:=fun {d fs} hd ⟨as',e1,e2⟩=>⟨as',by rw [upd_ne hd]; exact e1,putF' e2 hD2⟩
      refine Paired.snoc ?_ (up hpD hF)
      have old:∀ (l1:List Addr) (l2:List (List Frac)),D ∉ l1→Paired (IsFs K H2) l1 l2→Paired (IsFs K (upd H2 D (.lst (ds.map V.ref++[V.ref p])))) l1 l2:=by
        intro l1 l2 hn hP
        induction hP with
        | nil=>exact .nil
        | cons h1 h2 ih=>
          simp only [List.mem_cons,not_or] at hn
          exact .cons (up (fun e=>hn.1 e.symm) h1) (ih hn.2)
      exact old _ _ hnd (keepFs (keepFs hpd s2) s3)
    · rintro H1 ⟨s1,ds,hD1,hpd,hnd,hnn⟩
      refine q H1 D s1 hD ⟨ds,hD1,?_,hnn⟩
      rw [List.length_map] at hpd
      rw [List.take_of_length_le (by unfold tapeD; rw [List.length_map,List.length_zip]; omega)] at hpd
      exact hpd
end
end Ts
end
section
set_option maxRecDepth 100000
set_option maxHeartbeats 2000000
namespace Ts
open PySem PySem.Spec PyProof.Rows L2
theorem paired_pt {α β:Type} {F:α→β→Prop}:∀ {xs:List α} {us:List β},xs.length=us.length→(∀ (i:Nat) x u,xs[i]? = some x→us[i]? = some u→F x u)→Paired F xs us
  | [],[],_,_ => .nil
  | x::xs,u::us,hl,h => .cons (h 0 x u rfl rfl) (paired_pt (by simpa using hl) fun i y z hy hz=>h (i+1) y z (by simpa using hy) (by simpa using hz))
  | [],_::_,hl,_=>by simp at hl
  | _::_,[],hl,_=>by simp at hl
theorem map_erase {α β:Type} (f:α→β):∀ (l:List α) (j:Nat),(l.eraseIdx j).map f=(l.map f).eraseIdx j
  | [],_=>rfl
  | _::_,0=>rfl
  | a::l,j+1=>by
    show f a::(l.eraseIdx j).map f=f a::(l.map f).eraseIdx j
    rw [map_erase f l j]
section
variable {X:Cx}
theorem cr_sortedA:CallR X (.builtin "sorted") (fun vs H Q => ∃ (a:Addr) (ns:List Int),vs=[V.ref a]∧SqL X.K H a (ns.map V.int)∧∀ (ns':List Int) (l:Addr),ns'.Perm ns→ns'.Pairwise (· ≤ ·)→H l=none→Q (.ref l) (upd H l (.lst (ns'.map V.int)))):=by
  intro pins s σ H vs us Q I r h
  obtain ⟨a,ns,rfl,hs,q⟩:=h
  obtain ⟨its,rv,hl,hz⟩:=I.list hs
  rw [Vals.ref1 r]
  have hi:=rv.ints
  rw [List.length_map] at hz
  refine PyProof.Rows.sorted_intsAny hl.isList hi (by rw [hi.length]; exact hz) fun out ns' h1 h2 h3 => ?_
  obtain ⟨ep,he'⟩:=PyProof.Rows.sortedAll_at s.heap its out
  have hlen:(ns'.map V.int).length≤sizeLine:=by rw [List.length_map,h2.length_eq]; exact hz
  have I2:=I.laid (t':=s.toks) (fun _ _=>PyProof.Rows.sortedAll_old) (Nat.le_succ _) (o:=.lst (ns'.map V.int)) ⟨hlen,out.toList,ep,vals_of_ints h1,he'⟩
  exact ⟨.ref _,_,I2,rfl,q ns' _ h2 h3 (I.hok.fresh (Nat.le_succ _))⟩
theorem call_listD (hc:X.calm=true):CallR X (.type "list") (fun xs H Q => ∃ a kvs,xs=[V.ref a]∧H a=some (.dK kvs)∧∀ l,H l=none→Q (.ref l) (upd H l (.lst (kvs.map fun kv=>kV kv.1)))):=by
  intro pins s σ H xs us Q I r h
  obtain ⟨a,kvs,rfl,hd,q⟩:=h
  obtain ⟨z,lo,vs,kv,o,es,ep,ho,hx,hdt,rr⟩:=dk_of I.hok hd
  have hlen:kvs.length=vs.length:=Paired.length kv
  rw [Vals.ref1 r]
  have hm:s.heap.DictAt (mixKind X.prog X.w) a vs ep:=⟨o,es,ho,hx,hdt,rr⟩
  refine PySem.W.kdl_call (PySem.W.kdl_dict (knd:=mixKind X.prog X.w) (kvs:=vs) (ep:=ep) lo) (I.ok.hd hc) hm (by omega) fun h' tk acc c hk hS hI => ?_
  have hv:Vals (kvs.map fun kv=>kV kv.1) acc.toList:=by
    refine paired_pt ?_ fun i x u hx' hu => ?_
    · have h1:=hI.1
      rw [List.length_map]
      show kvs.length=acc.toList.length
      rw [show acc.toList.length=acc.size from Array.length_toList,h1,hlen]
    · rw [List.getElem?_map] at hx'
      cases e:kvs[i]? with
      | none=>rw [e] at hx'; cases hx'
      | some p=>
        obtain ⟨k,v⟩:=p
        rw [e] at hx'
        cases hx'
        obtain ⟨k2,x2,h1,h2⟩:=hI.2 i u (by rw [← Array.getElem?_toList]; exact hu)
        obtain ⟨u2,h3,_⟩:=kv_get kv e
        rw [h3] at h1
        cases h1
        exact relV_key h2
  have I2:=I.laid (t':=tk) (a:=s.heap.objs.size) (o:=.lst (kvs.map fun kv=>kV kv.1)) hk (Nat.le_refl _) ⟨by rw [List.length_map]; exact z,acc.toList,c,hv,by rw [Array.toArray_toList]; exact hS⟩
  exact ⟨.ref _,_,I2,rfl,q _ I.fresh⟩
def vwO (v d:Addr):HO:=HO.ext fun h=>h.IsItemsView v d
theorem mt_items:MtR X "dict.items" (fun x xs H Q => ∃ d kvs,x = .ref d∧xs=[]∧H d=some (.dK kvs)∧∀ v,H v=none→Q (.ref v) (upd H v (vwO v d))):=by
  intro pins s σ H x xs v us Q I rx rxs h
  obtain ⟨d,kvs,rfl,rfl,hd,q⟩:=h
  cases rx
  cases rxs
  obtain ⟨z,lo,vs,kv,dd⟩:=dk_of I.hok hd
  refine call_meetsIn PySem.F.slot_dict_items dd.typeIs PySem.F.entry_dict_items (PySem.F.args_dict_items_1 _) (meets_dict_items (mixKind X.prog X.w) d lo) ⟨⟨vs,dd⟩,?_⟩
  have hg:(s.heap.push { cls:=.type "dict_items",data:=.fields #[.ref d] }).get? s.heap.objs.size=some { cls:=.type "dict_items",data:=.fields #[.ref d] }:=Heap.get?_push_size _ rfl
  have I2:=I.laid (t':=s.toks) (h':=s.heap.push { cls:=.type "dict_items",data:=.fields #[.ref d] }) (a:=s.heap.objs.size) (o:=vwO s.heap.objs.size d) (fun _ _ e=>Heap.get?_push_of_some _ e) (Nat.le_refl _)
    ⟨⟨_,hg,rfl,rfl⟩,⟨_,hg⟩,fun h1 h2 ⟨o,e1,e2⟩ hk=>⟨o,hk o e1,e2⟩⟩
  exact ⟨.ref _,_,I2,rfl,q _ I.fresh⟩
theorem Inv.many {pins:List (Addr×Obj)} {σ:L2.St} {H H':Hp} {s:Shared} {h':Heap} {t':Nat} (I:Inv X pins σ H s) (k:∀ b u,s.heap.get? b=some u→h'.get? b=some u) (hold:∀ b,b<s.heap.objs.size→H' b=H b)
    (new:∀ b o,s.heap.objs.size≤b→H' b=some o→ObjOk X.prog X.w H' h' b o):Inv X pins σ H' { s with heap:=h',toks:=t' }:=by
  have lt:∀ b o,H b=some o→H' b=some o:=fun b o e=>by rw [hold b (I.hok.lt e)]; exact e
  refine I.un ⟨fun b u q _ _ _=>k b u q,fun b u q _ _ _=>⟨u.slots,k b u q⟩,fun b u q n _=>by rw [hold b (Heap.lt_size q)]; exact n,fun b u q _=>⟨u,k b u q⟩,fun b xs q=>lt _ _ q,fun b o u q=>lt _ _ q,fun b ps q=>⟨#[],by rw [lt _ _ q]; simp⟩⟩ fun b o e => ?_
  by_cases hb:b<s.heap.objs.size
  · rw [hold b hb] at e
    exact (I.hok b o e).stay (fun c u _ q=>k c u q) (fun c q=>lt _ _ q) fun c xs q=>lt _ _ q
  · exact new b o (Nat.le_of_not_lt hb) e
theorem call_listV (hc:X.calm=true):CallR X (.type "list") (fun xs H Q => ∃ v d kvs,xs=[V.ref v]∧H v=some (vwO v d)∧H d=some (.dK kvs)∧∀ H' l as,Same H H'→H l=none→(∀ a∈as,H a=none)→H' l=some (.lst (as.map V.ref))→Paired (fun a kv=>H' a=some (.tup [kV kv.1,kv.2])) as kvs→Q (.ref l) H'):=by
  intro pins s σ H xs us Q I r h
  obtain ⟨v,d,kvs,rfl,hv,hd,q⟩:=h
  obtain ⟨z,lo,vs,kv,o,es,ep,ho,hx,hdt,rr⟩:=dk_of I.hok hd
  have hlen:kvs.length=vs.length:=Paired.length kv
  obtain ⟨hview,_,_⟩:=I.hok v _ hv
  rw [Vals.ref1 r]
  have hm:s.heap.DictAt (mixKind X.prog X.w) d vs ep:=⟨o,es,ho,hx,hdt,rr⟩
  refine PySem.W.kdx_call (knd:=mixKind X.prog X.w) (d:=d) (kvs:=vs) (ep:=ep) (I.ok.hd hc) hview hm (by omega) fun h' tk acc c as hk hS hal hG hacc => ?_
  have nd:as.Nodup:=hG.rise.imp fun h=>Nat.ne_of_lt h
  have hl0:s.heap.objs.size ∉ as:=fun hm'=>absurd (hG.above _ hm') (Nat.lt_irrefl _)
  obtain ⟨F,hF1,hF2⟩:∃ F:Addr→Option HO,(∀ (j:Nat) a kv,as[j]? = some a→kvs[j]? = some kv→F a=some (.tup [kV kv.1,kv.2]))∧∀ a o,F a=some o→∃ (j:Nat) (kv:Key×V),as[j]? = some a∧kvs[j]? = some kv∧o = .tup [kV kv.1,kv.2]:=by
    refine ⟨fun a=>((as.zip kvs).find? fun p=>decide (p.1=a)).map fun p => .tup [kV p.2.1,p.2.2],fun j a kv' ha hkv => ?_,fun a o e => ?_⟩
    · have hz:(as.zip kvs)[j]? = some (a,kv'):=List.getElem?_zip_eq_some.mpr ⟨ha,hkv⟩
      cases e:(as.zip kvs).find? fun p=>decide (p.1=a) with
      | none=>
        have:=List.find?_eq_none.mp e (a,kv') (List.mem_of_getElem? hz)
        simp at this
      | some p=>
        obtain ⟨m,hmem⟩:=List.getElem?_of_mem (List.mem_of_find?_eq_some e)
        have hp1:p.1=a:=by simpa using List.find?_some e
        obtain ⟨p1,p2⟩:=p
        obtain ⟨h1,h2⟩:=List.getElem?_zip_eq_some.mp hmem
        simp only at hp1 h1 h2
        subst hp1
        have:=nd_ix nd h1 ha
        subst this
        rw [hkv] at h2
        cases h2
        show ((as.zip kvs).find? fun p=>decide (p.1=p1)).map (fun p=>HO.tup [kV p.2.1,p.2.2])=_
        rw [e]
        rfl
    · cases e2:(as.zip kvs).find? fun p=>decide (p.1=a) with
      | none=>simp only [e2] at e; cases e
      | some p=>
        simp only [e2] at e
        obtain ⟨m,hmem⟩:=List.getElem?_of_mem (List.mem_of_find?_eq_some e2)
        have hp1:p.1=a:=by simpa using List.find?_some e2
        obtain ⟨p1,p2⟩:=p
        obtain ⟨h1,h2⟩:=List.getElem?_zip_eq_some.mp hmem
        simp only at hp1 h1 h2
        subst hp1
        exact ⟨m,p2,h1,h2,(Option.some.inj e).symm⟩
  have Fnone:∀ a,a ∉ as→F a=none:=fun a ha=>by
    cases e:F a with
    | none=>rfl
    | some o=>
      obtain ⟨j,_,h1,_⟩:=hF2 a o e
      exact absurd (List.mem_of_getElem? h1) ha
  have hbig:∀ a∈as,s.heap.objs.size<a:=hG.above
  let H':Hp:=fun b=>if b=s.heap.objs.size then some (.lst (as.map V.ref)) else match F b with | some o=>some o | none=>H b
  have Hl:H' s.heap.objs.size=some (.lst (as.map V.ref)):=if_pos rfl
  have Ha:∀ (j:Nat) a kv,as[j]? = some a→kvs[j]? = some kv→H' a=some (.tup [kV kv.1,kv.2]):=fun j a kv' ha hkv=>by
    show (if a=s.heap.objs.size then _ else match F a with | some o=>some o | none=>H a)=_
    rw [if_neg (Nat.ne_of_gt (hbig a (List.mem_of_getElem? ha))),hF1 j a kv' ha hkv]
  have Hold:∀ b,b<s.heap.objs.size→H' b=H b:=fun b hb=>by
    show (if b=s.heap.objs.size then _ else match F b with | some o=>some o | none=>H b)=_
    rw [if_neg (Nat.ne_of_lt hb),Fnone b fun hm'=>absurd (hbig b hm') (by omega)]
  have I2:Inv X pins σ H' { s with heap:=h',toks:=tk }:=by
    refine Inv.many I hk Hold fun b o' hb e => ?_
    by_cases hbl:b=s.heap.objs.size
    · subst hbl
      rw [Hl] at e
      cases e
      refine ⟨by rw [List.length_map,hal]; omega,acc.toList,c,?_,by rw [Array.toArray_toList]; exact hS⟩
      rw [hacc]
      refine paired_pt (by rw [List.length_map,List.length_map]) fun i x u hx' hu => ?_
      rw [List.getElem?_map] at hx' hu
      cases e:as[i]? with
      | none=>rw [e] at hx'; cases hx'
      | some a=>rw [e] at hx' hu; cases hx'; cases hu; rfl
    · have e':(match F b with | some o=>some o | none=>H b)=some o':=by
        have:=e
        rwa [show H' b=(match F b with | some o=>some o | none=>H b) from if_neg hbl] at this
      cases ef:F b with
      | none=>
        rw [ef] at e'
        rw [I.hok.fresh hb] at e'
        cases e'
      | some o2=>
        rw [ef] at e'
        cases e'
        obtain ⟨j,kv',h1,h2,rfl⟩:=hF2 b _ ef
        obtain ⟨key,k2,x2,g1,g2,g3⟩:=hG.pairs j b h1
        obtain ⟨u2,g4,g5⟩:=kv_get kv (k:=kv'.1) (v:=kv'.2) h2
        rw [g4] at g1
        cases g1
        exact ⟨by show 2≤sizeLine; decide,[key,_],.cons (relV_key g2) (.cons g5 .nil),⟨_,g3,rfl,_,rfl⟩⟩
  refine ⟨.ref _,H',I2,rfl,q H' _ as (fun b o e=>by rw [Hold b (I.hok.lt e)]; exact e) I.fresh (fun a ha=>I.hok.fresh (Nat.le_of_lt (hbig a ha))) Hl (paired_pt (by omega) fun j a kv' ha hkv=>Ha j a kv' ha hkv)⟩
theorem mt_remove:MtM X "list.remove" (fun x vs H Q => ∃ (l:Addr) (ns:List Int) (z:Int) (j:Nat),x = .ref l∧vs=[.int z]∧H l=some (.lst (ns.map V.int))∧ns[j]? = some z∧(∀ m y,m<j→ns[m]? = some y→y≠z)∧Q .non (upd H l (.lst ((ns.eraseIdx j).map V.int)))):=by
  intro pins s σ H x vs v us Q I rx rv h
  obtain ⟨l,ns,z,j,rfl,rfl,hH,hj,hno,q⟩:=h
  cases rx
  obtain ⟨u,rfl,ru⟩:=rv.one
  obtain ⟨t,rfl⟩:=ru
  obtain ⟨hz,its,n,r,hl,e⟩:=I.lstM hH
  have hlen:=r.length
  rw [List.length_map] at hlen
  have ri:=r.ints
  have hjl:=(List.getElem?_eq_some_iff.mp hj).1
  have at_:∀ (m:Nat) (hm:m<its.toArray.size),∃ y t',ns[m]? = some y∧its.toArray[m] = .int y t':=fun m hm=>by
    have hm':m<its.length:=by simpa using hm
    have hmn:m<ns.length:=by omega
    obtain ⟨u,h1,t',h2⟩:=r.get (i:=m) (x:=V.int ns[m]) (by rw [List.getElem?_map,List.getElem?_eq_getElem hmn]; rfl)
    refine ⟨ns[m],t',List.getElem?_eq_getElem hmn,?_⟩
    obtain ⟨_,e2⟩:=List.getElem?_eq_some_iff.mp h1
    rw [← h2]
    simpa using e2
  have eqs:∀ y,y∈its.toArray→PySem.MeetsSeq.EqGives y (.int z t) (match y with | .int a _=>a == z | _=>false):=fun y hy=>by
    obtain ⟨m,hm,e2⟩:=Array.getElem_of_mem hy
    obtain ⟨y',t',_,h3⟩:=at_ m hm
    rw [← e2,h3]
    exact PySem.MeetsSeq.EqGives.int _ _ _ _
  refine call_meets PySem.F.slot_list_remove ⟨_,e,rfl⟩ PySem.F.entry_list_remove (PySem.F.args_list_remove_2 _ _)
    (PySem.MeetsSeq.list_remove l its.toArray n (.int z t) (fun y=>match y with | .int a _=>a == z | _=>false) eqs j (by simpa using (by omega:j<its.length)) ?_ ?_ (by rw [List.size_toArray]; rw [List.length_map] at hz; omega)) ⟨e,?_⟩
  · obtain ⟨y,t',h1,h2⟩:=at_ j (by simpa using (by omega:j<its.length))
    rw [h2]
    rw [hj] at h1
    cases h1
    show (z == z)=true
    simp
  · intro m hm hmj
    obtain ⟨y,t',h1,h2⟩:=at_ m hm
    rw [h2]
    have:=hno m y hmj h1
    show (y == z)=false
    simpa using this
  · refine ⟨.non,_,I.lset (its':=its.eraseIdx j) hH e (by simp) ?_ ?_,rfl,q⟩
    · rw [map_erase]
      exact r.eraseIdx j
    · rw [List.length_map,List.length_eraseIdx]
      rw [List.length_map] at hz
      split <;> omega
end
end Ts
end
section
set_option maxRecDepth 100000
set_option maxHeartbeats 2000000
namespace Ts
open PySem PySem.Spec PyProof.Rows L2
section
variable {X:Cx}
structure Bnd (K:PySem.W.Frag) (C:Addr) (m:Str) (f:Addr):Prop where
  me:Meth K C m f
  get:PySem.W.specialIn K (.ref f) "__get__" = some (some (.builtin "function.__get__"))
  tk:PySem.W.takesIn K (.ref f)=some false
  cp:PySem.W.copiedNames.contains m=false
def tBound (C:Addr) (m:Str) (f:Addr) (ta:TE):TE:=fun σ H Q=>ta σ H fun x H1 => ∃ a dx fs,x = .ref a∧H1 a=some (.ins C dx fs)∧fs.lookup m=none∧∀ q,H1 q=none→Q (.ref q) (upd H1 q (.met f a))
theorem pe_bound {e:Expr} {ta:TE} {C f:Addr} {m:Str} {pos:Pos} (he:PE X e ta) (c:Cls X.K C) (b:Bnd X.K C m f) (hb:attributeBase e m X.env (eval e X.env)=eval e X.env:=by rfl):PE X (.Attribute e m pos) (tBound C m f ta):=by
  intro pins s σ H Q I h
  refine attr_of hb (thn (he pins s σ H _ I h) fun u s1 ⟨x,H1,I1,rx,a,dx,fs,ex,ea,l,q⟩ => ?_)
  subst ex
  obtain rfl:u=Value.ref a:=rx
  obtain ⟨mA,O,r,_,_,_⟩:=ins_get I1.hok ea
  have hn:mA m=none:=RelO.none_of (by rw [← l]; exact r m)
  obtain ⟨od,J,hl⟩:=O.look
  have I2:=I1.laid (t':=s1.toks+1) (h':=s1.heap.push (PySem.W.methodObj (.ref f) (.ref a))) (a:=s1.heap.objs.size) (o:=.met f a) (fun _ _ e=>Heap.get?_push_of_some _ e) (Nat.le_refl _) (Heap.get?_push_size _ rfl)
  refine PySem.W.get_bind I1.kIn J (PySem.W.plainGet_of (c.get m)).1 (PySem.W.findObj_fn c.hd b.me.at_ b.get b.tk b.cp (by rw [hl,hn])) (PySem.W.plainGet_of (c.get m)).2
    (wpAny_call (PySem.W.fn_get (s:={ s1 with toks:=s1.toks+1 }) I1.kIn (beq_iff_eq.mp b.me.fn) (PySem.W.handed_on rfl ?_)))
  exact ⟨.ref _,_,I2,rfl,q _ I1.fresh⟩
theorem run_bound {pins:List (Addr×Obj)} {σ:L2.St} {H:Hp} {s:Shared} {k:Nat} {f q a:Addr} {fd:FuncData} {ps:List Str} {sp:Sp} {Q:VK} {x:V} {u:Value} (F:FnOk X.prog X.w X.K X.mg X.base CX0 k f fd ps sp) (hb:Binds X.K fd ps []) (hr:Room (k+1) X.A)
    (I:Inv X pins σ H s) (hq:H q=some (.met f a)) (r:RelV x u) (h:sp [.ref a,x] H Q E0):wpAny (model X.prog X.w) X.A.in1 (call (.ref q) [u]) (EP X pins σ Q) (fun _ _=>False) s:=by
  have hl:([Value.ref a,u]++([]:List Value)).length=ps.length:=by rw [← F.len _ _ _ _ h]; rfl
  have hbd:=hb s [.ref a,u] I.kIn hl
  have ho:s.heap.get? q=some (PySem.W.methodObj (.ref f) (.ref a)):=I.hok q _ hq
  refine wpAny_call (PySem.W.method_call ho (codeAny_mono (F.run X.A.in1 X.stack s H ⟨[.ref a,u],[]⟩ [.ref a,u] [.ref a,x] Q E0 hr.in1 I.env0.in1 hbd (.cons rfl (.cons r .nil)) h) fun rs s' hq' => ?_))
  match rs,hq' with
  | .error _,z=>exact z
  | .ok (.ret _),z=>exact I.after z
  | .ok .next,z=>exact z
  | .ok .brk,z=>exact z
  | .ok .cont,z=>exact z
def Least (kf:Nat→Int) (j i:Nat):Prop:=i≤j∧∀ j',j'≤j→kf i≤kf j'∧(j'<i→kf i<kf j')
theorem list_now {pins:List (Addr×Obj)} {σ:L2.St} {H:Hp} {s:Shared} {l:Addr} {ns:List Int} (I:Inv X pins σ H s) (hl:H l=some (.lst (ns.map V.int))) :
    ∃ its:List Value,its.length=ns.length∧s.heap.IsList l its.toArray∧∀ (i:Nat) v,its[i]? = some v→∃ z t,ns[i]? = some z∧v = .int z t:=by
  obtain ⟨its,rv,hp,_⟩:=I.list (SqL.of hl)
  have hlen:=rv.length
  rw [List.length_map] at hlen
  refine ⟨its,hlen.symm,hp.isList,fun i v hv => ?_⟩
  have hi:i<ns.length:=by have:=(List.getElem?_eq_some_iff.mp hv).1; omega
  obtain ⟨u,h1,t,h2⟩:=rv.get (i:=i) (x:=V.int ns[i]) (by rw [List.getElem?_map,List.getElem?_eq_getElem hi]; rfl)
  rw [hv] at h1
  cases h1
  exact ⟨_,t,List.getElem?_eq_getElem hi,h2⟩
theorem seq_noCell {vs:Array Value} {c:Nat}:∀ v,(seqObj "list" vs c).data ≠ .cell v:=fun v e=>by cases e
theorem key_run {pins:List (Addr×Obj)} {σ:L2.St} {H:Hp} {s:Shared} {q It S:Addr} {u:Value} {k:Int} {oI oS:Obj} (I:Inv X pins σ H s) (fI:FpOk X pins H It) (fS:FpOk X pins H S) (hI:s.heap.get? It=some oI) (hS:s.heap.get? S=some oS) (cI:∀ v,oI.data ≠ .cell v) (cS:∀ v,oS.data ≠ .cell v)
    (key:∀ pins',Inv X pins' σ H s→wpAny (model X.prog X.w) X.A.in1 (call (.ref q) [u]) (EP X pins' σ fun v H'=>v = .int k∧H'=H) (fun _ _=>False) s) {Q:Value→Shared→Prop} {E:Value→Shared→Prop}
    (h:∀ t s',Inv X pins σ H s'→s'.heap.get? It=some oI→s'.heap.get? S=some oS→Q (.int k t) s'):wpAny (model X.prog X.w) X.A.in1 (call (.ref q) [u]) Q E s:=by
  have I1:=I.pins_of (pins':=pins++[(It,oI),(S,oS)]) fun p hp=>by
    rcases List.mem_append.mp hp with z | z
    · exact I.pin p (List.mem_append_right _ z)
    · rcases List.mem_cons.mp z with z | z
      · subst z; exact ⟨hI,fI.1,fI.2.1,fI.2.2.1,cI⟩
      · rw [List.mem_singleton.mp z]; exact ⟨hS,fS.1,fS.2.1,fS.2.2.1,cS⟩
  refine wpAny_mono (key _ I1) (fun v s' ⟨x,H',I2,rx,ex,eH⟩ => ?_) fun _ _ z=>z.elim
  subst ex eH
  obtain ⟨t,rfl⟩:=rx
  have p1:=I2.pin (It,oI) (List.mem_append_right _ (List.mem_append_right _ (.head _)))
  have p2:=I2.pin (S,oS) (List.mem_append_right _ (List.mem_append_right _ (.tail _ (.head _))))
  exact h t s' (I2.pins_of fun p hp=>I2.pin p (List.mem_append_right _ (List.mem_append_left _ hp))) p1.1 p2.1
theorem iter_obj {h:Heap} {It l:Addr} {i:Nat} (x:h.IsListIter It l i):∃ o,h.get? It=some o∧(∀ v,o.data ≠ .cell v)∧∀ h':Heap,h'.get? It=some o→h'.IsListIter It l i:=by
  obtain ⟨o,h1,h2,h3⟩:=x
  refine ⟨o,h1,?_,fun h' e=>⟨o,e,h2,h3⟩⟩
  intro v e
  rw [h3] at e
  cases e
theorem fpOf {pins:List (Addr×Obj)} {H:Hp} {b:Addr} (f:FpOk X pins H b):∀ c∈[b],FpOk X pins H c:=fun c hc=>by rw [List.mem_singleton.mp hc]; exact f
theorem Inv.scratch {pins:List (Addr×Obj)} {σ:L2.St} {H:Hp} {s:Shared} {S:Addr} {g:Array Value→Array Value} (I:Inv X pins σ H s) (fS:FpOk X pins H S):Inv X pins σ H { s with heap:=s.heap.update S (Obj.mapSeq g) } :=
  I.turnedL (t':=s.toks) (ch:=[S]) (fun b o hb e=>((Heap.SameBut.update s.heap S (Obj.mapSeq g)).2 b fun z=>hb (by rw [z]; exact .head _)).trans e) (fpOf fS)
theorem min_loop {pins:List (Addr×Obj)} {σ:L2.St} {H:Hp} {l q It S:Addr} {ns:List Int} (kf:Nat→Int) (hc:X.calm=true) (hl:H l=some (.lst (ns.map V.int))) (hlI:l≠It) (fI:FpOk X pins H It) (fS:FpOk X pins H S) (hSI:S≠It)
    (key:∀ (i:Nat) z t,ns[i]? = some z→∀ s pins',Inv X pins' σ H s→wpAny (model X.prog X.w) X.A.in1 (call (.ref q) [.int z t]) (EP X pins' σ fun v H'=>v = .int (kf i)∧H'=H) (fun _ _=>False) s) {R:Result→Shared→Prop}
    (hR:∀ (i:Nat) z t s',ns[i]? = some z→Least kf (ns.length - 1) i→Inv X pins σ H s'→R (.ok (.ret (.int z t))) s') :
    ∀ (r j i:Nat) (s:Shared) (z:Int) (t tb:Tok) (c:Nat),ns.length - (j+1)=r→j+1≤ns.length→Inv X pins σ H s→s.heap.get? S=some (seqObj "list" #[.int z t,.int (kf i) tb] c)→s.heap.IsListIter It l (j+1)→ns[i]? = some z→Least kf j i →
      codeAny (model X.prog X.w) X.A (.builtin "min.loop" ⟨[.ref It,.ref q,.ref S],[]⟩) R s:=by
  have nm:(toString "min" ++ toString ".loop" : String) = "min.loop" := by decide
  have hh:X.A.in1.handled=none→X.A.handled=none:=fun e=>e
  intro r
  induction r with
  | zero=>
    intro j i s z t tb c hr hj I gS hit hz hb
    have hhd:=I.ok.hd hc
    obtain ⟨its,e1,e2,e3⟩:=list_now I hl
    have W:=Walks.list (prog:=X.prog) (w:=X.w) (A:=X.A.in1) hhd It l hlI its.toArray
    refine (codeAny_builtin PySem.F.entry_min_loop ?_:codeAny _ _ _ _ _)
    rw [Around.under_plainId PySem.F.plain_min_loop]
    show wpAny _ X.A.in1 (seqItems? (.ref S) >>= _) _ _ _
    refine wpAny_bind (wpAny_seqItems (E:=_) gS rfl ?_)
    show wpAny _ X.A.in1 (tryCatch (pyNext (.ref It)) _ >>= _) _ _ _
    refine wpAny_bind (wpAny_tryCatch (W.done _ _ _ ⟨by rw [List.size_toArray,e1,show ns.length=j+1 by omega]; exact hit,e2⟩ fun h' tk' hk' => ?_))
    have I1:=I.turnedL (t':=tk') hk' (fpOf fI)
    have gS1:h'.get? S=_:=hk' S _ (by simpa using hSI) gS
    show wpAny _ X.A.in1 (updateSeq S (fun _ => #[]) >>= _) _ _ _
    refine wpAny_bind (wpAny_updateSeq (E:=_) gS1 rfl ?_)
    refine wpAny_bind (wpAny_letGo (E:=_) (wpAny_pure ?_))
    exact hR i z t _ hz (by rw [show ns.length - 1=j by omega]; exact hb) (Inv.scratch I1 fS)
  | succ r ih=>
    intro j i s z t tb c hr hj I gS hit hz hb
    have hhd:=I.ok.hd hc
    obtain ⟨its,e1,e2,e3⟩:=list_now I hl
    have W:=Walks.list (prog:=X.prog) (w:=X.w) (A:=X.A.in1) hhd It l hlI its.toArray
    refine (codeAny_builtin PySem.F.entry_min_loop ?_:codeAny _ _ _ _ _)
    rw [Around.under_plainId PySem.F.plain_min_loop]
    show wpAny _ X.A.in1 (seqItems? (.ref S) >>= _) _ _ _
    refine wpAny_bind (wpAny_seqItems (E:=_) gS rfl ?_)
    show wpAny _ X.A.in1 (tryCatch (pyNext (.ref It)) _ >>= _) _ _ _
    refine wpAny_bind (wpAny_tryCatch (W.item (j+1) _ _ _ (by rw [List.size_toArray,e1]; omega) ⟨hit,e2⟩ fun v h' tk' hP hst' hk' => ?_))
    obtain ⟨z2,t2,hz2,rfl⟩:=e3 (j+1) v (by simpa using hP)
    have I1:=I.turnedL (t':=tk') hk' (fpOf fI)
    have gS1:h'.get? S=_:=hk' S _ (by simpa using hSI) gS
    obtain ⟨oI,gI1,cI,back⟩:=iter_obj hst'.1
    show wpAny _ X.A.in1 (tryCatch (holding [.int z2 t2] (call (.ref q) [.int z2 t2])) _ >>= _) _ _ _
    refine wpAny_bind (wpAny_tryCatch (wpAny_holding (key_run (s:={ s with heap:=h',toks:=tk' }) I1 fI fS gI1 gS1 cI seq_noCell (key (j+1) z2 t2 hz2 _) fun t3 s2 I2 gI2 gS2 => ?_)))
    show wpAny _ X.A.in1 (tryCatch (holding [.int z2 t2,.int (kf (j+1)) t3] (richCompare .Lt (.int (kf (j+1)) t3) (.int (kf i) tb) >>= _)) _ >>= _) _ _ _
    refine wpAny_bind (wpAny_tryCatch (wpAny_holding (wpAny_bind (CmpOf.ints_lt (prog:=X.prog) (w:=X.w) (A:=X.A.in1) (P:=fun n v => ∃ t,v = .int (kf n) t) kf (fun _ _ h=>h) (j+1) i _ _ _ _ _ ⟨t3,rfl⟩ ⟨tb,rfl⟩ ?_))))
    refine wpAny_bind (wpAny_holding (E:=_) (wpAny_truthy_bool ?_))
    refine wpAny_bind (wpAny_letGo (E:=_) (wpAny_pure ?_))
    by_cases hlt:kf (j+1)<kf i
    · have I3:=Inv.scratch (g:=fun _ => #[.int z2 t2,.int (kf (j+1)) t3]) I2 fS
      obtain ⟨c3,gS3⟩:∃ c3,(s2.heap.update S (Obj.mapSeq fun _ => #[.int z2 t2,.int (kf (j+1)) t3])).get? S=some (seqObj "list" #[.int z2 t2,.int (kf (j+1)) t3] c3):=⟨_,get?_update_seq gS2 _⟩
      have gI3:=((Heap.SameBut.update s2.heap S (Obj.mapSeq fun _ => #[.int z2 t2,.int (kf (j+1)) t3])).2 It hSI.symm).trans gI2
      simp only [hlt,decide_true,if_true]
      refine wpAny_bind (wpAny_updateSeq (E:=_) gS2 rfl ?_)
      refine wpAny_bind (wpAny_letGo (E:=_) ?_)
      rw [nm]
      refine wpAny_pure ⟨plainId_quiet PySem.F.plain_min_loop _,ih (j+1) (j+1) _ z2 t2 t3 c3 (by omega) (by omega) I3 gS3 (back _ gI3) hz2 ⟨Nat.le_refl _,fun j' hj' => ?_⟩⟩
      by_cases e:j'=j+1
      · subst e
        exact ⟨Int.le_refl _,fun q=>absurd q (Nat.lt_irrefl _)⟩
      · have b1:=(hb.2 j' (by omega)).1
        exact ⟨by omega,fun _=>by omega⟩
    · simp only [hlt,decide_false,Bool.false_eq_true,if_false]
      refine wpAny_bind (wpAny_letGo (E:=_) ?_)
      rw [nm]
      refine wpAny_pure ⟨plainId_quiet PySem.F.plain_min_loop _,ih (j+1) i _ z t tb c (by omega) (by omega) I2 gS2 (back _ gI2) hz ⟨by have:=hb.1; omega,fun j' hj' => ?_⟩⟩
      by_cases e:j'=j+1
      · subst e
        have:=hb.1
        exact ⟨by omega,fun q=>by omega⟩
      · exact hb.2 j' (by omega)
theorem min_key {pins:List (Addr×Obj)} {σ:L2.St} {H:Hp} {s:Shared} {l q:Addr} {ns:List Int} (kf:Nat→Int) (hc:X.calm=true) (I:Inv X pins σ H s) (hl:H l=some (.lst (ns.map V.int))) (hne:0<ns.length)
    (key:∀ (i:Nat) z t,ns[i]? = some z→∀ s pins',Inv X pins' σ H s→wpAny (model X.prog X.w) X.A.in1 (call (.ref q) [.int z t]) (EP X pins' σ fun v H'=>v = .int (kf i)∧H'=H) (fun _ _=>False) s) {Q:Value→Shared→Prop} {E:Value→Shared→Prop}
    (hQ:∀ (i:Nat) z t s',ns[i]? = some z→Least kf (ns.length - 1) i→Inv X pins σ H s'→Q (.int z t) s'):wpAny (model X.prog X.w) X.A (call (.builtin "min") [.ref l] [(Str.ofString "key",.ref q)]) Q E s:=by
  have nm:(toString "min" ++ toString ".loop" : String) = "min.loop" := by decide
  have hhd:=I.ok.hd hc
  obtain ⟨its,e1,e2,e3⟩:=list_now I hl
  have hll:l<s.heap.objs.size:=I.hok.lt hl
  refine kmk_tree PySem.F.kind_min PySem.F.plain_min PySem.F.entry_min (kmk_min_key _ _) ?_
  show wpAny _ X.A.in1 (Builtin.Builtins.bindParams "min" ["key","default"] 0 ⟨[],[(Str.ofString "key",.ref q)]⟩ >>= _) _ _ s
  refine wpAny_bind (wpAny_of_eq (show Builtin.Builtins.bindParams "min" ["key","default"] 0 ⟨[],[(Str.ofString "key",Value.ref q)]⟩=pure [some (.ref q),none] from rfl) ?_)
  refine wpAny_bind (wpAny_pure (wpAny_bind (wpAny_pyIter_list e2 (wpAny_bind (wpAny_newList ?_ (Nat.zero_le _))))))
  rw [nm]
  refine wpAny_pure ⟨plainId_quiet PySem.F.plain_min_loop _,?_⟩
  generalize hoI0:({ cls:=.type "list_iterator",data:=.fields #[.ref l,.int 0 0] }:Obj)=oI0
  have hsz:(s.heap.push oI0).objs.size=s.heap.objs.size+1:=size_push' ..
  have gI:((s.heap.push oI0).push (seqObj "list" #[] 0)).get? s.heap.objs.size=some oI0:=Heap.get?_push_of_some _ (Heap.get?_push_size _ (by rw [← hoI0]; rfl))
  have gS:((s.heap.push oI0).push (seqObj "list" #[] 0)).get? (s.heap.push oI0).objs.size=some (seqObj "list" #[] 0):=Heap.get?_push_size _ rfl
  have I0:Inv X pins σ H { s with heap:=(s.heap.push oI0).push (seqObj "list" #[] 0) }:=I.kept (t':=s.toks) fun b o e=>Heap.get?_push_of_some _ (Heap.get?_push_of_some _ e)
  have fI:FpOk X pins H s.heap.objs.size:=I.fpOk (Nat.le_refl _) I.fresh
  have fS:FpOk X pins H (s.heap.push oI0).objs.size:=I.fpOk (by rw [hsz]; exact Nat.le_succ _) (I.hok.fresh (by rw [hsz]; exact Nat.le_succ _))
  have hSI:(s.heap.push oI0).objs.size≠s.heap.objs.size:=by rw [hsz]; exact Nat.ne_of_gt (Nat.lt_succ_self _)
  have hlI:l≠s.heap.objs.size:=Nat.ne_of_lt hll
  obtain ⟨its0,f1,f2,f3⟩:=list_now I0 hl
  have W:=Walks.list (prog:=X.prog) (w:=X.w) (A:=X.A.in1) hhd s.heap.objs.size l hlI its0.toArray
  refine (codeAny_builtin PySem.F.entry_min_loop ?_:codeAny _ _ _ _ _)
  rw [Around.under_plainId PySem.F.plain_min_loop]
  show wpAny _ X.A.in1 (seqItems? (.ref (s.heap.push oI0).objs.size) >>= _) _ _ _
  refine wpAny_bind (wpAny_seqItems (E:=_) gS rfl ?_)
  show wpAny _ X.A.in1 (tryCatch (pyNext (.ref s.heap.objs.size)) _ >>= _) _ _ _
  refine wpAny_bind (wpAny_tryCatch (W.item 0 _ _ _ (by rw [List.size_toArray,f1]; exact hne) ⟨⟨_,gI,by rw [← hoI0],by rw [← hoI0]; rfl⟩,f2⟩ fun v h' tk' hP hst' hk' => ?_))
  obtain ⟨z2,t2,hz2,rfl⟩:=f3 0 v (by simpa using hP)
  have I1:=I0.turnedL (t':=tk') hk' (fpOf fI)
  have gS1:h'.get? (s.heap.push oI0).objs.size=_:=hk' _ _ (by simpa using hSI) gS
  obtain ⟨oI,gI1,cI,back⟩:=iter_obj hst'.1
  show wpAny _ X.A.in1 (tryCatch (holding [.int z2 t2] (call (.ref q) [.int z2 t2])) _ >>= _) _ _ _
  refine wpAny_bind (wpAny_tryCatch (wpAny_holding (key_run I1 fI fS gI1 gS1 cI seq_noCell (key 0 z2 t2 hz2 _) fun t3 s2 I2 gI2 gS2 => ?_)))
  have I3:=Inv.scratch (g:=fun _ => #[.int z2 t2,.int (kf 0) t3]) I2 fS
  obtain ⟨c3,gS3⟩:∃ c3,(s2.heap.update (s.heap.push oI0).objs.size (Obj.mapSeq fun _ => #[.int z2 t2,.int (kf 0) t3])).get? (s.heap.push oI0).objs.size=some (seqObj "list" #[.int z2 t2,.int (kf 0) t3] c3):=⟨_,get?_update_seq gS2 _⟩
  have gI3:=((Heap.SameBut.update s2.heap (s.heap.push oI0).objs.size (Obj.mapSeq fun _ => #[.int z2 t2,.int (kf 0) t3])).2 s.heap.objs.size hSI.symm).trans gI2
  show wpAny _ X.A.in1 (updateSeq (s.heap.push oI0).objs.size (fun _ => #[.int z2 t2,.int (kf 0) t3]) >>= _) _ _ _
  refine wpAny_bind (wpAny_updateSeq (E:=_) gS2 rfl ?_)
  rw [nm]
  refine wpAny_pure ⟨plainId_quiet PySem.F.plain_min_loop _,min_loop kf hc hl hlI fI fS hSI key (fun i z t s' hz hb I'=>hQ i z t s' hz hb I') _ 0 0 _ z2 t2 t3 c3 rfl hne I3 gS3 (back _ gI3) hz2 ⟨Nat.le_refl _,fun j' hj' => ?_⟩⟩
  have e:j'=0:=by omega
  subst e
  exact ⟨Int.le_refl _,fun q=>absurd q (Nat.lt_irrefl _)⟩
def tMinK (sp:Sp) (f:Addr) (t tk:TA):TE:=fun σ H Q=>t σ H fun xs H1=>tk σ H1 fun zs H2 => ∃ (l q a:Addr) (ns:List Int) (kf:Nat→Int),xs=[.ref l]∧zs=[.ref q]∧H2 l=some (.lst (ns.map V.int))∧H2 q=some (.met f a)∧0<ns.length ∧
  (∀ (i:Nat) z,ns[i]? = some z→sp [.ref a,.int z] H2 (fun v H'=>v = .int (kf i)∧H'=H2) E0)∧∀ (i:Nat) z,ns[i]? = some z→Least kf (ns.length - 1) i→Q (.int z) H2
theorem pe_minK {k:Nat} {f:Addr} {fd:FuncData} {ps:List Str} {sp:Sp} {e ke:Expr} {t tk:TA} {p pos kpos:Pos} (F:FnOk X.prog X.w X.K X.mg X.base CX0 k f fd ps sp) (hb:Binds X.K fd ps []) (hr:Room (k+1) X.A) (hc:X.calm=true) (hg:Gl X "min") (hm:X.mg "min" = none)
    (he:PA X [e] t) (hk:PK X [⟨some (Str.ofString "key"),ke,kpos⟩] tk) (h1:starEach [e] X.env=[(false,eval e X.env)]:=by rfl):PE X (.Call (.Name "min" p) [e] [⟨some (Str.ofString "key"),ke,kpos⟩] pos) (tMinK sp f t tk):=by
  intro pins s σ H Q I h
  refine wpAny_Call_Name_kw (ld_blt I hg hm boot_min ?_)
  refine callWith_kw (e:=e) (rest:=[]) (env:=X.env) ?_ (by rw [h1]; rfl) (by rw [h1]; rfl)
  refine thn (he pos pins s σ H _ I h) fun us s1 ⟨xs,H1,I1,r1,q1⟩ => ?_
  refine thn (hk pos pins s1 σ H1 _ I1 q1) fun ws s2 ⟨zs,H2,I2,r2,q2⟩ => ?_
  obtain ⟨l,q,a,ns,kf,rfl,rfl,hl,hq,hne,hsp,hQ⟩:=q2
  rw [Vals.ref1 r1,Vals.ref1 r2]
  refine min_key kf hc I2 hl hne (fun i z t hz s' pins' I'=>run_bound (x:=V.int z) F hb hr I' hq ⟨t,rfl⟩ (hsp i z hz)) fun i z t s' hz hb' I' => ?_
  exact ⟨.int z,H2,I',⟨t,rfl⟩,hQ i z hz hb'⟩
end
end Ts
end
section
set_option maxRecDepth 100000
set_option maxHeartbeats 2000000
namespace Ts
open PySem PySem.Spec PyProof.Rows L2
open Vagraa (Frac)
open VagraLine (Line at_)
open Vagraf (addAt seeds weightsOf)
theorem ixN_nat {n j:Nat} (h:j<n):ixN n (j:Int)=some j:=by
  unfold ixN
  rw [if_pos (by omega),if_pos (by omega)]
  rfl
theorem rep_flat {x:V} (n:Nat):(List.replicate n [x]).flatten=List.replicate n x:=by
  induction n with
  | zero=>rfl
  | succ n ih=>rw [List.replicate_succ,List.flatten_cons,ih]; rfl
section
variable {P:Program} {w:World} {K:PySem.W.Frag} {mg:Str→Option Value} {base:Heap}
theorem IsFs.set {H:Hp} {l a:Addr} {as:List Addr} {fs:List Frac} {f:Frac} (hl:H l=some (.lst (as.map V.ref))) (hp:Paired (IsF K H) as fs) (hf:IsF K H a f) (j:Nat) :
    IsFs K (upd H l (.lst ((as.map V.ref).set j (.ref a)))) l (fs.set j f) :=
  ⟨as.set j a,by rw [upd_same,List.map_set],pset (hf.put hl) j (putF' hp hl)⟩
theorem IsFs.zeros {H:Hp} {a l:Addr} (hz:∀ H,SqT K H a [V.int 0,V.int 1]) (n:Nat):IsFs K (upd H l (.lst (List.replicate n [V.ref a]).flatten)) l (List.replicate n Vagraa.zero) :=
  ⟨List.replicate n a,by rw [upd_same,rep_flat,List.map_replicate],prep ⟨hz _,zero_wf⟩ n⟩
abbrev st_read_weights:Stmt:=top 46
theorem sc_read_weights:FnScope ["numbers","count","weights","at","number","told"] ["numbers","count"] (defScope st_read_weights):=⟨rfl,rfl,rfl,by decide +kernel,rfl,by decide +kernel,by decide +kernel⟩
def spReadW (K:PySem.W.Frag):Sp:=fun vs H Q _ => ∃ (a:Addr) (ns:List Int) (n:Nat),vs=[.ref a,.int (n:Int)]∧SqL K H a (ns.map V.int)∧ns.length≤1000∧n≤1000∧(∀ z∈ns,z.natAbs≤10 ^ 18) ∧
  (∀ H',Same H H'→weightsOf n ns=none→Q .non H')∧∀ H' p ws,Same H H'→H p=none→weightsOf n ns=some ws→(∀ w∈ws,toldF w.2)→IsFs K H' p (seeds n ws)→Q (.ref p) H'
theorem can_read_weights (T:Txt K mg) (S:Src K mg "read_weights" st_read_weights ["numbers","count"]) (c_lowest:Can P w K mg base 43 "lowest" ["numerator","denominator"] spLowest) (c_plus:Can P w K mg base 43 "plus" ["first","second"] (spPlus K)) :
    Can P w K mg base 45 "read_weights" ["numbers","count"] (spReadW K):=by
  obtain ⟨a_ZERO,h_ZERO,i_ZERO⟩:=T.t_ZERO
  refine S.can sc_read_weights (fun vs H Q E h => ?_) (fun f cdv A outer s H vs Q E hr h => ?_)
  · obtain ⟨a,ns,n,rfl,_⟩:=h
    rfl
  · obtain ⟨a,ns,n,rfl,ha,hl1,hl2,hb,qN,qS⟩:=h
    refine ⟨_,(pss_cons (ps_if (pt_cmpR op_ne (pe_op op_mod (pe_callB call_len_seq rfl T.n_len PySem.boot_len (pa_cons (pv 0) pa_nil)) pe_int) pe_int (nomark _)) (pss_one (ps_ret pe_non)) pss_nil)
      (pss_cons (ps_set (i:=2) sc_read_weights.nd rfl (Or.inl rfl) (pe_op op_rep (pe_lst (pa_cons (pe_glob rfl h_ZERO rfl (v:=V.ref a_ZERO)) pa_nil)) (pv 1)))
      (pss_cons (ps_for PassesOwn.never rfl (pi_range3 rfl T.n_range (pa_cons pe_int (pa_cons (pe_callB call_len_seq rfl T.n_len PySem.boot_len (pa_cons (pv 0) pa_nil)) (pa_cons pe_int pa_nil)))) (pg_name (i:=3) sc_read_weights.nd rfl (Or.inl rfl)) (pss_cons (ps_set (i:=4) sc_read_weights.nd rfl (Or.inl rfl) (pe_ix ix_list (pv 0) (pv 3) (fun _ _=>rfl)))
      (pss_cons (ps_if (PW.pt (pw_or (pt_cmpR op_lt (pv 4) pe_int (nomark _)) (pw_or (pt_cmpR op_ge (pv 4) (pv 1) (nomark _)) (pw_or1 (pt_cmpR op_lt (pe_ix ix_list (pv 0) (pe_op op_add (pv 3) pe_int) (fun _ _=>rfl)) pe_int (nomark _)))))) (pss_one (ps_ret pe_non)) pss_nil)
      (pss_cons (ps_set (i:=5) sc_read_weights.nd rfl (Or.inl rfl) (pe_can c_lowest (hr.mono (by decide)) (pa_cons (pe_ix ix_list (pv 0) (pe_op op_add (pv 3) pe_int) (fun _ _=>rfl)) (pa_cons (pe_ix ix_list (pv 0) (pe_op op_add (pv 3) pe_int) (fun _ _=>rfl)) pa_nil))))
      (pss_one (ps_asg (pe_can c_plus (hr.mono (by decide)) (pa_cons (pe_ix ix_list (pv 2) (pv 4) (fun _ _=>rfl)) (pa_cons (pv 5) pa_nil))) (pg_sub (pv 2) (pv 4) set_list)))))))
      (pss_one (ps_ret (pv 2)))))),?_⟩
    refine ⟨_,rfl,_,_,rfl,.inl ha,_,_,rfl,rfl,(by show (0:Int)<3; decide),rfl,_,rfl,?_⟩
    by_cases hne:ns.length % 3=0
    case neg=>
      refine iteBT (by rw [List.length_map]; simp; omega) ?_
      exact qN _ (Same.refl H) (weightsOf_mod hne)
    refine iteBF (by rw [List.length_map]; simp; omega) ?_
    obtain ⟨m,hm⟩:∃ m,ns.length=3*m:=⟨ns.length / 3,by omega⟩
    refine ⟨(by show 1≤sizeLine; decide),fun l0 hl0 => ?_⟩
    refine ⟨_,rfl,_,_,_,rfl,rfl,upd_same,by omega,by omega,?_,fun l hl => ?_⟩
    · show 1*((n:Int)).toNat≤sizeLine
      exact line_le (by omega)
    have s0:Same H (upd H l0 (.lst [V.ref a_ZERO])):=Same.new hl0
    have hln:H l=none:=s0.free hl
    have hF0:IsFs K (upd (upd H l0 (.lst [V.ref a_ZERO])) l (.lst (List.replicate n [V.ref a_ZERO]).flatten)) l (seeds n []):=IsFs.zeros i_ZERO n
    have s1:Same H (upd (upd H l0 (.lst [V.ref a_ZERO])) l (.lst (List.replicate n [V.ref a_ZERO]).flatten)):=s0.trans (Same.new hl)
    have sq:=s1.seq ha
    have hrg:=rg_step (c:=3) (n:=m) (by decide) (by decide) (by omega)
    refine ⟨_,rfl,_,_,rfl,.inl sq,_,_,_,m,rfl,?_,for_rangeC (lo:=0) (c:=3) (n:=m) (fun i σ H' => ∃ (v3 v4 v5:Option V) (dn:List (Nat×Frac)),σ=[some (.ref a),some (.int (n:Int)),some (.ref l),v3,v4,v5]∧Same H H'∧IsFs K H' l (seeds n dn)∧dn.length=i∧(∀ w∈dn,toldF w.2)∧weightsOf n ns=(weightsOf n (ns.drop (3*i))).map fun c=>dn++c)
      ⟨none,none,none,[],rfl,s1,hF0,rfl,(fun w hw=>by cases hw),by simp⟩ ?_ ?_⟩
    · rw [List.length_map,hm]
      exact hrg
    · rintro i σ H1 hi ⟨v3,v4,v5,dn,rfl,s2,hF,hdn,htd,hc⟩
      have sq1:=s2.seq ha
      obtain ⟨x,hx⟩:∃ x,ns[3*i]? = some x:=⟨_,List.getElem?_eq_getElem (by omega)⟩
      obtain ⟨y,hy⟩:∃ x,ns[3*i+1]? = some x:=⟨_,List.getElem?_eq_getElem (by omega)⟩
      obtain ⟨d,hd⟩:∃ d,ns[3*i+2]? = some d:=⟨_,List.getElem?_eq_getElem (by omega)⟩
      have hstep:=weightsOf_drop (N:=n) hx hy hd
      have e0:(0:Int)+(i:Nat)*3=((3*i:Nat):Int):=by push_cast; omega
      have e1:(0:Int)+(i:Nat)*3+1=((3*i+1:Nat):Int):=by push_cast; omega
      have e2:(0:Int)+(i:Nat)*3+2=((3*i+2:Nat):Int):=by push_cast; omega
      refine ⟨_,rfl,_,rfl,_,_,_,_,rfl,rfl,sq1,atN e0 (imapI hx),?_⟩
      refine ⟨_,rfl,_,_,rfl,rfl,_,rfl,?_⟩
      by_cases hneg:x<0
      · refine iteBT (by simpa using hneg) (iteBT rfl ?_)
        exact qN _ s2 (by rw [hc,hstep,if_neg (by omega)]; rfl)
      refine iteBF (by simpa using hneg) ?_
      refine ⟨_,rfl,_,rfl,_,_,rfl,rfl,_,rfl,?_⟩
      by_cases hge:(n:Int)≤x
      · refine iteBT (by simpa using hge) (iteBT rfl ?_)
        exact qN _ s2 (by rw [hc,hstep,if_neg (by omega)]; rfl)
      refine iteBF (by simpa using hge) ?_
      refine ⟨_,rfl,_,rfl,_,_,rfl,rfl,_,_,_,_,rfl,rfl,sq1,atN e2 (imapI hd),_,_,rfl,rfl,_,rfl,?_⟩
      by_cases hd1:d<1
      · refine iteBT (by simpa using hd1) ?_
        exact qN _ s2 (by rw [hc,hstep,if_neg (by omega)]; rfl)
      refine iteBF (by simpa using hd1) ?_
      rw [if_pos (by omega)] at hstep
      have htold:toldF (Vagraa.frac y d.toNat):=told_frac (hb y (List.mem_of_getElem? hy)) (by omega) (hb d (List.mem_of_getElem? hd))
      refine ⟨_,rfl,_,rfl,_,_,rfl,rfl,_,_,_,_,rfl,rfl,sq1,atN e1 (imapI hy),_,rfl,_,rfl,_,_,rfl,rfl,_,_,_,_,rfl,rfl,sq1,atN e2 (imapI hd),_,_,rfl,by omega,fun p hp => ?_⟩
      have s3:=Same.new (o:=.tup (tupF (Vagraa.frac y d.toNat))) hp
      obtain ⟨j,rfl⟩:∃ j:Nat,x=(j:Int):=⟨x.toNat,by omega⟩
      have hjn:j<n:=by omega
      obtain ⟨as,hl3,hps⟩:=hF.keep s3
      have hlen:as.length=n:=by rw [Paired.length hps,seeds_length]
      obtain ⟨b,hb1,hb2⟩:=pget hps (at_get (vs:=seeds n dn) (i:=j) (by rw [seeds_length]; exact hjn))
      obtain ⟨D,B,fit,hall⟩:=told_fit n htd (j:=10) (by rw [hdn]; omega)
      refine ⟨_,rfl,_,rfl,_,_,_,_,rfl,rfl,SqL.of hl3,atN rfl (imap hb1),_,rfl,b,p,_,_,rfl,hb2,IsF.new htold.1,fit.small (hall.at j).2 (by rw [hdn]; omega),told_small htold,fun p2 hp2 => ?_⟩
      have s4:=Same.new (o:=.tup (tupF (Vagraa.add (at_ (seeds n dn) j) (Vagraa.frac y d.toNat)))) hp2
      have hl4:=s4 _ _ hl3
      refine ⟨_,rfl,_,rfl,l,_,_,j,rfl,rfl,hl4,ixN_nat (by rw [List.length_map,hlen]; exact hjn),?_⟩
      refine ⟨_,_,_,dn++[(j,Vagraa.frac y d.toNat)],rfl,samePut hln ((s2.trans s3).trans s4),?_,by rw [List.length_append,hdn]; rfl,?_,?_⟩
      · rw [seeds_snoc]
        exact IsFs.set hl4 (keepF hps s4) (IsF.new (add_wf hb2.wf htold.1)) j
      · intro w hw
        rcases List.mem_append.mp hw with q | q
        · exact htd w q
        · have e:w=(j,Vagraa.frac y d.toNat):=by simpa using q
          rw [e]
          exact htold
      · rw [hc,hstep,Option.map_map]
        congr 1
        funext c
        simp
    · rintro σ H1 ⟨v3,v4,v5,dn,rfl,s2,hF,hdn,htd,hc⟩
      refine ⟨_,rfl,?_⟩
      refine qS _ _ dn s2 hln ?_ htd hF
      rw [show ns.drop (3*m)=[] from List.drop_eq_nil_of_le (by omega)] at hc
      rw [hc]
      show some (dn++[])=some dn
      rw [List.append_nil]
abbrev st_weight_on_one:Stmt:=top 47
theorem sc_weight_on_one:FnScope ["number","count","weights"] ["number","count"] (defScope st_weight_on_one):=⟨rfl,rfl,rfl,by decide +kernel,rfl,by decide +kernel,by decide +kernel⟩
def spOnOne (K:PySem.W.Frag):Sp:=fun vs H Q _ => ∃ (i n:Nat),vs=[.int (i:Int),.int (n:Int)]∧i<n∧n≤1000∧∀ H' p,Same H H'→H p=none→IsFs K H' p (seeds n [(i,Vagraa.one)])→Q (.ref p) H'
theorem seeds_one {i n:Nat} (h:i<n):seeds n [(i,Vagraa.one)]=(List.replicate n Vagraa.zero).set i Vagraa.one:=by
  show ((List.replicate n Vagraa.zero).set i (Vagraa.add (at_ (List.replicate n Vagraa.zero) i) Vagraa.one))=_
  have e:at_ (List.replicate n Vagraa.zero) i=Vagraa.zero:=by
    unfold VagraLine.at_
    rw [List.getD_eq_getElem?_getD,List.getElem?_replicate,if_pos h]
    rfl
  rw [e]
  rfl
theorem can_weight_on_one (T:Txt K mg) (S:Src K mg "weight_on_one" st_weight_on_one ["number","count"]):Can P w K mg base 43 "weight_on_one" ["number","count"] (spOnOne K):=by
  obtain ⟨a_ZERO,h_ZERO,i_ZERO⟩:=T.t_ZERO
  obtain ⟨a_ONE,h_ONE,i_ONE⟩:=T.t_ONE
  refine S.can sc_weight_on_one (fun vs H Q E h => ?_) (fun f cdv A outer s H vs Q E hr h => ?_)
  · obtain ⟨i,n,rfl,_⟩:=h
    rfl
  · obtain ⟨i,n,rfl,hin,hn,q⟩:=h
    refine ⟨_,(pss_cons (ps_set (i:=2) sc_weight_on_one.nd rfl (Or.inl rfl) (pe_op op_rep (pe_lst (pa_cons (pe_glob rfl h_ZERO rfl (v:=V.ref a_ZERO)) pa_nil)) (pv 1)))
      (pss_cons (ps_asg (pe_glob rfl h_ONE rfl (v:=V.ref a_ONE)) (pg_sub (pv 2) (pv 0) set_list))
      (pss_one (ps_ret (pv 2))))),?_⟩
    refine ⟨(by show 1≤sizeLine; decide),fun l0 hl0 => ?_⟩
    refine ⟨_,rfl,_,_,_,rfl,rfl,upd_same,by omega,by omega,?_,fun l hl => ?_⟩
    · show 1*((n:Int)).toNat≤sizeLine
      exact line_le (by omega)
    have s0:Same H (upd H l0 (.lst [V.ref a_ZERO])):=Same.new hl0
    have hln:H l=none:=s0.free hl
    have s1:=s0.trans (Same.new (o:=.lst (List.replicate n [V.ref a_ZERO]).flatten) hl)
    obtain ⟨as,h1,h2⟩:IsFs K (upd (upd H l0 (.lst [V.ref a_ZERO])) l (.lst (List.replicate n [V.ref a_ZERO]).flatten)) l (List.replicate n Vagraa.zero):=IsFs.zeros i_ZERO n
    have hlen:as.length=n:=by rw [Paired.length h2,List.length_replicate]
    refine ⟨_,rfl,_,rfl,l,_,_,i,rfl,rfl,h1,ixN_nat (by rw [List.length_map,hlen]; exact hin),?_⟩
    refine ⟨_,rfl,?_⟩
    refine q _ l (samePut hln s1) hln ?_
    rw [seeds_one hin]
    exact IsFs.set h1 h2 ⟨i_ONE _,one_wf⟩ i
end
end Ts
end
section
set_option maxRecDepth 100000
set_option maxHeartbeats 2000000
namespace Ts
open PySem PySem.Spec PyProof.Rows L2
open Vagraa (Frac)
open VagraLine (Line at_)
open Vagraf (addAt seeds weightsOf pass)
def SameBut (l:Addr) (H H':Hp):Prop:=∀ b o,H b=some o→b≠l→H' b=some o
theorem SameBut.refl (l:Addr) (H:Hp):SameBut l H H:=fun _ _ e _=>e
theorem SameBut.of {l:Addr} {H H':Hp} (h:Same H H'):SameBut l H H':=fun b o e _=>h b o e
theorem SameBut.trans {l:Addr} {H H1 H2:Hp} (a:SameBut l H H1) (b:SameBut l H1 H2):SameBut l H H2:=fun c o e n=>b c o (a c o e n) n
theorem SameBut.put {l:Addr} {H:Hp} {o:HO}:SameBut l H (upd H l o):=fun b u e n=>by rw [upd_ne n]; exact e
theorem SameBut.same {l:Addr} {H H1 H2:Hp} (n:H l=none) (a:Same H H1) (b:SameBut l H1 H2):Same H H2:=fun c o e=>b c o (a c o e) (ne_of_none e n)
theorem SameBut.tup {K:PySem.W.Frag} {l a:Addr} {H H':Hp} {xs:List V} {ys:List V} (e:SameBut l H H') (hl:H l=some (.lst ys)) (h:SqT K H a xs):SqT K H' a xs:=by
  rcases h with (h | ⟨o,h⟩) | h
  · exact .inl (.inl (e _ _ h (ne_of h hl (by intro q; cases q))))
  · exact .inl (.inr ⟨o,e _ _ h (ne_of h hl (by intro q; cases q))⟩)
  · exact .inr h
theorem SameBut.isF {K:PySem.W.Frag} {l a:Addr} {H H':Hp} {f:Frac} {ys:List V} (e:SameBut l H H') (hl:H l=some (.lst ys)) (h:IsF K H a f):IsF K H' a f:=⟨SameBut.tup e hl h.at_,h.wf⟩
def TapeIs (c:List Line) (t:List (List (Nat×Frac))):Prop:=t.length=c.length∧∀ (i:Nat) (l:Line) (ps:List (Nat×Frac)),c[i]? = some l→t[i]? = some ps→ps.map (·.1)=l.uses
def tpD (t:List (List (Nat×Frac))):List (List Frac):=t.map fun ps=>ps.map (·.2)
theorem tapeD_eq (c:List Line) (vs:List Frac):tapeD c vs=tpD (Vagraf.tape c vs):=by
  unfold tapeD tpD Vagraf.tape
  rw [List.map_map]
  rfl
theorem tape_is {c:List Line} {vs:List Frac} (h:vs.length=c.length):TapeIs c (Vagraf.tape c vs):=by
  unfold Vagraf.tape
  refine ⟨by rw [List.length_map,List.length_zip]; omega,fun i l ps hl hp => ?_⟩
  rw [List.getElem?_map] at hp
  cases e:(c.zip vs)[i]? with
  | none=>rw [e] at hp; cases hp
  | some x=>
    rw [e] at hp
    cases hp
    obtain ⟨x1,x2⟩:=x
    have:=(List.getElem?_zip_eq_some.mp e).1
    rw [hl] at this
    cases this
    cases x1 <;> rfl
section
variable {P:Program} {w:World} {K:PySem.W.Frag} {mg:Str→Option Value} {base:Heap}
abbrev st_sweep_sums:Stmt:=top 48
theorem sc_sweep_sums:FnScope ["lines","tape","weights","down_to","sums","number","own","used","derivative"] ["lines","tape","weights","down_to"] (defScope st_sweep_sums):=⟨rfl,rfl,rfl,by decide +kernel,rfl,by decide +kernel,by decide +kernel⟩
def spSweep (K:PySem.W.Frag):Sp:=fun vs H Q _ => ∃ (l t wl:Addr) (c:List Line) (tp:List (List (Nat×Frac))) (ws:List Frac) (k a b ea eb D B E C:Nat),vs=[.ref l,.ref t,.ref wl,.int (k:Int)]∧IsLns K H l c∧IsTp K H t (tpD tp)∧IsFs K H wl ws ∧
  TapeIs c tp∧(∀ x∈c,∀ u∈x.uses,u<c.length)∧ws.length=c.length∧c.length≤1000∧k≤c.length∧TapeB E C tp∧AllB D B ws∧Fit a b D B∧Fit ea eb E (1+2*C)∧a+ea*c.length+1+(b+eb*c.length)≤60000000 ∧
  ∀ H' p,Same H H'→H p=none→IsFs K H' p (sweepN tp ws (c.length - k))→Q (.ref p) H'
theorem can_sweep_sums (T:Txt K mg) (S:Src K mg "sweep_sums" st_sweep_sums ["lines","tape","weights","down_to"]) (c_lines_used:Can P w K mg base 43 "lines_used" ["line"] (spUsed K)) (c_plus:Can P w K mg base 43 "plus" ["first","second"] (spPlus K))
    (c_times:Can P w K mg base 43 "times" ["first","second"] (spTimes K)):Can P w K mg base 45 "sweep_sums" ["lines","tape","weights","down_to"] (spSweep K):=by
  obtain ⟨a_ZERO,h_ZERO,i_ZERO⟩:=T.t_ZERO
  refine S.can sc_sweep_sums (fun vs H Q E h => ?_) (fun f cdv A outer s H vs Q E hr h => ?_)
  · obtain ⟨l,t,wl,c,tp,ws,k,a,b,ea,eb,D,B,E,C,rfl,_⟩:=h
    rfl
  · obtain ⟨l,t,wl,c,tp,ws,k,a,b,ea,eb,D,B,E,C,rfl,⟨as,hl,hp⟩,⟨ts,ht,hpt⟩,⟨bs,hw,hpw⟩,htp,huse,hwl,hcl,hk,hTB,hAB,fit,fitE,hz,q⟩:=h
    refine ⟨_,(pss_cons (ps_set (i:=4) sc_sweep_sums.nd rfl (Or.inl rfl) (pe_callTy call_list_of rfl T.n_list boot_list (pa_cons (pv 2) pa_nil)))
      (pss_cons (ps_for PassesOwn.never rfl (pi_range3 rfl T.n_range (pa_cons (pe_op op_sub (pe_callB call_len_seq rfl T.n_len PySem.boot_len (pa_cons (pv 0) pa_nil)) pe_int) (pa_cons (pe_op op_sub (pv 3) pe_int) (pa_cons (pe_un un_neg pe_int) pa_nil)))) (pg_name (i:=5) sc_sweep_sums.nd rfl (Or.inl rfl)) (pss_cons (ps_set (i:=6) sc_sweep_sums.nd rfl (Or.inl rfl) (pe_ix ix_list (pv 4) (pv 5) (fun _ _=>rfl)))
      (pss_one (ps_if (pt_cmpR (op_neD hr.units) (pv 6) (pe_glob rfl h_ZERO rfl (v:=V.ref a_ZERO)) (nomark _)) (pss_one (ps_for PassesOwn.never rfl (pi_zip rfl T.n_zip (pa_cons (pe_can c_lines_used (hr.mono (by decide)) (pa_cons (pe_ix ix_list (pv 0) (pv 5) (fun _ _=>rfl)) pa_nil)) (pa_cons (pe_ix ix_list (pv 1) (pv 5) (fun _ _=>rfl)) pa_nil))) (pg_tup rfl (pgs_cons (pg_name (i:=7) sc_sweep_sums.nd rfl (Or.inl rfl)) (pgs_cons (pg_name (i:=8) sc_sweep_sums.nd rfl (Or.inl rfl)) pgs_nil))) (pss_one (ps_asg (pe_can c_plus (hr.mono (by decide)) (pa_cons (pe_ix ix_list (pv 4) (pv 7) (fun _ _=>rfl)) (pa_cons (pe_can c_times (hr.mono (by decide)) (pa_cons (pv 6) (pa_cons (pv 8) pa_nil))) pa_nil))) (pg_sub (pv 4) (pv 7) set_list))))) pss_nil))))
      (pss_one (ps_ret (pv 4))))),?_⟩
    have hla:=Paired.length hp
    have hlt:=Paired.length hpt
    refine ⟨_,rfl,wl,_,rfl,.inl (SqL.of hw),fun sl hsl => ?_⟩
    have s0:Same H (upd H sl (.lst (bs.map V.ref))):=Same.new hsl
    have hF0:IsFs K (upd H sl (.lst (bs.map V.ref))) sl ws:=⟨bs,upd_same,keepF hpw s0⟩
    refine ⟨_,rfl,_,_,rfl,.inl (SqL.of (s0 _ _ hl)),_,_,rfl,rfl,_,rfl,_,_,rfl,rfl,_,rfl,_,_,_,c.length - k,rfl,?_,
      for_rangeC (lo:=((as.map V.ref).length:Int) - 1) (c := -1) (n:=c.length - k) (fun m σ H' => ∃ v5 v6 v7 v8:Option V,σ=[some (.ref l),some (.ref t),some (.ref wl),some (.int (k:Int)),some (.ref sl),v5,v6,v7,v8]∧Same H H'∧IsFs K H' sl (sweepN tp ws m))
      ⟨none,none,none,none,rfl,s0,hF0⟩ ?_ ?_⟩
    · have:=RgC.neg (i:=((as.map V.ref).length:Int) - 1) (j:=(k:Int) - 1) (by omega) (by rw [List.length_map]; omega) (by omega) (by omega)
      rw [show (((as.map V.ref).length:Int) - 1 - ((k:Int) - 1)).toNat=c.length - k by rw [List.length_map]; omega] at this
      exact this
    · rintro m σ H1 hm ⟨v5,v6,v7,v8,rfl,s1,hF⟩
      obtain ⟨fs,hsl1,hfs⟩:=hF
      have hfl:fs.length=c.length:=by rw [Paired.length hfs,sweepN_length,hwl]
      have enum:((as.map V.ref).length:Int) - 1+(m:Nat) * -1=((c.length - 1 - m:Nat):Int):=by rw [List.length_map]; omega
      obtain ⟨o,ho1,ho2⟩:=pget hfs (at_get (vs:=sweepN tp ws m) (i:=c.length - 1 - m) (by rw [sweepN_length]; omega))
      refine ⟨_,rfl,_,rfl,sl,_,_,_,rfl,rfl,SqL.of hsl1,atN enum (imap ho1),?_⟩
      refine ⟨_,rfl,_,_,dpF ho2.at_,.tup (i_ZERO _) (.cons (.int _) (.cons (.int _) .nil)),rfl,rfl,_,rfl,?_⟩
      have ev:=eqv_zero ho2.wf
      obtain ⟨ps,hps⟩:∃ ps,tp[c.length - 1 - m]? = some ps:=⟨_,List.getElem?_eq_getElem (by rw [htp.1]; omega)⟩
      have hstep:sweepN tp ws (m+1)=swStep (sweepN tp ws m) (ps,c.length - 1 - m):=by
        have:=sweepN_succ (l:=ws) (t:=tp) (m:=m) (ps:=ps) (by rw [htp.1]; exact hps) (by rw [htp.1]; omega)
        rw [htp.1] at this
        exact this
      by_cases hzr:Vagraa.isZero (at_ (sweepN tp ws m) (c.length - 1 - m))=true
      · refine iteBF (by rw [ev,hzr]; rfl) ?_
        refine ⟨_,_,_,_,rfl,s1,?_⟩
        rw [hstep]
        unfold swStep
        rw [if_pos hzr]
        exact ⟨fs,hsl1,hfs⟩
      refine iteBT (by rw [ev]; simpa using hzr) ?_
      have hstep2:sweepN tp ws (m+1)=pass (at_ (sweepN tp ws m) (c.length - 1 - m)) ps (sweepN tp ws m):=by
        rw [hstep]
        unfold swStep
        rw [if_neg hzr]
      obtain ⟨ln,hln⟩:∃ ln,c[c.length - 1 - m]? = some ln:=⟨_,List.getElem?_eq_getElem (by omega)⟩
      obtain ⟨la,hla1,hla2⟩:=pget hp hln
      obtain ⟨ta,hta1,hta2⟩:=pget hpt (show (tpD tp)[c.length - 1 - m]? = some (ps.map (·.2)) by unfold tpD; rw [List.getElem?_map,hps]; rfl)
      obtain ⟨hps2,hpsB⟩:=hTB ps (List.mem_of_getElem? hps)
      have huses:=htp.2 _ _ _ hln hps
      refine ⟨_,rfl,_,rfl,_,_,_,_,rfl,rfl,SqL.of (s1 _ _ hl),atN enum (imap hla1),la,ln,rfl,hla2.keep s1,fun H2 up s2 hup0 hup => ?_⟩
      have s12:=s1.trans s2
      obtain ⟨ds,hds1,hds2⟩:=hta2.keep s12
      have hdl:=Paired.length hds2
      rw [List.length_map] at hdl
      have hul:(natV ln.uses).length=ps.length:=by rw [← huses]; unfold natV; rw [List.length_map,List.length_map]
      have hupl:up≠sl:=fun e=>by rw [e,hsl1] at hup0; cases hup0
      have htal:ta≠sl:=fun e=>by
        obtain ⟨_,z,_⟩:=hta2
        rw [e,hsl] at z
        cases z
      have hsl2:=s2 _ _ hsl1
      have bm:=hAB.sweptN fitE.pos hTB m (by rw [htp.1]; omega)
      have bo:=bm.at (c.length - 1 - m)
      have fitm:=fit.mul (fitE.pow (m+1))
      have hsz:a+ea*(m+1)+1+(b+eb*(m+1))≤60000000:=by
        have h1:ea*(m+1)≤ea*c.length:=Nat.mul_le_mul_left _ (by omega)
        have h2:eb*(m+1)≤eb*c.length:=Nat.mul_le_mul_left _ (by omega)
        omega
      have hsz1:ea+1+eb≤60000000:=by
        have h1:ea*1≤ea*c.length:=Nat.mul_le_mul_left _ (by omega)
        have h2:eb*1≤eb*c.length:=Nat.mul_le_mul_left _ (by omega)
        omega
      have hBm:B*(1+2*C) ^ m≤B*(1+2*C) ^ (m+1):=Nat.mul_le_mul_left _ (Nat.pow_le_pow_right (by omega) (by omega))
      have hDm:D*E ^ m∣D*E ^ (m+1):=⟨E,by rw [Nat.pow_succ,Nat.mul_assoc]⟩
      have smo:Sm (at_ (sweepN tp ws m) (c.length - 1 - m)):=fitm.small (bo.2.mono hDm hBm) hsz
      have eD:D*E ^ m*E=D*E ^ (m+1):=by rw [Nat.pow_succ,Nat.mul_assoc]
      have eB:∀ j,j≤2→B*(1+2*C) ^ m+j*(B*(1+2*C) ^ m*C)≤B*(1+2*C) ^ (m+1):=fun j hj=>by
        have e:B*(1+2*C) ^ (m+1)=B*(1+2*C) ^ m*(1+2*C):=by rw [Nat.pow_succ,← Nat.mul_assoc]
        rw [e]
        generalize B*(1+2*C) ^ m=X
        have e2:X*(1+2*C)=X+2*(X*C):=by rw [Nat.mul_add,Nat.mul_one,Nat.mul_left_comm]
        rw [e2]
        exact Nat.add_le_add_left (Nat.mul_le_mul_right _ hj) _
      refine ⟨_,rfl,_,rfl,_,_,_,_,rfl,rfl,SqL.of (s12 _ _ ht),atN enum (imap hta1),_,_,_,_,rfl,SqL.of hup,SqL.of hds1,
        for_zip (K:=K) (a:=up) (b:=ta) (xs:=natV ln.uses) (ys:=ds.map V.ref) (by rw [hul,List.length_map,hdl]) (fun j σ H' => ∃ v7 v8:Option V,σ=[some (.ref l),some (.ref t),some (.ref wl),some (.int (k:Int)),some (.ref sl),some (.int (((as.map V.ref).length:Int) - 1+(m:Nat) * -1)),some (.ref o),v7,v8]∧SameBut sl H2 H'∧IsFs K H' sl (pass (at_ (sweepN tp ws m) (c.length - 1 - m)) (ps.take j) (sweepN tp ws m)))
        ⟨_,_,rfl,SameBut.refl _ _,(show IsFs K H2 sl (sweepN tp ws m) from IsFs.keep ⟨fs,hsl1,hfs⟩ s2)⟩ (fun j σ H' _ ⟨_,_,_,sb,_⟩=>⟨SqL.of (sb _ _ hup hupl),SqL.of (sb _ _ hds1 htal)⟩) ?_ ?_⟩
      · rintro j x y Tp σ H3 hx hy ⟨v7',v8',rfl,sb,hF3⟩ hT
        obtain ⟨d,hd,rfl⟩:=ofmap hy
        obtain ⟨p,hpj⟩:∃ p,ps[j]? = some p:=⟨_,List.getElem?_eq_getElem (by rw [← hdl]; exact (List.getElem?_eq_some_iff.mp hd).1)⟩
        obtain ⟨df,hdf1,hdf2⟩:=pgetL hds2 hd
        have edf:df=p.2:=by
          rw [List.getElem?_map,hpj] at hdf1
          exact (Option.some.inj hdf1).symm
        subst edf
        have ex:x=V.int ((p.1:Nat):Int):=by
          unfold natV at hx
          rw [← huses,List.getElem?_map,List.getElem?_map,hpj] at hx
          exact (Option.some.inj hx).symm
        subst ex
        have hp1:p.1<c.length:=huse ln (List.mem_of_getElem? hln) p.1 (by rw [← huses]; exact List.mem_map.mpr ⟨p,List.mem_of_getElem? hpj,rfl⟩)
        have sT:=Same.new (o:=.tup [V.int ((p.1:Nat):Int),V.ref d]) hT
        obtain ⟨gs,hgs1,hgs2⟩:=hF3.keep sT
        have hgl:gs.length=c.length:=by rw [Paired.length hgs2,pass_length,sweepN_length,hwl]
        obtain ⟨e,he1,he2⟩:=pget hgs2 (at_get (vs:=pass (at_ (sweepN tp ws m) (c.length - 1 - m)) (ps.take j) (sweepN tp ws m)) (i:=p.1) (by rw [pass_length,sweepN_length,hwl]; exact hp1))
        obtain ⟨pw1,pw2⟩:=hpsB p (List.mem_of_getElem? hpj)
        have hjl:j<ps.length:=(List.getElem?_eq_some_iff.mp hpj).1
        have smd:Sm p.2:=fitE.small (pw2.mono (Nat.dvd_refl _) (by omega)) hsz1
        have bj:=bm.passed fitE.pos bo.1 bo.2 hpsB j (by omega)
        have sme:Sm (at_ (pass (at_ (sweepN tp ws m) (c.length - 1 - m)) (ps.take j) (sweepN tp ws m)) p.1):=by
          have:=(bj.at p.1).2
          rw [eD] at this
          exact fitm.small (this.mono (Nat.dvd_refl _) (eB j (by omega))) hsz
        have smp:Sm (Vagraa.mul (at_ (sweepN tp ws m) (c.length - 1 - m)) p.2):=by
          have:=Bd.mul bo.1 pw1 bo.2 pw2
          rw [eD] at this
          refine fitm.small (this.mono (Nat.dvd_refl _) ?_) hsz
          exact Nat.le_trans (by omega) (eB 1 (by omega))
        have ho3:IsF K (upd H3 Tp (.tup [V.int ((p.1:Nat):Int),V.ref d])) o (at_ (sweepN tp ws m) (c.length - 1 - m)):=(SameBut.isF sb hsl2 (ho2.keep s2)).keep sT
        have hd3:IsF K (upd H3 Tp (.tup [V.int ((p.1:Nat):Int),V.ref d])) d p.2:=(SameBut.isF sb hsl2 hdf2).keep sT
        refine ⟨Tp,_,rfl,SqT.of upd_same,rfl,_,_,rfl,_,_,rfl,rfl,?_⟩
        refine ⟨_,rfl,_,rfl,sl,_,_,_,rfl,rfl,SqL.of hgs1,atN rfl (imap he1),_,rfl,_,rfl,o,d,_,_,rfl,ho3,hd3,smo,smd,fun p2 hp2 => ?_⟩
        have s5:=Same.new (o:=.tup (tupF (Vagraa.mul (at_ (sweepN tp ws m) (c.length - 1 - m)) p.2))) hp2
        refine ⟨e,p2,_,_,rfl,he2.keep s5,IsF.new (mul_wf bo.1 pw1),sme,smp,fun p3 hp3 => ?_⟩
        have s6:=Same.new (o:=.tup (tupF (Vagraa.add (at_ (pass (at_ (sweepN tp ws m) (c.length - 1 - m)) (ps.take j) (sweepN tp ws m)) p.1) (Vagraa.mul (at_ (sweepN tp ws m) (c.length - 1 - m)) p.2)))) hp3
        have s56:=s5.trans s6
        have hl5:=s56 _ _ hgs1
        refine ⟨_,rfl,_,rfl,sl,_,_,p.1,rfl,rfl,hl5,ixN_nat (by rw [List.length_map,hgl]; exact hp1),?_⟩
        refine ⟨_,_,rfl,((sb.trans (SameBut.of sT)).trans (SameBut.of s56)).trans SameBut.put,?_⟩
        rw [pass_take hpj]
        exact IsFs.set hl5 (keepF hgs2 s56) (IsF.new (add_wf he2.wf (mul_wf bo.1 pw1))) p.1
      · rintro σ H3 ⟨v7',v8',rfl,sb,hF3⟩
        refine ⟨_,_,_,_,rfl,SameBut.same hsl s12 sb,?_⟩
        rw [hul,List.take_length] at hF3
        rw [hstep2]
        exact hF3
    · rintro σ H1 ⟨v5,v6,v7,v8,rfl,s1,hF⟩
      exact ⟨_,rfl,q _ _ s1 hsl hF⟩
abbrev st_sweep_cost:Stmt:=top 49
theorem sc_sweep_cost:FnScope ["lines","sums","cost","line","line_sum"] ["lines","sums"] (defScope st_sweep_cost):=⟨rfl,rfl,rfl,by decide +kernel,rfl,by decide +kernel,by decide +kernel⟩
def spCost (K:PySem.W.Frag):Sp:=fun vs H Q _ => ∃ (l sl:Addr) (c:List Line) (fs:List Frac),vs=[.ref l,.ref sl]∧IsLns K H l c∧IsFs K H sl fs∧fs.length=c.length∧∀ H',Same H H'→Q (.int ((Vagraf.sweepCost c fs:Nat):Int)) H'
theorem price_at (l:Line):atI [V.int 0,V.int 0,V.int 2,V.int 2,V.int 4,V.int 4,V.int 1] (kindOf l)=some (V.int ((Vagraf.passCost l:Nat):Int)):=by cases l <;> rfl
theorem cost_take {c:List Line} {fs:List Frac} {i:Nat} {l:Line} {f:Frac} (h1:c[i]? = some l) (h2:fs[i]? = some f):(((c.zip fs).take (i+1)).map fun x=>if Vagraa.isZero x.2=true then 0 else Vagraf.passCost x.1).sum=(((c.zip fs).take i).map fun x=>if Vagraa.isZero x.2=true then 0 else Vagraf.passCost x.1).sum+(if Vagraa.isZero f=true then 0 else Vagraf.passCost l):=by
  rw [take_snoc (x:=(l,f)) (List.getElem?_zip_eq_some.mpr ⟨h1,h2⟩),List.map_append,List.sum_append]
  simp
theorem can_sweep_cost (T:Txt K mg) (S:Src K mg "sweep_cost" st_sweep_cost ["lines","sums"]):Can P w K mg base 43 "sweep_cost" ["lines","sums"] (spCost K):=by
  obtain ⟨a_ZERO,h_ZERO,i_ZERO⟩:=T.t_ZERO
  obtain ⟨a_PRICES,h_PRICES,i_PRICES⟩:=T.t_PRICES
  refine S.can sc_sweep_cost (fun vs H Q E h => ?_) (fun f cdv A outer s H vs Q E hr h => ?_)
  · obtain ⟨l,sl,c,fs,rfl,_⟩:=h
    rfl
  · obtain ⟨l,sl,c,fs,rfl,⟨as,hl,hp⟩,⟨bs,hsl,hps⟩,hlen,q⟩:=h
    refine ⟨_,(pss_cons (ps_set (i:=2) sc_sweep_cost.nd rfl (Or.inl rfl) pe_int)
      (pss_cons (ps_for PassesOwn.never rfl (pi_zip rfl T.n_zip (pa_cons (pv 0) (pa_cons (pv 1) pa_nil))) (pg_tup rfl (pgs_cons (pg_name (i:=3) sc_sweep_cost.nd rfl (Or.inl rfl)) (pgs_cons (pg_name (i:=4) sc_sweep_cost.nd rfl (Or.inl rfl)) pgs_nil))) (pss_one (ps_if (pt_cmpR (op_neD hr.units) (pv 4) (pe_glob rfl h_ZERO rfl (v:=V.ref a_ZERO)) (nomark _)) (pss_one (ps_set (i:=2) sc_sweep_cost.nd rfl (Or.inl rfl) (pe_op op_add (pv 2) (pe_ix ix_tup (pe_glob rfl h_PRICES rfl (v:=V.ref a_PRICES)) (pe_ix ix_tup (pv 3) pe_int (fun _ _=>rfl)) (fun _ _=>rfl))))) pss_nil)))
      (pss_one (ps_ret (pv 2))))),?_⟩
    have hla:=Paired.length hp
    have hlb:=Paired.length hps
    refine ⟨_,rfl,_,rfl,l,sl,_,_,rfl,SqL.of hl,SqL.of hsl,for_zip (K:=K) (a:=l) (b:=sl) (xs:=as.map V.ref) (ys:=bs.map V.ref) (by rw [List.length_map,List.length_map]; omega)
      (fun i σ H' => ∃ v3 v4:Option V,σ=[some (.ref l),some (.ref sl),some (.int (((((c.zip fs).take i).map fun x=>if Vagraa.isZero x.2=true then 0 else Vagraf.passCost x.1).sum:Nat):Int)),v3,v4]∧Same H H')
      ⟨none,none,rfl,Same.refl H⟩ (fun i σ H' _ ⟨_,_,_,s1⟩=>⟨SqL.of (s1 _ _ hl),SqL.of (s1 _ _ hsl)⟩) ?_ ?_⟩
    · rintro i x y Tp σ H1 hx hy ⟨v3,v4,rfl,s1⟩ hT
      obtain ⟨a,ha,rfl⟩:=ofmap hx
      obtain ⟨b,hb,rfl⟩:=ofmap hy
      obtain ⟨ln,hln,hLn⟩:=pgetL hp ha
      obtain ⟨g,hg,hG⟩:=pgetL hps hb
      have s2:Same H (upd H1 Tp (.tup [.ref a,.ref b])):=L2.Same.trans s1 (Same.new hT)
      refine ⟨Tp,_,rfl,SqT.of upd_same,rfl,_,_,rfl,_,_,rfl,rfl,?_⟩
      have hG2:=hG.keep s2
      have hc:=cost_take hln hg
      refine ⟨_,rfl,_,_,dpF hG2.at_,.tup (i_ZERO _) (.cons (.int _) (.cons (.int _) .nil)),rfl,rfl,_,rfl,?_⟩
      have ev:=eqv_zero hG2.wf
      by_cases hzr:Vagraa.isZero g=true
      · refine iteBF (by rw [ev,hzr]; rfl) ?_
        rw [if_pos hzr] at hc
        exact ⟨_,_,by rw [hc]; rfl,s2⟩
      · refine iteBT (by rw [ev]; simpa using hzr) ?_
        rw [if_neg hzr] at hc
        obtain ⟨ns,hns,hTn⟩:=hLn.keep s2
        obtain ⟨r,rfl⟩:=hTn.head
        refine ⟨_,rfl,_,rfl,_,_,_,_,rfl,rfl,hns,atc0,_,_,_,_,rfl,rfl,i_PRICES _,price_at ln,_,_,rfl,rfl,?_⟩
        exact ⟨_,_,by rw [hc,Int.natCast_add]; rfl,s2⟩
    · rintro σ H1 ⟨v3,v4,rfl,s1⟩
      refine ⟨_,rfl,?_⟩
      have q':=q H1 s1
      rw [List.length_map,List.take_of_length_le (by rw [List.length_zip]; omega)]
      exact q'
abbrev st_by_inputs:Stmt:=top 50
theorem sc_by_inputs:FnScope ["lines","inputs","sums","derivatives","line","line_sum"] ["lines","inputs","sums"] (defScope st_by_inputs):=⟨rfl,rfl,rfl,by decide +kernel,rfl,by decide +kernel,by decide +kernel⟩
def spByIn (K:PySem.W.Frag):Sp:=fun vs H Q _ => ∃ (l sl:Addr) (n:Nat) (c:List Line) (fs:List Frac) (a b D B:Nat),vs=[.ref l,.int (n:Int),.ref sl]∧IsLns K H l c∧IsFs K H sl fs∧fs.length=c.length∧c.length≤1000∧n≤1000∧(∀ x∈c,inOk n x=true) ∧
  AllB D B fs∧Fit a b D B∧a+1+(10+b)≤60000000∧∀ H' p,Same H H'→H p=none→IsFs K H' p (Vagraf.byInput n c fs)→Q (.ref p) H'
theorem can_by_inputs (T:Txt K mg) (S:Src K mg "by_inputs" st_by_inputs ["lines","inputs","sums"]) (c_plus:Can P w K mg base 43 "plus" ["first","second"] (spPlus K)):Can P w K mg base 45 "by_inputs" ["lines","inputs","sums"] (spByIn K):=by
  obtain ⟨a_ZERO,h_ZERO,i_ZERO⟩:=T.t_ZERO
  refine S.can sc_by_inputs (fun vs H Q E h => ?_) (fun f cdv A outer s H vs Q E hr h => ?_)
  · obtain ⟨l,sl,n,c,fs,a,b,D,B,rfl,_⟩:=h
    rfl
  · obtain ⟨l,sl,n,c,fs,a,b,D,B,rfl,⟨as,hl,hp⟩,⟨bs,hsl,hps⟩,hlen,hcl,hn,hin,hAB,fit,hz,q⟩:=h
    refine ⟨_,(pss_cons (ps_set (i:=3) sc_by_inputs.nd rfl (Or.inl rfl) (pe_op op_rep (pe_lst (pa_cons (pe_glob rfl h_ZERO rfl (v:=V.ref a_ZERO)) pa_nil)) (pv 1)))
      (pss_cons (ps_for PassesOwn.never rfl (pi_zip rfl T.n_zip (pa_cons (pv 0) (pa_cons (pv 2) pa_nil))) (pg_tup rfl (pgs_cons (pg_name (i:=4) sc_by_inputs.nd rfl (Or.inl rfl)) (pgs_cons (pg_name (i:=5) sc_by_inputs.nd rfl (Or.inl rfl)) pgs_nil))) (pss_one (ps_if (pt_cmpR op_eq (pe_ix ix_tup (pv 4) pe_int (fun _ _=>rfl)) (pe_gc T.c_INPUT) (nomark _)) (pss_one (ps_asg (pe_can c_plus (hr.mono (by decide)) (pa_cons (pe_ix ix_list (pv 3) (pe_ix ix_tup (pv 4) pe_int (fun _ _=>rfl)) (fun _ _=>rfl)) (pa_cons (pv 5) pa_nil))) (pg_sub (pv 3) (pe_ix ix_tup (pv 4) pe_int (fun _ _=>rfl)) set_list))) pss_nil)))
      (pss_one (ps_ret (pv 3))))),?_⟩
    have hla:=Paired.length hp
    have hlb:=Paired.length hps
    refine ⟨(by show 1≤sizeLine; decide),fun l0 hl0 => ?_⟩
    refine ⟨_,rfl,_,_,_,rfl,rfl,upd_same,by omega,by omega,?_,fun dl hdl => ?_⟩
    · show 1*((n:Int)).toNat≤sizeLine
      exact line_le (by omega)
    have s0:Same H (upd H l0 (.lst [V.ref a_ZERO])):=Same.new hl0
    have hdn:H dl=none:=s0.free hdl
    have s1:=s0.trans (Same.new (o:=.lst (List.replicate n [V.ref a_ZERO]).flatten) hdl)
    have hF0:IsFs K (upd (upd H l0 (.lst [V.ref a_ZERO])) dl (.lst (List.replicate n [V.ref a_ZERO]).flatten)) dl (byN n c fs 0):=IsFs.zeros i_ZERO n
    refine ⟨_,rfl,_,rfl,l,sl,_,_,rfl,SqL.of (s1 _ _ hl),SqL.of (s1 _ _ hsl),for_zip (K:=K) (a:=l) (b:=sl) (xs:=as.map V.ref) (ys:=bs.map V.ref) (by rw [List.length_map,List.length_map]; omega)
      (fun i σ H' => ∃ v4 v5:Option V,σ=[some (.ref l),some (.int (n:Int)),some (.ref sl),some (.ref dl),v4,v5]∧Same H H'∧IsFs K H' dl (byN n c fs i))
      ⟨none,none,rfl,s1,hF0⟩ (fun i σ H' _ ⟨_,_,_,s2,_⟩=>⟨SqL.of (s2 _ _ hl),SqL.of (s2 _ _ hsl)⟩) ?_ ?_⟩
    · rintro i x y Tp σ H1 hx hy ⟨v4,v5,rfl,s2,hF⟩ hT
      obtain ⟨a1,ha,rfl⟩:=ofmap hx
      obtain ⟨b1,hb,rfl⟩:=ofmap hy
      obtain ⟨ln,hln,hLn⟩:=pgetL hp ha
      obtain ⟨g,hg,hG⟩:=pgetL hps hb
      have sT:=Same.new (o:=.tup [V.ref a1,V.ref b1]) hT
      have s3:=s2.trans sT
      have hstep:=byN_succ (n:=n) hln hg
      refine ⟨Tp,_,rfl,SqT.of upd_same,rfl,_,_,rfl,_,_,rfl,rfl,?_⟩
      obtain ⟨ns,hns,hTn⟩:=hLn.keep s3
      obtain ⟨r,rfl⟩:=hTn.head
      refine ⟨_,rfl,_,_,_,_,rfl,rfl,hns,atc0,rfl,_,rfl,?_⟩
      by_cases h0:kindOf ln=0
      · refine iteBT (by simp [h0]) ?_
        cases ln with
        | input k=>
          cases (show (0:Int)::r=[0,(k:Int)] from hTn)
          have hk:k<n:=by simpa [inOk] using hin _ (List.mem_of_getElem? hln)
          obtain ⟨gs,hgs1,hgs2⟩:=hF.keep sT
          have hgl:gs.length=n:=by rw [Paired.length hgs2,byN_length]
          obtain ⟨e,he1,he2⟩:=pget hgs2 (at_get (vs:=byN n c fs i) (i:=k) (by rw [byN_length]; exact hk))
          have hii:=(List.getElem?_eq_some_iff.mp hln).1
          have bi:=(hAB.byN n c i (by omega) (by omega)).at k
          have fi:=fit.times (k:=i) (j:=10) (by omega)
          have bg:=hAB g (List.mem_of_getElem? hg)
          refine ⟨_,rfl,_,rfl,_,_,_,_,rfl,rfl,hns,atc1,_,_,_,_,rfl,rfl,SqL.of hgs1,atN rfl (imap he1),_,rfl,e,b1,_,_,rfl,he2,hG.keep s3,fi.small bi.2 hz,fit.small bg.2 (by omega),fun p hp0 => ?_⟩
          have s4:=Same.new (o:=.tup (tupF (Vagraa.add (at_ (byN n c fs i) k) g))) hp0
          have hl4:=s4 _ _ hgs1
          refine ⟨_,rfl,_,rfl,_,_,_,_,rfl,rfl,Same.tup s4 hns,atc1,dl,_,_,k,rfl,rfl,hl4,ixN_nat (by rw [List.length_map,hgl]; exact hk),?_⟩
          refine ⟨_,_,rfl,samePut hdn (s3.trans s4),?_⟩
          rw [hstep]
          exact IsFs.set hl4 (keepF hgs2 s4) (IsF.new (add_wf he2.wf hG.wf)) k
        | _=>(exact absurd h0 (by simp [kindOf]))
      · refine iteBF (by simp [h0]) ?_
        refine ⟨_,_,rfl,s3,?_⟩
        rw [hstep]
        have e:byStep (byN n c fs i) (ln,g)=byN n c fs i:=by cases ln <;> first | rfl | exact absurd rfl h0
        rw [e]
        exact hF.keep sT
    · rintro σ H1 ⟨v4,v5,rfl,s2,hF⟩
      refine ⟨_,rfl,?_⟩
      rw [List.length_map,hla,byN_all (Nat.le_refl _)] at hF
      exact q _ _ s2 hdn hF
end
end Ts
end
section
set_option maxRecDepth 100000
set_option maxHeartbeats 2000000
namespace Ts
open PySem PySem.Spec PyProof.Rows L2
open Vagraa (Frac)
open VagraLine (Line at_)
theorem lc_enum {K:PySem.W.Frag} {a:Addr} {xs:List V} {g:TG} {tt:TT} {te:TE} {vs:List Nat} {σ:L2.St} {H1:Hp} {D:Addr} {Qd:Hp→Prop} (Pv:Nat→Hp→Prop) (h0:Pv 0 (upd H1 D (.lst []))) (hl:∀ i H,i≤xs.length→Pv i H→SqL K H a xs)
    (hs:∀ i x T H,xs[i]? = some x→Pv i H→H T=none→g (.ref T) (wipe σ vs) (upd H T (.tup [.int (i:Nat),x])) fun σ2 H2=>wipe σ2 vs=wipe σ vs∧tt σ2 H2 fun b H3=>
      if b=true then te σ2 H3 fun y H4 => ∃ acc,H4 D=some (.lst acc)∧acc.length<sizeLine∧Pv (i+1) (upd H4 D (.lst (acc++[y]))) else Pv (i+1) H3) (hd:∀ H,Pv xs.length H→Qd H) :
    ∃ W:Nat→Nat→Hp→Prop,(∃ m,W 0 m (upd H1 D (.lst [])))∧∀ i m H,W i m H →
      ((Ite K a).stop i H∧Qd H)∨((Ite K a).go i H∧∃ Nx:Hp→Prop,(∀ H',Nx H'→∃ m',m'<m∧W (i+1) m' H')∧∀ x H',(Ite K a).yld i H x H'→g x (wipe σ vs) H' fun σ2 H2=>wipe σ2 vs=wipe σ vs∧tt σ2 H2 fun b H3=>
        if b=true then te σ2 H3 fun y H4 => ∃ acc,H4 D=some (.lst acc)∧acc.length<sizeLine∧Nx (upd H4 D (.lst (acc++[y]))) else Nx H3):=by
  refine ⟨fun i m H=>m=xs.length - i∧i≤xs.length∧Pv i H,⟨xs.length,by simp,Nat.zero_le _,h0⟩,?_⟩
  rintro i m H ⟨rfl,hi,p⟩
  have q:=hl i H hi p
  by_cases hlt:i<xs.length
  · refine .inr ⟨⟨xs,xs[i],q,by simp [hlt]⟩,Pv (i+1),fun H' p'=>⟨xs.length - (i+1),by omega,rfl,hlt,p'⟩,fun v H' y => ?_⟩
    obtain ⟨T,x,rfl,hT,rfl,hx⟩:=y
    exact hs i x T H (hx xs q) p hT
  · have e:i=xs.length:=by omega
    subst e
    exact .inl ⟨⟨xs,q,Nat.le_refl _⟩,hd H p⟩
section
variable {X:Cx}
theorem ixK_tup {K:PySem.W.Frag} (h:X.K=K):IxR X (rIxT K):=by subst h; exact ix_tup
theorem pe_fldK {K:PySem.W.Frag} {e:Expr} {ta:TE} {f:Str} {pos:Pos} (h:X.K=K) (he:PE X e ta) (hb:attributeBase e f X.env (eval e X.env)=eval e X.env):PE X (.Attribute e f pos) (tFld K ta f):=by subst h; exact pe_fld he hb
end
theorem dp_ints {K:PySem.W.Frag} {H:Hp}:∀ ns:List Int,DpAll K H (ns.map V.int) (ns.map PyData.int)
  | [] => .nil
  | n::ns => .cons (.int n) (dp_ints ns)
theorem eqv_ints:∀ ns ms:List Int,PyData.eqvAll (ns.map PyData.int) (ms.map PyData.int)=decide (ns=ms)
  | [],[]=>rfl
  | n::ns,m::ms=>by
    show ((n == m)&&PyData.eqvAll (ns.map PyData.int) (ms.map PyData.int))=_
    rw [eqv_ints ns ms]
    by_cases h:n=m
    · subst h; simp
    · simp [h]
  | [],_::_=>by simp [PyData.eqvAll]
  | _::_,[]=>by simp [PyData.eqvAll]
theorem shaped_ints (ns:List Int):SeqAt.shaped (.list (ns.map PyData.int))=true:=by
  have h1:∀ ns:List Int,PyData.canLayAll0 (ns.map PyData.int)=true:=by
    intro ns
    induction ns with
    | nil=>simp [PyData.canLayAll0]
    | cons n ns ih=>simp [PyData.canLayAll0,PyData.canLay0,ih]
  have h2:∀ ns:List Int,PyData.depthAll (ns.map PyData.int)=0:=by
    intro ns
    induction ns with
    | nil=>simp [PyData.depthAll]
    | cons n ns ih=>simp [PyData.depthAll,PyData.depth,ih]
  unfold SeqAt.shaped
  simp [PyData.canLay0,PyData.depth,h1,h2]
theorem natV_int (l:List Nat):natV l=(l.map Int.ofNat).map V.int:=by
  unfold natV
  rw [List.map_map]
  rfl
def notIn (x:Line×Nat):Bool:=match x.1 with
  | .input _=>false
  | _=>true
def innerN (c:List Line) (i:Nat):List Nat:=((c.zipIdx.take i).filter notIn).map (·.2)
theorem inner_eq (c:List Line):Vagraf.inner c=innerN c c.length:=by
  unfold innerN
  rw [List.take_of_length_le (by rw [List.length_zipIdx]; exact Nat.le_refl _)]
  rfl
theorem innerN_succ {c:List Line} {i:Nat} {l:Line} (h:c[i]? = some l):innerN c (i+1)=innerN c i++if notIn (l,i)=true then [i] else []:=by
  unfold innerN
  have e:c.zipIdx[i]? = some (l,i):=by rw [List.getElem?_zipIdx,h]; simp
  rw [take_snoc e,List.filter_append,List.map_append]
  congr 1
  cases hn:notIn (l,i) with
  | true=>simp [hn]
  | false=>simp [hn]
theorem innerN_len (c:List Line) (i:Nat):(innerN c i).length≤i:=by
  unfold innerN
  rw [List.length_map]
  exact Nat.le_trans (List.length_filter_le _ _) (by rw [List.length_take]; exact Nat.min_le_left _ _)
section
variable {P:Program} {w:World} {K:PySem.W.Frag} {mg:Str→Option Value} {base:Heap}
abbrev st_read_outs:Stmt:=top 53
theorem sc_read_outs:FnScope ["numbers","count","number"] ["numbers","count"] (defScope st_read_outs):=⟨rfl,rfl,rfl,by decide +kernel,rfl,by decide +kernel,by decide +kernel⟩
def OutsOk (n:Nat) (ns:List Int):Prop:=(ns.all fun i=>decide (0≤i)&&decide (i<(n:Int)))=true∧ns.length≤12
def spReadOuts (K:PySem.W.Frag):Sp:=fun vs H Q _ => ∃ (a:Addr) (ns:List Int) (n:Nat),vs=[.ref a,.int (n:Int)]∧SqL K H a (ns.map V.int)∧(∀ H',Same H H'→¬ OutsOk n ns→Q .non H')∧∀ H' p,Same H H'→H p=none→OutsOk n ns→H' p=some (.lst (ns.map V.int))→Q (.ref p) H'
theorem can_read_outs (T:Txt K mg) (S:Src K mg "read_outs" st_read_outs ["numbers","count"]):Can P w K mg base 43 "read_outs" ["numbers","count"] (spReadOuts K):=by
  refine S.can sc_read_outs (fun vs H Q E h => ?_) (fun f cdv A outer s H vs Q E hr h => ?_)
  · obtain ⟨a,ns,n,rfl,_⟩:=h
    rfl
  · obtain ⟨a,ns,n,rfl,ha,qN,qS⟩:=h
    refine ⟨_,(pss_cons (ps_if (pt_cmpR op_gt (pe_callB call_len_seq rfl T.n_len PySem.boot_len (pa_cons (pv 0) pa_nil)) (pe_gc T.c_MOST_OUTS) (nomark _)) (pss_one (ps_ret pe_non)) pss_nil)
      (pss_cons (ps_for PassesOwn.never rfl (pi_list (pv 0)) (pg_name (i:=2) sc_read_outs.nd rfl (Or.inl rfl)) (pss_one (ps_if (PW.pt (pw_or (pt_cmpR op_lt (pv 2) pe_int (nomark _)) (pw_or1 (pt_cmpR op_ge (pv 2) (pv 1) (nomark _))))) (pss_one (ps_ret pe_non)) pss_nil)))
      (pss_one (ps_ret (pe_callTy call_list_of rfl T.n_list boot_list (pa_cons (pv 0) pa_nil)))))),?_⟩
    refine ⟨_,rfl,_,_,rfl,.inl ha,_,_,rfl,rfl,_,rfl,?_⟩
    by_cases hl:ns.length≤12
    case neg=>
      refine iteBT (by rw [List.length_map]; simp; omega) ?_
      exact qN _ (Same.refl H) fun h=>hl h.2
    refine iteBF (by rw [List.length_map]; simp; omega) ?_
    refine ⟨_,rfl,a,rfl,⟨_,ha⟩,for_list (K:=K) (a:=a) (xs:=ns.map V.int) (fun i σ H' => ∃ v:Option V,σ=[some (.ref a),some (.int (n:Int)),v]∧H'=H∧((ns.take i).all fun i=>decide (0≤i)&&decide (i<(n:Int)))=true)
      ⟨none,rfl,rfl,rfl⟩ (fun i σ H' _ ⟨_,_,e,_⟩=>by rw [e]; exact ha) ?_ ?_⟩
    · rintro i x σ H1 hx ⟨v,rfl,rfl,hall⟩
      obtain ⟨z,hz,rfl⟩:=ofmapI hx
      refine ⟨_,rfl,_,_,rfl,rfl,_,rfl,?_⟩
      by_cases hneg:z<0
      · refine iteBT (by simpa using hneg) (iteBT rfl ?_)
        refine qN _ (Same.refl H1) fun h => ?_
        have:=List.all_eq_true.mp h.1 z (List.mem_of_getElem? hz)
        simp at this
        omega
      refine iteBF (by simpa using hneg) ?_
      refine ⟨_,rfl,_,rfl,_,_,rfl,rfl,_,rfl,?_⟩
      by_cases hge:(n:Int)≤z
      · refine iteBT (by simpa using hge) ?_
        refine qN _ (Same.refl H1) fun h => ?_
        have:=List.all_eq_true.mp h.1 z (List.mem_of_getElem? hz)
        simp at this
        omega
      refine iteBF (by simpa using hge) ?_
      refine ⟨_,rfl,rfl,?_⟩
      rw [take_snoc hz,List.all_append,hall]
      simp
      omega
    · rintro σ H1 ⟨v,rfl,rfl,hall⟩
      rw [List.length_map,List.take_length] at hall
      refine ⟨_,rfl,a,_,rfl,.inl ha,fun p hp => ?_⟩
      exact qS _ p (Same.new hp) hp ⟨hall,hl⟩ upd_same
abbrev st_lines_to_take_out:Stmt:=top 54
theorem sc_lines_to_take_out:FnScope ["lines","number","line"] ["lines"] (defScope st_lines_to_take_out):=⟨rfl,rfl,rfl,by decide +kernel,rfl,by decide +kernel,by decide +kernel⟩
def spToTake (K:PySem.W.Frag):Sp:=fun vs H Q _ => ∃ (l:Addr) (c:List Line),vs=[.ref l]∧IsLns K H l c∧c.length≤1000∧∀ H' p,Same H H'→H p=none→H' p=some (.lst (natV (Vagraf.inner c)))→Q (.ref p) H'
theorem can_lines_to_take_out (T:Txt K mg) (S:Src K mg "lines_to_take_out" st_lines_to_take_out ["lines"]):Can P w K mg base 43 "lines_to_take_out" ["lines"] (spToTake K):=by
  refine S.can sc_lines_to_take_out (fun vs H Q E h => ?_) (fun f cdv A outer s H vs Q E hr h => ?_)
  · obtain ⟨l,c,rfl,_⟩:=h
    rfl
  · obtain ⟨l,c,rfl,⟨as,hl,hp⟩,hcl,q⟩:=h
    refine ⟨_,(pss_one (ps_ret (pe_lc (g:=(gTup K 2 (gCons (gName 1) (gCons (gName 2) gNil)))) (own:=[("number",1),("line",2)]) rfl sc_lines_to_take_out.nd (pi_enum rfl T.n_enumerate (pa_cons (pv 0) pa_nil)) (blkOk_by (N:=["lines","number","line"]) (sc:=defScope st_lines_to_take_out) (by decide +kernel)) (fun _ _ _ _ _=>(pg_tup rfl (pgs_cons (pg_name (i:=1) sc_lines_to_take_out.nd rfl (Or.inl rfl)) (pgs_cons (pg_name (i:=2) sc_lines_to_take_out.nd rfl (Or.inl rfl)) pgs_nil)))) (fun _ _ _ _ _=>(pts_one (pt_cmpR op_ne (pe_ix (ixK_tup (K:=K) rfl) (pv 2) pe_int (fun _ _=>rfl)) (pe_gc T.c_INPUT) (nomark _)))) (fun _ _ _ _ _=>(pv 1))))),?_⟩
    have hla:=Paired.length hp
    refine ⟨_,rfl,l,_,rfl,SqL.of hl,fun D hD => ?_⟩
    refine lc_enum (K:=K) (a:=l) (xs:=as.map V.ref) (fun i H'=>Same H H'∧H' D=some (.lst (natV (innerN c i))))
      ⟨Same.new hD,upd_same⟩ (fun i H' _ ⟨s1,_⟩=>SqL.of (s1 _ _ hl)) ?_ ?_
    · rintro i x Tp H1 hx ⟨s1,hD1⟩ hT
      obtain ⟨a,ha,rfl⟩:=ofmap hx
      obtain ⟨ln,hln,hLn⟩:=pgetL hp ha
      have sT:=Same.new (o:=.tup [V.int ((i:Nat):Int),V.ref a]) hT
      have s2:=s1.trans sT
      refine ⟨Tp,_,rfl,SqT.of upd_same,rfl,_,_,rfl,_,_,rfl,rfl,rfl,?_⟩
      obtain ⟨ns,hns,hTn⟩:=hLn.keep s2
      obtain ⟨r,rfl⟩:=hTn.head
      have hstep:=innerN_succ hln
      have hD2:=sT _ _ hD1
      refine ⟨_,rfl,_,_,_,_,rfl,rfl,hns,atc0,rfl,_,rfl,?_⟩
      by_cases h0:kindOf ln=0
      · refine iteBF (by simp [h0]) ?_
        refine ⟨s2,?_⟩
        have e:notIn (ln,i)=false:=by cases ln <;> first | rfl | (exact absurd h0 (by simp [kindOf]))
        rw [e] at hstep
        rw [hstep]
        simpa using hD2
      · refine iteBT (by simp [h0]) ?_
        refine ⟨_,rfl,_,hD2,?_,?_,?_⟩
        · have h1:=innerN_len c i
          have h2:=(List.getElem?_eq_some_iff.mp hln).1
          unfold natV
          rw [List.length_map]
          exact line_lt (by omega)
        · exact samePut hD s2
        · have e:notIn (ln,i)=true:=by cases ln <;> first | rfl | exact absurd rfl h0
          rw [e] at hstep
          rw [hstep,upd_same]
          unfold natV
          rw [if_pos rfl,List.map_append]
          rfl
    · rintro H1 ⟨s1,hD1⟩
      rw [List.length_map,hla] at hD1
      rw [← inner_eq] at hD1
      exact q H1 D s1 hD hD1
abbrev st_read_order:Stmt:=top 55
theorem sc_read_order:FnScope ["numbers","lines"] ["numbers","lines"] (defScope st_read_order):=⟨rfl,rfl,rfl,by decide +kernel,rfl,by decide +kernel,by decide +kernel⟩
def OrderOk (c:List Line) (l:List Int):Prop:=(l.all fun i=>decide (0≤i))=true∧l.length=(Vagraf.inner c).length∧((Vagraf.inner c).all fun v=>(l.map Int.toNat).contains v)=true
def spReadOrder (K:PySem.W.Frag):Sp:=fun vs H Q _ => ∃ (a l:Addr) (ns:List Int) (c:List Line),vs=[.ref a,.ref l]∧SqL K H a (ns.map V.int)∧IsLns K H l c∧c.length≤1000∧(∀ H',Same H H'→¬ OrderOk c ns→Q .non H')∧∀ H' p,Same H H'→H p=none→OrderOk c ns→H' p=some (.lst (ns.map V.int))→Q (.ref p) H'
theorem can_read_order (T:Txt K mg) (S:Src K mg "read_order" st_read_order ["numbers","lines"]) (c_lines_to_take_out:Can P w K mg base 43 "lines_to_take_out" ["lines"] (spToTake K)):Can P w K mg base 45 "read_order" ["numbers","lines"] (spReadOrder K):=by
  refine S.can sc_read_order (fun vs H Q E h => ?_) (fun f cdv A outer s H vs Q E hr h => ?_)
  · obtain ⟨a,l,ns,c,rfl,_⟩:=h
    rfl
  · obtain ⟨a,l,ns,c,rfl,ha,hL,hcl,qN,qS⟩:=h
    refine ⟨_,(pss_cons (ps_if (pt_cmpR (op_neD hr.units) (pe_callB cr_sortedA rfl T.n_sorted boot_sorted (pa_cons (pv 0) pa_nil)) (pe_can c_lines_to_take_out (hr.mono (by decide)) (pa_cons (pv 1) pa_nil)) (nomark _)) (pss_one (ps_ret pe_non)) pss_nil)
      (pss_one (ps_ret (pe_callTy call_list_of rfl T.n_list boot_list (pa_cons (pv 0) pa_nil))))),?_⟩
    refine ⟨_,rfl,a,ns,rfl,ha,fun ms p hpm hsrt hp => ?_⟩
    have s1:=Same.new (o:=.lst (ms.map V.int)) hp
    refine ⟨_,rfl,l,c,rfl,hL.keep s1,hcl,fun H2 p2 s2 hp2 hp3 => ?_⟩
    have s12:=s1.trans s2
    have hm2:SqL K H2 p (ms.map V.int):=SqL.of (s2 _ _ upd_same)
    have hi2:SqL K H2 p2 (((Vagraf.inner c).map Int.ofNat).map V.int):=by rw [← natV_int]; exact SqL.of hp3
    refine ⟨_,_,.lst hm2 (dp_ints _),.lst hi2 (dp_ints _),shaped_ints _,shaped_ints _,_,rfl,?_⟩
    have ev:PyData.eqv (.list (ms.map PyData.int)) (.list (((Vagraf.inner c).map Int.ofNat).map PyData.int))=decide (ms=(Vagraf.inner c).map Int.ofNat):=by
      show PyData.eqvAll _ _=_
      exact eqv_ints _ _
    have oi:=order_iff (c:=c) hpm hsrt
    by_cases ho:ms=(Vagraf.inner c).map Int.ofNat
    · refine iteBF (by rw [ev]; simp [ho]) ?_
      refine ⟨_,rfl,a,_,rfl,.inl (s12.seq ha),fun q hq => ?_⟩
      exact qS _ q (s12.trans (Same.new hq)) (s12.free hq) (oi.mp ho) upd_same
    · refine iteBT (by rw [ev]; simp [ho]) ?_
      exact qN _ s12 fun h=>ho (oi.mpr h)
end
end Ts
end
section
set_option maxRecDepth 100000
set_option maxHeartbeats 2000000
namespace Ts
open PySem PySem.Spec PyProof.Rows L2
open Vagraa (Frac)
open VagraLine (Line at_)
abbrev nk (x:Nat):Key:=Sum.inl (x:Int)
theorem nk_inj {x y:Nat} (h:nk x=nk y):x=y:=by
  have:=Sum.inl.inj h
  omega
def RelG (K:PySem.W.Frag) (H:Hp):Option V→Option Frac→Prop
  | none,none=>True
  | some v,some f => ∃ a,v = .ref a∧IsF K H a f
  | _,_=>False
structure NatK (M:Nat) (kvs:List (Key×V)):Prop where
  nd:(kvs.map (·.1)).Nodup
  nat:∀ k∈kvs.map (·.1),∃ x:Nat,x<M∧k=nk x
theorem NatK.nil (M:Nat):NatK M []:=⟨by simp,fun k hk=>by cases hk⟩
theorem NatK.len {M:Nat} {kvs:List (Key×V)} (h:NatK M kvs):kvs.length≤M:=by
  have hs:kvs.map (·.1) ⊆ (List.range M).map nk:=fun k hk=>by
    obtain ⟨x,hx,rfl⟩:=h.nat k hk
    exact List.mem_map.mpr ⟨x,List.mem_range.mpr hx,rfl⟩
  have:=h.nd.length_le_of_subset hs
  simpa using this
theorem keys_putK {kvs:List (Key×V)} {k j:Key} {v:V} (h:j∈(putK kvs k v).map (·.1)):j∈kvs.map (·.1)∨j=k:=by
  by_cases e:j=k
  · exact .inr e
  · left
    cases q:valV (putK kvs k v) j with
    | none=>exact absurd h (valV_not q)
    | some w'=>
      rw [valV_put,if_neg e] at q
      exact valV_in q
theorem nd_putK' {kvs:List (Key×V)} {k:Key} {v:V} (h:(kvs.map (·.1)).Nodup):((putK kvs k v).map (·.1)).Nodup:=by
  cases q:valV kvs k with
  | none=>exact nd_putK v h q
  | some w'=>
    have e:(putK kvs k v).map (·.1)=kvs.map (·.1):=by
      unfold putK
      rw [valV_any,q]
      simp only [Option.isSome_some,if_true,List.map_map]
      refine List.map_congr_left fun p _ => ?_
      simp only [Function.comp]
      split <;> rfl
    rw [e]
    exact h
theorem NatK.put {M:Nat} {kvs:List (Key×V)} (h:NatK M kvs) {x:Nat} (hx:x<M) (v:V):NatK M (putK kvs (nk x) v) :=
  ⟨nd_putK' h.nd,fun k hk=>by
    rcases keys_putK hk with q | q
    · exact h.nat k q
    · exact ⟨x,hx,q⟩⟩
theorem NatK.drop {M:Nat} {kvs:List (Key×V)} (h:NatK M kvs) (k:Key):NatK M (dropK kvs k) :=
  ⟨nd_dropK h.nd,fun j hj=>by
    obtain ⟨p,hp,rfl⟩:=List.mem_map.mp hj
    exact h.nat _ (List.mem_map.mpr ⟨p,dropK_mem hp,rfl⟩)⟩
theorem valV_drop (k j:Key):∀ kvs:List (Key×V),valV (dropK kvs k) j=if j=k then none else valV kvs j
  | []=>by simp [valV,dropK]
  | p::r=>by
    by_cases e:p.1=k
    · rw [dropK_pos e,valV_drop k j r]
      by_cases h:j=k
      · rw [if_pos h,if_pos h]
      · rw [if_neg h,if_neg h,valV_neg (fun q=>h (q.symm.trans e))]
    · rw [dropK_neg e]
      by_cases h:p.1=j
      · rw [valV_pos h,valV_pos h,if_neg (fun q=>e (h.trans q))]
      · rw [valV_neg h,valV_neg h,valV_drop k j r]
def DictG (K:PySem.W.Frag) (M:Nat) (H:Hp) (d:Addr) (g:Nat→Option Frac):Prop:=∃ kvs,H d=some (.dK kvs)∧NatK M kvs∧∀ x:Nat,RelG K H (valV kvs (nk x)) (g x)
def DictC (M:Nat) (H:Hp) (d:Addr) (c:Nat→Bool):Prop:=∃ kvs,H d=some (.dK kvs)∧NatK M kvs∧∀ u:Nat,(valV kvs (nk u)).isSome=c u
section
variable {K:PySem.W.Frag} {H H':Hp} {M:Nat}
def TupS (K:PySem.W.Frag) (H H':Hp):Prop:=∀ a f,IsF K H a f→IsF K H' a f
theorem TupS.of (s:Same H H'):TupS K H H':=fun _ _ h=>h.keep s
def NoTup:HO→Prop
  | .tup _=>False
  | .frz _ _=>False
  | _=>True
theorem TupS.upd {d:Addr} {o o':HO} (hd:H d=some o) (hn:NoTup o):TupS K H (upd H d o'):=fun a f h=>by
  refine ⟨?_,h.wf⟩
  rcases h.at_ with (q | ⟨ob,q⟩) | q
  · exact .inl (.inl (by rw [upd_ne (ne_of q hd (by intro z; subst z; exact hn))]; exact q))
  · exact .inl (.inr ⟨ob,by rw [upd_ne (ne_of q hd (by intro z; subst z; exact hn))]; exact q⟩)
  · exact .inr q
theorem RelG.mono {v:Option V} {g:Option Frac} (h:RelG K H v g) (t:TupS K H H'):RelG K H' v g:=by
  match v,g,h with
  | none,none,_=>trivial
  | some _,some _,⟨a,e,f⟩=>exact ⟨a,e,t _ _ f⟩
theorem DictG.mono {d:Addr} {g:Nat→Option Frac} (h:DictG K M H d g) (e:H' d=H d) (t:TupS K H H'):DictG K M H' d g:=by
  obtain ⟨kvs,h1,h2,h3⟩:=h
  exact ⟨kvs,by rw [e]; exact h1,h2,fun x=>(h3 x).mono t⟩
theorem DictC.mono {d:Addr} {c:Nat→Bool} (h:DictC M H d c) (e:H' d=H d):DictC M H' d c:=by
  obtain ⟨kvs,h1,h2,h3⟩:=h
  exact ⟨kvs,by rw [e]; exact h1,h2,h3⟩
theorem relG_some {v:Option V} {f:Frac} (h:RelG K H v (some f)):∃ a,v=some (.ref a)∧IsF K H a f:=by
  match v,h with
  | some _,⟨a,e,q⟩=>exact ⟨a,by rw [e],q⟩
theorem relG_none {v:Option V} (h:RelG K H v none):v=none:=by
  match v,h with
  | none,_=>rfl
end
def wfs (n g c p q:Nat):List (Str×V):=[("first_end",.int (n:Int)),("going",.ref g),("coming",.ref c),("products",.int (p:Int)),("sums",.int (q:Int))]
structure WaysIs (K:PySem.W.Frag) (C:Addr) (B H:Hp) (a dx g c:Addr) (gs cs:List Addr) (N M:Nat) (G:GM) (Cm:Nat→Nat→Bool) (p q:Nat):Prop where
  ob:H a=some (.ins C dx (wfs N g c p q))
  lg:H g=some (.lst (gs.map V.ref))
  lc:H c=some (.lst (cs.map V.ref))
  gc:g≠c
  ln:gs.length=N
  lm:cs.length=M
  nd:(gs++cs).Nodup
  dg:∀ (u:Nat) d,gs[u]? = some d→DictG K M H d (G u)
  dc:∀ (x:Nat) d,cs[x]? = some d→DictC M H d (fun u=>Cm u x)
  ba:B a=none
  bg:B g=none
  bc:B c=none
  bd:∀ d∈gs++cs,B d=none
  sm:Same B H
def reb (B H H':Hp):Hp:=fun b=>match H b with
  | some (.tup xs)=>some (.tup xs)
  | some (.frz o u)=>some (.frz o u)
  | some _=>B b
  | none=>H' b
theorem reb_old {B H H':Hp} {b:Addr} {o:HO} (e:H b=some o) (n:NoTup o):reb B H H' b=B b:=by
  unfold reb
  rw [e]
  cases o <;> first | rfl | exact n.elim
theorem reb_new {B H H':Hp} {b:Addr} (e:H b=none):reb B H H' b=H' b:=by unfold reb; rw [e]
theorem reb_in {B H H':Hp} {b:Addr} {o:HO} (e:B b=some o) (s:Same B H):reb B H H' b=some o:=by
  have h:=s b o e
  unfold reb
  rw [h]
  cases o <;> first | rfl | exact e
theorem reb_same {B H H':Hp} (s:Same B H):Same B (reb B H H'):=fun b o e=>reb_in e s
theorem reb_up {B H H':Hp} (s:Same B H) (s':Same H H'):Same (reb B H H') H':=fun b o e=>by
  unfold reb at e
  cases hb:H b with
  | none=>rw [hb] at e; exact e
  | some o'=>
    rw [hb] at e
    cases o' <;> first | exact s' _ _ (hb.trans e) | exact s' _ _ (s _ _ e)
theorem reb_tup {K:PySem.W.Frag} {B H H':Hp}:TupS K H (reb B H H'):=fun a f h=>by
  refine ⟨?_,h.wf⟩
  rcases h.at_ with (q | ⟨ob,q⟩) | q
  · exact .inl (.inl (by unfold reb; rw [q]))
  · exact .inl (.inr ⟨ob,by unfold reb; rw [q]⟩)
  · exact .inr q
theorem samePutB {B H:Hp} {d:Addr} {o:HO} (n:B d=none) (s:Same B H):Same B (upd H d o):=fun b u e=>by rw [upd_ne (ne_of_none e n)]; exact s b u e
theorem nd_set {l:List Addr} {i:Nat} {a:Addr} (h:l.Nodup) (ha:a ∉ l):(l.set i a).Nodup:=by
  induction l generalizing i with
  | nil=>simp
  | cons x l ih=>
    rw [List.nodup_cons] at h
    simp only [List.mem_cons,not_or] at ha
    cases i with
    | zero=>rw [List.set_cons_zero,List.nodup_cons]; exact ⟨ha.2,h.2⟩
    | succ i=>
      rw [List.set_cons_succ,List.nodup_cons]
      refine ⟨fun hm => ?_,ih h.2 ha.2⟩
      rcases List.mem_or_eq_of_mem_set hm with z | z
      · exact h.1 z
      · exact ha.1 z.symm
section
variable {K:PySem.W.Frag} {C:Addr} {B H H':Hp} {a dx g c:Addr} {gs cs:List Addr} {N M:Nat} {G G':GM} {Cm Cm':Nat→Nat→Bool} {p q:Nat}
theorem WaysIs.isG (W:WaysIs K C B H a dx g c gs cs N M G Cm p q) {d:Addr} (hd:d∈gs):∃ kvs,H d=some (.dK kvs):=by
  obtain ⟨u,hu⟩:=List.getElem?_of_mem hd
  obtain ⟨kvs,h,_⟩:=W.dg u d hu
  exact ⟨kvs,h⟩
theorem WaysIs.isC (W:WaysIs K C B H a dx g c gs cs N M G Cm p q) {d:Addr} (hd:d∈cs):∃ kvs,H d=some (.dK kvs):=by
  obtain ⟨u,hu⟩:=List.getElem?_of_mem hd
  obtain ⟨kvs,h,_⟩:=W.dc u d hu
  exact ⟨kvs,h⟩
theorem WaysIs.keep (W:WaysIs K C B H a dx g c gs cs N M G Cm p q) (s:Same H H'):WaysIs K C B H' a dx g c gs cs N M G Cm p q where
  ob:=s _ _ W.ob
  lg:=s _ _ W.lg
  lc:=s _ _ W.lc
  gc:=W.gc
  ln:=W.ln
  lm:=W.lm
  nd:=W.nd
  dg:=fun u d hd=>by
    obtain ⟨kvs,h⟩:=W.isG (List.mem_of_getElem? hd)
    exact (W.dg u d hd).mono ((s _ _ h).trans h.symm) (TupS.of s)
  dc:=fun u d hd=>by
    obtain ⟨kvs,h⟩:=W.isC (List.mem_of_getElem? hd)
    exact (W.dc u d hd).mono ((s _ _ h).trans h.symm)
  ba:=W.ba
  bg:=W.bg
  bc:=W.bc
  bd:=W.bd
  sm:=W.sm.trans s
theorem WaysIs.down {B':Hp} (W:WaysIs K C B' H a dx g c gs cs N M G Cm p q) (s:Same B B'):WaysIs K C B H a dx g c gs cs N M G Cm p q :=
  { W with ba:=s.free W.ba,bg:=s.free W.bg,bc:=s.free W.bc,bd:=fun d hd=>s.free (W.bd d hd),sm:=s.trans W.sm }
theorem WaysIs.grow (W:WaysIs K C B H a dx g c gs cs N M G Cm p q) (s:Same H H'):WaysIs K C (reb B H H') H' a dx g c gs cs N M G Cm p q :=
  { W.keep s with
    ba:=(reb_old W.ob trivial).trans W.ba
    bg:=(reb_old W.lg trivial).trans W.bg
    bc:=(reb_old W.lc trivial).trans W.bc
    bd:=fun d hd=>by
      rcases List.mem_append.mp hd with z | z
      · obtain ⟨kvs,h⟩:=W.isG z
        exact (reb_old h trivial).trans (W.bd d hd)
      · obtain ⟨kvs,h⟩:=W.isC z
        exact (reb_old h trivial).trans (W.bd d hd)
    sm:=reb_up W.sm s }
theorem WaysIs.same (W:WaysIs K C B H a dx g c gs cs N M G Cm p q) (hG:∀ u,u<N→G' u=G u) (hC:∀ u x,x<M→Cm' u x=Cm u x):WaysIs K C B H a dx g c gs cs N M G' Cm' p q :=
  { W with
    dg:=fun u d hd=>by
      rw [hG u (by rw [← W.ln]; exact (List.getElem?_eq_some_iff.mp hd).1)]
      exact W.dg u d hd
    dc:=fun x d hd=>by
      have e:(fun u=>Cm' u x)=fun u=>Cm u x:=funext fun u=>hC u x (by rw [← W.lm]; exact (List.getElem?_eq_some_iff.mp hd).1)
      rw [e]
      exact W.dc x d hd }
theorem nd_parts {gs cs:List Addr} (h:(gs++cs).Nodup):gs.Nodup∧cs.Nodup∧∀ x∈gs,∀ y∈cs,x≠y:=List.nodup_append.mp h
theorem WaysIs.putG (W:WaysIs K C B H a dx g c gs cs N M G Cm p q) {u:Nat} {d:Addr} {kvs kvs':List (Key×V)} (hu:gs[u]? = some d) (hd:H d=some (.dK kvs)) (nk':NatK M kvs') (hG:∀ u',u'≠u→G' u'=G u') (hr:∀ x:Nat,RelG K H (valV kvs' (nk x)) (G' u x)) :
    WaysIs K C B (upd H d (.dK kvs')) a dx g c gs cs N M G' Cm p q:=by
  obtain ⟨n1,n2,n3⟩:=nd_parts W.nd
  have hdm:=List.mem_of_getElem? hu
  have ts:TupS K H (upd H d (.dK kvs')):=TupS.upd hd trivial
  exact { W with
    ob:=by rw [upd_ne (ne_of W.ob hd (by intro z; cases z))]; exact W.ob
    lg:=by rw [upd_ne (ne_of W.lg hd (by intro z; cases z))]; exact W.lg
    lc:=by rw [upd_ne (ne_of W.lc hd (by intro z; cases z))]; exact W.lc
    dg:=fun u' d' hd'=>by
      by_cases e:u'=u
      · subst e
        rw [hu] at hd'
        cases hd'
        exact ⟨kvs',upd_same,nk',fun x=>(hr x).mono ts⟩
      · rw [hG u' e]
        exact (W.dg u' d' hd').mono (upd_ne fun z=>e (nd_ix n1 hd' (z▸hu))) ts
    dc:=fun x d' hd'=>(W.dc x d' hd').mono (upd_ne fun z=>n3 _ hdm _ (List.mem_of_getElem? hd') z.symm)
    sm:=samePutB (W.bd d (List.mem_append_left _ hdm)) W.sm }
theorem WaysIs.putC (W:WaysIs K C B H a dx g c gs cs N M G Cm p q) {x:Nat} {d:Addr} {kvs kvs':List (Key×V)} (hx:cs[x]? = some d) (hd:H d=some (.dK kvs)) (nk':NatK M kvs') (hC:∀ u x',x'≠x→Cm' u x'=Cm u x') (hr:∀ u:Nat,(valV kvs' (nk u)).isSome=Cm' u x) :
    WaysIs K C B (upd H d (.dK kvs')) a dx g c gs cs N M G Cm' p q:=by
  obtain ⟨n1,n2,n3⟩:=nd_parts W.nd
  have hdm:=List.mem_of_getElem? hx
  have ts:TupS K H (upd H d (.dK kvs')):=TupS.upd hd trivial
  exact { W with
    ob:=by rw [upd_ne (ne_of W.ob hd (by intro z; cases z))]; exact W.ob
    lg:=by rw [upd_ne (ne_of W.lg hd (by intro z; cases z))]; exact W.lg
    lc:=by rw [upd_ne (ne_of W.lc hd (by intro z; cases z))]; exact W.lc
    dg:=fun u d' hd'=>(W.dg u d' hd').mono (upd_ne fun z=>n3 _ (List.mem_of_getElem? hd') _ hdm z) ts
    dc:=fun x' d' hd'=>by
      by_cases e:x'=x
      · subst e
        rw [hx] at hd'
        cases hd'
        exact ⟨kvs',upd_same,nk',hr⟩
      · have e2:(fun u=>Cm' u x')=fun u=>Cm u x':=funext fun u=>hC u x' e
        rw [e2]
        exact (W.dc x' d' hd').mono (upd_ne fun z=>e (nd_ix n2 hd' (z▸hx)))
    sm:=samePutB (W.bd d (List.mem_append_right _ hdm)) W.sm }
theorem WaysIs.fresh (W:WaysIs K C B H a dx g c gs cs N M G Cm p q) {d:Addr} (hd:H d=none):d ∉ gs++cs:=fun hm=>by
  rcases List.mem_append.mp hm with z | z
  · obtain ⟨kvs,h⟩:=W.isG z; rw [hd] at h; cases h
  · obtain ⟨kvs,h⟩:=W.isC z; rw [hd] at h; cases h
theorem WaysIs.newG (W:WaysIs K C B H a dx g c gs cs N M G Cm p q) {u:Nat} {d:Addr} (hd:H d=none) (hu:u<N) (hG:∀ u',u'≠u→G' u'=G u') (h0:∀ x,G' u x=none) :
    WaysIs K C B (upd (upd H d (.dK [])) g (.lst ((gs.map V.ref).set u (.ref d)))) a dx g c (gs.set u d) cs N M G' Cm p q:=by
  have hdn:=W.fresh hd
  obtain ⟨n1,n2,n3⟩:=nd_parts W.nd
  have W1:=W.keep (Same.new (o:=.dK []) hd)
  have hdg:d≠g:=fun z=>by rw [z,W.lg] at hd; cases hd
  have ts:TupS K (upd H d (.dK [])) (upd (upd H d (.dK [])) g (.lst ((gs.map V.ref).set u (.ref d)))):=TupS.upd W1.lg trivial
  have hset:∀ (u':Nat) d',(gs.set u d)[u']? = some d'→(u'=u∧d'=d)∨(u'≠u∧gs[u']? = some d'):=fun u' d' h=>by
    by_cases e:u'=u
    · subst e
      rw [List.getElem?_set_self (by rw [W.ln]; exact hu)] at h
      exact .inl ⟨rfl,(Option.some.inj h).symm⟩
    · rw [List.getElem?_set_ne (fun z=>e z.symm)] at h
      exact .inr ⟨e,h⟩
  have hBd:B d=none:=W.sm.free hd
  exact { W1 with
    ob:=by rw [upd_ne (ne_of W1.ob W1.lg (by intro z; cases z))]; exact W1.ob
    lg:=by rw [upd_same,List.map_set]
    lc:=by rw [upd_ne (fun z=>W.gc z.symm)]; exact W1.lc
    ln:=by rw [List.length_set]; exact W.ln
    nd:=List.nodup_append.mpr ⟨nd_set n1 (fun z=>hdn (List.mem_append_left _ z)),n2,fun x hx y hy=>by
      rcases List.mem_or_eq_of_mem_set hx with z | z
      · exact n3 x z y hy
      · subst z; exact fun e=>hdn (List.mem_append_right _ (e▸hy))⟩
    dg:=fun u' d' h=>by
      rcases hset u' d' h with ⟨rfl,rfl⟩ | ⟨e,h⟩
      · refine ⟨[],by rw [upd_ne hdg,upd_same],NatK.nil M,fun x => ?_⟩
        rw [h0 x,valV_nil]
        trivial
      · rw [hG u' e]
        obtain ⟨kvs,hk⟩:=W1.isG (List.mem_of_getElem? h)
        exact (W1.dg u' d' h).mono (upd_ne (ne_of hk W1.lg (by intro z; cases z))) ts
    dc:=fun x d' h=>by
      obtain ⟨kvs,hk⟩:=W1.isC (List.mem_of_getElem? h)
      exact (W1.dc x d' h).mono (upd_ne (ne_of hk W1.lg (by intro z; cases z)))
    bd:=fun d' h=>by
      rcases List.mem_append.mp h with z | z
      · rcases List.mem_or_eq_of_mem_set z with z | z
        · exact W.bd d' (List.mem_append_left _ z)
        · subst z; exact hBd
      · exact W.bd d' (List.mem_append_right _ z)
    sm:=samePutB W.bg W1.sm }
theorem WaysIs.newC (W:WaysIs K C B H a dx g c gs cs N M G Cm p q) {x:Nat} {d:Addr} (hd:H d=none) (hx:x<M) (hC:∀ u x',x'≠x→Cm' u x'=Cm u x') (h0:∀ u,Cm' u x=false) :
    WaysIs K C B (upd (upd H d (.dK [])) c (.lst ((cs.map V.ref).set x (.ref d)))) a dx g c gs (cs.set x d) N M G Cm' p q:=by
  have hdn:=W.fresh hd
  obtain ⟨n1,n2,n3⟩:=nd_parts W.nd
  have W1:=W.keep (Same.new (o:=.dK []) hd)
  have hdg:d≠c:=fun z=>by rw [z,W.lc] at hd; cases hd
  have ts:TupS K (upd H d (.dK [])) (upd (upd H d (.dK [])) c (.lst ((cs.map V.ref).set x (.ref d)))):=TupS.upd W1.lc trivial
  have hset:∀ (u':Nat) d',(cs.set x d)[u']? = some d'→(u'=x∧d'=d)∨(u'≠x∧cs[u']? = some d'):=fun u' d' h=>by
    by_cases e:u'=x
    · subst e
      rw [List.getElem?_set_self (by rw [W.lm]; exact hx)] at h
      exact .inl ⟨rfl,(Option.some.inj h).symm⟩
    · rw [List.getElem?_set_ne (fun z=>e z.symm)] at h
      exact .inr ⟨e,h⟩
  have hBd:B d=none:=W.sm.free hd
  exact { W1 with
    ob:=by rw [upd_ne (ne_of W1.ob W1.lc (by intro z; cases z))]; exact W1.ob
    lg:=by rw [upd_ne W.gc]; exact W1.lg
    lc:=by rw [upd_same,List.map_set]
    lm:=by rw [List.length_set]; exact W.lm
    nd:=List.nodup_append.mpr ⟨n1,nd_set n2 (fun z=>hdn (List.mem_append_right _ z)),fun y hy z hz=>by
      rcases List.mem_or_eq_of_mem_set hz with k | k
      · exact n3 y hy z k
      · subst k; exact fun e=>hdn (List.mem_append_left _ (e▸hy))⟩
    dg:=fun u d' h=>by
      obtain ⟨kvs,hk⟩:=W1.isG (List.mem_of_getElem? h)
      exact (W1.dg u d' h).mono (upd_ne (ne_of hk W1.lc (by intro z; cases z))) ts
    dc:=fun x' d' h=>by
      rcases hset x' d' h with ⟨rfl,rfl⟩ | ⟨e,h⟩
      · refine ⟨[],by rw [upd_ne hdg,upd_same],NatK.nil M,fun u => ?_⟩
        show (valV [] (nk u)).isSome=Cm' u x'
        rw [h0 u,valV_nil]
        rfl
      · have e2:(fun u=>Cm' u x')=fun u=>Cm u x':=funext fun u=>hC u x' e
        rw [e2]
        obtain ⟨kvs,hk⟩:=W1.isC (List.mem_of_getElem? h)
        exact (W1.dc x' d' h).mono (upd_ne (ne_of hk W1.lc (by intro z; cases z)))
    bd:=fun d' h=>by
      rcases List.mem_append.mp h with z | z
      · exact W.bd d' (List.mem_append_left _ z)
      · rcases List.mem_or_eq_of_mem_set z with z | z
        · exact W.bd d' (List.mem_append_right _ z)
        · subst z; exact hBd
    sm:=samePutB W.bc W1.sm }
theorem WaysIs.cnt (W:WaysIs K C B H a dx g c gs cs N M G Cm p q) {p' q':Nat}:WaysIs K C B (upd H a (.ins C dx (wfs N g c p' q'))) a dx g c gs cs N M G Cm p' q':=by
  have ts:TupS K H (upd H a (.ins C dx (wfs N g c p' q'))):=TupS.upd W.ob trivial
  exact { W with
    ob:=upd_same
    lg:=by rw [upd_ne (ne_of W.lg W.ob (by intro z; cases z))]; exact W.lg
    lc:=by rw [upd_ne (ne_of W.lc W.ob (by intro z; cases z))]; exact W.lc
    dg:=fun u d h=>by
      obtain ⟨kvs,hk⟩:=W.isG (List.mem_of_getElem? h)
      exact (W.dg u d h).mono (upd_ne (ne_of hk W.ob (by intro z; cases z))) ts
    dc:=fun x d h=>by
      obtain ⟨kvs,hk⟩:=W.isC (List.mem_of_getElem? h)
      exact (W.dc x d h).mono (upd_ne (ne_of hk W.ob (by intro z; cases z)))
    sm:=samePutB W.ba W.sm }
end
end Ts
end
section
set_option maxRecDepth 100000
set_option maxHeartbeats 2000000
namespace Ts
open PySem PySem.Spec PyProof.Rows L2
open Vagraa (Frac)
open VagraLine (Line at_)
structure WCls (K:PySem.W.Frag) (C:Addr):Prop where
  cl:Cls K C
  nF:NoAttr K C "first_end"
  nG:NoAttr K C "going"
  nC:NoAttr K C "coming"
  nP:NoAttr K C "products"
  nS:NoAttr K C "sums"
section
variable {K:PySem.W.Frag} {C:Addr} {B H H':Hp} {a dx g c:Addr} {gs cs:List Addr} {N M:Nat} {G G':GM} {Cm Cm':Nat→Nat→Bool} {p q:Nat}
theorem WaysIs.gAt (W:WaysIs K C B H a dx g c gs cs N M G Cm p q) {u:Nat} (hu:u<N):∃ d kvs,gs[u]? = some d∧H d=some (.dK kvs)∧NatK M kvs∧∀ x:Nat,RelG K H (valV kvs (nk x)) (G u x):=by
  have hl:u<gs.length:=by rw [W.ln]; exact hu
  have h:gs[u]? = some gs[u]:=List.getElem?_eq_getElem hl
  obtain ⟨kvs,h1,h2,h3⟩:=W.dg u _ h
  exact ⟨_,kvs,h,h1,h2,h3⟩
theorem WaysIs.cAt (W:WaysIs K C B H a dx g c gs cs N M G Cm p q) {x:Nat} (hx:x<M):∃ d kvs,cs[x]? = some d∧H d=some (.dK kvs)∧NatK M kvs∧∀ u:Nat,(valV kvs (nk u)).isSome=Cm u x:=by
  have hl:x<cs.length:=by rw [W.lm]; exact hx
  have h:cs[x]? = some cs[x]:=List.getElem?_eq_getElem hl
  obtain ⟨kvs,h1,h2,h3⟩:=W.dc x _ h
  exact ⟨_,kvs,h,h1,h2,h3⟩
def putC (G:GM) (Cm:Nat→Nat→Bool) (z:Way):Nat→Nat→Bool:=fun u x=>if u=z.1.1∧x=z.1.2 then true else Cm u x
theorem choice_list {α β:Type} {F:α→β→Prop}:∀ (l:List α),(∀ x∈l,∃ y,F x y)→∃ m,Paired F l m
  | [],_=>⟨[],.nil⟩
  | x::l,h=>by
    obtain ⟨y,hy⟩:=h x List.mem_cons_self
    obtain ⟨m,hm⟩:=choice_list l fun z hz=>h z (List.mem_cons_of_mem _ hz)
    exact ⟨y::m,.cons hy hm⟩
theorem valV_mem:∀ {kvs:List (Key×V)} {kv:Key×V},(kvs.map (·.1)).Nodup→kv∈kvs→valV kvs kv.1=some kv.2
  | [],_,_,h=>by cases h
  | p::r,kv,n,h=>by
    rw [List.map_cons,List.nodup_cons] at n
    rcases List.mem_cons.mp h with e | h
    · subst e; exact valV_pos rfl
    · rw [valV_neg (fun e=>n.1 (by rw [e]; exact List.mem_map.mpr ⟨kv,h,rfl⟩))]
      exact valV_mem n.2 h
theorem mem_valV:∀ {kvs:List (Key×V)} {k:Key} {v:V},valV kvs k=some v→(k,v)∈kvs
  | [],_,_,h=>by cases h
  | p::r,k,v,h=>by
    by_cases e:p.1=k
    · rw [valV_pos e] at h
      cases h
      rw [← e]
      exact List.mem_cons_self
    · rw [valV_neg e] at h
      exact List.mem_cons_of_mem _ (mem_valV h)
theorem paired_memL {α β:Type} {F:α→β→Prop} {l:List α} {m:List β} (h:Paired F l m) {x:α} (hx:x∈l):∃ y∈m,F x y:=by
  obtain ⟨i,hi⟩:=List.getElem?_of_mem hx
  obtain ⟨y,h1,h2⟩:=pgetL h hi
  exact ⟨y,List.mem_of_getElem? h1,h2⟩
theorem paired_memR {α β:Type} {F:α→β→Prop} {l:List α} {m:List β} (h:Paired F l m) {y:β} (hy:y∈m):∃ x∈l,F x y:=by
  obtain ⟨i,hi⟩:=List.getElem?_of_mem hy
  obtain ⟨y,h1,h2⟩:=pget h hi
  exact ⟨y,List.mem_of_getElem? h1,h2⟩
theorem keys_src {kvs:List (Key×V)} {M:Nat} {cu:Nat→Bool} (hk:NatK M kvs) (h:∀ u:Nat,(valV kvs (nk u)).isSome=cu u):∃ S:List Nat,kvs.map (fun kv=>kV kv.1)=natV S∧S.length=kvs.length∧S.Nodup∧(∀ u,u∈S↔cu u=true)∧∀ u∈S,u<M:=by
  obtain ⟨S,hS⟩:=choice_list (F:=fun (kv:Key×V) (u:Nat)=>kv.1=nk u∧u<M) kvs fun kv hkv=>by
    obtain ⟨x,hx,e⟩:=hk.nat kv.1 (List.mem_map.mpr ⟨kv,hkv,rfl⟩)
    exact ⟨x,e,hx⟩
  have e1:kvs.map (·.1)=S.map nk:=by
    clear h hk
    induction hS with
    | nil=>rfl
    | cons a _ ih=>rw [List.map_cons,List.map_cons,ih,a.1]
  refine ⟨S,?_,(Paired.length hS).symm,?_,fun u => ?_,fun u hu => ?_⟩
  · have:kvs.map (fun kv=>kV kv.1)=(kvs.map (·.1)).map kV:=by rw [List.map_map]; rfl
    rw [this,e1,List.map_map]
    rfl
  · have:=hk.nd
    rw [e1] at this
    exact nd_of_map this
  · rw [← h u]
    constructor
    · intro hu
      obtain ⟨kv,hkv,e,_⟩:=paired_memR hS hu
      rw [← e,valV_mem hk.nd hkv]
      rfl
    · intro hs
      obtain ⟨v,hv⟩:=Option.isSome_iff_exists.mp hs
      obtain ⟨y,hy,e,_⟩:=paired_memL hS (mem_valV hv)
      rw [nk_inj e]
      exact hy
  · obtain ⟨_,_,_,h2⟩:=paired_memR hS hu
    exact h2
theorem items_dst {kvs:List (Key×V)} {gu:Nat→Option Frac} (hk:NatK M kvs) (h:∀ x:Nat,RelG K H (valV kvs (nk x)) (gu x)):∃ O:List (Nat×Frac),Paired (fun (kv:Key×V) (o:Nat×Frac)=>kv.1=nk o.1∧∃ a,kv.2 = .ref a∧IsF K H a o.2) kvs O∧(O.map (·.1)).Nodup∧(∀ x f,(x,f)∈O↔gu x=some f)∧∀ o∈O,o.1<M:=by
  obtain ⟨O,hO⟩:=choice_list (F:=fun (kv:Key×V) (o:Nat×Frac)=>(kv.1=nk o.1∧∃ a,kv.2 = .ref a∧IsF K H a o.2)∧gu o.1=some o.2∧o.1<M) kvs fun kv hkv=>by
    obtain ⟨x,hx,e⟩:=hk.nat kv.1 (List.mem_map.mpr ⟨kv,hkv,rfl⟩)
    have hv:=valV_mem hk.nd hkv
    rw [e] at hv
    have hr:=h x
    rw [hv] at hr
    cases hg:gu x with
    | none=>rw [hg] at hr; exact hr.elim
    | some f=>
      rw [hg] at hr
      obtain ⟨a,ea,hf⟩:=hr
      exact ⟨(x,f),⟨e,a,ea,hf⟩,hg,hx⟩
  have e1:kvs.map (·.1)=(O.map (·.1)).map nk:=by
    clear h hk
    induction hO with
    | nil=>rfl
    | cons a _ ih=>rw [List.map_cons,List.map_cons,List.map_cons,ih,a.1.1]
  refine ⟨O,Paired.mapP hO fun _ _ h=>h.1,?_,fun x f => ?_,fun o ho => ?_⟩
  · have:=hk.nd
    rw [e1] at this
    exact nd_of_map this
  · constructor
    · intro hm
      obtain ⟨kv,_,_,hg,_⟩:=paired_memR hO hm
      exact hg
    · intro hg
      have hr:=h x
      rw [hg] at hr
      obtain ⟨a,ea,hf⟩:=relG_some hr
      obtain ⟨o,ho,⟨e,_⟩,hgo,_⟩:=paired_memL hO (mem_valV ea)
      obtain ⟨o1,o2⟩:=o
      have:=nk_inj e
      subst this
      rw [hg] at hgo
      cases hgo
      exact ho
  · obtain ⟨_,_,_,_,h2⟩:=paired_memR hO ho
    exact h2
end
section
variable {P:Program} {w:World} {K:PySem.W.Frag} {mg:Str→Option Value} {base:Heap} {C:Addr}
abbrev st_Ways_add_way:Stmt:=inClass (top 56) 1
theorem sc_Ways_add_way:FnScope ["self","source","target","worth","onward","met"] ["self","source","target","worth"] (defScope st_Ways_add_way):=⟨rfl,rfl,rfl,by decide +kernel,rfl,by decide +kernel,by decide +kernel⟩
def spAddWay (K:PySem.W.Frag) (C:Addr):Sp:=fun vs H Q _ => ∃ (B:Hp) (a dx g c wa:Addr) (gs cs:List Addr) (N M:Nat) (G:GM) (Cm:Nat→Nat→Bool) (p q u x:Nat) (f:Frac),vs=[.ref a,.int (u:Int),.int (x:Int),.ref wa]∧WaysIs K C B H a dx g c gs cs N M G Cm p q∧IsF K H wa f∧u<N∧x<M∧N≤M∧M≤2000∧Sm f∧(∀ y,G u x=some y→Sm y) ∧
  ∀ H',WaysIs K C B H' a dx g c gs cs N M (put G ((u,x),f)) (fun u' x'=>if (G u x).isSome=true then Cm u' x' else putC G Cm ((u,x),f) u' x') p q→Q (.bl (G u x).isSome) H'
theorem can_Ways_add_way (T:Txt K mg) (WC:WCls K C) (S:MSrc K C "add_way" "Ways.add_way" st_Ways_add_way ["self","source","target","worth"]) (c_plus:Can P w K mg base 43 "plus" ["first","second"] (spPlus K)) :
    CanM P w K mg base 45 C "add_way" ["self","source","target","worth"] (spAddWay K C):=by
  refine S.can sc_Ways_add_way (fun vs H Q E h => ?_) (fun f cdv A outer s H vs Q E hr h => ?_)
  · obtain ⟨B,a,dx,g,c,wa,gs,cs,N,M,G,Cm,p,q,u,x,f,rfl,_⟩:=h
    rfl
  · obtain ⟨B,a,dx,g,c,wa,gs,cs,N,M,G,Cm,p,q,u,x,f,rfl,W,hf,hu,hx,hNM,hM,smf,smy,qq⟩:=h
    refine ⟨_,(pss_cons (ps_set (i:=4) sc_Ways_add_way.nd rfl (Or.inl rfl) (pe_ix ix_list (pe_fld (pv 0) rfl) (pv 1) (fun _ _=>rfl)))
      (pss_cons (ps_set (i:=5) sc_Ways_add_way.nd rfl (Or.inl rfl) (pe_cmp (pc_din (hu_of hr) (pv 2) (pv 4))))
      (pss_cons (ps_if (pt_val (pv 5)) (pss_one (ps_dput (hu_of hr) (pv 4) (pv 2) (pe_can c_plus (hr.mono (by decide)) (pa_cons (pe_dget (hu_of hr) (pv 4) (pv 2) (fun _ _=>rfl)) (pa_cons (pv 3) pa_nil))) rfl)) (pss_cons (ps_dput (hu_of hr) (pv 4) (pv 2) (pv 3) rfl)
      (pss_one (ps_dput (hu_of hr) (pe_ix ix_list (pe_fld (pv 0) rfl) (pv 2) (fun _ _=>rfl)) (pv 1) pe_bl rfl))))
      (pss_one (ps_ret (pv 5)))))),?_⟩
    obtain ⟨d,kvs,hd1,hd2,hd3,hd4⟩:=W.gAt hu
    refine ⟨_,rfl,a,C,dx,_,_,rfl,W.ob,WC.cl,WC.nG,rfl,_,rfl,g,_,_,_,rfl,rfl,SqL.of W.lg,atN rfl (imap hd1),?_⟩
    refine ⟨_,rfl,_,rfl,d,_,rfl,DGet.k (k:=nk x) hd2,?_⟩
    have hr4:=hd4 x
    have hput:∀ u',u'≠u→put G ((u,x),f) u'=G u':=fun u' hu'=>by
      funext y
      exact put_ne (fun e=>hu' (Prod.mk.inj e).1)
    cases hg:G u x with
    | some y=>
      rw [hg] at hr4
      obtain ⟨b,hb1,hb2⟩:=relG_some hr4
      rw [hb1]
      have smy':=smy y hg
      refine ⟨_,rfl,true,rfl,iteBT rfl ?_⟩
      refine ⟨_,rfl,_,rfl,d,_,rfl,hb1▸DGet.k (k:=nk x) hd2,_,rfl,b,wa,y,f,rfl,hb2,hf,smy',smf,fun p2 hp2 => ?_⟩
      have s1:=Same.new (o:=.tup (tupF (Vagraa.add y f))) hp2
      have hd5:=s1 _ _ hd2
      have W1:=W.keep s1
      refine ⟨_,rfl,_,rfl,d,_,rfl,DPut.k (k:=nk x) hd5 (line_lt (by have:=hd3.len; omega)),?_⟩
      have W2:=W1.putG (G':=put G ((u,x),f)) (kvs':=putK kvs (nk x) (.ref p2)) hd1 hd5 (hd3.put hx _) hput fun z=>by
        rw [valV_put]
        by_cases e:z=x
        · subst e
          rw [if_pos rfl,put_at G ((u,z),f)]
          show RelG K _ _ (some (comb (G u z) f))
          rw [hg]
          exact ⟨p2,rfl,IsF.new (add_wf hb2.wf hf.wf)⟩
        · rw [if_neg (fun h=>e (nk_inj h)),put_ne (fun h=>e (Prod.mk.inj h).2)]
          exact (hd4 z).mono (TupS.of s1)
      refine ⟨_,rfl,?_⟩
      have:=qq _ (W2.same (G':=put G ((u,x),f)) (Cm':=fun u' x'=>if (G u x).isSome=true then Cm u' x' else putC G Cm ((u,x),f) u' x') (fun _ _=>rfl) fun u' x' _=>by rw [hg]; rfl)
      rw [hg] at this
      exact this
    | none=>
      rw [hg] at hr4
      have hb1:=relG_none hr4
      rw [hb1]
      refine ⟨_,rfl,false,rfl,iteBF rfl ?_⟩
      refine ⟨_,rfl,_,rfl,_,rfl,d,_,rfl,DPut.k (k:=nk x) hd2 (line_lt (by have:=hd3.len; omega)),?_⟩
      have W2:=W.putG (G':=put G ((u,x),f)) (kvs':=putK kvs (nk x) (.ref wa)) hd1 hd2 (hd3.put hx _) hput fun z=>by
        rw [valV_put]
        by_cases e:z=x
        · subst e
          rw [if_pos rfl,put_at G ((u,z),f)]
          show RelG K _ _ (some (comb (G u z) f))
          rw [hg]
          exact ⟨wa,rfl,hf⟩
        · rw [if_neg (fun h=>e (nk_inj h)),put_ne (fun h=>e (Prod.mk.inj h).2)]
          exact hd4 z
      obtain ⟨d',kvs',he1,he2,he3,he4⟩:=W2.cAt hx
      refine ⟨_,rfl,a,C,dx,_,_,rfl,W2.ob,WC.cl,WC.nC,rfl,_,rfl,c,_,_,_,rfl,rfl,SqL.of W2.lc,atN rfl (imap he1),_,rfl,d',_,rfl,DPut.k (k:=nk u) he2 (line_lt (by have:=he3.len; omega)),?_⟩
      have W3:=W2.putC (Cm':=putC G Cm ((u,x),f)) (kvs':=putK kvs' (nk u) (.bl true)) he1 he2 (he3.put (by omega) _) (fun u' x' hx'=>by
        unfold putC
        rw [if_neg (fun h=>hx' h.2)]) fun u'=>by
        rw [valV_put]
        unfold putC
        by_cases e:u'=u
        · subst e
          rw [if_pos rfl,if_pos ⟨rfl,rfl⟩]
          rfl
        · rw [if_neg (fun h=>e (nk_inj h)),if_neg (fun h=>e h.1)]
          exact he4 u'
      refine ⟨_,rfl,?_⟩
      have:=qq _ (W3.same (G':=put G ((u,x),f)) (Cm':=fun u' x'=>if (G u x).isSome=true then Cm u' x' else putC G Cm ((u,x),f) u' x') (fun _ _=>rfl) fun u' x' _=>by rw [hg]; rfl)
      rw [hg] at this
      exact this
abbrev st_Ways_products_for:Stmt:=inClass (top 56) 3
theorem sc_Ways_products_for:FnScope ["self","number"] ["self","number"] (defScope st_Ways_products_for):=⟨rfl,rfl,rfl,by decide +kernel,rfl,by decide +kernel,by decide +kernel⟩
def spProdFor (K:PySem.W.Frag) (C:Addr):Sp:=fun vs H Q _ => ∃ (B:Hp) (a dx g c:Addr) (gs cs:List Addr) (N M:Nat) (G:GM) (Cm:Nat→Nat→Bool) (p q v:Nat) (S:List Nat) (O:List (Nat×Frac)),vs=[.ref a,.int (v:Int)]∧WaysIs K C B H a dx g c gs cs N M G Cm p q∧v<N∧N≤M∧M≤2000∧(∀ u,Cm u v=(G u v).isSome)∧SrcOf G v S∧DstOf G v O∧Q (.int ((S.length*O.length:Nat):Int)) H
theorem can_Ways_products_for (T:Txt K mg) (WC:WCls K C) (S:MSrc K C "products_for" "Ways.products_for" st_Ways_products_for ["self","number"]):CanM P w K mg base 41 C "products_for" ["self","number"] (spProdFor K C):=by
  refine S.can sc_Ways_products_for (fun vs H Q E h => ?_) (fun f cdv A outer s H vs Q E hr h => ?_)
  · obtain ⟨B,a,dx,g,c,gs,cs,N,M,G,Cm,p,q,v,S,O,rfl,_⟩:=h
    rfl
  · obtain ⟨B,a,dx,g,c,gs,cs,N,M,G,Cm,p,q,v,S,O,rfl,W,hv,hNM,hM,hCm,hS,hO,qq⟩:=h
    refine ⟨_,(pss_one (ps_ret (pe_op op_mulB (pe_callB call_lenD rfl T.n_len PySem.boot_len (pa_cons (pe_ix ix_list (pe_fld (pv 0) rfl) (pv 1) (fun _ _=>rfl)) pa_nil)) (pe_callB call_lenD rfl T.n_len PySem.boot_len (pa_cons (pe_ix ix_list (pe_fld (pv 0) rfl) (pv 1) (fun _ _=>rfl)) pa_nil))))),?_⟩
    obtain ⟨d,kvs,hd1,hd2,hd3,hd4⟩:=W.gAt hv
    obtain ⟨e,kvs',he1,he2,he3,he4⟩:=W.cAt (show v<M by omega)
    obtain ⟨S',t1,t2,t3,t4,_⟩:=keys_src he3 he4
    obtain ⟨O',o1,o2,o3,_⟩:=items_dst hd3 hd4
    have l1:S'.length=S.length:=(SrcOf.perm (W:=G) (v:=v) ⟨t3,fun u=>(t4 u).trans (by rw [hCm u])⟩ hS).length_eq
    have l2:O'.length=O.length:=(DstOf.perm (W:=G) (v:=v) ⟨o2,o3⟩ hO).length_eq
    have l3:=Paired.length o1
    have k1:=he3.len
    refine ⟨_,rfl,a,C,dx,_,_,rfl,W.ob,WC.cl,WC.nC,rfl,_,rfl,c,_,_,_,rfl,rfl,SqL.of W.lc,atN rfl (imap he1),e,_,rfl,he2,_,rfl,a,C,dx,_,_,rfl,W.ob,WC.cl,WC.nG,rfl,_,rfl,g,_,_,_,rfl,rfl,SqL.of W.lg,atN rfl (imap hd1),d,_,rfl,hd2,_,_,rfl,rfl,CMul.ok (.inl ⟨by omega,by omega⟩),?_⟩
    have e5:((S.length*O.length:Nat):Int)=(kvs'.length:Int)*(kvs.length:Int):=by
      rw [← l1,← l2,t2,← l3]
      push_cast
      rfl
    rw [e5] at qq
    exact qq
abbrev st_Ways_worths_to_end:Stmt:=inClass (top 56) 4
theorem sc_Ways_worths_to_end:FnScope ["self","place","onward"] ["self","place"] (defScope st_Ways_worths_to_end):=⟨rfl,rfl,rfl,by decide +kernel,rfl,by decide +kernel,by decide +kernel⟩
def endList (G:GM) (N e:Nat):List Frac:=(List.range N).map fun i=>(G i e).getD Vagraa.zero
def spWorths (K:PySem.W.Frag) (C:Addr):Sp:=fun vs H Q _ => ∃ (B:Hp) (a dx g c:Addr) (gs cs:List Addr) (N M:Nat) (G:GM) (Cm:Nat→Nat→Bool) (p q e:Nat),vs=[.ref a,.int (e:Int)]∧WaysIs K C B H a dx g c gs cs N M G Cm p q∧N≤2000 ∧
  ∀ H' p,Same H H'→H p=none→IsFs K H' p (endList G N (N+e))→Q (.ref p) H'
theorem can_Ways_worths_to_end (T:Txt K mg) (WC:WCls K C) (S:MSrc K C "worths_to_end" "Ways.worths_to_end" st_Ways_worths_to_end ["self","place"]):CanM P w K mg base 41 C "worths_to_end" ["self","place"] (spWorths K C):=by
  obtain ⟨a_ZERO,h_ZERO,i_ZERO⟩:=T.t_ZERO
  refine S.can sc_Ways_worths_to_end (fun vs H Q E h => ?_) (fun f cdv A outer s H vs Q E hr h => ?_)
  · obtain ⟨B,a,dx,g,c,gs,cs,N,M,G,Cm,p,q,e,rfl,_⟩:=h
    rfl
  · obtain ⟨B,a,dx,g,c,gs,cs,N,M,G,Cm,p,q,e,rfl,W,hN,qq⟩:=h
    refine ⟨_,(pss_one (ps_ret (pe_lc (g:=(gName 2)) (own:=[("onward",2)]) rfl sc_Ways_worths_to_end.nd (pi_list (pe_fld (pv 0) rfl)) (blkOk_by (N:=["self","place","onward"]) (sc:=defScope st_Ways_worths_to_end) (by decide +kernel)) (fun _ _ _ _ _=>(pg_name (i:=2) sc_Ways_worths_to_end.nd rfl (Or.inl rfl))) (fun _ _ _ _ _=>pts_nil) (fun _ _ _ _ _=>(pe_dget2 (hu_of hr) (pv 2) (pe_op op_add (pe_fldK (K:=K) rfl (pv 0) rfl) (pv 1)) (pe_glob rfl h_ZERO rfl (v:=V.ref a_ZERO)) ⟨rfl,rfl,rfl,rfl⟩))))),?_⟩
    refine ⟨_,rfl,a,C,dx,_,_,rfl,W.ob,WC.cl,WC.nG,rfl,g,rfl,⟨_,SqL.of W.lg⟩,fun D hD => ?_⟩
    refine lc_list (K:=K) (a:=g) (xs:=gs.map V.ref) (fun i H'=>Same H H'∧IsFs K H' D ((endList G N (N+e)).take i))
      ⟨Same.new hD,⟨[],upd_same,.nil⟩⟩ (fun i H' _ ⟨s1,_⟩=>SqL.of (s1 _ _ W.lg)) ?_ ?_
    · rintro i x H1 hx ⟨s1,as,hD1,hp1⟩
      obtain ⟨d,hd,rfl⟩:=ofmap hx
      have hi:i<N:=by rw [← W.ln]; exact (List.getElem?_eq_some_iff.mp hd).1
      have W1:=W.keep s1
      obtain ⟨d',kvs,hd1,hd2,hd3,hd4⟩:=W1.gAt hi
      rw [hd] at hd1
      cases hd1
      have hrel:=hd4 (N+e)
      have hel:(endList G N (N+e))[i]? = some ((G i (N+e)).getD Vagraa.zero):=by
        unfold endList
        rw [List.getElem?_map,List.getElem?_range hi]
        rfl
      have hlen:as.length=i:=by
        rw [Paired.length hp1,List.length_take]
        unfold endList
        rw [List.length_map,List.length_range]
        omega
      refine ⟨rfl,?_⟩
      unfold tYes
      refine iteBT rfl ?_
      refine ⟨_,rfl,d,rfl,.inl ⟨_,.inl hd2⟩,_,rfl,a,C,dx,_,_,rfl,W1.ob,WC.cl,WC.nF,rfl,_,rfl,_,_,rfl,rfl,valV kvs (nk (N+e)),?_,?_⟩
      · have ek:(V.int ((N:Int)+(e:Int)))=kV (nk (N+e)):=by
          show V.int _=V.int _
          congr 1
        show DGet H1 d (V.int ((N:Int)+(e:Int))) _
        rw [ek]
        exact DGet.k hd2
      · obtain ⟨b,hb1,hb2⟩:∃ b,(valV kvs (nk (N+e))).getD (.ref a_ZERO) = .ref b∧IsF K H1 b ((G i (N+e)).getD Vagraa.zero):=by
          cases hg:G i (N+e) with
          | none=>
            rw [hg] at hrel
            rw [relG_none hrel]
            exact ⟨a_ZERO,rfl,i_ZERO _,zero_wf⟩
          | some y=>
            rw [hg] at hrel
            obtain ⟨b,hb1,hb2⟩:=relG_some hrel
            rw [hb1]
            exact ⟨b,rfl,hb2⟩
        rw [hb1]
        refine ⟨_,hD1,by rw [List.length_map,hlen]; exact line_lt (by omega),samePut hD s1,as++[b],by rw [upd_same,List.map_append]; rfl,?_⟩
        rw [take_snoc hel]
        exact Paired.snoc (putF' hp1 hD1) (hb2.put hD1)
    · rintro H1 ⟨s1,hF⟩
      rw [List.length_map,W.ln,List.take_of_length_le (by unfold endList; rw [List.length_map,List.length_range]; exact Nat.le_refl _)] at hF
      exact qq H1 D s1 hD hF
end
end Ts
end
section
set_option maxRecDepth 100000
set_option maxHeartbeats 4000000
namespace Ts
open PySem PySem.Spec PyProof.Rows L2
open Vagraa (Frac)
open VagraLine (Line at_)
theorem natV_get {l:List Nat} {i:Nat} {x:V} (h:(natV l)[i]? = some x):∃ u,l[i]? = some u∧x=V.int ((u:Nat):Int):=by
  unfold natV at h
  rw [List.getElem?_map] at h
  cases e:l[i]? with
  | none=>rw [e] at h; cases h
  | some u=>rw [e] at h; exact ⟨u,rfl,(Option.some.inj h).symm⟩
theorem natV_len (l:List Nat):(natV l).length=l.length:=by unfold natV; rw [List.length_map]
theorem prods_away {W:GM} {v:Nat} {S:List Nat} {O:List (Nat×Frac)} (hS:∀ u∈S,u≠v) (hO:∀ o∈O,o.1≠v) (wt:Nat→Frac):Away v (prods wt S O):=fun z hz=>by
  obtain ⟨u,hu,hz⟩:=List.mem_flatMap.mp hz
  obtain ⟨o,ho,rfl⟩:=List.mem_map.mp hz
  exact ⟨hS u hu,hO o ho⟩
section
variable {P:Program} {w:World} {K:PySem.W.Frag} {mg:Str→Option Value} {base:Heap} {C:Addr}
abbrev st_Ways_take_out:Stmt:=inClass (top 56) 2
theorem sc_Ways_take_out:FnScope ["self","number","onward","source","worth_to","target","worth_from"] ["self","number"] (defScope st_Ways_take_out):=⟨rfl,rfl,rfl,by decide +kernel,rfl,by decide +kernel,by decide +kernel⟩
def spTakeOut (K:PySem.W.Frag) (C:Addr):Sp:=fun vs H Q _ => ∃ (B:Hp) (a dx g c:Addr) (gs cs:List Addr) (N M:Nat) (G:GM) (p q v D Bn fa fb:Nat),vs=[.ref a,.int (v:Int)]∧WaysIs K C B H a dx g c gs cs N M G (fun u x=>(G u x).isSome) p q∧v<N∧N≤M∧M≤2000∧GoodW N M D Bn G∧Fit fa fb D Bn∧fa*M+1+fb*M≤60000000 ∧
  ∀ H' gs' cs' S O,SrcOf G v S→DstOf G v O→WaysIs K C B H' a dx g c gs' cs' N M (puts (cut v G) (prods (wtOf G v) S O)) (fun u x=>(puts (cut v G) (prods (wtOf G v) S O) u x).isSome) (p+S.length*O.length) (q+meets v G (prods (wtOf G v) S O))→Q .non H'
theorem can_Ways_take_out (T:Txt K mg) (WC:WCls K C) (S:MSrc K C "take_out" "Ways.take_out" st_Ways_take_out ["self","number"]) (c_times:Can P w K mg base 43 "times" ["first","second"] (spTimes K)) (c_Ways_add_way:CanM P w K mg base 45 C "add_way" ["self","source","target","worth"] (spAddWay K C)) :
    CanM P w K mg base 47 C "take_out" ["self","number"] (spTakeOut K C):=by
  have cl_Ways:=WC.cl
  refine S.can sc_Ways_take_out (fun vs H Q E h => ?_) (fun f cdv A outer s H vs Q E hr h => ?_)
  · obtain ⟨B,a,dx,g,c,gs,cs,N,M,G,p,q,v,D,Bn,fa,fb,rfl,_⟩:=h
    rfl
  · obtain ⟨B,a,dx,g,c,gs,cs,N,M,G,p,q,v,D,Bn,fa,fb,rfl,W,hv,hNM,hM,good,fit,hz,qq⟩:=h
    refine ⟨_,(pss_cons (ps_set (i:=2) sc_Ways_take_out.nd rfl (Or.inl rfl) (pe_callTy (call_listV rfl) rfl T.n_list boot_list (pa_cons (pe_bm0 PySem.F.plainAttrs_dict PySem.F.slot_dict_items PySem.F.type_dict_items mt_items (pe_ix ix_list (pe_fld (pv 0) rfl) (pv 1) (fun _ _=>rfl))) pa_nil)))
      (pss_cons (ps_for PassesOwn.never rfl (pi_list (pe_callTy (call_listD rfl) rfl T.n_list boot_list (pa_cons (pe_ix ix_list (pe_fld (pv 0) rfl) (pv 1) (fun _ _=>rfl)) pa_nil))) (pg_name (i:=3) sc_Ways_take_out.nd rfl (Or.inl rfl)) (pss_cons (ps_set (i:=4) sc_Ways_take_out.nd rfl (Or.inl rfl) (pe_dpop1 (pe_ix ix_list (pe_fld (pv 0) rfl) (pv 3) (fun _ _=>rfl)) (pv 1) ⟨rfl,rfl,rfl,rfl⟩))
      (pss_one (ps_for PassesOwn.never rfl (pi_list (pv 2)) (pg_tup rfl (pgs_cons (pg_name (i:=5) sc_Ways_take_out.nd rfl (Or.inl rfl)) (pgs_cons (pg_name (i:=6) sc_Ways_take_out.nd rfl (Or.inl rfl)) pgs_nil))) (pss_cons (ps_fld (pv 0) (pe_op op_add (pe_fld (pv 0) rfl) pe_int) rfl)
      (pss_one (ps_if (pt_val (pe_canM c_Ways_add_way cl_Ways (hr.mono (by decide)) (pv 0) (pa_cons (pv 3) (pa_cons (pv 5) (pa_cons (pe_can c_times (hr.mono (by decide)) (pa_cons (pv 4) (pa_cons (pv 6) pa_nil))) pa_nil))))) (pss_one (ps_fld (pv 0) (pe_op op_add (pe_fld (pv 0) rfl) pe_int) rfl)) pss_nil)))))))
      (pss_cons (ps_for PassesOwn.never rfl (pi_list (pe_callTy (call_listD rfl) rfl T.n_list boot_list (pa_cons (pe_ix ix_list (pe_fld (pv 0) rfl) (pv 1) (fun _ _=>rfl)) pa_nil))) (pg_name (i:=5) sc_Ways_take_out.nd rfl (Or.inl rfl)) (pss_one (ps_expr (pe_dpop1 (pe_ix ix_list (pe_fld (pv 0) rfl) (pv 5) (fun _ _=>rfl)) (pv 1) ⟨rfl,rfl,rfl,rfl⟩))))
      (pss_cons (ps_asg pe_dnewK (pg_sub (pe_fld (pv 0) rfl) (pv 1) set_list))
      (pss_one (ps_asg pe_dnewK (pg_sub (pe_fld (pv 0) rfl) (pv 1) set_list))))))),?_⟩
    obtain ⟨d,kvs,hd1,hd2,hd3,hd4⟩:=W.gAt hv
    obtain ⟨e,kvc,he1,he2,he3,he4⟩:=W.cAt (show v<M by omega)
    obtain ⟨O,o1,o2,o3,o4⟩:=items_dst hd3 hd4
    obtain ⟨S,t1,t2,t3,t4,_⟩:=keys_src he3 he4
    have hS:SrcOf G v S:=⟨t3,t4⟩
    have hO:DstOf G v O:=⟨o2,o3⟩
    have hSv:∀ u∈S,u<N∧u<v∧G u v=some (wtOf G v u):=fun u hu=>by
      obtain ⟨y,hy⟩:=Option.isSome_iff_exists.mp ((t4 u).mp hu)
      obtain ⟨q1,q2,_⟩:=good u v y hy
      refine ⟨q1,q2,?_⟩
      unfold wtOf
      rw [hy]
      rfl
    have hOv:∀ o∈O,v<o.1∧o.1<M∧G v o.1=some o.2:=fun o ho=>by
      have hy:=(o3 o.1 o.2).mp ho
      obtain ⟨_,q2,q3,_⟩:=good v o.1 o.2 hy
      exact ⟨q2,q3,hy⟩
    have aw:Away v (prods (wtOf G v) S O):=prods_away (W:=G) (fun u hu=>by have:=hSv u hu; omega) (fun o ho=>by have:=hOv o ho; omega) _
    have kn:=prods_keys (wtOf G v) t3 o2
    refine ⟨_,rfl,a,C,dx,_,_,rfl,W.ob,WC.cl,WC.nG,rfl,_,rfl,g,_,_,_,rfl,rfl,SqL.of W.lg,atN rfl (imap hd1),.inr (.inr (.inl ⟨rfl,.inl ⟨_,hd2⟩⟩)),d,_,rfl,rfl,hd2,fun vw hvw => ?_⟩
    have s1:=Same.new (o:=vwO vw d) hvw
    refine ⟨vw,d,_,rfl,upd_same,s1 _ _ hd2,fun H2 ol as s2 hol has hol2 hpa => ?_⟩
    have s12:=s1.trans s2
    have W1:=W.grow s12
    have T1:TupS K H (reb B H H2):=reb_tup
    have b1l:reb B H H2 ol=some (.lst (as.map V.ref)):=(reb_new (s1.free hol)).trans hol2
    have b1p:Paired (fun x kv=>reb B H H2 x=some (.tup [kV kv.1,kv.2])) as kvs:=paired_pt (Paired.length hpa) fun i x kv hx hkv=>by
      obtain ⟨kv',h1,h2⟩:=pgetL hpa hx
      rw [hkv] at h1
      cases h1
      exact (reb_new (s1.free (has x (List.mem_of_getElem? hx)))).trans h2
    have sB1:Same B (reb B H H2):=reb_same W.sm
    have he5:H2 e=some (.dK kvc):=s12 _ _ he2
    refine ⟨_,rfl,a,C,dx,_,_,rfl,W1.ob,WC.cl,WC.nC,rfl,_,rfl,c,_,_,_,rfl,rfl,SqL.of W1.lc,atN rfl (imap he1),e,_,rfl,he5,fun sl hsl => ?_⟩
    rw [t1]
    have s3:=Same.new (o:=.lst (natV S)) hsl
    have W2:=W1.grow s3
    have b2l:reb (reb B H H2) H2 (upd H2 sl (.lst (natV S))) sl=some (.lst (natV S)):=(reb_new hsl).trans upd_same
    have sB2:Same (reb B H H2) (reb (reb B H H2) H2 (upd H2 sl (.lst (natV S)))):=reb_same W1.sm
    generalize hB2:reb (reb B H H2) H2 (upd H2 sl (.lst (natV S)))=B2 at *
    have sBB:=sB1.trans sB2
    have b2o:=sB2 _ _ b1l
    have b2p:Paired (fun x kv=>B2 x=some (.tup [kV kv.1,kv.2])) as kvs:=Paired.mapP b1p fun _ _ h=>sB2 _ _ h
    have o1':Paired (fun (kv:Key×V) (o:Nat×Frac)=>kv.1=nk o.1∧∃ b,kv.2 = .ref b∧IsF K B2 b o.2) kvs O:=Paired.mapP o1 fun _ _ h=>⟨h.1,let ⟨b,h1,h2⟩:=h.2; ⟨b,h1,(T1 _ _ h2).keep sB2⟩⟩
    refine ⟨sl,rfl,⟨_,SqL.of upd_same⟩,for_list (K:=K) (a:=sl) (xs:=natV S) (fun i σ H' => ∃ v3 v4 v5 v6:Option V,σ=[some (.ref a),some (.int (v:Int)),some (.ref ol),v3,v4,v5,v6] ∧
        WaysIs K C B2 H' a dx g c gs cs N M (Gp v (S.take i) G (prods (wtOf G v) (S.take i) O)) (Ct G (prods (wtOf G v) (S.take i) O)) (p+(prods (wtOf G v) (S.take i) O).length) (q+meets v G (prods (wtOf G v) (S.take i) O)))
      ⟨none,none,none,none,rfl,?_⟩ (fun i σ H' _ ⟨_,_,_,_,_,W'⟩=>SqL.of (W'.sm _ _ b2l)) ?_ ?_⟩
    · refine (W2.same (fun u _ => ?_) fun u x _ => ?_)
      · funext x
        show Gp v [] G [] u x=G u x
        unfold Gp
        rw [if_neg (fun h=>by cases h.2)]
        rfl
      · rfl
    ·
      rintro i x σ H3 hx ⟨v3,v4,v5,v6,rfl,W3⟩
      obtain ⟨u,hu,rfl⟩:=natV_get hx
      have huS:=List.mem_of_getElem? hu
      obtain ⟨huN,huv,hGu⟩:=hSv u huS
      obtain ⟨du,kvu,hu1,hu2,hu3,hu4⟩:=W3.gAt huN
      have hrel:=hu4 v
      have hGp:Gp v (S.take i) G (prods (wtOf G v) (S.take i) O) u v=some (wtOf G v u):=by
        unfold Gp
        rw [if_neg (fun h=>nd_take t3 hu h.2),puts_out _ _ ?_,hGu]
        have aw':Away v (prods (wtOf G v) (S.take i) O):=prods_away (W:=G) (fun u hu=>by have:=hSv u (List.mem_of_mem_take hu); omega) (fun o ho=>by have:=hOv o ho; omega) _
        exact aw'.key (.inr rfl)
      rw [hGp] at hrel
      obtain ⟨wb,hwb1,hwb2⟩:=relG_some hrel
      refine ⟨_,rfl,a,C,dx,_,_,rfl,W3.ob,WC.cl,WC.nG,rfl,_,rfl,g,_,_,_,rfl,rfl,SqL.of W3.lg,atN rfl (imap hu1),du,rfl,.inl ⟨_,.inl hu2⟩,_,rfl,kvu,nk v,_,hu2,rfl,hwb1,?_⟩
      have W4:=W3.putG (G':=Gp v (S.take i++[u]) G (prods (wtOf G v) (S.take i) O)) (kvs':=dropK kvu (nk v)) hu1 hu2 (hu3.drop _) (fun u' hu'=>by
        funext x
        rw [← Gp_pop,if_neg (fun h=>hu' h.1)]) fun x=>by
        rw [valV_drop,← Gp_pop]
        by_cases hxv:x=v
        · subst hxv
          rw [if_pos rfl,if_pos ⟨rfl,rfl⟩]
          trivial
        · rw [if_neg (fun h=>hxv (nk_inj h)),if_neg (fun h=>hxv h.2)]
          exact hu4 x
      have hwb3:IsF K (upd H3 du (.dK (dropK kvu (nk v)))) wb (wtOf G v u):=TupS.upd hu2 trivial _ _ hwb2
      have W5:=W4.grow (Same.refl _)
      have T5:TupS K (upd H3 du (.dK (dropK kvu (nk v)))) (reb B2 (upd H3 du (.dK (dropK kvu (nk v)))) (upd H3 du (.dK (dropK kvu (nk v))))):=reb_tup
      have sB5:Same B2 (reb B2 (upd H3 du (.dK (dropK kvu (nk v)))) (upd H3 du (.dK (dropK kvu (nk v))))):=reb_same W4.sm
      have hwb5:=T5 _ _ hwb3
      generalize reb B2 (upd H3 du (.dK (dropK kvu (nk v)))) (upd H3 du (.dK (dropK kvu (nk v))))=B5 at *
      have htk:S.take i++[u]=S.take (i+1):=(take_snoc hu).symm
      rw [htk] at W5
      have b5o:=sB5 _ _ b2o
      refine ⟨_,rfl,ol,rfl,⟨_,SqL.of (W5.sm _ _ b5o)⟩,for_list (K:=K) (a:=ol) (xs:=as.map V.ref) (fun j σ H' => ∃ v5 v6:Option V,σ=[some (.ref a),some (.int (v:Int)),some (.ref ol),some (.int (u:Int)),some (.ref wb),v5,v6] ∧
          WaysIs K C B5 H' a dx g c gs cs N M (Gp v (S.take (i+1)) G (prods (wtOf G v) (S.take i) O++row (wtOf G v) u (O.take j))) (Ct G (prods (wtOf G v) (S.take i) O++row (wtOf G v) u (O.take j))) (p+(prods (wtOf G v) (S.take i) O++row (wtOf G v) u (O.take j)).length) (q+meets v G (prods (wtOf G v) (S.take i) O++row (wtOf G v) u (O.take j))))
        ⟨_,_,rfl,?_⟩ (fun j σ H' _ ⟨_,_,_,W'⟩=>SqL.of (W'.sm _ _ b5o)) ?_ ?_⟩
      · have e0:prods (wtOf G v) (S.take i) O++row (wtOf G v) u (O.take 0)=prods (wtOf G v) (S.take i) O:=by
          rw [List.take_zero]
          unfold row
          rw [List.map_nil,List.append_nil]
        rw [e0]
        exact W5
      ·
        rintro j y σ H6 hy ⟨v5',v6',rfl,W6⟩
        obtain ⟨ta,hta,rfl⟩:=ofmap hy
        obtain ⟨kv,hkv,htup⟩:=pgetL b2p hta
        obtain ⟨o,ho,hko,wf,hwf,hwfF⟩:=pgetL o1' hkv
        have hoO:=List.mem_of_getElem? ho
        obtain ⟨hov,hoM,hGo⟩:=hOv o hoO
        have htup6:=W6.sm _ _ (sB5 _ _ htup)
        have ekv:[kV kv.1,kv.2]=[V.int ((o.1:Nat):Int),V.ref wf]:=by rw [hko,hwf]; rfl
        rw [ekv] at htup6
        have hwf6:IsF K H6 wf o.2:=(hwfF.keep sB5).keep W6.sm
        have hwb6:IsF K H6 wb (wtOf G v u):=hwb5.keep W6.sm
        obtain ⟨_,sm1⟩:=good.small fit hz hGu
        obtain ⟨_,sm2⟩:=good.small fit hz hGo
        obtain ⟨wfp,sm3⟩:=good.smallP fit hz hGu hGo
        have hxv:o.1≠v:=by omega
        have huv':u≠v:=by omega
        have hfk:=fresh_key (wt:=wtOf G v) t3 o2 hu ho
        refine ⟨ta,_,rfl,SqT.of htup6,rfl,_,_,rfl,_,_,rfl,rfl,?_⟩
        refine ⟨_,rfl,a,C,dx,_,_,rfl,W6.ob,WC.cl,WC.nP,rfl,_,_,rfl,rfl,_,rfl,a,C,dx,_,rfl,W6.ob,WC.cl,WC.nP,(by show 5<1000; decide),?_⟩
        have W7:=W6.cnt (p':=p+(prods (wtOf G v) (S.take i) O++row (wtOf G v) u (O.take j)).length+1) (q':=q+meets v G (prods (wtOf G v) (S.take i) O++row (wtOf G v) u (O.take j)))
        have hwf7:IsF K _ wf o.2:=TupS.upd W6.ob trivial (o':=.ins C dx (wfs N g c (p+(prods (wtOf G v) (S.take i) O++row (wtOf G v) u (O.take j)).length+1) (q+meets v G (prods (wtOf G v) (S.take i) O++row (wtOf G v) u (O.take j))))) _ _ hwf6
        have hwb7:IsF K _ wb (wtOf G v u):=TupS.upd W6.ob trivial (o':=.ins C dx (wfs N g c (p+(prods (wtOf G v) (S.take i) O++row (wtOf G v) u (O.take j)).length+1) (q+meets v G (prods (wtOf G v) (S.take i) O++row (wtOf G v) u (O.take j))))) _ _ hwb6
        generalize hL:prods (wtOf G v) (S.take i) O++row (wtOf G v) u (O.take j)=L at *
        have hL2:prods (wtOf G v) (S.take i) O++row (wtOf G v) u (O.take (j+1))=L++[((u,o.1),Vagraa.mul (wtOf G v u) o.2)]:=by rw [row_succ ho,← List.append_assoc,hL]
        refine ⟨_,rfl,a,dx,_,rfl,W7.ob,rfl,_,rfl,_,rfl,_,rfl,_,rfl,wb,wf,_,_,rfl,hwb7,hwf7,sm1,sm2,fun tp htp => ?_⟩
        have s8:=Same.new (o:=.tup (tupF (Vagraa.mul (wtOf G v u) o.2))) htp
        have W8:=W7.keep s8
        have hat:=at_fresh (v:=v) (A:=S.take (i+1)) (G:=G) (L:=L) (u:=u) (x:=o.1) hxv hfk
        refine ⟨B5,a,dx,g,c,tp,gs,cs,N,M,_,_,_,_,u,o.1,_,rfl,W8,IsF.new wfp,huN,hoM,hNM,hM,sm3,(fun y hy => ?_),fun H9 W9 => ?_⟩
        · rw [hat] at hy
          exact (good.small fit hz hy).2
        have W10:WaysIs K C B5 H9 a dx g c gs cs N M (Gp v (S.take (i+1)) G (L++[((u,o.1),Vagraa.mul (wtOf G v u) o.2)])) (Ct G (L++[((u,o.1),Vagraa.mul (wtOf G v u) o.2)])) (p+L.length+1) (q+meets v G L) :=
          W9.same (fun u' _=>by rw [Gp_put (z:=((u,o.1),Vagraa.mul (wtOf G v u) o.2)) hxv]) fun u' x' _=>(Ct_put (v:=v) (A:=S.take (i+1)) (z:=((u,o.1),Vagraa.mul (wtOf G v u) o.2)) hxv u' x').symm
        have hms:=meets_snoc v G L ((u,o.1),Vagraa.mul (wtOf G v u) o.2)
        rw [cut_at huv' hxv] at hms
        rw [hat]
        have elen:p+L.length+1=p+(L++[((u,o.1),Vagraa.mul (wtOf G v u) o.2)]).length:=by rw [List.length_append]; rfl
        cases hgs:(G u o.1).isSome with
        | true=>
          rw [hgs,if_pos rfl] at hms
          refine ⟨true,rfl,iteBT rfl ?_⟩
          refine ⟨_,rfl,a,C,dx,_,_,rfl,W10.ob,WC.cl,WC.nS,rfl,_,_,rfl,rfl,_,rfl,a,C,dx,_,rfl,W10.ob,WC.cl,WC.nS,(by show 5<1000; decide),?_⟩
          have W11:=W10.cnt (p':=p+L.length+1) (q':=q+meets v G L+1)
          refine ⟨_,_,rfl,?_⟩
          rw [hL2,hms,← elen]
          exact W11
        | false=>
          rw [hgs,if_neg (by decide)] at hms
          refine ⟨false,rfl,iteBF rfl ?_⟩
          refine ⟨_,_,rfl,?_⟩
          rw [hL2,hms,← elen]
          exact W10
      · rintro σ H6 ⟨v5',v6',rfl,W6⟩
        refine ⟨_,_,_,_,rfl,?_⟩
        have el:(as.map V.ref).length=O.length:=by rw [List.length_map,Paired.length b2p,Paired.length o1']
        rw [el,List.take_length,← prods_succ hu] at W6
        exact W6.down sB5
    ·
      rintro σ H3 ⟨v3,v4,v5,v6,rfl,W3⟩
      rw [natV_len,List.take_length] at W3
      have hGv:Gp v S G (prods (wtOf G v) S O) v=G v:=by
        funext x
        unfold Gp
        rw [if_neg (fun h=>by have:=hSv v h.2; omega),puts_out _ _ (aw.key (.inl rfl))]
      obtain ⟨d3,kv3,h31,h32,h33,h34⟩:=W3.gAt hv
      rw [hd1] at h31
      cases h31
      rw [hGv] at h34
      obtain ⟨O3,z1,z2,z3,z4⟩:=items_dst h33 h34
      have ek:kv3.map (fun kv=>kV kv.1)=natV (O3.map (·.1)):=by
        clear z2 z3 z4 h32 h33 h34
        induction z1 with
        | nil=>rfl
        | cons h _ ih=>
          rw [List.map_cons,ih,h.1]
          rfl
      refine ⟨_,rfl,a,C,dx,_,_,rfl,W3.ob,WC.cl,WC.nG,rfl,_,rfl,g,_,_,_,rfl,rfl,SqL.of W3.lg,atN rfl (imap hd1),d,_,rfl,h32,fun tl htl => ?_⟩
      rw [ek]
      have s4:=Same.new (o:=.lst (natV (O3.map (·.1)))) htl
      have W4:=W3.grow s4
      have b4:reb B2 H3 (upd H3 tl (.lst (natV (O3.map (·.1))))) tl=some (.lst (natV (O3.map (·.1)))):=(reb_new htl).trans upd_same
      have sB4:Same B2 (reb B2 H3 (upd H3 tl (.lst (natV (O3.map (·.1)))))):=reb_same W3.sm
      generalize reb B2 H3 (upd H3 tl (.lst (natV (O3.map (·.1)))))=B4 at *
      refine ⟨tl,rfl,⟨_,SqL.of upd_same⟩,for_list (K:=K) (a:=tl) (xs:=natV (O3.map (·.1))) (fun i σ H' => ∃ v3 v4 v5 v6:Option V,σ=[some (.ref a),some (.int (v:Int)),some (.ref ol),v3,v4,v5,v6] ∧
          WaysIs K C B4 H' a dx g c gs cs N M (Gp v S G (prods (wtOf G v) S O)) (fun u x=>if u=v∧x∈(O3.map (·.1)).take i then false else Ct G (prods (wtOf G v) S O) u x) (p+(prods (wtOf G v) S O).length) (q+meets v G (prods (wtOf G v) S O)))
        ⟨_,_,_,_,rfl,?_⟩ (fun i σ H' _ ⟨_,_,_,_,_,W'⟩=>SqL.of (W'.sm _ _ b4)) ?_ ?_⟩
      · refine W4.same (fun _ _=>rfl) fun u x _ => ?_
        rw [if_neg (fun h=>by cases h.2)]
      · rintro i x σ H5 hx ⟨v3',v4',v5',v6',rfl,W5⟩
        obtain ⟨y,hy,rfl⟩:=natV_get hx
        have hyO:(G v y).isSome=true:=by
          obtain ⟨o,ho,e⟩:=List.mem_map.mp (List.mem_of_getElem? hy)
          rw [← e,(z3 o.1 o.2).mp ho]
          rfl
        have hyM:y<M:=by
          obtain ⟨o,ho,e⟩:=List.mem_map.mp (List.mem_of_getElem? hy)
          rw [← e]
          exact z4 o ho
        have hnt:=nd_take z2 hy
        obtain ⟨dy,kvy,hy1,hy2,hy3,hy4⟩:=W5.cAt hyM
        have hyv:=hy4 v
        rw [if_neg (fun h=>hnt h.2)] at hyv
        have hct:Ct G (prods (wtOf G v) S O) v y=true:=by
          unfold Ct
          rw [puts_out _ _ (aw.key (.inl rfl))]
          exact hyO
        rw [hct] at hyv
        obtain ⟨yv,hyv⟩:=Option.isSome_iff_exists.mp hyv
        refine ⟨_,rfl,a,C,dx,_,_,rfl,W5.ob,WC.cl,WC.nC,rfl,_,rfl,c,_,_,_,rfl,rfl,SqL.of W5.lc,atN rfl (imap hy1),dy,rfl,.inl ⟨_,.inl hy2⟩,_,rfl,kvy,nk v,_,hy2,rfl,hyv,?_⟩
        refine ⟨_,_,_,_,rfl,?_⟩
        refine W5.putC hy1 hy2 (hy3.drop _) (fun u x' hx' => ?_) fun u => ?_
        · rw [take_snoc hy]
          by_cases h:u=v∧x'∈(O3.map (·.1)).take i
          · rw [if_pos h,if_pos ⟨h.1,List.mem_append_left _ h.2⟩]
          · rw [if_neg h,if_neg]
            rintro ⟨h1,h2⟩
            rcases List.mem_append.mp h2 with h2 | h2
            · exact h ⟨h1,h2⟩
            · exact hx' (by simpa using h2)
        · rw [valV_drop,take_snoc hy]
          by_cases hu:u=v
          · subst hu
            rw [if_pos rfl,if_pos ⟨rfl,by simp⟩]
            rfl
          · rw [if_neg (fun h=>hu (nk_inj h)),if_neg (fun h=>hu h.1),hy4 u,if_neg (fun h=>hu h.1)]
      · rintro σ H5 ⟨v3',v4',v5',v6',rfl,W5⟩
        rw [natV_len,List.take_length] at W5
        intro dn hdn
        have sdn:=Same.new (o:=.dK []) hdn
        refine ⟨_,rfl,a,C,dx,_,_,rfl,sdn _ _ W5.ob,WC.cl,WC.nG,rfl,_,rfl,g,_,_,v,rfl,rfl,sdn _ _ W5.lg,ixN_nat (by rw [List.length_map,W5.ln]; exact hv),?_⟩
        have W6:=W5.newG (G':=fun u x=>if u=v then none else Gp v S G (prods (wtOf G v) S O) u x) hdn hv (fun u' hu'=>by funext x; rw [if_neg hu']) fun x=>by rw [if_pos rfl]
        intro dm hdm
        have sdm:=Same.new (o:=.dK []) hdm
        refine ⟨_,rfl,a,C,dx,_,_,rfl,sdm _ _ W6.ob,WC.cl,WC.nC,rfl,_,rfl,c,_,_,v,rfl,rfl,sdm _ _ W6.lc,ixN_nat (by rw [List.length_map,W6.lm]; omega),?_⟩
        have W7:=W6.newC (x:=v) (Cm':=fun u x=>if x=v then false else if u=v∧x∈O3.map (·.1) then false else Ct G (prods (wtOf G v) S O) u x) hdm (by omega) (fun u x' hx'=>by rw [if_neg hx']) fun u=>by rw [if_pos rfl]
        have hT:∀ x,x∈O3.map (·.1)↔(G v x).isSome=true:=fun x=>by
          constructor
          · intro hm
            obtain ⟨o,ho,e⟩:=List.mem_map.mp hm
            rw [← e,(z3 o.1 o.2).mp ho]
            rfl
          · intro hs
            obtain ⟨y,hy⟩:=Option.isSome_iff_exists.mp hs
            exact List.mem_map.mpr ⟨(x,y),(z3 x y).mpr hy,rfl⟩
        rw [prods_length] at W7
        refine qq _ (gs.set v dn) (cs.set v dm) S O hS hO ?_
        refine ((W7.down sB4).down sBB).same (fun u _ => ?_) fun u x _ => ?_
        · funext x
          exact (final_G aw kn hS u x).symm
        · exact (final_C aw kn hT u x).symm
end
end Ts
end
section
set_option maxRecDepth 100000
set_option maxHeartbeats 4000000
namespace Ts
open PySem PySem.Spec PyProof.Rows L2
open Vagraa (Frac)
open VagraLine (Line at_)
structure DsAt (H H':Hp) (D:Addr) (ds:List Addr):Prop where
  sm:Same H H'
  ls:H' D=some (.lst (ds.map V.ref))
  nd:ds.Nodup
  at_:∀ d∈ds,H' d=some (.dK [])∧H d=none∧d≠D
theorem DsAt.start {H:Hp} {D:Addr} (h:H D=none):DsAt H (upd H D (.lst [])) D []:=⟨Same.new h,upd_same,List.nodup_nil,fun d hd=>by cases hd⟩
theorem DsAt.step {H H':Hp} {D p:Addr} {ds:List Addr} (hD:H D=none) (h:DsAt H H' D ds) (hp:H' p=none):DsAt H (upd (upd H' p (.dK [])) D (.lst (ds.map V.ref++[V.ref p]))) D (ds++[p]):=by
  have s1:=Same.new (o:=.dK []) hp
  have hpD:p≠D:=fun e=>by rw [e,h.ls] at hp; cases hp
  have hpd:p ∉ ds:=fun hm=>by rw [(h.at_ p hm).1] at hp; cases hp
  refine ⟨samePut hD (h.sm.trans s1),by rw [upd_same,List.map_append]; rfl,?_,fun d hd => ?_⟩
  · rw [List.nodup_append]
    refine ⟨h.nd,by simp,fun x hx y hy e => ?_⟩
    have:y=p:=by simpa using hy
    subst this e
    exact hpd hx
  · rcases List.mem_append.mp hd with q | q
    · obtain ⟨q1,q2,q3⟩:=h.at_ d q
      exact ⟨by rw [upd_ne q3]; exact s1 _ _ q1,q2,q3⟩
    · have:d=p:=by simpa using q
      subst this
      exact ⟨by rw [upd_ne hpD,upd_same],h.sm.free hp,hpD⟩
theorem noWay_good (N M E Cc:Nat):GoodI N M E Cc 0 (puts noWay []):=GoodI.none N M E Cc
section
variable {P:Program} {w:World} {K:PySem.W.Frag} {mg:Str→Option Value} {base:Heap} {C:Addr}
abbrev st_Ways___init__:Stmt:=inClass (top 56) 0
theorem sc_Ways___init__:FnScope ["self","lines","tape","outs","number","line","used","derivative","place","out","target"] ["self","lines","tape","outs"] (defScope st_Ways___init__):=⟨rfl,rfl,rfl,by decide +kernel,rfl,by decide +kernel,by decide +kernel⟩
def wayL (c:List Line) (tp:List (List (Nat×Frac))) (outs:List Nat):List Way:=lineL tp tp.length++outL c.length outs outs.length
def spWaysInit (K:PySem.W.Frag) (C:Addr):Sp:=fun vs H Q _ => ∃ (B:Hp) (a dx l t ol:Addr) (c:List Line) (tp:List (List (Nat×Frac))) (outs:List Nat) (E Cc ea eb:Nat),vs=[.ref a,.ref l,.ref t,.ref ol]∧H a=some (.ins C dx [])∧Same B H∧B a=none ∧
  IsLns K B l c∧IsTp K B t (tpD tp)∧TapeIs c tp∧B ol=some (.lst (natV outs))∧(∀ (i:Nat) ln,c[i]? = some ln→∀ u∈ln.uses,u<i)∧(∀ o∈outs,o<c.length)∧c.length≤1000∧outs.length≤100∧TapeB E Cc tp∧1≤Cc∧Fit ea eb E Cc∧ea+1+(12+eb)≤60000000 ∧
  ∀ H' g cc gs cs,WaysIs K C B H' a dx g cc gs cs c.length (c.length+outs.length) (puts noWay (wayL c tp outs)) (Ct noWay (wayL c tp outs)) 0 0→GoodI c.length (c.length+outs.length) E Cc (wayL c tp outs).length (puts noWay (wayL c tp outs))→Q .non H'
theorem can_Ways___init__ (T:Txt K mg) (WC:WCls K C) (S:MSrc K C "__init__" "Ways.__init__" st_Ways___init__ ["self","lines","tape","outs"]) (c_lines_used:Can P w K mg base 43 "lines_used" ["line"] (spUsed K)) (c_Ways_add_way:CanM P w K mg base 45 C "add_way" ["self","source","target","worth"] (spAddWay K C)) :
    CanM P w K mg base 47 C "__init__" ["self","lines","tape","outs"] (spWaysInit K C):=by
  have cl_Ways:=WC.cl
  obtain ⟨a_ONE,h_ONE,i_ONE⟩:=T.t_ONE
  refine S.can sc_Ways___init__ (fun vs H Q E h => ?_) (fun f cdv A outer s H vs Q E hr h => ?_)
  · obtain ⟨B,a,dx,l,t,ol,c,tp,outs,E,Cc,ea,eb,rfl,_⟩:=h
    rfl
  · obtain ⟨B,a,dx,l,t,ol,c,tp,outs,E,Cc,ea,eb,rfl,ha,sB,bA,⟨as,hl,hp⟩,⟨ts,ht,hpt⟩,htp,hol,huse,hout,hcl,hlo,hTB,hCc,fit,hz,qq⟩:=h
    refine ⟨_,(pss_cons (ps_fld (pv 0) (pe_callB call_len_seq rfl T.n_len PySem.boot_len (pa_cons (pv 1) pa_nil)) rfl)
      (pss_cons (ps_fld (pv 0) (pe_lc (g:=(gName 5)) (own:=[("line",5)]) rfl sc_Ways___init__.nd (pi_list (pv 1)) (blkOk_by (N:=["self","lines","tape","outs","number","line","used","derivative","place","out","target"]) (sc:=defScope st_Ways___init__) (by decide +kernel)) (fun _ _ _ _ _=>(pg_name (i:=5) sc_Ways___init__.nd rfl (Or.inl rfl))) (fun _ _ _ _ _=>pts_nil) (fun _ _ _ _ _=>pe_dnewK)) rfl)
      (pss_cons (ps_fld (pv 0) (pe_lc (g:=(gName 10)) (own:=[("target",10)]) rfl sc_Ways___init__.nd (pi_range1 rfl T.n_range (pa_cons (pe_op op_add (pe_callB call_len_seq rfl T.n_len PySem.boot_len (pa_cons (pv 1) pa_nil)) (pe_callB call_len_seq rfl T.n_len PySem.boot_len (pa_cons (pv 3) pa_nil))) pa_nil)) (blkOk_by (N:=["self","lines","tape","outs","number","line","used","derivative","place","out","target"]) (sc:=defScope st_Ways___init__) (by decide +kernel)) (fun _ _ _ _ _=>(pg_name (i:=10) sc_Ways___init__.nd rfl (Or.inl rfl))) (fun _ _ _ _ _=>pts_nil) (fun _ _ _ _ _=>pe_dnewK)) rfl)
      (pss_cons (ps_fld (pv 0) pe_int rfl)
      (pss_cons (ps_fld (pv 0) pe_int rfl)
      (pss_cons (ps_for PassesOwn.never rfl (pi_enum rfl T.n_enumerate (pa_cons (pv 1) pa_nil)) (pg_tup rfl (pgs_cons (pg_name (i:=4) sc_Ways___init__.nd rfl (Or.inl rfl)) (pgs_cons (pg_name (i:=5) sc_Ways___init__.nd rfl (Or.inl rfl)) pgs_nil))) (pss_one (ps_for PassesOwn.never rfl (pi_zip rfl T.n_zip (pa_cons (pe_can c_lines_used (hr.mono (by decide)) (pa_cons (pv 5) pa_nil)) (pa_cons (pe_ix ix_list (pv 2) (pv 4) (fun _ _=>rfl)) pa_nil))) (pg_tup rfl (pgs_cons (pg_name (i:=6) sc_Ways___init__.nd rfl (Or.inl rfl)) (pgs_cons (pg_name (i:=7) sc_Ways___init__.nd rfl (Or.inl rfl)) pgs_nil))) (pss_one (ps_expr (pe_canM c_Ways_add_way cl_Ways (hr.mono (by decide)) (pv 0) (pa_cons (pv 6) (pa_cons (pv 4) (pa_cons (pv 7) pa_nil)))))))))
      (pss_one (ps_for PassesOwn.never rfl (pi_enum rfl T.n_enumerate (pa_cons (pv 3) pa_nil)) (pg_tup rfl (pgs_cons (pg_name (i:=8) sc_Ways___init__.nd rfl (Or.inl rfl)) (pgs_cons (pg_name (i:=9) sc_Ways___init__.nd rfl (Or.inl rfl)) pgs_nil))) (pss_one (ps_expr (pe_canM c_Ways_add_way cl_Ways (hr.mono (by decide)) (pv 0) (pa_cons (pv 9) (pa_cons (pe_op op_add (pe_fld (pv 0) rfl) (pv 8)) (pa_cons (pe_glob rfl h_ONE rfl (v:=V.ref a_ONE)) pa_nil)))))))))))))),?_⟩
    have hla:=Paired.length hp
    have hlt:=Paired.length hpt
    have hlas:(as.map V.ref).length=c.length:=by rw [List.length_map,hla]
    refine ⟨_,rfl,l,_,rfl,.inl (SqL.of (sB _ _ hl)),_,rfl,a,C,dx,_,rfl,ha,WC.cl,WC.nF,(by show 0<1000; decide),?_⟩
    rw [hlas]
    have sB1:Same B (upd H a (.ins C dx (putF "first_end" (.int (c.length:Int)) []))):=samePutB bA sB
    refine ⟨_,rfl,l,rfl,⟨_,SqL.of (sB1 _ _ hl)⟩,fun g hg => ?_⟩
    refine lc_list (K:=K) (a:=l) (xs:=as.map V.ref) (fun i H' => ∃ ds,ds.length=i∧DsAt (upd H a (.ins C dx (putF "first_end" (.int (c.length:Int)) []))) H' g ds) ⟨[],rfl,DsAt.start hg⟩ (fun i H' _ ⟨_,_,d⟩=>SqL.of (d.sm _ _ (sB1 _ _ hl))) ?_ ?_
    · rintro i x H2 hx ⟨ds,hds,dd⟩
      refine ⟨rfl,?_⟩
      unfold tYes
      refine iteBT rfl ?_
      intro p0 hp0
      have hpD:p0≠g:=fun e=>by rw [e,dd.ls] at hp0; cases hp0
      have hi:=(List.getElem?_eq_some_iff.mp hx).1
      refine ⟨_,by rw [upd_ne (fun e=>hpD e.symm)]; exact dd.ls,by rw [List.length_map,hds]; exact line_lt (by omega),ds++[p0],by rw [List.length_append,hds]; rfl,dd.step hg hp0⟩
    rintro H2 ⟨gs,hgl,dg⟩
    rw [hlas] at hgl
    have ha2:=dg.sm _ _ (upd_same (H:=H) (a:=a) (o:=.ins C dx (putF "first_end" (.int (c.length:Int)) [])))
    refine ⟨_,rfl,a,C,dx,_,rfl,ha2,WC.cl,WC.nG,(by show 1<1000; decide),?_⟩
    have sB2:Same B (upd H2 a (.ins C dx (putF "going" (.ref g) (putF "first_end" (.int (c.length:Int)) [])))):=samePutB bA (sB1.trans dg.sm)
    have hga:g≠a:=fun e=>by rw [e,upd_same] at hg; cases hg
    have hg3:(upd H2 a (.ins C dx (putF "going" (.ref g) (putF "first_end" (.int (c.length:Int)) [])))) g=some (.lst (gs.map V.ref)):=by rw [upd_ne hga]; exact dg.ls
    have hgd3:∀ d∈gs,(upd H2 a (.ins C dx (putF "going" (.ref g) (putF "first_end" (.int (c.length:Int)) [])))) d=some (.dK []):=fun d hd=>by
      have h1:=(dg.at_ d hd).1
      rw [upd_ne (ne_of h1 ha2 (by intro z; cases z))]
      exact h1
    generalize hH3:upd H2 a (.ins C dx (putF "going" (.ref g) (putF "first_end" (.int (c.length:Int)) [])))=H3 at *
    have ha3:H3 a=some (.ins C dx (putF "going" (.ref g) (putF "first_end" (.int (c.length:Int)) []))):=by rw [← hH3,upd_same]
    refine ⟨_,rfl,l,_,rfl,.inl (SqL.of (sB2 _ _ hl)),_,rfl,ol,_,rfl,.inl (SqL.of (sB2 _ _ hol)),_,_,rfl,rfl,_,rfl,by omega,(by rw [hlas,natV_len]; omega),fun cc hcc => ?_⟩
    have en:((((as.map V.ref).length:Nat):Int)+(((natV outs).length:Nat):Int)).toNat=c.length+outs.length:=by rw [hlas,natV_len]; omega
    rw [en]
    refine lc_range (lo:=0) (n:=c.length+outs.length) (fun i H' => ∃ ds,ds.length=i∧DsAt H3 H' cc ds) ⟨[],rfl,DsAt.start hcc⟩ ?_ ?_
    · rintro i H4 hi ⟨ds,hds,dd⟩
      refine ⟨rfl,?_⟩
      unfold tYes
      refine iteBT rfl ?_
      intro p0 hp0
      have hpD:p0≠cc:=fun e=>by rw [e,dd.ls] at hp0; cases hp0
      refine ⟨_,by rw [upd_ne (fun e=>hpD e.symm)]; exact dd.ls,by rw [List.length_map,hds]; exact line_lt (by omega),ds++[p0],by rw [List.length_append,hds]; rfl,dd.step hcc hp0⟩
    rintro H4 ⟨cs,hcsl,dc⟩
    have ha4:=dc.sm _ _ ha3
    refine ⟨_,rfl,a,C,dx,_,rfl,ha4,WC.cl,WC.nC,(by show 2<1000; decide),?_⟩
    refine ⟨_,rfl,a,C,dx,_,rfl,upd_same,WC.cl,WC.nP,(by show 3<1000; decide),?_⟩
    refine ⟨_,rfl,a,C,dx,_,rfl,upd_same,WC.cl,WC.nS,(by show 4<1000; decide),?_⟩
    rw [upd_upd,upd_upd]
    have hcca:cc≠a:=fun e=>by rw [e,ha3] at hcc; cases hcc
    have hgcc:g≠cc:=fun e=>by rw [← e,hg3] at hcc; cases hcc
    have W0:WaysIs K C B (upd H4 a (.ins C dx (wfs c.length g cc 0 0))) a dx g cc gs cs c.length (c.length+outs.length) (puts noWay []) (Ct noWay []) 0 0:=by
      have nea:∀ b o,H4 b=some o→(∀ dx' fs,o ≠ .ins C dx' fs)→(upd H4 a (.ins C dx (wfs c.length g cc 0 0))) b=some o:=fun b o h n=>by
        rw [upd_ne (ne_of h ha4 (n _ _))]
        exact h
      have dG:∀ d∈gs,(upd H4 a (.ins C dx (wfs c.length g cc 0 0))) d=some (.dK []):=fun d hd=>nea _ _ (dc.sm _ _ (hgd3 d hd)) (by intro _ _ z; cases z)
      have dC:∀ d∈cs,(upd H4 a (.ins C dx (wfs c.length g cc 0 0))) d=some (.dK []):=fun d hd=>nea _ _ (dc.at_ d hd).1 (by intro _ _ z; cases z)
      exact {
        ob:=upd_same
        lg:=nea _ _ (dc.sm _ _ hg3) (by intro _ _ z; cases z)
        lc:=nea _ _ dc.ls (by intro _ _ z; cases z)
        gc:=hgcc
        ln:=hgl
        lm:=hcsl
        nd:=List.nodup_append.mpr ⟨dg.nd,dc.nd,fun x hx y hy e=>by
          subst e
          have h1:=(dc.at_ x hy).2.1
          rw [hgd3 x hx] at h1
          cases h1⟩
        dg:=fun u d hd=>⟨[],dG d (List.mem_of_getElem? hd),NatK.nil _,fun x=>by rw [valV_nil]; trivial⟩
        dc:=fun u d hd=>⟨[],dC d (List.mem_of_getElem? hd),NatK.nil _,fun x=>by rw [valV_nil]; rfl⟩
        ba:=bA
        bg:=sB1.free hg
        bc:=sB2.free hcc
        bd:=fun d hd=>by
          rcases List.mem_append.mp hd with z | z
          · exact sB1.free (dg.at_ d z).2.1
          · exact sB2.free (dc.at_ d z).2.1
        sm:=samePutB bA (sB2.trans dc.sm) }
    have hM:c.length+outs.length≤2000:=by omega
    have step:∀ (L:List Way) (k u x:Nat) (f:Frac),GoodI c.length (c.length+outs.length) E Cc k (puts noWay L)→k≤2 ^ 12→u<c.length→u<x→x<c.length+outs.length→WF f→Bd E Cc f →
        Sm f∧(∀ y,puts noWay L u x=some y→Sm y)∧GoodI c.length (c.length+outs.length) E Cc (k+1) (puts noWay (L++[((u,x),f)])):=by
      intro L k u x f hg hk h1 h2 h3 h4 h5
      refine ⟨fit.small h5 (by omega),fun y hy => ?_,?_⟩
      · obtain ⟨_,_,_,w1,w2⟩:=hg _ _ _ hy
        exact (fit.times hk).small w2 (by omega)
      · rw [puts_snoc]
        exact hg.put h1 h2 h3 h4 h5
    have nxt:∀ {H':Hp} {B':Hp} {L:List Way} {u x:Nat} {f:Frac},WaysIs K C B' H' a dx g cc gs cs c.length (c.length+outs.length) (put (puts noWay L) ((u,x),f)) (fun u' x'=>if (puts noWay L u x).isSome=true then Ct noWay L u' x' else putC (puts noWay L) (Ct noWay L) ((u,x),f) u' x') 0 0 →
        WaysIs K C B' H' a dx g cc gs cs c.length (c.length+outs.length) (puts noWay (L++[((u,x),f)])) (Ct noWay (L++[((u,x),f)])) 0 0:=by
      intro H' B' L u x f W'
      exact W'.same (fun u' _=>by rw [puts_snoc]) fun u' x' _=>(Ct_put0 (z:=((u,x),f)) u' x').symm
    have hT2:∀ ps∈tp,ps.length≤2:=fun ps h=>(hTB ps h).1
    refine ⟨_,rfl,l,_,rfl,SqL.of (W0.sm _ _ hl),for_enum (K:=K) (a:=l) (xs:=as.map V.ref) (fun i σ H' => ∃ v4 v5 v6 v7 v8 v9 v10:Option V,σ=[some (.ref a),some (.ref l),some (.ref t),some (.ref ol),v4,v5,v6,v7,v8,v9,v10] ∧
        WaysIs K C B H' a dx g cc gs cs c.length (c.length+outs.length) (puts noWay (lineL tp i)) (Ct noWay (lineL tp i)) 0 0∧GoodI c.length (c.length+outs.length) E Cc (lineL tp i).length (puts noWay (lineL tp i)))
      ⟨none,none,none,none,none,none,none,rfl,W0,noWay_good _ _ _ _⟩ (fun i σ H' _ ⟨_,_,_,_,_,_,_,_,W',_⟩=>SqL.of (W'.sm _ _ hl)) ?_ ?_⟩
    · rintro i x Tp σ H5 hx ⟨v4,v5,v6,v7,v8,v9,v10,rfl,W5,gd5⟩ hT
      obtain ⟨la,hla1,rfl⟩:=ofmap hx
      obtain ⟨ln,hln,hLn⟩:=pgetL hp hla1
      have hic:=(List.getElem?_eq_some_iff.mp hln).1
      obtain ⟨ps,hps⟩:∃ ps,tp[i]? = some ps:=⟨_,List.getElem?_eq_getElem (by rw [htp.1]; exact hic)⟩
      obtain ⟨ta,hta1,hta2⟩:=pget hpt (show (tpD tp)[i]? = some (ps.map (·.2)) by unfold tpD; rw [List.getElem?_map,hps]; rfl)
      obtain ⟨hps2,hpsB⟩:=hTB ps (List.mem_of_getElem? hps)
      have huses:=htp.2 _ _ _ hln hps
      have sT:=Same.new (o:=.tup [V.int ((i:Nat):Int),V.ref la]) hT
      have W6:=W5.keep sT
      refine ⟨Tp,_,rfl,SqT.of upd_same,rfl,_,_,rfl,_,_,rfl,rfl,?_⟩
      refine ⟨_,rfl,la,ln,rfl,hLn.keep W6.sm,fun H7 up s7 hup0 hup => ?_⟩
      have W7:=W6.grow s7
      have bup:reb B _ H7 up=some (.lst (natV ln.uses)):=(reb_new hup0).trans hup
      have sB7:Same B (reb B _ H7):=reb_same W6.sm
      obtain ⟨ds,hds1,hds2⟩:=hta2.keep sB7
      generalize reb B (upd H5 Tp (.tup [V.int ((i:Nat):Int),V.ref la])) H7=B7 at *
      have hdl:=Paired.length hds2
      rw [List.length_map] at hdl
      have hul:(natV ln.uses).length=ps.length:=by rw [← huses,natV_len,List.length_map]
      refine ⟨_,rfl,_,rfl,_,_,_,_,rfl,rfl,SqL.of (W7.sm _ _ (sB7 _ _ ht)),atN rfl (imap hta1),_,_,_,_,rfl,SqL.of hup,SqL.of (W7.sm _ _ hds1),
        for_zip (K:=K) (a:=up) (b:=ta) (xs:=natV ln.uses) (ys:=ds.map V.ref) (by rw [hul,List.length_map,hdl]) (fun j σ H' => ∃ v6 v7 v8 v9 v10:Option V,σ=[some (.ref a),some (.ref l),some (.ref t),some (.ref ol),some (.int (i:Int)),some (.ref la),v6,v7,v8,v9,v10] ∧
          WaysIs K C B7 H' a dx g cc gs cs c.length (c.length+outs.length) (puts noWay (lineL tp i++rowL (ps.take j) i)) (Ct noWay (lineL tp i++rowL (ps.take j) i)) 0 0∧GoodI c.length (c.length+outs.length) E Cc ((lineL tp i).length+j) (puts noWay (lineL tp i++rowL (ps.take j) i)))
        ⟨_,_,_,_,_,rfl,?_,?_⟩ (fun j σ H' _ ⟨_,_,_,_,_,_,W',_⟩=>⟨SqL.of (W'.sm _ _ bup),SqL.of (W'.sm _ _ hds1)⟩) ?_ ?_⟩
      · rw [List.take_zero]
        show WaysIs K C B7 H7 a dx g cc gs cs _ _ (puts noWay (lineL tp i++[])) (Ct noWay (lineL tp i++[])) 0 0
        rw [List.append_nil]
        exact W7
      · rw [List.take_zero]
        show GoodI _ _ E Cc _ (puts noWay (lineL tp i++[]))
        rw [List.append_nil]
        exact gd5
      · rintro j x y Tq σ H8 hx8 hy8 ⟨v6',v7',v8',v9',v10',rfl,W8,gd8⟩ hTq
        obtain ⟨d,hd,rfl⟩:=ofmap hy8
        obtain ⟨p,hpj⟩:∃ p,ps[j]? = some p:=⟨_,List.getElem?_eq_getElem (by rw [← hdl]; exact (List.getElem?_eq_some_iff.mp hd).1)⟩
        have hjl:=(List.getElem?_eq_some_iff.mp hpj).1
        obtain ⟨df,hdf1,hdf2⟩:=pgetL hds2 hd
        have edf:df=p.2:=by
          rw [List.getElem?_map,hpj] at hdf1
          exact (Option.some.inj hdf1).symm
        subst edf
        obtain ⟨u,hu,rfl⟩:=natV_get hx8
        have eu:u=p.1:=by
          rw [← huses,List.getElem?_map,hpj] at hu
          exact (Option.some.inj hu).symm
        subst eu
        have hpu:p.1<i:=huse i ln hln p.1 (by rw [← huses]; exact List.mem_map.mpr ⟨p,List.mem_of_getElem? hpj,rfl⟩)
        have sQ:=Same.new (o:=.tup [V.int ((p.1:Nat):Int),V.ref d]) hTq
        have W9:=W8.keep sQ
        obtain ⟨pw1,pw2⟩:=hpsB p (List.mem_of_getElem? hpj)
        have hk:(lineL tp i).length+j≤2 ^ 12:=by have:=lineL_len hT2 i (by rw [htp.1]; omega); omega
        obtain ⟨k1,k2,k3⟩:=step _ _ p.1 i p.2 gd8 hk (by omega) hpu (by omega) pw1 pw2
        refine ⟨Tq,_,rfl,SqT.of upd_same,rfl,_,_,rfl,_,_,rfl,rfl,?_⟩
        refine ⟨_,rfl,a,dx,_,rfl,W9.ob,rfl,_,rfl,_,rfl,_,rfl,B7,a,dx,g,cc,d,gs,cs,_,_,_,_,0,0,p.1,i,p.2,rfl,W9,hdf2.keep W9.sm,by omega,by omega,by omega,hM,k1,k2,fun H10 W10 => ?_⟩
        refine ⟨_,_,_,_,_,rfl,?_,?_⟩
        · rw [rowL_succ hpj,← List.append_assoc]
          exact nxt W10
        · rw [rowL_succ hpj,← List.append_assoc]
          exact k3
      · rintro σ H8 ⟨v6',v7',v8',v9',v10',rfl,W8,gd8⟩
        rw [hul,List.take_length,← lineL_succ hps] at W8 gd8
        refine ⟨_,_,_,_,_,_,_,rfl,W8.down sB7,?_⟩
        have e:(lineL tp (i+1)).length=(lineL tp i).length+ps.length:=by
          rw [lineL_succ hps,List.length_append]
          congr 1
          exact List.length_map _
        rw [e]
        exact gd8
    · rintro σ H5 ⟨v4,v5,v6,v7,v8,v9,v10,rfl,W5,gd5⟩
      rw [hlas.trans htp.1.symm] at W5 gd5
      have hlL:=lineL_len hT2 tp.length (Nat.le_refl _)
      refine ⟨_,rfl,ol,_,rfl,SqL.of (W5.sm _ _ hol),for_enum (K:=K) (a:=ol) (xs:=natV outs) (fun k σ H' => ∃ v4 v5 v6 v7 v8 v9 v10:Option V,σ=[some (.ref a),some (.ref l),some (.ref t),some (.ref ol),v4,v5,v6,v7,v8,v9,v10] ∧
          WaysIs K C B H' a dx g cc gs cs c.length (c.length+outs.length) (puts noWay (lineL tp tp.length++outL c.length outs k)) (Ct noWay (lineL tp tp.length++outL c.length outs k)) 0 0∧GoodI c.length (c.length+outs.length) E Cc (lineL tp tp.length++outL c.length outs k).length (puts noWay (lineL tp tp.length++outL c.length outs k)))
        ⟨_,_,_,_,_,_,_,rfl,?_,?_⟩ (fun i σ H' _ ⟨_,_,_,_,_,_,_,_,W',_⟩=>SqL.of (W'.sm _ _ hol)) ?_ ?_⟩
      · show WaysIs K C B H5 a dx g cc gs cs _ _ (puts noWay (lineL tp tp.length++[])) (Ct noWay (lineL tp tp.length++[])) 0 0
        rw [List.append_nil]
        exact W5
      · show GoodI _ _ E Cc (lineL tp tp.length++[]).length (puts noWay (lineL tp tp.length++[]))
        rw [List.append_nil]
        exact gd5
      · rintro k x Tp σ H6 hx ⟨v4',v5',v6',v7',v8',v9',v10',rfl,W6,gd6⟩ hT
        obtain ⟨o,ho,rfl⟩:=natV_get hx
        have hkl:=(List.getElem?_eq_some_iff.mp ho).1
        have hoc:=hout o (List.mem_of_getElem? ho)
        have sT:=Same.new (o:=.tup [V.int ((k:Nat):Int),V.int ((o:Nat):Int)]) hT
        have W7:=W6.keep sT
        have hk:(lineL tp tp.length++outL c.length outs k).length≤2 ^ 12:=by
          have h1:=outL_len c.length outs k
          have h2:=htp.1
          rw [List.length_append]
          omega
        obtain ⟨k1,k2,k3⟩:=step _ _ o (c.length+k) Vagraa.one gd6 hk hoc (by omega) (by omega) one_wf (Bd.one E hCc)
        refine ⟨Tp,_,rfl,SqT.of upd_same,rfl,_,_,rfl,_,_,rfl,rfl,?_⟩
        refine ⟨_,rfl,a,dx,_,rfl,W7.ob,rfl,_,rfl,_,rfl,a,C,dx,_,_,rfl,W7.ob,WC.cl,WC.nF,rfl,_,rfl,_,_,rfl,rfl,B,a,dx,g,cc,a_ONE,gs,cs,_,_,_,_,0,0,o,c.length+k,Vagraa.one,rfl,W7,⟨i_ONE _,one_wf⟩,hoc,by omega,by omega,hM,k1,k2,fun H8 W8 => ?_⟩
        refine ⟨_,_,_,_,_,_,_,rfl,?_,?_⟩
        · rw [outL_succ ho,← List.append_assoc]
          exact nxt W8
        · rw [outL_succ ho,← List.append_assoc,List.length_append]
          exact k3
      · rintro σ H6 ⟨v4',v5',v6',v7',v8',v9',v10',rfl,W6,gd6⟩
        rw [natV_len] at W6 gd6
        exact qq _ _ _ _ _ W6 gd6
end
end Ts
end
section
set_option maxRecDepth 100000
set_option maxHeartbeats 4000000
namespace Ts
open PySem PySem.Spec PyProof.Rows L2
open Vagraa (Frac)
open VagraLine (Line at_)
open Vagraf (Worked takeOut takenOut greedyFrom price cheapest)
section
variable {K:PySem.W.Frag} {C:Addr} {B H H':Hp} {a dx g c:Addr} {gs cs:List Addr} {N M:Nat} {G G':GM} {Cm Cm':Nat→Nat→Bool} {p q:Nat}
theorem WaysIs.addB (W:WaysIs K C B H a dx g c gs cs N M G Cm p q) {r:Addr} {xs:List V} (hr:H r=some (.lst xs)) (h1:r≠g) (h2:r≠c):WaysIs K C (upd B r (.lst xs)) H a dx g c gs cs N M G Cm p q :=
  { W with
    ba:=by rw [upd_ne (ne_of W.ob hr (by intro z; cases z))]; exact W.ba
    bg:=by rw [upd_ne h1.symm]; exact W.bg
    bc:=by rw [upd_ne h2.symm]; exact W.bc
    bd:=fun d hd=>by
      have:∃ kvs,H d=some (.dK kvs):=by
        rcases List.mem_append.mp hd with z | z
        · exact W.isG z
        · exact W.isC z
      obtain ⟨kvs,h⟩:=this
      rw [upd_ne (ne_of h hr (by intro z; cases z))]
      exact W.bd d hd
    sm:=fun b o e=>by
      by_cases hb:b=r
      · subst hb
        rw [upd_same] at e
        rw [hr]
        exact e
      · rw [upd_ne hb] at e
        exact W.sm b o e }
theorem WaysIs.lst (W:WaysIs K C B H a dx g c gs cs N M G Cm p q) {r:Addr} {xs:List V} (ys:List V) (hr:H r=some (.lst xs)) (h1:r≠g) (h2:r≠c) (hB:B r=none):WaysIs K C B (upd H r (.lst ys)) a dx g c gs cs N M G Cm p q:=by
  have ts:TupS K H (upd H r (.lst ys)):=TupS.upd hr trivial
  exact { W with
    ob:=by rw [upd_ne (ne_of W.ob hr (by intro z; cases z))]; exact W.ob
    lg:=by rw [upd_ne h1.symm]; exact W.lg
    lc:=by rw [upd_ne h2.symm]; exact W.lc
    dg:=fun u d hd=>by
      obtain ⟨kvs,h⟩:=W.isG (List.mem_of_getElem? hd)
      exact (W.dg u d hd).mono (upd_ne (ne_of h hr (by intro z; cases z))) ts
    dc:=fun x d hd=>by
      obtain ⟨kvs,h⟩:=W.isC (List.mem_of_getElem? hd)
      exact (W.dc x d hd).mono (upd_ne (ne_of h hr (by intro z; cases z)))
    sm:=samePutB hB W.sm }
end
structure WorkIs (K:PySem.W.Frag) (C:Addr) (B H:Hp) (a dx g c:Addr) (gs cs:List Addr) (N M D B0 t:Nat) (w:Worked):Prop where
  W:WaysIs K C B H a dx g c gs cs N M (wget w.ways) (fun u x=>(wget w.ways u x).isSome) w.products w.sums
  nd:(w.ways.map (·.1)).Nodup
  gd:GoodW N M D (2 ^ t*B0) (wget w.ways)
section
variable {P:Program} {w:World} {K:PySem.W.Frag} {mg:Str→Option Value} {base:Heap} {C:Addr}
def spTakeW (K:PySem.W.Frag) (C:Addr):Sp:=fun vs H Q _ => ∃ (B:Hp) (a dx g c:Addr) (gs cs:List Addr) (N M D B0 fa fb t v:Nat) (wk:Worked),vs=[.ref a,.int (v:Int)]∧WorkIs K C B H a dx g c gs cs N M D B0 t wk∧v<N∧N≤M∧M≤2000∧Fit fa fb D B0∧fa*M+1+(t+fb)*M≤60000000 ∧
  ∀ H' gs' cs',WorkIs K C B H' a dx g c gs' cs' N M D B0 (t+1) (takeOut v wk)→Q .non H'
theorem take_to_W (c_take:CanM P w K mg base 47 C "take_out" ["self","number"] (spTakeOut K C)):CanM P w K mg base 47 C "take_out" ["self","number"] (spTakeW K C):=by
  obtain ⟨f,fd,F,b,m⟩:=c_take
  refine ⟨f,fd,F.imp fun vs H Q E h => ?_,b,m⟩
  obtain ⟨B,a,dx,g,c,gs,cs,N,M,D,B0,fa,fb,t,v,wk,rfl,⟨W,n,gd⟩,hv,hNM,hM,fit,hz,qq⟩:=h
  refine ⟨B,a,dx,g,c,gs,cs,N,M,wget wk.ways,wk.products,wk.sums,v,D,2 ^ t*B0,fa,t+fb,rfl,W,hv,hNM,hM,gd,fit.times (Nat.le_refl _),hz,fun H' gs' cs' S O hS hO W' => ?_⟩
  obtain ⟨e1,e2,e3,e4⟩:=takeOut_ok n hS hO
  refine qq H' gs' cs' ⟨?_,e4,?_⟩
  · rw [e1,e2,e3]
    exact W'
  · rw [e1]
    have:=gd.step hS hO
    rw [← Nat.mul_assoc,← Nat.pow_succ'] at this
    exact this
abbrev st_take_out_greedily:Stmt:=top 57
theorem sc_take_out_greedily:FnScope ["ways","waiting","rest","order","number"] ["ways","waiting"] (defScope st_take_out_greedily):=⟨rfl,rfl,rfl,by decide +kernel,rfl,by decide +kernel,by decide +kernel⟩
def spGreedy (K:PySem.W.Frag) (C:Addr):Sp:=fun vs H Q _ => ∃ (B:Hp) (a dx g c wl:Addr) (gs cs:List Addr) (N M D B0 fa fb:Nat) (w0:Worked) (l0:List Nat),vs=[.ref a,.ref wl]∧WorkIs K C B H a dx g c gs cs N M D B0 0 w0∧B wl=some (.lst (natV l0))∧l0.Nodup∧(∀ v∈l0,v<N)∧N≤M∧M≤2000∧Fit fa fb D B0∧fa*M+1+(l0.length+fb)*M≤60000000 ∧
  ∀ H' gs' cs' p,WorkIs K C B H' a dx g c gs' cs' N M D B0 l0.length (takenOut (greedyFrom l0.length l0 w0) w0)→H' p=some (.lst (natV (greedyFrom l0.length l0 w0)))→Q (.ref p) H'
theorem can_take_out_greedily (T:Txt K mg) (WC:WCls K C) (S:Src K mg "take_out_greedily" st_take_out_greedily ["ways","waiting"]) (c_prod:CanM P w K mg base 41 C "products_for" ["self","number"] (spProdFor K C)) (hbd:∀ f,Meth K C "products_for" f→Bnd K C "products_for" f)
    (c_Ways_take_out:CanM P w K mg base 47 C "take_out" ["self","number"] (spTakeW K C)):Can P w K mg base 49 "take_out_greedily" ["ways","waiting"] (spGreedy K C):=by
  have cl_Ways:=WC.cl
  obtain ⟨f_p,fd_p,F_Ways_products_for,b_Ways_products_for,m_p⟩:=c_prod
  have bd_Ways_products_for:=hbd _ m_p
  refine S.can sc_take_out_greedily (fun vs H Q E h => ?_) (fun f cdv A outer s H vs Q E hr h => ?_)
  · obtain ⟨B,a,dx,g,c,wl,gs,cs,N,M,D,B0,fa,fb,w0,l0,rfl,_⟩:=h
    rfl
  · obtain ⟨B,a,dx,g,c,wl,gs,cs,N,M,D,B0,fa,fb,w0,l0,rfl,Wk,hwl,hnd,hlN,hNM,hM,fit,hz,qq⟩:=h
    refine ⟨_,(pss_cons (ps_set (i:=2) sc_take_out_greedily.nd rfl (Or.inl rfl) (pe_callTy call_list_of rfl T.n_list boot_list (pa_cons (pv 1) pa_nil)))
      (pss_cons (ps_set (i:=3) sc_take_out_greedily.nd rfl (Or.inl rfl) (pe_lst pa_nil))
      (pss_cons (ps_while PassesOwn.never (pt_cmpR op_gt (pe_callB call_len_seq rfl T.n_len PySem.boot_len (pa_cons (pv 2) pa_nil)) pe_int (nomark _)) (pss_cons (ps_set (i:=4) sc_take_out_greedily.nd rfl (Or.inl rfl) (pe_minK F_Ways_products_for b_Ways_products_for (hr.mono (by decide)) rfl rfl T.n_min (pa_cons (pv 2) pa_nil) (pk_cons (pe_bound (pv 0) cl_Ways bd_Ways_products_for) pk_nil)))
      (pss_cons (ps_expr (pe_bm PySem.F.plainAttrs_list PySem.F.slot_list_remove PySem.F.type_list_remove mt_remove (pv 2) (pa_cons (pv 4) pa_nil)))
      (pss_cons (ps_expr (pe_bm PySem.F.plainAttrs_list PySem.F.slot_list_append PySem.F.type_list_append mt_append (pv 3) (pa_cons (pv 4) pa_nil)))
      (pss_one (ps_expr (pe_canM c_Ways_take_out cl_Ways (hr.mono (by decide)) (pv 0) (pa_cons (pv 4) pa_nil))))))))
      (pss_one (ps_ret (pv 3)))))),?_⟩
    refine ⟨_,rfl,wl,_,rfl,.inl (SqL.of (Wk.W.sm _ _ hwl)),fun rl hrl => ?_⟩
    have s1:=Same.new (o:=.lst (natV l0)) hrl
    refine ⟨Nat.zero_le _,fun ol hol => ?_⟩
    have s2:=Same.new (o:=.lst []) hol
    have hrg:rl≠g:=fun e=>by rw [e,Wk.W.lg] at hrl; cases hrl
    have hrc:rl≠c:=fun e=>by rw [e,Wk.W.lc] at hrl; cases hrl
    have hog:ol≠g:=fun e=>by rw [e,s1 _ _ Wk.W.lg] at hol; cases hol
    have hoc:ol≠c:=fun e=>by rw [e,s1 _ _ Wk.W.lc] at hol; cases hol
    have hro:rl≠ol:=fun e=>by rw [← e,upd_same] at hol; cases hol
    have hl0N:l0.length≤N:=by
      have hs:l0 ⊆ List.range N:=fun z hz=>List.mem_range.mpr (hlN z hz)
      have:=hnd.length_le_of_subset hs
      simpa using this
    have bR:B rl=none:=Wk.W.sm.free hrl
    have bO:B ol=none:=Wk.W.sm.free (s1.free hol)
    refine while_by (fun σ H' => ∃ (vN:Option V) (l dn:List Nat) (w':Worked) (gs' cs':List Addr),σ=[some (.ref a),some (.ref wl),some (.ref rl),some (.ref ol),vN]∧WorkIs K C B H' a dx g c gs' cs' N M D B0 dn.length w'∧H' rl=some (.lst (natV l))∧H' ol=some (.lst (natV dn))∧l.Nodup∧(∀ v∈l,v<N)∧dn.length+l.length=l0.length∧w'=takenOut dn w0∧greedyFrom l0.length l0 w0=dn++greedyFrom l.length l w')
      (fun _ H'=>match H' rl with | some (.lst xs)=>xs.length | _=>0) ⟨none,l0,[],w0,gs,cs,rfl,⟨(Wk.W.keep s1).keep s2,Wk.nd,Wk.gd⟩,s2 _ _ upd_same,upd_same,hnd,hlN,by simp,rfl,rfl⟩ ?_
      (fun σ H Q Q' hQ ⟨v,e1,b,ys,e3,e4,i,j,e5,e6,k,e7,q⟩=>⟨v,e1,b,ys,e3,e4,i,j,e5,e6,k,e7,hQ _ _ q⟩)
    rintro σ H1 ⟨vN,l,dn,w',gs',cs',rfl,Wk1,hR,hO,hln,hlN1,hlen,hw',hgr⟩
    refine ⟨_,rfl,rl,_,rfl,.inl (SqL.of hR),_,_,rfl,rfl,_,rfl,?_⟩
    rw [natV_len]
    by_cases hl:0<l.length
    case neg=>
      refine iteBF (decide_eq_false (by show ¬ ((0:Int)<(l.length:Int)); omega)) ?_
      have e0:l=[]:=List.length_eq_zero_iff.mp (by omega)
      subst e0
      refine ⟨_,rfl,?_⟩
      rw [show greedyFrom ([]:List Nat).length [] w'=[] from rfl,List.append_nil] at hgr
      rw [← hgr] at hO hw'
      have e1:dn.length=l0.length:=by simpa using hlen
      rw [e1,hw'] at Wk1
      exact qq H1 gs' cs' ol Wk1 hO
    refine iteBT (decide_eq_true (by show (0:Int)<(l.length:Int); omega)) ?_
    refine ⟨_,rfl,_,rfl,a,dx,_,rfl,Wk1.W.ob,rfl,fun mq hmq => ?_⟩
    have s3:=Same.new (o:=.met f_p a) hmq
    have W3:=Wk1.W.keep s3
    have hR3:=s3 _ _ hR
    have hO3:=s3 _ _ hO
    have eN:natV l=(l.map Int.ofNat).map V.int:=natV_int l
    refine ⟨rl,mq,a,l.map Int.ofNat,fun i=>((price w'.ways (l.getD i 0):Nat):Int),rfl,rfl,by rw [hR3,eN],upd_same,by rw [List.length_map]; exact hl,(fun i z hz' => ?_),fun i z hz' hbest => ?_⟩
    · rw [List.getElem?_map] at hz'
      cases e:l[i]? with
      | none=>rw [e] at hz'; cases hz'
      | some v=>
        rw [e] at hz'
        cases hz'
        have hv:=hlN1 v (List.mem_of_getElem? e)
        have a1:=spec_src Wk1.nd v
        have a2:=spec_dst Wk1.nd v
        refine ⟨B,a,dx,g,c,gs',cs',N,M,_,_,_,_,v,_,_,rfl,W3,hv,hNM,hM,fun _=>rfl,a1,a2,?_,rfl⟩
        show V.int _=V.int ((price w'.ways (l.getD i 0):Nat):Int)
        rw [← price_ok Wk1.nd a1 a2,List.getD_eq_getElem?_getD,e]
        rfl
    rw [List.getElem?_map] at hz'
    cases e:l[i]? with
    | none=>rw [e] at hz'; cases hz'
    | some v=>
      rw [e] at hz'
      cases hz'
      have hvl:=List.mem_of_getElem? e
      have hv:=hlN1 v hvl
      have hch:cheapest w'.ways l=some v:=by
        refine cheapest_ok e fun j u hu => ?_
        have hjl:=(List.getElem?_eq_some_iff.mp hu).1
        have hb:=hbest.2 j (by rw [List.length_map]; omega)
        have g1:l.getD i 0=v:=by rw [List.getD_eq_getElem?_getD,e]; rfl
        have g2:l.getD j 0=u:=by rw [List.getD_eq_getElem?_getD,hu]; rfl
        simp only [g1,g2] at hb
        exact ⟨by omega,fun h=>by have:=hb.2 h; omega⟩
      have hgs:=greedy_step hln hch hvl
      have hers:=erase_ix hln e
      refine ⟨_,rfl,.inl ⟨rfl,_,SqL.of hR3⟩,_,rfl,rl,l.map Int.ofNat,Int.ofNat v,i,rfl,rfl,by rw [hR3,eN],by rw [List.getElem?_map,e]; rfl,(fun m y hm hy hyz => ?_),?_⟩
      · rw [List.getElem?_map] at hy
        cases e2:l[m]? with
        | none=>rw [e2] at hy; cases hy
        | some u=>
          rw [e2] at hy
          have h1:Int.ofNat u=y:=Option.some.inj hy
          have h2:u=v:=by
            rw [← h1] at hyz
            exact Int.ofNat.inj hyz
          subst h2
          have:=nd_ix hln e2 e
          omega
      have eN2:((l.map Int.ofNat).eraseIdx i).map V.int=natV (l.erase v):=by
        rw [← hers,natV_int,map_erase Int.ofNat]
      rw [eN2]
      have W4:=W3.lst (natV (l.erase v)) hR3 hrg hrc bR
      have hO4:(upd (upd H1 mq (.met f_p a)) rl (.lst (natV (l.erase v)))) ol=some (.lst (natV dn)):=by rw [upd_ne hro.symm]; exact hO3
      have hR4:(upd (upd H1 mq (.met f_p a)) rl (.lst (natV (l.erase v)))) rl=some (.lst (natV (l.erase v))):=upd_same
      generalize upd (upd H1 mq (.met f_p a)) rl (.lst (natV (l.erase v)))=H4 at *
      refine ⟨_,rfl,.inl ⟨rfl,_,SqL.of hO4⟩,_,rfl,ol,_,_,rfl,rfl,hO4,by rw [natV_len]; exact line_lt (by omega),?_⟩
      have eO:natV dn++[V.int (Int.ofNat v)]=natV (dn++[v]):=by unfold natV; rw [List.map_append]; rfl
      rw [eO]
      have W5:=W4.lst (natV (dn++[v])) hO4 hog hoc bO
      have hR5:(upd H4 ol (.lst (natV (dn++[v])))) rl=some (.lst (natV (l.erase v))):=by rw [upd_ne hro]; exact hR4
      have hO5:(upd H4 ol (.lst (natV (dn++[v])))) ol=some (.lst (natV (dn++[v]))):=upd_same
      generalize upd H4 ol (.lst (natV (dn++[v])))=H5 at *
      have W6:=(W5.addB hR5 hrg hrc).addB hO5 hog hoc
      have sB:Same B (upd (upd B rl (.lst (natV (l.erase v)))) ol (.lst (natV (dn++[v])))):=(Same.new bR).trans (Same.new (by rw [upd_ne hro.symm]; exact bO))
      have hz2:fa*M+1+(dn.length+fb)*M≤60000000:=by
        have:(dn.length+fb)*M≤(l0.length+fb)*M:=Nat.mul_le_mul_right _ (by omega)
        omega
      refine ⟨_,rfl,a,dx,_,rfl,W6.ob,rfl,_,rfl,_,a,dx,g,c,gs',cs',N,M,D,B0,fa,fb,dn.length,v,w',rfl,⟨W6,Wk1.nd,Wk1.gd⟩,hv,hNM,hM,fit,hz2,fun H7 gs2 cs2 Wk7 => ?_⟩
      have hR7:H7 rl=some (.lst (natV (l.erase v))):=Wk7.W.sm _ _ (by rw [upd_ne hro,upd_same])
      have hO7:H7 ol=some (.lst (natV (dn++[v]))):=Wk7.W.sm _ _ upd_same
      have hel:=List.length_erase_of_mem hvl
      refine ⟨⟨_,l.erase v,dn++[v],takeOut v w',gs2,cs2,rfl,⟨Wk7.W.down sB,Wk7.nd,?_⟩,hR7,hO7,List.Nodup.erase v hln,(fun u hu=>hlN1 u (List.mem_of_mem_erase hu)),?_,?_,?_⟩,?_⟩
      · rw [List.length_append]
        exact Wk7.gd
      · rw [List.length_append,hel]
        show dn.length+1+_=_
        omega
      · rw [taken_snoc,← hw']
      · rw [hgr,hgs,List.append_assoc]
        rfl
      · show (match H7 rl with | some (.lst xs)=>xs.length | _=>0)<(match H1 rl with | some (.lst xs)=>xs.length | _=>0)
        rw [hR7,hR]
        show (natV (l.erase v)).length<(natV l).length
        rw [natV_len,natV_len,hel]
        omega
end
end Ts
end
section
set_option maxRecDepth 100000
set_option maxHeartbeats 4000000
namespace Ts
open PySem PySem.Spec PyProof.Rows L2
open Vagraa (Frac)
open VagraLine (Line at_ fracsTold)
open Vagraf (State seeds)
theorem fracs_snoc (l:List Frac) (f:Frac):fracsTold (l++[f])=fracsTold l++[f.num,(f.den:Int)]:=by
  unfold VagraLine.fracsTold
  rw [List.flatMap_append,List.flatMap_singleton]
theorem fracs_len (l:List Frac):(fracsTold l).length=2*l.length:=by
  induction l with
  | nil=>rfl
  | cons a l ih=>
    show ([a.num,(a.den:Int)]++fracsTold l).length=_
    rw [List.length_append,ih,List.length_cons]
    show 2+2*l.length=2*(l.length+1)
    omega
section
variable {P:Program} {w:World} {K:PySem.W.Frag} {mg:Str→Option Value} {base:Heap}
abbrev st_tell:Stmt:=top 62
theorem sc_tell:FnScope ["head","fractions","answer","fraction"] ["head","fractions"] (defScope st_tell):=⟨rfl,rfl,rfl,by decide +kernel,rfl,by decide +kernel,by decide +kernel⟩
def spTell (K:PySem.W.Frag):Sp:=fun vs H Q _ => ∃ (hl fl:Addr) (hd:List Int) (fs:List Frac),vs=[.ref hl,.ref fl]∧SqL K H hl (hd.map V.int)∧IsFs K H fl fs∧hd.length≤2000∧fs.length≤2000∧∀ H' p,Same H H'→H p=none→H' p=some (.lst ((ansR (Vagraf.tell hd fs)).map V.int))→Q (.ref p) H'
theorem can_tell (T:Txt K mg) (S:Src K mg "tell" st_tell ["head","fractions"]) (c_weight:Can P w K mg base 43 "weight" ["fraction"] (spWeight K)):Can P w K mg base 45 "tell" ["head","fractions"] (spTell K):=by
  refine S.can sc_tell (fun vs H Q E h => ?_) (fun f cdv A outer s H vs Q E hr h => ?_)
  · obtain ⟨hl,fl,hd,fs,rfl,_⟩:=h
    rfl
  · obtain ⟨hl,fl,hd,fs,rfl,hh,⟨as,hf,hp⟩,hl1,hl2,q⟩:=h
    refine ⟨_,(pss_cons (ps_set (i:=2) sc_tell.nd rfl (Or.inl rfl) (pe_callTy call_list_of rfl T.n_list boot_list (pa_cons (pv 0) pa_nil)))
      (pss_cons (ps_for PassesOwn.never rfl (pi_list (pv 1)) (pg_name (i:=3) sc_tell.nd rfl (Or.inl rfl)) (pss_cons (ps_if (pt_cmpR op_gt (pe_can c_weight (hr.mono (by decide)) (pa_cons (pv 3) pa_nil)) (pe_gc T.c_MOST_TOLD_WEIGHT) (nomark _)) (pss_one (ps_ret (pe_lst (pa_cons (pe_gc T.c_TOO_HEAVY) pa_nil)))) pss_nil)
      (pss_one (ps_expr (pe_bm PySem.F.plainAttrs_list PySem.F.slot_list_extend PySem.F.type_list_extend mt_extendT (pv 2) (pa_cons (pv 3) pa_nil))))))
      (pss_one (ps_ret (pv 2))))),?_⟩
    have hla:=Paired.length hp
    refine ⟨_,rfl,hl,_,rfl,.inl hh,fun al hal => ?_⟩
    have s0:=Same.new (o:=.lst (hd.map V.int)) hal
    refine ⟨_,rfl,fl,rfl,⟨_,SqL.of (s0 _ _ hf)⟩,for_list (K:=K) (a:=fl) (xs:=as.map V.ref) (fun i σ H' => ∃ v:Option V,σ=[some (.ref hl),some (.ref fl),some (.ref al),v]∧Same H H'∧H' al=some (.lst ((hd++fracsTold (fs.take i)).map V.int))∧((fs.take i).any fun a=>decide (800<Vagraa.weight a))=false)
      ⟨none,rfl,s0,by rw [upd_same,List.take_zero]; show _=some (HO.lst ((hd++[]).map V.int)); rw [List.append_nil],rfl⟩ (fun i σ H' _ ⟨_,_,s1,_⟩=>SqL.of (s1 _ _ hf)) ?_ ?_⟩
    · rintro i x σ H1 hx ⟨v,rfl,s1,hA,hany⟩
      obtain ⟨a,ha,rfl⟩:=ofmap hx
      obtain ⟨g,hg,hG⟩:=pgetL hp ha
      have hG1:=hG.keep s1
      have hi:=(List.getElem?_eq_some_iff.mp hg).1
      refine ⟨_,rfl,a,g,rfl,hG1,_,_,rfl,rfl,_,rfl,?_⟩
      by_cases hw:800<Vagraa.weight g
      · refine iteBT (decide_eq_true (by show (800:Int)<((Vagraa.weight g:Nat):Int); omega)) ?_
        refine ⟨(by show 1≤sizeLine; decide),fun p hp0 => ?_⟩
        refine q _ p (s1.trans (Same.new hp0)) (s1.free hp0) ?_
        rw [upd_same]
        have e:(fs.any fun a=>decide (Vagraf.LONG<Vagraa.weight a))=true:=List.any_eq_true.mpr ⟨g,List.mem_of_getElem? hg,decide_eq_true hw⟩
        unfold Vagraf.tell
        rw [if_pos e]
        rfl
      · refine iteBF (decide_eq_false (by show ¬ ((800:Int)<((Vagraa.weight g:Nat):Int)); omega)) ?_
        refine ⟨_,rfl,.inl ⟨rfl,_,SqL.of hA⟩,_,rfl,al,a,_,_,rfl,rfl,hA,hG1.at_,?_,?_⟩
        · rw [List.length_map,List.length_append,fracs_len,List.length_take]
          show _+2≤sizeLine
          exact line_le (by omega)
        refine ⟨_,rfl,samePut hal s1,?_,?_⟩
        · rw [upd_same,take_snoc hg,fracs_snoc,← List.append_assoc,List.map_append (l₁:=hd++fracsTold (fs.take i))]
          rfl
        · rw [take_snoc hg,List.any_append,hany]
          simp
          omega
    · rintro σ H1 ⟨v,rfl,s1,hA,hany⟩
      rw [List.length_map,hla,List.take_length] at hA hany
      refine ⟨_,rfl,?_⟩
      refine q _ al s1 hal ?_
      unfold Vagraf.tell
      rw [if_neg (by show ¬ (fs.any fun a=>decide (800<Vagraa.weight a))=true; rw [hany]; decide)]
      exact hA
end
def bfs (n:Nat) (l:Addr) (hp:Bool) (k:Int) (r t:Addr):List (Str×V):=[("inputs",.int (n:Int)),("lines",.ref l),("has_point",.bl hp),("fault",.int k),("results",.ref r),("tape",.ref t)]
structure Held (K:PySem.W.Frag) (xs:List Addr) (H:Hp) (s:State) (l r t:Addr) (hp:Bool) (k:Int):Prop where
  ln:IsLns K H l s.code
  lx:l ∉ xs
  hn:s.inputs≤12
  hc:s.code.length≤80
  wl:VagraLine.well s.inputs s.code=true
  pt:hp=s.point.isSome
  run:∀ p,s.point=some p→∃ fs,r ∉ xs∧IsFs K H r fs∧RunIs p s.code k fs∧(k=0→t ∉ xs∧∃ as:List Addr,H t=some (.lst (as.map V.ref))∧Paired (IsFs K H) as (tapeD s.code fs)∧∀ y∈as,y ∉ xs)
def BenchIs (K:PySem.W.Frag) (C:Addr) (xs:List Addr) (H:Hp) (a dx:Addr) (s:State):Prop:=∃ (l r t:Addr) (hp:Bool) (k:Int),H a=some (.ins C dx (bfs s.inputs l hp k r t))∧a ∉ xs∧Held K xs H s l r t hp k
structure BCls (K:PySem.W.Frag) (C:Addr):Prop where
  cl:Cls K C
  nI:NoAttr K C "inputs"
  nL:NoAttr K C "lines"
  nH:NoAttr K C "has_point"
  nF:NoAttr K C "fault"
  nR:NoAttr K C "results"
  nT:NoAttr K C "tape"
section
variable {K:PySem.W.Frag} {C:Addr} {xs:List Addr} {H H':Hp} {a dx l r t:Addr} {s:State} {hp:Bool} {k:Int}
theorem Held.keep (h:Held K xs H s l r t hp k) (e:Same H H'):Held K xs H' s l r t hp k :=
  { h with
    ln:=h.ln.keep e
    run:=fun p hp'=>by
      obtain ⟨fs,h1,h2,h3,h4⟩:=h.run p hp'
      refine ⟨fs,h1,h2.keep e,h3,fun hk => ?_⟩
      obtain ⟨g1,as,g2,g3,g4⟩:=h4 hk
      exact ⟨g1,as,e _ _ g2,keepFs g3 e,g4⟩ }
theorem BenchIs.keep (h:BenchIs K C xs H a dx s) (e:Same H H'):BenchIs K C xs H' a dx s:=by
  obtain ⟨l,r,t,hp,k,h1,h2,h3⟩:=h
  exact ⟨l,r,t,hp,k,e _ _ h1,h2,h3.keep e⟩
theorem fs_upd {x y:Addr} {o o':HO} {fs:List Frac} (hx:H x=some o) (hn:NoTup o) (h:IsFs K H y fs) (hy:y≠x):IsFs K (upd H x o') y fs:=by
  obtain ⟨as,h1,h2⟩:=h
  exact ⟨as,by rw [upd_ne hy]; exact h1,Paired.mapP h2 fun _ _ q=>TupS.upd hx hn _ _ q⟩
theorem ln_upd {x y:Addr} {o o':HO} {c:List Line} (hx:H x=some o) (hn:NoTup o) (h:IsLns K H y c) (hy:y≠x):IsLns K (upd H x o') y c:=by
  obtain ⟨as,h1,h2⟩:=h
  refine ⟨as,by rw [upd_ne hy]; exact h1,Paired.mapP h2 fun b l q => ?_⟩
  obtain ⟨ns,q1,q2⟩:=q
  refine ⟨ns,?_,q2⟩
  rcases q1 with (q | ⟨ob,q⟩) | q
  · exact .inl (.inl (by rw [upd_ne (ne_of q hx (by intro z; subst z; exact hn))]; exact q))
  · exact .inl (.inr ⟨ob,by rw [upd_ne (ne_of q hx (by intro z; subst z; exact hn))]; exact q⟩)
  · exact .inr q
theorem Held.put {x:Addr} {o o':HO} (h:Held K xs H s l r t hp k) (hx:H x=some o) (hn:NoTup o) (hm:x∈xs):Held K xs (upd H x o') s l r t hp k:=by
  have ne:∀ y,y ∉ xs→y≠x:=fun y hy e=>hy (e▸hm)
  exact { h with
    ln:=ln_upd hx hn h.ln (ne _ h.lx)
    run:=fun p hp'=>by
      obtain ⟨fs,h1,h2,h3,h4⟩:=h.run p hp'
      refine ⟨fs,h1,fs_upd hx hn h2 (ne _ h1),h3,fun hk => ?_⟩
      obtain ⟨g1,as,g2,g3,g4⟩:=h4 hk
      refine ⟨g1,as,by rw [upd_ne (ne _ g1)]; exact g2,?_,g4⟩
      refine paired_pt (Paired.length g3) fun i y fs' hy hfs => ?_
      obtain ⟨fs2,q1,q2⟩:=pgetL g3 hy
      rw [hfs] at q1
      cases q1
      exact fs_upd hx hn q2 (ne _ (g4 y (List.mem_of_getElem? hy))) }
theorem BenchIs.put {x:Addr} {o o':HO} (h:BenchIs K C xs H a dx s) (hx:H x=some o) (hn:NoTup o) (hm:x∈xs):BenchIs K C xs (upd H x o') a dx s:=by
  obtain ⟨l,r,t,hp,k,h1,h2,h3⟩:=h
  have hax:a≠x:=fun e=>h2 (by rw [e]; exact hm)
  exact ⟨l,r,t,hp,k,by rw [upd_ne hax]; exact h1,h2,h3.put hx hn hm⟩
theorem Held.cases (h:Held K xs H s l r t hp k):(hp=false∧s.vals = .error (-4))∨(hp=true∧k≠0∧s.vals = .error (-5))∨(hp=true∧k=0∧∃ p vs,s.point=some p∧VagraLine.run (some 200) p s.code = .ok vs∧s.vals = .ok vs∧IsFs K H r vs∧IsTp K H t (tapeD s.code vs)):=by
  cases hpt:s.point with
  | none=>exact .inl ⟨by rw [h.pt,hpt]; rfl,vals_none hpt⟩
  | some p=>
    obtain ⟨fs,h1,h2,h3,h4⟩:=h.run p hpt
    have hb:hp=true:=by rw [h.pt,hpt]; rfl
    unfold RunIs at h3
    cases e:VagraLine.run (some 200) p s.code with
    | error x=>
      rw [e] at h3
      exact .inr (.inl ⟨hb,h3.2.2,vals_fault hpt e⟩)
    | ok vs=>
      rw [e] at h3
      obtain ⟨rfl,rfl⟩:=h3
      obtain ⟨_,as,g2,g3,_⟩:=h4 rfl
      exact .inr (.inr ⟨hb,rfl,p,fs,rfl,e,vals_ok hpt e,h2,as,g2,g3⟩)
structure Ready (K:PySem.W.Frag) (C:Addr) (H:Hp) (a dx l r t:Addr) (s:State) (vs:List Frac) (k:Int):Prop where
  ob:H a=some (.ins C dx (bfs s.inputs l true k r t))
  ln:IsLns K H l s.code
  rs:IsFs K H r vs
  tp:IsTp K H t (tpD (Vagraf.tape s.code vs))
  hn:s.inputs≤12
  hc:s.code.length≤80
  wl:VagraLine.well s.inputs s.code=true
  lv:vs.length=s.code.length
  lt:∀ f∈vs,Lt200 f
  va:s.vals = .ok vs
theorem Ready.keep {vs:List Frac} (h:Ready K C H a dx l r t s vs k) (e:Same H H'):Ready K C H' a dx l r t s vs k :=
  { h with ob:=e _ _ h.ob,ln:=h.ln.keep e,rs:=h.rs.keep e,tp:=h.tp.keep e }
theorem isFs_wf {y:Addr} {fs:List Frac} (h:IsFs K H y fs):∀ f∈fs,WF f:=fun f hf=>by
  obtain ⟨as,_,hp⟩:=h
  obtain ⟨b,_,hb⟩:=paired_memR hp hf
  exact hb.wf
theorem Held.ready (h:Held K xs H s l r t hp k) (ob:H a=some (.ins C dx (bfs s.inputs l hp k r t))) {vs:List Frac} (hv:s.vals = .ok vs):Ready K C H a dx l r t s vs k:=by
  rcases h.cases with ⟨_,e⟩ | ⟨_,_,e⟩ | ⟨e1,e2,p,us,e3,e4,e5,e6,e7⟩
  · rw [hv] at e; cases e
  · rw [hv] at e; cases e
  · rw [hv] at e5
    cases e5
    obtain ⟨g1,g2,_,_⟩:=run_ok s.code [] vs e4 (fun f hf=>by cases hf)
    rw [e1] at ob
    rw [tapeD_eq] at e7
    exact ⟨ob,h.ln,e6,e7,h.hn,h.hc,h.wl,by simpa using g2,fun f hf=>⟨isFs_wf e6 f hf,g1 f hf⟩,hv⟩
theorem Ready.tis {vs:List Frac} (h:Ready K C H a dx l r t s vs k):TapeIs s.code (Vagraf.tape s.code vs):=tape_is h.lv
theorem Ready.use {vs:List Frac} (h:Ready K C H a dx l r t s vs k):∀ (i:Nat) ln,s.code[i]? = some ln→∀ u∈ln.uses,u<i:=fun i ln hln=>(well_at h.wl hln).1
theorem Ready.use' {vs:List Frac} (h:Ready K C H a dx l r t s vs k):∀ x∈s.code,∀ u∈x.uses,u<s.code.length:=fun x hx u hu=>by
  obtain ⟨i,hi⟩:=List.getElem?_of_mem hx
  have h1:=h.use i x hi u hu
  have h2:=(List.getElem?_eq_some_iff.mp hi).1
  omega
theorem Ready.ins {vs:List Frac} (h:Ready K C H a dx l r t s vs k):∀ x∈s.code,inOk s.inputs x=true:=fun x hx=>by
  obtain ⟨i,hi⟩:=List.getElem?_of_mem hx
  exact (well_at h.wl hi).2
end
section
variable {P:Program} {w:World} {K:PySem.W.Frag} {mg:Str→Option Value} {base:Heap} {C:Addr}
abbrev st_Bench_is_line:Stmt:=inClass (top 63) 1
theorem sc_Bench_is_line:FnScope ["self","number"] ["self","number"] (defScope st_Bench_is_line):=⟨rfl,rfl,rfl,by decide +kernel,rfl,by decide +kernel,by decide +kernel⟩
def spIsLine (K:PySem.W.Frag) (C:Addr):Sp:=fun vs H Q _ => ∃ (xs:List Addr) (a dx:Addr) (s:State) (i:Int),vs=[.ref a,.int i]∧BenchIs K C xs H a dx s∧Q (.bl (decide (0≤i∧i<(s.code.length:Int)))) H
theorem can_Bench_is_line (T:Txt K mg) (BC:BCls K C) (S:MSrc K C "is_line" "Bench.is_line" st_Bench_is_line ["self","number"]):CanM P w K mg base 43 C "is_line" ["self","number"] (spIsLine K C):=by
  refine S.can sc_Bench_is_line (fun vs H Q E h => ?_) (fun f cdv A outer s H vs Q E hr h => ?_)
  · obtain ⟨xs,a,dx,s,i,rfl,_⟩:=h
    rfl
  · obtain ⟨xs,a,dx,s,i,rfl,⟨l,r,t,hp,k,ob,_,hd⟩,q⟩:=h
    refine ⟨_,(pss_one (ps_ret (pe_and (pe_cmpR op_le pe_int (pv 1) (nomark _)) (pe_one (pe_cmpR op_lt (pv 1) (pe_callB call_len_seq rfl T.n_len PySem.boot_len (pa_cons (pe_fld (pv 0) rfl) pa_nil)) (nomark _)))))),?_⟩
    obtain ⟨as,hl,hpp⟩:=hd.ln
    have hla:=Paired.length hpp
    refine ⟨_,rfl,_,_,rfl,rfl,_,rfl,?_⟩
    by_cases h0:0≤i
    · refine iteBT (decide_eq_true h0) ?_
      refine ⟨_,rfl,_,rfl,a,C,dx,_,_,rfl,ob,BC.cl,BC.nL,rfl,l,_,rfl,.inl (SqL.of hl),_,_,rfl,rfl,?_⟩
      rw [List.length_map,hla]
      have e:decide (0≤i∧i<(s.code.length:Int))=decide (i<(s.code.length:Int)):=by simp [h0]
      rw [e] at q
      exact q
    · refine iteBF (decide_eq_false h0) ?_
      have e:decide (0≤i∧i<(s.code.length:Int))=false:=by simp [h0]
      rw [e] at q
      exact q
def refV:Vagraf.R (List Frac)→V
  | .ok _ => .non
  | .error n => .int n
abbrev st_Bench_run_refusal:Stmt:=inClass (top 63) 2
theorem sc_Bench_run_refusal:FnScope ["self"] ["self"] (defScope st_Bench_run_refusal):=⟨rfl,rfl,rfl,by decide +kernel,rfl,by decide +kernel,by decide +kernel⟩
def spRunRef (K:PySem.W.Frag) (C:Addr):Sp:=fun vs H Q _ => ∃ (xs:List Addr) (a dx:Addr) (s:State),vs=[.ref a]∧BenchIs K C xs H a dx s∧Q (refV s.vals) H
theorem can_Bench_run_refusal (T:Txt K mg) (BC:BCls K C) (S:MSrc K C "run_refusal" "Bench.run_refusal" st_Bench_run_refusal ["self"]):CanM P w K mg base 41 C "run_refusal" ["self"] (spRunRef K C):=by
  refine S.can sc_Bench_run_refusal (fun vs H Q E h => ?_) (fun f cdv A outer s H vs Q E hr h => ?_)
  · obtain ⟨xs,a,dx,s,rfl,_⟩:=h
    rfl
  · obtain ⟨xs,a,dx,s,rfl,⟨l,r,t,hp,k,ob,_,hd⟩,q⟩:=h
    refine ⟨_,(pss_cons (ps_if (pt_not (pt_val (pe_fld (pv 0) rfl))) (pss_one (ps_ret (pe_gc T.c_NO_POINT))) pss_nil)
      (pss_cons (ps_if (pt_cmpR op_ne (pe_fld (pv 0) rfl) (pe_gc T.c_NO_FAULT) (nomark _)) (pss_one (ps_ret (pe_gc T.c_FAULTY_RUN))) pss_nil)
      (pss_one (ps_ret pe_non)))),?_⟩
    refine ⟨_,rfl,a,C,dx,_,_,rfl,ob,BC.cl,BC.nH,rfl,hp,rfl,?_⟩
    rcases hd.cases with ⟨e1,e2⟩ | ⟨e1,e2,e3⟩ | ⟨e1,e2,p,vs,_,_,e3,_⟩
    · rw [e2] at q
      refine iteBT (by rw [e1]; rfl) ?_
      exact q
    · rw [e3] at q
      refine iteBF (by rw [e1]; rfl) ?_
      refine ⟨_,rfl,a,C,dx,_,_,rfl,ob,BC.cl,BC.nF,rfl,rfl,_,rfl,?_⟩
      refine iteBT (by simp [e2]) ?_
      exact q
    · rw [e3] at q
      refine iteBF (by rw [e1]; rfl) ?_
      refine ⟨_,rfl,a,C,dx,_,_,rfl,ob,BC.cl,BC.nF,rfl,rfl,_,rfl,?_⟩
      refine iteBF (by simp [e2]) ?_
      exact q
abbrev st_Bench_read_refusal:Stmt:=inClass (top 63) 3
theorem sc_Bench_read_refusal:FnScope ["self","read"] ["self","read"] (defScope st_Bench_read_refusal):=⟨rfl,rfl,rfl,by decide +kernel,rfl,by decide +kernel,by decide +kernel⟩
def spReadRef (K:PySem.W.Frag) (C:Addr):Sp:=fun vs H Q _ => ∃ (xs:List Addr) (a dx:Addr) (s:State) (v:V),vs=[.ref a,v]∧BenchIs K C xs H a dx s∧Q (if v = .non then .int (-2) else refV s.vals) H
theorem can_Bench_read_refusal (T:Txt K mg) (BC:BCls K C) (S:MSrc K C "read_refusal" "Bench.read_refusal" st_Bench_read_refusal ["self","read"]) (c_Bench_run_refusal:CanM P w K mg base 41 C "run_refusal" ["self"] (spRunRef K C)):CanM P w K mg base 43 C "read_refusal" ["self","read"] (spReadRef K C):=by
  have cl_Bench:=BC.cl
  refine S.can sc_Bench_read_refusal (fun vs H Q E h => ?_) (fun f cdv A outer s H vs Q E hr h => ?_)
  · obtain ⟨xs,a,dx,s,v,rfl,_⟩:=h
    rfl
  · obtain ⟨xs,a,dx,s,v,rfl,hB,q⟩:=h
    refine ⟨_,(pss_cons (ps_if (pt_cmpR op_isN (pv 1) pe_non (nomark _)) (pss_one (ps_ret (pe_gc T.c_BAD_FORM))) pss_nil)
      (pss_one (ps_ret (pe_canM0 c_Bench_run_refusal cl_Bench (hr.mono (by decide)) (pv 0))))),?_⟩
    obtain ⟨l,r,t,hp,k,ob,_,hd⟩:=id hB
    refine ⟨_,rfl,rfl,_,rfl,?_⟩
    by_cases hv:v = .non
    · rw [if_pos hv] at q
      refine iteBT (by simp [hv]) ?_
      exact q
    · rw [if_neg hv] at q
      refine iteBF (by simp [hv]) ?_
      exact ⟨_,rfl,a,dx,_,rfl,ob,rfl,xs,a,dx,s,rfl,hB,q⟩
end
end Ts
end
section
set_option maxRecDepth 100000
set_option maxHeartbeats 4000000
namespace Ts
open PySem PySem.Spec PyProof.Rows L2
open Vagraa (Frac)
open VagraLine (Line at_ fracsTold)
open Vagraf (State seeds)
def AnsTo (H:Hp) (Q:VK) (r:Vagraf.R (List Int)):Prop:=∀ H' p,Same H H'→H p=none→H' p=some (.lst ((ansR r).map V.int))→Q (.ref p) H'
theorem AnsTo.one {H H1:Hp} {Q:VK} {r:Vagraf.R (List Int)} {n:Int} (h:AnsTo H Q r) (e:r = .error n) (s:Same H H1):∀ p,H1 p=none→Q (.ref p) (upd H1 p (.lst [V.int n])):=fun p hp=>by
  refine h _ p (s.trans (Same.new hp)) (s.free hp) ?_
  rw [upd_same,e]
  rfl
theorem AnsTo.tell {H H1 H2:Hp} {Q:VK} {r:Vagraf.R (List Int)} {x:Vagraf.R (List Int)} (h:AnsTo H Q r) (e:r=x) (s:Same H H1) (s2:Same H1 H2) {p:Addr} (hp:H1 p=none) (h2:H2 p=some (.lst ((ansR x).map V.int))):Q (.ref p) H2:=by
  subst e
  exact h _ p (s.trans s2) (s.free hp) h2
section
variable {P:Program} {w:World} {K:PySem.W.Frag} {mg:Str→Option Value} {base:Heap} {C:Addr}
abbrev st_Bench_sums_down_to:Stmt:=inClass (top 63) 4
theorem sc_Bench_sums_down_to:FnScope ["self","number","weights"] ["self","number","weights"] (defScope st_Bench_sums_down_to):=⟨rfl,rfl,rfl,by decide +kernel,rfl,by decide +kernel,by decide +kernel⟩
def spSumsDown (K:PySem.W.Frag) (C:Addr):Sp:=fun vs H Q _ => ∃ (a dx l r t wl:Addr) (s:State) (us:List Frac) (fk:Int) (k:Nat) (ws:List Frac) (fa fb D B:Nat),vs=[.ref a,.int (k:Int),.ref wl]∧Ready K C H a dx l r t s us fk∧IsFs K H wl ws∧ws.length=s.code.length∧k≤s.code.length∧AllB D B ws∧Fit fa fb D B∧fa≤20000∧fb≤200 ∧
  ∀ H' p,Same H H'→H p=none→IsFs K H' p (sweepN (Vagraf.tape s.code us) ws (s.code.length - k))→Q (.ref p) H'
theorem can_Bench_sums_down_to (T:Txt K mg) (BC:BCls K C) (S:MSrc K C "sums_down_to" "Bench.sums_down_to" st_Bench_sums_down_to ["self","number","weights"]) (c_sweep_sums:Can P w K mg base 45 "sweep_sums" ["lines","tape","weights","down_to"] (spSweep K)) :
    CanM P w K mg base 47 C "sums_down_to" ["self","number","weights"] (spSumsDown K C):=by
  refine S.can sc_Bench_sums_down_to (fun vs H Q E h => ?_) (fun f cdv A outer s H vs Q E hr h => ?_)
  · obtain ⟨a,dx,l,r,t,wl,s,us,fk,k,ws,fa,fb,D,B,rfl,_⟩:=h
    rfl
  · obtain ⟨a,dx,l,r,t,wl,s,us,fk,k,ws,fa,fb,D,B,rfl,R,hw,hwl,hk,hAB,fit,hfa,hfb,q⟩:=h
    refine ⟨_,(pss_one (ps_ret (pe_can c_sweep_sums (hr.mono (by decide)) (pa_cons (pe_fld (pv 0) rfl) (pa_cons (pe_fld (pv 0) rfl) (pa_cons (pv 2) (pa_cons (pv 1) pa_nil))))))),?_⟩
    obtain ⟨E,hE,fE⟩:=tape_fit (c:=s.code) R.hc R.lt
    have hc:=R.hc
    have b1:64000*s.code.length≤64000*80:=Nat.mul_le_mul_left _ hc
    have b2:402*s.code.length≤402*80:=Nat.mul_le_mul_left _ hc
    refine ⟨_,rfl,a,C,dx,_,_,rfl,R.ob,BC.cl,BC.nL,rfl,_,rfl,a,C,dx,_,_,rfl,R.ob,BC.cl,BC.nT,rfl,_,rfl,_,rfl,
      l,t,wl,s.code,Vagraf.tape s.code us,ws,k,fa,fb,64000,402,D,B,E,2 ^ 400,rfl,R.ln,R.tp,hw,R.tis,R.use',hwl,by omega,hk,hE,hAB,fit,fit402 fE,by omega,fun H' p s1 hp hF => ?_⟩
    exact q H' p s1 hp hF
abbrev st_Bench_input_derivatives:Stmt:=inClass (top 63) 5
theorem sc_Bench_input_derivatives:FnScope ["self","weights"] ["self","weights"] (defScope st_Bench_input_derivatives):=⟨rfl,rfl,rfl,by decide +kernel,rfl,by decide +kernel,by decide +kernel⟩
def spInDer (K:PySem.W.Frag) (C:Addr):Sp:=fun vs H Q _ => ∃ (a dx l r t wl:Addr) (s:State) (us:List Frac) (fk:Int) (ws:List Frac) (fa fb D B:Nat),vs=[.ref a,.ref wl]∧Ready K C H a dx l r t s us fk∧IsFs K H wl ws∧ws.length=s.code.length∧AllB D B ws∧Fit fa fb D B∧fa≤20000∧fb≤200 ∧
  ∀ H' p,Same H H'→H p=none→IsFs K H' p (Vagraf.byInput s.inputs s.code (sweepN (Vagraf.tape s.code us) ws s.code.length))→Q (.ref p) H'
theorem can_Bench_input_derivatives (T:Txt K mg) (BC:BCls K C) (S:MSrc K C "input_derivatives" "Bench.input_derivatives" st_Bench_input_derivatives ["self","weights"]) (c_by_inputs:Can P w K mg base 45 "by_inputs" ["lines","inputs","sums"] (spByIn K)) (c_Bench_sums_down_to:CanM P w K mg base 47 C "sums_down_to" ["self","number","weights"] (spSumsDown K C)) :
    CanM P w K mg base 49 C "input_derivatives" ["self","weights"] (spInDer K C):=by
  have cl_Bench:=BC.cl
  refine S.can sc_Bench_input_derivatives (fun vs H Q E h => ?_) (fun f cdv A outer s H vs Q E hr h => ?_)
  · obtain ⟨a,dx,l,r,t,wl,s,us,fk,ws,fa,fb,D,B,rfl,_⟩:=h
    rfl
  · obtain ⟨a,dx,l,r,t,wl,s,us,fk,ws,fa,fb,D,B,rfl,R,hw,hwl,hAB,fit,hfa,hfb,q⟩:=h
    refine ⟨_,(pss_one (ps_ret (pe_can c_by_inputs (hr.mono (by decide)) (pa_cons (pe_fld (pv 0) rfl) (pa_cons (pe_fld (pv 0) rfl) (pa_cons (pe_canM c_Bench_sums_down_to cl_Bench (hr.mono (by decide)) (pv 0) (pa_cons pe_int (pa_cons (pv 1) pa_nil))) pa_nil)))))),?_⟩
    refine ⟨_,rfl,a,C,dx,_,_,rfl,R.ob,BC.cl,BC.nL,rfl,_,rfl,a,C,dx,_,_,rfl,R.ob,BC.cl,BC.nI,rfl,_,rfl,a,dx,_,rfl,R.ob,rfl,_,rfl,a,dx,l,r,t,wl,s,us,fk,0,ws,fa,fb,D,B,rfl,R,hw,hwl,Nat.zero_le _,hAB,fit,hfa,hfb,fun H1 p s1 hp hF => ?_⟩
    rw [Nat.sub_zero] at hF
    obtain ⟨E,hE,fE⟩:=tape_fit (c:=s.code) R.hc R.lt
    have hc:=R.hc
    have hn:=R.hn
    have ht:(Vagraf.tape s.code us).length=s.code.length:=R.tis.1
    have b1:64000*s.code.length≤64000*80:=Nat.mul_le_mul_left _ hc
    have b2:402*s.code.length≤402*80:=Nat.mul_le_mul_left _ hc
    have hS:=hAB.sweptN fE.pos hE s.code.length (by omega)
    refine ⟨l,p,s.inputs,s.code,_,_,_,_,_,rfl,R.ln.keep s1,hF,by rw [sweepN_length]; exact hwl,by omega,by omega,R.ins,hS,fit.mul ((fit402 fE).pow _),by omega,fun H2 p2 s2 hp2 hF2 => ?_⟩
    exact q H2 p2 (s1.trans s2) (s1.free hp2) hF2
abbrev st_Bench_line_derivatives:Stmt:=inClass (top 63) 6
theorem sc_Bench_line_derivatives:FnScope ["self","number"] ["self","number"] (defScope st_Bench_line_derivatives):=⟨rfl,rfl,rfl,by decide +kernel,rfl,by decide +kernel,by decide +kernel⟩
def spLineDer (K:PySem.W.Frag) (C:Addr):Sp:=fun vs H Q _ => ∃ (a dx l r t:Addr) (s:State) (us:List Frac) (fk:Int) (i:Nat),vs=[.ref a,.int (i:Int)]∧Ready K C H a dx l r t s us fk∧i<s.code.length∧∀ H' p,Same H H'→H p=none→IsFs K H' p (Vagraf.gradient s.inputs s.code us i)→Q (.ref p) H'
theorem one_AllB {n i:Nat}:AllB 1 1 (seeds n [(i,Vagraa.one)]):=by
  have:=AllB.seeds (D:=1) (B:=1) n [(i,Vagraa.one)] fun w hw=>by
    rw [List.mem_singleton.mp hw]
    exact ⟨one_wf,Bd.one 1 (Nat.le_refl _)⟩
  exact this
theorem gradient_eq {K:PySem.W.Frag} {C:Addr} {H:Hp} {a dx l r t:Addr} {s:State} {us:List Frac} {fk:Int} (R:Ready K C H a dx l r t s us fk) (ws:List (Nat×Frac)):Vagraf.sums s.code us ws=sweepN (Vagraf.tape s.code us) (seeds s.code.length ws) s.code.length:=by
  unfold Vagraf.sums
  rw [sweep_all,R.tis.1]
theorem can_Bench_line_derivatives (T:Txt K mg) (BC:BCls K C) (S:MSrc K C "line_derivatives" "Bench.line_derivatives" st_Bench_line_derivatives ["self","number"]) (c_weight_on_one:Can P w K mg base 43 "weight_on_one" ["number","count"] (spOnOne K)) (c_Bench_input_derivatives:CanM P w K mg base 49 C "input_derivatives" ["self","weights"] (spInDer K C)) :
    CanM P w K mg base 51 C "line_derivatives" ["self","number"] (spLineDer K C):=by
  have cl_Bench:=BC.cl
  refine S.can sc_Bench_line_derivatives (fun vs H Q E h => ?_) (fun f cdv A outer s H vs Q E hr h => ?_)
  · obtain ⟨a,dx,l,r,t,s,us,fk,i,rfl,_⟩:=h
    rfl
  · obtain ⟨a,dx,l,r,t,s,us,fk,i,rfl,R,hi,q⟩:=h
    refine ⟨_,(pss_one (ps_ret (pe_canM c_Bench_input_derivatives cl_Bench (hr.mono (by decide)) (pv 0) (pa_cons (pe_can c_weight_on_one (hr.mono (by decide)) (pa_cons (pv 1) (pa_cons (pe_callB call_len_seq rfl T.n_len PySem.boot_len (pa_cons (pe_fld (pv 0) rfl) pa_nil)) pa_nil))) pa_nil)))),?_⟩
    obtain ⟨as,hl,hpp⟩:=id R.ln
    have hla:=Paired.length hpp
    have hc:=R.hc
    refine ⟨_,rfl,a,dx,_,rfl,R.ob,rfl,_,rfl,_,rfl,a,C,dx,_,_,rfl,R.ob,BC.cl,BC.nL,rfl,l,_,rfl,.inl (SqL.of hl),?_⟩
    rw [List.length_map,hla]
    refine ⟨i,s.code.length,rfl,hi,by omega,fun H1 p s1 hp hF => ?_⟩
    refine ⟨a,dx,l,r,t,p,s,us,fk,_,0,0,1,1,rfl,R.keep s1,hF,seeds_length _ _,one_AllB,⟨by decide,by decide,by decide⟩,by omega,by omega,fun H2 p2 s2 hp2 hF2 => ?_⟩
    refine q H2 p2 (s1.trans s2) (s1.free hp2) ?_
    unfold Vagraf.gradient Vagraf.pulled
    rw [gradient_eq R]
    exact hF2
abbrev st_Bench_answer_value:Stmt:=inClass (top 63) 9
theorem sc_Bench_answer_value:FnScope ["self","number","refusal"] ["self","number"] (defScope st_Bench_answer_value):=⟨rfl,rfl,rfl,by decide +kernel,rfl,by decide +kernel,by decide +kernel⟩
def spValue (K:PySem.W.Frag) (C:Addr):Sp:=fun vs H Q _ => ∃ (xs:List Addr) (a dx:Addr) (s:State) (i:Int),vs=[.ref a,.int i]∧BenchIs K C xs H a dx s∧AnsTo H Q (s.asked (.value i))
theorem can_Bench_answer_value (T:Txt K mg) (BC:BCls K C) (S:MSrc K C "answer_value" "Bench.answer_value" st_Bench_answer_value ["self","number"]) (c_Bench_is_line:CanM P w K mg base 43 C "is_line" ["self","number"] (spIsLine K C)) (c_Bench_run_refusal:CanM P w K mg base 41 C "run_refusal" ["self"] (spRunRef K C)) (c_tell:Can P w K mg base 45 "tell" ["head","fractions"] (spTell K)) :
    CanM P w K mg base 55 C "answer_value" ["self","number"] (spValue K C):=by
  have cl_Bench:=BC.cl
  refine S.can sc_Bench_answer_value (fun vs H Q E h => ?_) (fun f cdv A outer s H vs Q E hr h => ?_)
  · obtain ⟨xs,a,dx,s,i,rfl,_⟩:=h
    rfl
  · obtain ⟨xs,a,dx,s,i,rfl,hB,q⟩:=h
    refine ⟨_,(pss_cons (ps_if (pt_not (pt_val (pe_canM c_Bench_is_line cl_Bench (hr.mono (by decide)) (pv 0) (pa_cons (pv 1) pa_nil)))) (pss_one (ps_ret (pe_lst (pa_cons (pe_gc T.c_BAD_NUMBER) pa_nil)))) pss_nil)
      (pss_cons (ps_set (i:=2) sc_Bench_answer_value.nd rfl (Or.inl rfl) (pe_canM0 c_Bench_run_refusal cl_Bench (hr.mono (by decide)) (pv 0)))
      (pss_cons (ps_if (pt_cmpR op_notN (pv 2) pe_non (nomark _)) (pss_one (ps_ret (pe_lst (pa_cons (pv 2) pa_nil)))) pss_nil)
      (pss_one (ps_ret (pe_can c_tell (hr.mono (by decide)) (pa_cons (pe_lst (pa_cons pe_int pa_nil)) (pa_cons (pe_lst (pa_cons (pe_ix ix_list (pe_fld (pv 0) rfl) (pv 1) (fun _ _=>rfl)) pa_nil)) pa_nil)))))))),?_⟩
    obtain ⟨l,r,t,hp,k,ob,hax,hd⟩:=id hB
    refine ⟨_,rfl,a,dx,_,rfl,ob,rfl,_,rfl,xs,a,dx,s,i,rfl,hB,_,rfl,?_⟩
    by_cases hi:0≤i∧i<(s.code.length:Int)
    case neg=>
      refine iteBT (by simp [hi]) ⟨(by show 1≤sizeLine; decide),?_⟩
      exact q.one (by rw [asked_value,line_out hi]; rfl) (Same.refl H)
    refine iteBF (by simp [hi]) ?_
    have hln:=line_in (s:=s) hi
    refine ⟨_,rfl,a,dx,_,rfl,ob,rfl,xs,a,dx,s,rfl,hB,?_⟩
    cases hv:s.vals with
    | error n=>
      refine ⟨_,rfl,rfl,_,rfl,iteBT rfl ⟨_,rfl,(by show 1≤sizeLine; decide),?_⟩⟩
      exact q.one (by rw [asked_value,hln,bindO,hv]; rfl) (Same.refl H)
    | ok us=>
      have R:=hd.ready ob hv
      refine ⟨_,rfl,rfl,_,rfl,iteBF rfl ?_⟩
      have hiN:i.toNat<us.length:=by rw [R.lv]; omega
      refine ⟨(by show 1≤sizeLine; decide),fun l1 hl1 => ?_⟩
      have s1:=Same.new (o:=.lst [V.int 1]) hl1
      have R1:=R.keep s1
      obtain ⟨as,b,h1,h2,h3⟩:=R1.rs.at hiN
      refine ⟨_,rfl,a,C,dx,_,_,rfl,R1.ob,BC.cl,BC.nR,rfl,_,rfl,r,_,_,_,rfl,rfl,SqL.of h1,atN (j:=i.toNat) (by omega) h2,(by show 1≤sizeLine; decide),fun l2 hl2 => ?_⟩
      have s2:=Same.new (o:=.lst [V.ref b]) hl2
      refine ⟨l1,l2,[1],[at_ us i.toNat],rfl,SqL.of (s2 _ _ upd_same),⟨[b],upd_same,.cons (h3.keep s2) .nil⟩,(by show 1≤2000; decide),(by show 1≤2000; decide),fun H3 p s3 hp3 hA => ?_⟩
      exact q.tell (by rw [asked_value,hln,bindO,hv]; rfl) (s1.trans s2) s3 hp3 hA
abbrev st_Bench_answer_values:Stmt:=inClass (top 63) 10
theorem sc_Bench_answer_values:FnScope ["self","refusal"] ["self"] (defScope st_Bench_answer_values):=⟨rfl,rfl,rfl,by decide +kernel,rfl,by decide +kernel,by decide +kernel⟩
def spValues (K:PySem.W.Frag) (C:Addr):Sp:=fun vs H Q _ => ∃ (xs:List Addr) (a dx:Addr) (s:State),vs=[.ref a]∧BenchIs K C xs H a dx s∧AnsTo H Q (s.asked .values)
theorem can_Bench_answer_values (T:Txt K mg) (BC:BCls K C) (S:MSrc K C "answer_values" "Bench.answer_values" st_Bench_answer_values ["self"]) (c_Bench_run_refusal:CanM P w K mg base 41 C "run_refusal" ["self"] (spRunRef K C)) (c_tell:Can P w K mg base 45 "tell" ["head","fractions"] (spTell K)) :
    CanM P w K mg base 55 C "answer_values" ["self"] (spValues K C):=by
  have cl_Bench:=BC.cl
  refine S.can sc_Bench_answer_values (fun vs H Q E h => ?_) (fun f cdv A outer s H vs Q E hr h => ?_)
  · obtain ⟨xs,a,dx,s,rfl,_⟩:=h
    rfl
  · obtain ⟨xs,a,dx,s,rfl,hB,q⟩:=h
    refine ⟨_,(pss_cons (ps_set (i:=1) sc_Bench_answer_values.nd rfl (Or.inl rfl) (pe_canM0 c_Bench_run_refusal cl_Bench (hr.mono (by decide)) (pv 0)))
      (pss_cons (ps_if (pt_cmpR op_notN (pv 1) pe_non (nomark _)) (pss_one (ps_ret (pe_lst (pa_cons (pv 1) pa_nil)))) pss_nil)
      (pss_one (ps_ret (pe_can c_tell (hr.mono (by decide)) (pa_cons (pe_lst (pa_cons (pe_callB call_len_seq rfl T.n_len PySem.boot_len (pa_cons (pe_fld (pv 0) rfl) pa_nil)) pa_nil)) (pa_cons (pe_fld (pv 0) rfl) pa_nil))))))),?_⟩
    obtain ⟨l,r,t,hp,k,ob,hax,hd⟩:=id hB
    refine ⟨_,rfl,a,dx,_,rfl,ob,rfl,xs,a,dx,s,rfl,hB,?_⟩
    cases hv:s.vals with
    | error n=>
      refine ⟨_,rfl,rfl,_,rfl,iteBT rfl ⟨_,rfl,(by show 1≤sizeLine; decide),?_⟩⟩
      exact q.one (by rw [asked_values,hv]; rfl) (Same.refl H)
    | ok us=>
      have R:=hd.ready ob hv
      refine ⟨_,rfl,rfl,_,rfl,iteBF rfl ?_⟩
      obtain ⟨as,hl,hpp⟩:=id R.ln
      have hla:=Paired.length hpp
      have hc:=R.hc
      have hlv:=R.lv
      refine ⟨_,rfl,a,C,dx,_,_,rfl,R.ob,BC.cl,BC.nL,rfl,l,_,rfl,.inl (SqL.of hl),(by show 1≤sizeLine; decide),fun l1 hl1 => ?_⟩
      have e1:([V.int (((as.map V.ref).length:Nat):Int)]:List V)=[(us.length:Int)].map V.int:=by rw [List.length_map,hla,hlv]; rfl
      rw [e1]
      have s1:=Same.new (o:=.lst ([(us.length:Int)].map V.int)) hl1
      have R1:=R.keep s1
      refine ⟨_,rfl,a,C,dx,_,_,rfl,R1.ob,BC.cl,BC.nR,rfl,l1,r,[(us.length:Int)],us,rfl,SqL.of upd_same,R1.rs,(by show 1≤2000; decide),by omega,fun H3 p s3 hp3 hA => ?_⟩
      exact q.tell (by rw [asked_values,hv]; rfl) s1 s3 hp3 hA
abbrev st_Bench_answer_gradient:Stmt:=inClass (top 63) 12
theorem sc_Bench_answer_gradient:FnScope ["self","number","refusal"] ["self","number"] (defScope st_Bench_answer_gradient):=⟨rfl,rfl,rfl,by decide +kernel,rfl,by decide +kernel,by decide +kernel⟩
def spGradient (K:PySem.W.Frag) (C:Addr):Sp:=fun vs H Q _ => ∃ (xs:List Addr) (a dx:Addr) (s:State) (i:Int),vs=[.ref a,.int i]∧BenchIs K C xs H a dx s∧AnsTo H Q (s.asked (.gradient i))
theorem byInput_length (n:Nat) (c:List Line) (l:List Frac):(Vagraf.byInput n c l).length=n:=by rw [← byN_all (Nat.le_refl _),byN_length]
theorem can_Bench_answer_gradient (T:Txt K mg) (BC:BCls K C) (S:MSrc K C "answer_gradient" "Bench.answer_gradient" st_Bench_answer_gradient ["self","number"]) (c_Bench_is_line:CanM P w K mg base 43 C "is_line" ["self","number"] (spIsLine K C)) (c_Bench_run_refusal:CanM P w K mg base 41 C "run_refusal" ["self"] (spRunRef K C))
    (c_Bench_line_derivatives:CanM P w K mg base 51 C "line_derivatives" ["self","number"] (spLineDer K C)) (c_tell:Can P w K mg base 45 "tell" ["head","fractions"] (spTell K)) :
    CanM P w K mg base 55 C "answer_gradient" ["self","number"] (spGradient K C):=by
  have cl_Bench:=BC.cl
  refine S.can sc_Bench_answer_gradient (fun vs H Q E h => ?_) (fun f cdv A outer s H vs Q E hr h => ?_)
  · obtain ⟨xs,a,dx,s,i,rfl,_⟩:=h
    rfl
  · obtain ⟨xs,a,dx,s,i,rfl,hB,q⟩:=h
    refine ⟨_,(pss_cons (ps_if (pt_not (pt_val (pe_canM c_Bench_is_line cl_Bench (hr.mono (by decide)) (pv 0) (pa_cons (pv 1) pa_nil)))) (pss_one (ps_ret (pe_lst (pa_cons (pe_gc T.c_BAD_NUMBER) pa_nil)))) pss_nil)
      (pss_cons (ps_set (i:=2) sc_Bench_answer_gradient.nd rfl (Or.inl rfl) (pe_canM0 c_Bench_run_refusal cl_Bench (hr.mono (by decide)) (pv 0)))
      (pss_cons (ps_if (pt_cmpR op_notN (pv 2) pe_non (nomark _)) (pss_one (ps_ret (pe_lst (pa_cons (pv 2) pa_nil)))) pss_nil)
      (pss_one (ps_ret (pe_can c_tell (hr.mono (by decide)) (pa_cons (pe_lst (pa_cons (pe_fld (pv 0) rfl) pa_nil)) (pa_cons (pe_canM c_Bench_line_derivatives cl_Bench (hr.mono (by decide)) (pv 0) (pa_cons (pv 1) pa_nil)) pa_nil)))))))),?_⟩
    obtain ⟨l,r,t,hp,k,ob,hax,hd⟩:=id hB
    refine ⟨_,rfl,a,dx,_,rfl,ob,rfl,_,rfl,xs,a,dx,s,i,rfl,hB,_,rfl,?_⟩
    by_cases hi:0≤i∧i<(s.code.length:Int)
    case neg=>
      refine iteBT (by simp [hi]) ⟨(by show 1≤sizeLine; decide),?_⟩
      exact q.one (by rw [asked_gradient,line_out hi]; rfl) (Same.refl H)
    refine iteBF (by simp [hi]) ?_
    have hln:=line_in (s:=s) hi
    refine ⟨_,rfl,a,dx,_,rfl,ob,rfl,xs,a,dx,s,rfl,hB,?_⟩
    cases hv:s.vals with
    | error n=>
      refine ⟨_,rfl,rfl,_,rfl,iteBT rfl ⟨_,rfl,(by show 1≤sizeLine; decide),?_⟩⟩
      exact q.one (by rw [asked_gradient,hln,bindO,hv]; rfl) (Same.refl H)
    | ok us=>
      have R:=hd.ready ob hv
      have hn:=R.hn
      refine ⟨_,rfl,rfl,_,rfl,iteBF rfl ?_⟩
      refine ⟨_,rfl,a,C,dx,_,_,rfl,R.ob,BC.cl,BC.nI,rfl,(by show 1≤sizeLine; decide),fun l1 hl1 => ?_⟩
      have s1:=Same.new (o:=.lst [V.int (s.inputs:Int)]) hl1
      have R1:=R.keep s1
      have gl:(Vagraf.gradient s.inputs s.code us i.toNat).length=s.inputs:=byInput_length _ _ _
      refine ⟨_,rfl,a,dx,_,rfl,R1.ob,rfl,_,rfl,a,dx,l,r,t,s,us,k,i.toNat,(by rw [show ((i.toNat:Nat):Int)=i by omega]; rfl),R1,by omega,fun H2 p2 s2 hp2 hF => ?_⟩
      refine ⟨l1,p2,[(s.inputs:Int)],_,rfl,SqL.of (s2 _ _ upd_same),hF,(by show 1≤2000; decide),by rw [gl]; omega,fun H3 p s3 hp3 hA => ?_⟩
      refine q.tell ?_ (s1.trans s2) s3 hp3 hA
      rw [asked_gradient,hln,bindO,hv]
      show Vagraf.tell [((Vagraf.gradient s.inputs s.code us i.toNat).length:Int)] _=_
      rw [gl]
end
end Ts
end
section
set_option maxRecDepth 100000
set_option maxHeartbeats 4000000
namespace Ts
open PySem PySem.Spec PyProof.Rows L2
open Vagraa (Frac)
open VagraLine (Line at_ fracsTold)
open Vagraf (State seeds)
theorem pappend {α β:Type} {F:α→β→Prop}:∀ {xs xs':List α} {ys ys':List β},Paired F xs ys→Paired F xs' ys'→Paired F (xs++xs') (ys++ys')
  | _,_,_,_,.nil,h=>h
  | _,_,_,_,.cons r t,h => .cons r (pappend t h)
theorem flat_snoc {α:Type} {l:List (List α)} {i:Nat} {x:List α} (h:l[i]? = some x):(l.take (i+1)).flatten=(l.take i).flatten++x:=by
  rw [take_snoc h,List.flatten_append]
  simp
theorem flat2 {α:Type} {t:List (List α)} (h:∀ ps∈t,ps.length≤2) (i:Nat):(t.take i).flatten.length≤2*i:=by
  have:=flat_len (t.take i) fun ps hps=>h ps (List.mem_of_mem_take hps)
  rw [List.length_take] at this
  omega
theorem tpD_flat (t:List (List (Nat×Frac))):(tpD t).flatten=t.flatMap fun x=>x.map fun p=>p.2:=by
  unfold tpD
  rw [List.flatMap_def]
section
variable {P:Program} {w:World} {K:PySem.W.Frag} {mg:Str→Option Value} {base:Heap} {C:Addr}
abbrev st_Bench_answer_tape:Stmt:=inClass (top 63) 11
theorem sc_Bench_answer_tape:FnScope ["self","refusal","head","every","derivatives"] ["self"] (defScope st_Bench_answer_tape):=⟨rfl,rfl,rfl,by decide +kernel,rfl,by decide +kernel,by decide +kernel⟩
def spTapeA (K:PySem.W.Frag) (C:Addr):Sp:=fun vs H Q _ => ∃ (xs:List Addr) (a dx:Addr) (s:State),vs=[.ref a]∧BenchIs K C xs H a dx s∧AnsTo H Q (s.asked .tape)
theorem can_Bench_answer_tape (T:Txt K mg) (BC:BCls K C) (S:MSrc K C "answer_tape" "Bench.answer_tape" st_Bench_answer_tape ["self"]) (c_Bench_run_refusal:CanM P w K mg base 41 C "run_refusal" ["self"] (spRunRef K C)) (c_tell:Can P w K mg base 45 "tell" ["head","fractions"] (spTell K)) :
    CanM P w K mg base 55 C "answer_tape" ["self"] (spTapeA K C):=by
  have cl_Bench:=BC.cl
  refine S.can sc_Bench_answer_tape (fun vs H Q E h => ?_) (fun f cdv A outer s H vs Q E hr h => ?_)
  · obtain ⟨xs,a,dx,s,rfl,_⟩:=h
    rfl
  · obtain ⟨xs,a,dx,s,rfl,hB,q⟩:=h
    refine ⟨_,(pss_cons (ps_set (i:=1) sc_Bench_answer_tape.nd rfl (Or.inl rfl) (pe_canM0 c_Bench_run_refusal cl_Bench (hr.mono (by decide)) (pv 0)))
      (pss_cons (ps_if (pt_cmpR op_notN (pv 1) pe_non (nomark _)) (pss_one (ps_ret (pe_lst (pa_cons (pv 1) pa_nil)))) pss_nil)
      (pss_cons (ps_set (i:=2) sc_Bench_answer_tape.nd rfl (Or.inl rfl) (pe_lst (pa_cons (pe_callB call_len_seq rfl T.n_len PySem.boot_len (pa_cons (pe_fld (pv 0) rfl) pa_nil)) pa_nil)))
      (pss_cons (ps_set (i:=3) sc_Bench_answer_tape.nd rfl (Or.inl rfl) (pe_lst pa_nil))
      (pss_cons (ps_for PassesOwn.never rfl (pi_list (pe_fld (pv 0) rfl)) (pg_name (i:=4) sc_Bench_answer_tape.nd rfl (Or.inl rfl)) (pss_cons (ps_expr (pe_bm PySem.F.plainAttrs_list PySem.F.slot_list_append PySem.F.type_list_append mt_append (pv 2) (pa_cons (pe_callB call_len_seq rfl T.n_len PySem.boot_len (pa_cons (pv 4) pa_nil)) pa_nil)))
      (pss_one (ps_expr (pe_bm PySem.F.plainAttrs_list PySem.F.slot_list_extend PySem.F.type_list_extend mt_extend (pv 3) (pa_cons (pv 4) pa_nil))))))
      (pss_one (ps_ret (pe_can c_tell (hr.mono (by decide)) (pa_cons (pv 2) (pa_cons (pv 3) pa_nil)))))))))),?_⟩
    obtain ⟨l,r,t,hp,k,ob,hax,hd⟩:=id hB
    refine ⟨_,rfl,a,dx,_,rfl,ob,rfl,xs,a,dx,s,rfl,hB,?_⟩
    cases hv:s.vals with
    | error n=>
      refine ⟨_,rfl,rfl,_,rfl,iteBT rfl ⟨_,rfl,(by show 1≤sizeLine; decide),?_⟩⟩
      exact q.one (by rw [asked_tape,hv]; rfl) (Same.refl H)
    | ok us=>
      have R:=hd.ready ob hv
      refine ⟨_,rfl,rfl,_,rfl,iteBF rfl ?_⟩
      obtain ⟨as,hl,hpp⟩:=id R.ln
      have hla:=Paired.length hpp
      have hc:=R.hc
      obtain ⟨tsA,ht,hpt⟩:=id R.tp
      have htl:tsA.length=s.code.length:=by rw [Paired.length hpt]; unfold tpD; rw [List.length_map]; exact R.tis.1
      obtain ⟨E1,hTB,_⟩:=tape_fit (c:=s.code) R.hc R.lt
      have h2:∀ ps∈tpD (Vagraf.tape s.code us),ps.length≤2:=fun ps hps=>by
        obtain ⟨qs,hq,rfl⟩:=List.mem_map.mp hps
        rw [List.length_map]
        exact (hTB qs hq).1
      refine ⟨_,rfl,a,C,dx,_,_,rfl,R.ob,BC.cl,BC.nL,rfl,l,_,rfl,.inl (SqL.of hl),(by show 1≤sizeLine; decide),fun hl1 hhl1 => ?_⟩
      have e1:([V.int (((as.map V.ref).length:Nat):Int)]:List V)=[(s.code.length:Int)].map V.int:=by rw [List.length_map,hla]; rfl
      rw [e1]
      have s1:=Same.new (o:=.lst ([(s.code.length:Int)].map V.int)) hhl1
      refine ⟨Nat.zero_le _,fun el hel => ?_⟩
      have s2:=Same.new (o:=.lst []) hel
      have hne:hl1≠el:=fun e=>by rw [← e,upd_same] at hel; cases hel
      have hel0:H el=none:=s1.free hel
      have R2:=R.keep (s1.trans s2)
      refine ⟨_,rfl,a,C,dx,_,_,rfl,R2.ob,BC.cl,BC.nT,rfl,t,rfl,⟨_,SqL.of ((s1.trans s2) _ _ ht)⟩,for_list (K:=K) (a:=t) (xs:=tsA.map V.ref) (fun i σ H' => ∃ v4:Option V,σ=[some (.ref a),some .non,some (.ref hl1),some (.ref el),v4]∧Same H H'∧H' hl1=some (.lst (((s.code.length:Int)::((Vagraf.tape s.code us).take i).map fun x=>(x.length:Int)).map V.int))∧IsFs K H' el (((tpD (Vagraf.tape s.code us)).take i).flatten))
        ⟨none,rfl,s1.trans s2,s2 _ _ upd_same,⟨[],upd_same,.nil⟩⟩ (fun i σ H' _ ⟨_,_,s3,_⟩=>SqL.of (s3 _ _ ht)) ?_ ?_⟩
      · rintro i x σ H1 hx ⟨v4,rfl,s3,hH1,⟨es,hE1,hE2⟩⟩
        obtain ⟨y,hy,rfl⟩:=ofmap hx
        have hi:=(List.getElem?_eq_some_iff.mp hy).1
        obtain ⟨ds,hds,hD⟩:=pgetL hpt hy
        obtain ⟨ps,hps⟩:∃ ps,(Vagraf.tape s.code us)[i]? = some ps:=⟨_,List.getElem?_eq_getElem (by rw [R.tis.1]; omega)⟩
        have eds:ds=ps.map (·.2):=by
          unfold tpD at hds
          rw [List.getElem?_map,hps] at hds
          exact (Option.some.inj hds).symm
        obtain ⟨bs,hb1,hb2⟩:=hD.keep s3
        have hbl:=Paired.length hb2
        have hyd:y≠hl1:=fun e=>by
          obtain ⟨_,z,_⟩:=hD
          rw [e,hhl1] at z
          cases z
        have hye:y≠el:=fun e=>by
          obtain ⟨_,z,_⟩:=hD
          rw [e,hel0] at z
          cases z
        refine ⟨_,rfl,.inl ⟨rfl,_,SqL.of hH1⟩,_,rfl,y,_,rfl,.inl (SqL.of hb1),hl1,_,_,rfl,rfl,hH1,?_,?_⟩
        · rw [List.length_map,List.length_cons,List.length_map,List.length_take]
          exact line_lt (by omega)
        have hE3:(upd H1 hl1 (.lst (((s.code.length:Int)::((Vagraf.tape s.code us).take i).map fun x=>(x.length:Int)).map V.int++[V.int (((bs.map V.ref).length:Nat):Int)]))) el=some (.lst (es.map V.ref)):=by rw [upd_ne hne.symm]; exact hE1
        have hb3:(upd H1 hl1 (.lst (((s.code.length:Int)::((Vagraf.tape s.code us).take i).map fun x=>(x.length:Int)).map V.int++[V.int (((bs.map V.ref).length:Nat):Int)]))) y=some (.lst (bs.map V.ref)):=by rw [upd_ne hyd]; exact hb1
        have hE4:=putF' (zs:=((s.code.length:Int)::((Vagraf.tape s.code us).take i).map fun x=>(x.length:Int)).map V.int++[V.int (((bs.map V.ref).length:Nat):Int)]) hE2 hH1
        have hb4:=putF' (zs:=((s.code.length:Int)::((Vagraf.tape s.code us).take i).map fun x=>(x.length:Int)).map V.int++[V.int (((bs.map V.ref).length:Nat):Int)]) hb2 hH1
        have hesl:=Paired.length hE2
        have hflat:=flat2 h2 i
        refine ⟨_,rfl,.inl ⟨rfl,_,SqL.of hE3⟩,_,rfl,el,y,_,_,rfl,rfl,hE3,hb3,?_,?_⟩
        · rw [List.length_map,List.length_map,hesl]
          have:=h2 ds (List.mem_of_getElem? hds)
          exact line_le (by omega)
        refine ⟨_,rfl,samePut hel0 (samePut hhl1 s3),?_,es++bs,by rw [upd_same,List.map_append],?_⟩
        · rw [upd_ne hne,upd_same,take_snoc hps,List.map_append,← List.cons_append,List.map_append (f:=V.int)]
          congr 3
          show [V.int _]=[V.int _]
          rw [List.length_map,hbl,eds,List.length_map]
        · rw [flat_snoc hds]
          exact pappend (putF' hE4 hE3) (putF' hb4 hE3)
      · rintro σ H1 ⟨v4,rfl,s3,hH1,hE⟩
        have e2:(tsA.map V.ref).length=(Vagraf.tape s.code us).length:=by rw [List.length_map,htl,R.tis.1]
        have e3:(tpD (Vagraf.tape s.code us)).length=(Vagraf.tape s.code us).length:=by unfold tpD; rw [List.length_map]
        rw [e2,List.take_length] at hH1
        rw [e2,← e3,List.take_length,tpD_flat] at hE
        refine ⟨_,rfl,_,rfl,hl1,el,_,_,rfl,SqL.of hH1,hE,?_,?_,fun H3 p s4 hp3 hA => ?_⟩
        · rw [List.length_cons,List.length_map,R.tis.1]
          omega
        · have:=flat2 h2 (tpD (Vagraf.tape s.code us)).length
          rw [List.take_length,tpD_flat,e3,R.tis.1] at this
          omega
        · refine q.tell ?_ s3 s4 hp3 hA
          rw [asked_tape,hv]
          show Vagraf.tell (((Vagraf.tape s.code us).length:Int)::_) _=_
          rw [R.tis.1]
theorem weights_fit {s:State} {ns:List Int} {ws:List (Nat×Frac)} (hl:ns.length≤400) (h:Vagraf.weightsOf s.code.length ns=some ws) (ht:∀ w∈ws,toldF w.2):∃ D B,Fit (60*ws.length) 68 D B∧60*ws.length≤20000∧AllB D B (seeds s.code.length ws):=by
  have h3:=weightsOf_len _ _ _ h
  obtain ⟨D,B,fit,hA⟩:=told_fit s.code.length ht (j:=8) (by omega)
  exact ⟨D,B,fit,by omega,hA⟩
abbrev st_Bench_answer_pull:Stmt:=inClass (top 63) 13
theorem sc_Bench_answer_pull:FnScope ["self","numbers","weights","refusal"] ["self","numbers"] (defScope st_Bench_answer_pull):=⟨rfl,rfl,rfl,by decide +kernel,rfl,by decide +kernel,by decide +kernel⟩
def spPull (K:PySem.W.Frag) (C:Addr):Sp:=fun vs H Q _ => ∃ (xs:List Addr) (a dx nl:Addr) (s:State) (ns:List Int),vs=[.ref a,.ref nl]∧BenchIs K C xs H a dx s∧SqL K H nl (ns.map V.int)∧ns.length≤400∧(∀ z∈ns,z.natAbs≤10 ^ 18)∧AnsTo H Q (s.asked (.pull ns))
theorem can_Bench_answer_pull (T:Txt K mg) (BC:BCls K C) (S:MSrc K C "answer_pull" "Bench.answer_pull" st_Bench_answer_pull ["self","numbers"]) (c_read_weights:Can P w K mg base 45 "read_weights" ["numbers","count"] (spReadW K)) (c_Bench_read_refusal:CanM P w K mg base 43 C "read_refusal" ["self","read"] (spReadRef K C))
    (c_Bench_input_derivatives:CanM P w K mg base 49 C "input_derivatives" ["self","weights"] (spInDer K C)) (c_tell:Can P w K mg base 45 "tell" ["head","fractions"] (spTell K)) :
    CanM P w K mg base 55 C "answer_pull" ["self","numbers"] (spPull K C):=by
  have cl_Bench:=BC.cl
  refine S.can sc_Bench_answer_pull (fun vs H Q E h => ?_) (fun f cdv A outer s H vs Q E hr h => ?_)
  · obtain ⟨xs,a,dx,nl,s,ns,rfl,_⟩:=h
    rfl
  · obtain ⟨xs,a,dx,nl,s,ns,rfl,hB,hnl,hlen,hbd,q⟩:=h
    refine ⟨_,(pss_cons (ps_set (i:=2) sc_Bench_answer_pull.nd rfl (Or.inl rfl) (pe_can c_read_weights (hr.mono (by decide)) (pa_cons (pv 1) (pa_cons (pe_callB call_len_seq rfl T.n_len PySem.boot_len (pa_cons (pe_fld (pv 0) rfl) pa_nil)) pa_nil))))
      (pss_cons (ps_set (i:=3) sc_Bench_answer_pull.nd rfl (Or.inl rfl) (pe_canM c_Bench_read_refusal cl_Bench (hr.mono (by decide)) (pv 0) (pa_cons (pv 2) pa_nil)))
      (pss_cons (ps_if (pt_cmpR op_notN (pv 3) pe_non (nomark _)) (pss_one (ps_ret (pe_lst (pa_cons (pv 3) pa_nil)))) pss_nil)
      (pss_one (ps_ret (pe_can c_tell (hr.mono (by decide)) (pa_cons (pe_lst (pa_cons (pe_fld (pv 0) rfl) pa_nil)) (pa_cons (pe_canM c_Bench_input_derivatives cl_Bench (hr.mono (by decide)) (pv 0) (pa_cons (pv 2) pa_nil)) pa_nil)))))))),?_⟩
    obtain ⟨l,r,t,hp,k,ob,hax,hd⟩:=id hB
    obtain ⟨as,hl,hpp⟩:=id hd.ln
    have hla:=Paired.length hpp
    have hc:=hd.hc
    refine ⟨_,rfl,_,rfl,a,C,dx,_,_,rfl,ob,BC.cl,BC.nL,rfl,l,_,rfl,.inl (SqL.of hl),?_⟩
    rw [List.length_map,hla]
    refine ⟨nl,ns,s.code.length,rfl,hnl,by omega,by omega,hbd,fun H1 s1 hN => ?_,fun H1 p ws s1 hp1 hW ht hF => ?_⟩
    · have ob1:=s1 _ _ ob
      refine ⟨_,rfl,a,dx,_,rfl,ob1,rfl,_,rfl,xs,a,dx,s,.non,rfl,hB.keep s1,?_⟩
      refine ⟨_,rfl,rfl,_,rfl,iteBT rfl ⟨_,rfl,(by show 1≤sizeLine; decide),?_⟩⟩
      exact q.one (by rw [asked_pull,weights_none s hN]; rfl) s1
    · have ob1:=s1 _ _ ob
      have hw:=weights_some s hW
      refine ⟨_,rfl,a,dx,_,rfl,ob1,rfl,_,rfl,xs,a,dx,s,.ref p,rfl,hB.keep s1,?_⟩
      rw [if_neg (by intro e; cases e)]
      cases hv:s.vals with
      | error n=>
        refine ⟨_,rfl,rfl,_,rfl,iteBT rfl ⟨_,rfl,(by show 1≤sizeLine; decide),?_⟩⟩
        exact q.one (by rw [asked_pull,hw,bindO,hv]; rfl) s1
      | ok us=>
        have R:=(hd.ready ob hv).keep s1
        have hn:=R.hn
        refine ⟨_,rfl,rfl,_,rfl,iteBF rfl ?_⟩
        obtain ⟨D,B,fit,h60,hA⟩:=weights_fit hlen hW ht
        refine ⟨_,rfl,a,C,dx,_,_,rfl,R.ob,BC.cl,BC.nI,rfl,(by show 1≤sizeLine; decide),fun l1 hl1 => ?_⟩
        have s2:=Same.new (o:=.lst [V.int (s.inputs:Int)]) hl1
        have R2:=R.keep s2
        refine ⟨_,rfl,a,dx,_,rfl,R2.ob,rfl,_,rfl,a,dx,l,r,t,p,s,us,k,_,_,_,D,B,rfl,R2,hF.keep s2,seeds_length _ _,hA,fit,h60,by omega,fun H3 p3 s3 hp3 hF3 => ?_⟩
        refine ⟨l1,p3,[(s.inputs:Int)],_,rfl,SqL.of (s3 _ _ upd_same),hF3,(by show 1≤2000; decide),by rw [byInput_length]; omega,fun H4 p4 s4 hp4 hA4 => ?_⟩
        refine q.tell ?_ ((s1.trans s2).trans s3) s4 hp4 hA4
        rw [asked_pull,hw,bindO,hv]
        show Vagraf.tell [((Vagraf.pulled s.inputs s.code us _).length:Int)] _=_
        unfold Vagraf.pulled
        rw [byInput_length,gradient_eq R]
abbrev st_Bench_answer_sums:Stmt:=inClass (top 63) 14
theorem sc_Bench_answer_sums:FnScope ["self","numbers","weights","refusal"] ["self","numbers"] (defScope st_Bench_answer_sums):=⟨rfl,rfl,rfl,by decide +kernel,rfl,by decide +kernel,by decide +kernel⟩
def spSumsA (K:PySem.W.Frag) (C:Addr):Sp:=fun vs H Q _ => ∃ (xs:List Addr) (a dx nl:Addr) (s:State) (ns:List Int),vs=[.ref a,.ref nl]∧BenchIs K C xs H a dx s∧SqL K H nl (ns.map V.int)∧ns.length≤400∧(∀ z∈ns,z.natAbs≤10 ^ 18)∧AnsTo H Q (s.asked (.sums ns))
theorem can_Bench_answer_sums (T:Txt K mg) (BC:BCls K C) (S:MSrc K C "answer_sums" "Bench.answer_sums" st_Bench_answer_sums ["self","numbers"]) (c_read_weights:Can P w K mg base 45 "read_weights" ["numbers","count"] (spReadW K)) (c_Bench_read_refusal:CanM P w K mg base 43 C "read_refusal" ["self","read"] (spReadRef K C))
    (c_Bench_sums_down_to:CanM P w K mg base 47 C "sums_down_to" ["self","number","weights"] (spSumsDown K C)) (c_tell:Can P w K mg base 45 "tell" ["head","fractions"] (spTell K)) :
    CanM P w K mg base 55 C "answer_sums" ["self","numbers"] (spSumsA K C):=by
  have cl_Bench:=BC.cl
  refine S.can sc_Bench_answer_sums (fun vs H Q E h => ?_) (fun f cdv A outer s H vs Q E hr h => ?_)
  · obtain ⟨xs,a,dx,nl,s,ns,rfl,_⟩:=h
    rfl
  · obtain ⟨xs,a,dx,nl,s,ns,rfl,hB,hnl,hlen,hbd,q⟩:=h
    refine ⟨_,(pss_cons (ps_set (i:=2) sc_Bench_answer_sums.nd rfl (Or.inl rfl) (pe_can c_read_weights (hr.mono (by decide)) (pa_cons (pv 1) (pa_cons (pe_callB call_len_seq rfl T.n_len PySem.boot_len (pa_cons (pe_fld (pv 0) rfl) pa_nil)) pa_nil))))
      (pss_cons (ps_set (i:=3) sc_Bench_answer_sums.nd rfl (Or.inl rfl) (pe_canM c_Bench_read_refusal cl_Bench (hr.mono (by decide)) (pv 0) (pa_cons (pv 2) pa_nil)))
      (pss_cons (ps_if (pt_cmpR op_notN (pv 3) pe_non (nomark _)) (pss_one (ps_ret (pe_lst (pa_cons (pv 3) pa_nil)))) pss_nil)
      (pss_one (ps_ret (pe_can c_tell (hr.mono (by decide)) (pa_cons (pe_lst (pa_cons (pe_callB call_len_seq rfl T.n_len PySem.boot_len (pa_cons (pe_fld (pv 0) rfl) pa_nil)) pa_nil)) (pa_cons (pe_canM c_Bench_sums_down_to cl_Bench (hr.mono (by decide)) (pv 0) (pa_cons pe_int (pa_cons (pv 2) pa_nil))) pa_nil)))))))),?_⟩
    obtain ⟨l,r,t,hp,k,ob,hax,hd⟩:=id hB
    obtain ⟨as,hl,hpp⟩:=id hd.ln
    have hla:=Paired.length hpp
    have hc:=hd.hc
    refine ⟨_,rfl,_,rfl,a,C,dx,_,_,rfl,ob,BC.cl,BC.nL,rfl,l,_,rfl,.inl (SqL.of hl),?_⟩
    rw [List.length_map,hla]
    refine ⟨nl,ns,s.code.length,rfl,hnl,by omega,by omega,hbd,fun H1 s1 hN => ?_,fun H1 p ws s1 hp1 hW ht hF => ?_⟩
    · have ob1:=s1 _ _ ob
      refine ⟨_,rfl,a,dx,_,rfl,ob1,rfl,_,rfl,xs,a,dx,s,.non,rfl,hB.keep s1,?_⟩
      refine ⟨_,rfl,rfl,_,rfl,iteBT rfl ⟨_,rfl,(by show 1≤sizeLine; decide),?_⟩⟩
      exact q.one (by rw [asked_sums,weights_none s hN]; rfl) s1
    · have ob1:=s1 _ _ ob
      have hw:=weights_some s hW
      refine ⟨_,rfl,a,dx,_,rfl,ob1,rfl,_,rfl,xs,a,dx,s,.ref p,rfl,hB.keep s1,?_⟩
      rw [if_neg (by intro e; cases e)]
      cases hv:s.vals with
      | error n=>
        refine ⟨_,rfl,rfl,_,rfl,iteBT rfl ⟨_,rfl,(by show 1≤sizeLine; decide),?_⟩⟩
        exact q.one (by rw [asked_sums,hw,bindO,hv]; rfl) s1
      | ok us=>
        have R:=(hd.ready ob hv).keep s1
        refine ⟨_,rfl,rfl,_,rfl,iteBF rfl ?_⟩
        obtain ⟨D,B,fit,h60,hA⟩:=weights_fit hlen hW ht
        refine ⟨_,rfl,a,C,dx,_,_,rfl,R.ob,BC.cl,BC.nL,rfl,l,_,rfl,.inl (SqL.of (s1 _ _ hl)),(by show 1≤sizeLine; decide),fun l1 hl1 => ?_⟩
        have e1:([V.int (((as.map V.ref).length:Nat):Int)]:List V)=[(s.code.length:Int)].map V.int:=by rw [List.length_map,hla]; rfl
        rw [e1]
        have s2:=Same.new (o:=.lst ([(s.code.length:Int)].map V.int)) hl1
        have R2:=R.keep s2
        refine ⟨_,rfl,a,dx,_,rfl,R2.ob,rfl,_,rfl,a,dx,l,r,t,p,s,us,k,0,_,_,_,D,B,rfl,R2,hF.keep s2,seeds_length _ _,Nat.zero_le _,hA,fit,h60,by omega,fun H3 p3 s3 hp3 hF3 => ?_⟩
        have sl:(sweepN (Vagraf.tape s.code us) (seeds s.code.length ws) (s.code.length - 0)).length=s.code.length:=by rw [sweepN_length,seeds_length]
        refine ⟨l1,p3,[(s.code.length:Int)],_,rfl,SqL.of (s3 _ _ upd_same),hF3,(by show 1≤2000; decide),by rw [sl]; omega,fun H4 p4 s4 hp4 hA4 => ?_⟩
        refine q.tell ?_ ((s1.trans s2).trans s3) s4 hp4 hA4
        rw [asked_sums,hw,bindO,hv]
        show Vagraf.tell [((Vagraf.sums s.code us ws).length:Int)] (Vagraf.sums s.code us ws)=_
        rw [gradient_eq R]
        rw [Nat.sub_zero] at sl ⊢
        rw [sl]
abbrev st_Bench_answer_sweep:Stmt:=inClass (top 63) 15
theorem sc_Bench_answer_sweep:FnScope ["self","number","numbers","weights","refusal"] ["self","number","numbers"] (defScope st_Bench_answer_sweep):=⟨rfl,rfl,rfl,by decide +kernel,rfl,by decide +kernel,by decide +kernel⟩
def spSweepA (K:PySem.W.Frag) (C:Addr):Sp:=fun vs H Q _ => ∃ (xs:List Addr) (a dx nl:Addr) (s:State) (i:Int) (ns:List Int),vs=[.ref a,.int i,.ref nl]∧BenchIs K C xs H a dx s∧SqL K H nl (ns.map V.int)∧ns.length≤400∧(∀ z∈ns,z.natAbs≤10 ^ 18)∧AnsTo H Q (s.asked (.sweep i ns))
theorem can_Bench_answer_sweep (T:Txt K mg) (BC:BCls K C) (S:MSrc K C "answer_sweep" "Bench.answer_sweep" st_Bench_answer_sweep ["self","number","numbers"]) (c_Bench_is_line:CanM P w K mg base 43 C "is_line" ["self","number"] (spIsLine K C)) (c_read_weights:Can P w K mg base 45 "read_weights" ["numbers","count"] (spReadW K)) (c_Bench_read_refusal:CanM P w K mg base 43 C "read_refusal" ["self","read"] (spReadRef K C))
    (c_Bench_sums_down_to:CanM P w K mg base 47 C "sums_down_to" ["self","number","weights"] (spSumsDown K C)) (c_tell:Can P w K mg base 45 "tell" ["head","fractions"] (spTell K)) :
    CanM P w K mg base 55 C "answer_sweep" ["self","number","numbers"] (spSweepA K C):=by
  have cl_Bench:=BC.cl
  refine S.can sc_Bench_answer_sweep (fun vs H Q E h => ?_) (fun f cdv A outer s H vs Q E hr h => ?_)
  · obtain ⟨xs,a,dx,nl,s,i,ns,rfl,_⟩:=h
    rfl
  · obtain ⟨xs,a,dx,nl,s,i,ns,rfl,hB,hnl,hlen,hbd,q⟩:=h
    refine ⟨_,(pss_cons (ps_if (pt_not (pt_val (pe_canM c_Bench_is_line cl_Bench (hr.mono (by decide)) (pv 0) (pa_cons (pv 1) pa_nil)))) (pss_one (ps_ret (pe_lst (pa_cons (pe_gc T.c_BAD_NUMBER) pa_nil)))) pss_nil)
      (pss_cons (ps_set (i:=3) sc_Bench_answer_sweep.nd rfl (Or.inl rfl) (pe_can c_read_weights (hr.mono (by decide)) (pa_cons (pv 2) (pa_cons (pe_callB call_len_seq rfl T.n_len PySem.boot_len (pa_cons (pe_fld (pv 0) rfl) pa_nil)) pa_nil))))
      (pss_cons (ps_set (i:=4) sc_Bench_answer_sweep.nd rfl (Or.inl rfl) (pe_canM c_Bench_read_refusal cl_Bench (hr.mono (by decide)) (pv 0) (pa_cons (pv 3) pa_nil)))
      (pss_cons (ps_if (pt_cmpR op_notN (pv 4) pe_non (nomark _)) (pss_one (ps_ret (pe_lst (pa_cons (pv 4) pa_nil)))) pss_nil)
      (pss_one (ps_ret (pe_can c_tell (hr.mono (by decide)) (pa_cons (pe_lst (pa_cons (pe_callB call_len_seq rfl T.n_len PySem.boot_len (pa_cons (pe_fld (pv 0) rfl) pa_nil)) pa_nil)) (pa_cons (pe_canM c_Bench_sums_down_to cl_Bench (hr.mono (by decide)) (pv 0) (pa_cons (pv 1) (pa_cons (pv 3) pa_nil))) pa_nil))))))))),?_⟩
    obtain ⟨l,r,t,hp,k,ob,hax,hd⟩:=id hB
    obtain ⟨as,hl,hpp⟩:=id hd.ln
    have hla:=Paired.length hpp
    have hc:=hd.hc
    refine ⟨_,rfl,a,dx,_,rfl,ob,rfl,_,rfl,xs,a,dx,s,i,rfl,hB,_,rfl,?_⟩
    by_cases hi:0≤i∧i<(s.code.length:Int)
    case neg=>
      refine iteBT (by simp [hi]) ⟨(by show 1≤sizeLine; decide),?_⟩
      exact q.one (by rw [asked_sweep,line_out hi]; rfl) (Same.refl H)
    refine iteBF (by simp [hi]) ?_
    have hln:=line_in (s:=s) hi
    refine ⟨_,rfl,_,rfl,a,C,dx,_,_,rfl,ob,BC.cl,BC.nL,rfl,l,_,rfl,.inl (SqL.of hl),?_⟩
    rw [List.length_map,hla]
    refine ⟨nl,ns,s.code.length,rfl,hnl,by omega,by omega,hbd,fun H1 s1 hN => ?_,fun H1 p ws s1 hp1 hW ht hF => ?_⟩
    · have ob1:=s1 _ _ ob
      refine ⟨_,rfl,a,dx,_,rfl,ob1,rfl,_,rfl,xs,a,dx,s,.non,rfl,hB.keep s1,?_⟩
      refine ⟨_,rfl,rfl,_,rfl,iteBT rfl ⟨_,rfl,(by show 1≤sizeLine; decide),?_⟩⟩
      exact q.one (by rw [asked_sweep,hln,bindO,weights_none s hN]; rfl) s1
    · have ob1:=s1 _ _ ob
      have hw:=weights_some s hW
      refine ⟨_,rfl,a,dx,_,rfl,ob1,rfl,_,rfl,xs,a,dx,s,.ref p,rfl,hB.keep s1,?_⟩
      rw [if_neg (by intro e; cases e)]
      cases hv:s.vals with
      | error n=>
        refine ⟨_,rfl,rfl,_,rfl,iteBT rfl ⟨_,rfl,(by show 1≤sizeLine; decide),?_⟩⟩
        exact q.one (by rw [asked_sweep,hln,bindO,hw,bindO,hv]; rfl) s1
      | ok us=>
        have R:=(hd.ready ob hv).keep s1
        refine ⟨_,rfl,rfl,_,rfl,iteBF rfl ?_⟩
        obtain ⟨D,B,fit,h60,hA⟩:=weights_fit hlen hW ht
        refine ⟨_,rfl,a,C,dx,_,_,rfl,R.ob,BC.cl,BC.nL,rfl,l,_,rfl,.inl (SqL.of (s1 _ _ hl)),(by show 1≤sizeLine; decide),fun l1 hl1 => ?_⟩
        have e1:([V.int (((as.map V.ref).length:Nat):Int)]:List V)=[(s.code.length:Int)].map V.int:=by rw [List.length_map,hla]; rfl
        rw [e1]
        have s2:=Same.new (o:=.lst ([(s.code.length:Int)].map V.int)) hl1
        have R2:=R.keep s2
        refine ⟨_,rfl,a,dx,_,rfl,R2.ob,rfl,_,rfl,_,rfl,a,dx,l,r,t,p,s,us,k,i.toNat,_,_,_,D,B,(by rw [show ((i.toNat:Nat):Int)=i by omega]; rfl),R2,hF.keep s2,seeds_length _ _,by omega,hA,fit,h60,by omega,fun H3 p3 s3 hp3 hF3 => ?_⟩
        have sl:(sweepN (Vagraf.tape s.code us) (seeds s.code.length ws) (s.code.length - i.toNat)).length=s.code.length:=by rw [sweepN_length,seeds_length]
        refine ⟨l1,p3,[(s.code.length:Int)],_,rfl,SqL.of (s3 _ _ upd_same),hF3,(by show 1≤2000; decide),by rw [sl]; omega,fun H4 p4 s4 hp4 hA4 => ?_⟩
        refine q.tell ?_ ((s1.trans s2).trans s3) s4 hp4 hA4
        rw [asked_sweep,hln,bindO,hw,bindO,hv,bindO,R.tis.1]
        show Vagraf.tell [((sweepN (Vagraf.tape s.code us) (seeds s.code.length ws) (s.code.length - i.toNat)).length:Int)] _=_
        rw [sl]
abbrev st_Bench_answer_cost:Stmt:=inClass (top 63) 16
theorem sc_Bench_answer_cost:FnScope ["self","numbers","weights","refusal","operations","line"] ["self","numbers"] (defScope st_Bench_answer_cost):=⟨rfl,rfl,rfl,by decide +kernel,rfl,by decide +kernel,by decide +kernel⟩
def spCostA (K:PySem.W.Frag) (C:Addr):Sp:=fun vs H Q _ => ∃ (xs:List Addr) (a dx nl:Addr) (s:State) (ns:List Int),vs=[.ref a,.ref nl]∧BenchIs K C xs H a dx s∧SqL K H nl (ns.map V.int)∧ns.length≤400∧(∀ z∈ns,z.natAbs≤10 ^ 18)∧AnsTo H Q (s.asked (.cost ns))
theorem can_Bench_answer_cost (T:Txt K mg) (BC:BCls K C) (S:MSrc K C "answer_cost" "Bench.answer_cost" st_Bench_answer_cost ["self","numbers"]) (c_read_weights:Can P w K mg base 45 "read_weights" ["numbers","count"] (spReadW K)) (c_Bench_read_refusal:CanM P w K mg base 43 C "read_refusal" ["self","read"] (spReadRef K C))
    (c_is_operation:Can P w K mg base 41 "is_operation" ["line"] (spIsOp K)) (c_Bench_sums_down_to:CanM P w K mg base 47 C "sums_down_to" ["self","number","weights"] (spSumsDown K C)) (c_sweep_cost:Can P w K mg base 43 "sweep_cost" ["lines","sums"] (spCost K)) :
    CanM P w K mg base 55 C "answer_cost" ["self","numbers"] (spCostA K C):=by
  have cl_Bench:=BC.cl
  refine S.can sc_Bench_answer_cost (fun vs H Q E h => ?_) (fun f cdv A outer s H vs Q E hr h => ?_)
  · obtain ⟨xs,a,dx,nl,s,ns,rfl,_⟩:=h
    rfl
  · obtain ⟨xs,a,dx,nl,s,ns,rfl,hB,hnl,hlen,hbd,q⟩:=h
    refine ⟨_,(pss_cons (ps_set (i:=2) sc_Bench_answer_cost.nd rfl (Or.inl rfl) (pe_can c_read_weights (hr.mono (by decide)) (pa_cons (pv 1) (pa_cons (pe_callB call_len_seq rfl T.n_len PySem.boot_len (pa_cons (pe_fld (pv 0) rfl) pa_nil)) pa_nil))))
      (pss_cons (ps_set (i:=3) sc_Bench_answer_cost.nd rfl (Or.inl rfl) (pe_canM c_Bench_read_refusal cl_Bench (hr.mono (by decide)) (pv 0) (pa_cons (pv 2) pa_nil)))
      (pss_cons (ps_if (pt_cmpR op_notN (pv 3) pe_non (nomark _)) (pss_one (ps_ret (pe_lst (pa_cons (pv 3) pa_nil)))) pss_nil)
      (pss_cons (ps_setLc (g:=(gName 5)) (i:=4) (own:=[("line",5)]) rfl sc_Bench_answer_cost.nd rfl rfl (sw_true rfl rfl rfl rfl) (pi_list (pe_fld (pv 0) rfl)) (blkOk_by (N:=["self","numbers","weights","refusal","operations","line"]) (sc:=defScope st_Bench_answer_cost) (by decide +kernel)) (fun _ _ _ _ _=>(pg_name (i:=5) sc_Bench_answer_cost.nd rfl (Or.inl rfl))) (fun _ _ _ _ _=>(pts_one (pt_val (pe_can c_is_operation (hr.mono (by decide)) (pa_cons (pv 5) pa_nil))))) (fun _ _ _ _ _=>(pv 5)))
      (pss_one (ps_ret (pe_lst (pa_cons (pe_callB call_len_seq rfl T.n_len PySem.boot_len (pa_cons (pv 4) pa_nil)) (pa_cons (pe_can c_sweep_cost (hr.mono (by decide)) (pa_cons (pe_fld (pv 0) rfl) (pa_cons (pe_canM c_Bench_sums_down_to cl_Bench (hr.mono (by decide)) (pv 0) (pa_cons pe_int (pa_cons (pv 2) pa_nil))) pa_nil))) pa_nil))))))))),?_⟩
    obtain ⟨l,r,t,hp,k,ob,hax,hd⟩:=id hB
    obtain ⟨as,hl,hpp⟩:=id hd.ln
    have hla:=Paired.length hpp
    have hc:=hd.hc
    refine ⟨_,rfl,_,rfl,a,C,dx,_,_,rfl,ob,BC.cl,BC.nL,rfl,l,_,rfl,.inl (SqL.of hl),?_⟩
    rw [List.length_map,hla]
    refine ⟨nl,ns,s.code.length,rfl,hnl,by omega,by omega,hbd,fun H1 s1 hN => ?_,fun H1 p ws s1 hp1 hW ht hF => ?_⟩
    · have ob1:=s1 _ _ ob
      refine ⟨_,rfl,a,dx,_,rfl,ob1,rfl,_,rfl,xs,a,dx,s,.non,rfl,hB.keep s1,?_⟩
      refine ⟨_,rfl,rfl,_,rfl,iteBT rfl ⟨_,rfl,(by show 1≤sizeLine; decide),?_⟩⟩
      exact q.one (by rw [asked_cost,weights_none s hN]; rfl) s1
    · have ob1:=s1 _ _ ob
      have hw:=weights_some s hW
      refine ⟨_,rfl,a,dx,_,rfl,ob1,rfl,_,rfl,xs,a,dx,s,.ref p,rfl,hB.keep s1,?_⟩
      rw [if_neg (by intro e; cases e)]
      cases hv:s.vals with
      | error n=>
        refine ⟨_,rfl,rfl,_,rfl,iteBT rfl ⟨_,rfl,(by show 1≤sizeLine; decide),?_⟩⟩
        exact q.one (by rw [asked_cost,hw,bindO,hv]; rfl) s1
      | ok us=>
        have R:=(hd.ready ob hv).keep s1
        refine ⟨_,rfl,rfl,_,rfl,iteBF rfl ?_⟩
        obtain ⟨D,B,fit,h60,hA⟩:=weights_fit hlen hW ht
        refine ⟨_,rfl,a,C,dx,_,_,rfl,R.ob,BC.cl,BC.nL,rfl,l,rfl,⟨_,SqL.of (s1 _ _ hl)⟩,fun D1 hD1 => ?_⟩
        refine lc_list (K:=K) (a:=l) (xs:=as.map V.ref) (fun i H'=>Same H1 H'∧∃ acc,H' D1=some (.lst acc)∧acc.length=((s.code.take i).filter VagraLine.Line.isOp).length)
          ⟨Same.new hD1,[],upd_same,rfl⟩ (fun i H' _ ⟨s2,_⟩=>SqL.of (s2 _ _ (s1 _ _ hl))) ?_ ?_
        · rintro i x H2 hx ⟨s2,acc,hacc,hal⟩
          obtain ⟨y,hy,rfl⟩:=ofmap hx
          obtain ⟨ln,hln,hLn⟩:=pgetL hpp hy
          have hii:=(List.getElem?_eq_some_iff.mp hln).1
          refine ⟨rfl,?_⟩
          refine ⟨_,rfl,y,ln,rfl,hLn.keep (s1.trans s2),_,rfl,?_⟩
          have hst:((s.code.take (i+1)).filter VagraLine.Line.isOp).length=((s.code.take i).filter VagraLine.Line.isOp).length+if ln.isOp=true then 1 else 0:=by
            rw [take_snoc hln,List.filter_append,List.length_append]
            congr 1
            cases e:ln.isOp with
            | true=>simp [e]
            | false=>simp [e]
          have hle:((s.code.take i).filter VagraLine.Line.isOp).length≤80:=Nat.le_trans (List.length_filter_le _ _) (by rw [List.length_take]; omega)
          cases hop:ln.isOp with
          | true=>
            refine iteBT rfl ?_
            rw [hop,if_pos rfl] at hst
            refine ⟨_,rfl,acc,hacc,line_lt (by omega),samePut hD1 s2,acc++[V.ref y],upd_same,?_⟩
            rw [List.length_append,hal,hst]
            rfl
          | false=>
            refine iteBF rfl ?_
            rw [hop,if_neg (by decide)] at hst
            exact ⟨s2,acc,hacc,by rw [hal,hst]; rfl⟩
        · rintro H2 ⟨s2,acc,hacc,hal⟩
          rw [List.length_map,hla,List.take_length] at hal
          have R2:=R.keep s2
          refine ⟨_,rfl,D1,_,rfl,.inl (SqL.of hacc),_,rfl,a,C,dx,_,_,rfl,R2.ob,BC.cl,BC.nL,rfl,_,rfl,a,dx,_,rfl,R2.ob,rfl,_,rfl,a,dx,l,r,t,p,s,us,k,0,_,_,_,D,B,rfl,R2,hF.keep s2,seeds_length _ _,Nat.zero_le _,hA,fit,h60,by omega,fun H3 p3 s3 hp3 hF3 => ?_⟩
          refine ⟨l,p3,s.code,_,rfl,R2.ln.keep s3,hF3,by rw [sweepN_length,seeds_length],fun H4 s4 => ?_⟩
          refine ⟨(by show 2≤sizeLine; decide),fun p5 hp5 => ?_⟩
          refine q.tell (x:=.ok [(VagraLine.ops s.code:Int),(Vagraf.sweepCost s.code (Vagraf.sums s.code us ws):Int)]) ?_ (((s1.trans s2).trans s3).trans s4) (Same.new hp5) hp5 ?_
          · rw [asked_cost,hw,bindO,hv]
            rfl
          · rw [upd_same,gradient_eq R,hal,Nat.sub_zero]
            rfl
end
end Ts
end
section
set_option maxRecDepth 100000
set_option maxHeartbeats 4000000
namespace Ts
open PySem PySem.Spec PyProof.Rows L2
open Vagraa (Frac)
open VagraLine (Line at_ fracsTold)
open Vagraf (State seeds)
theorem ints_nat {n:Nat} {ns:List Int} (h:∀ z∈ns,0≤z):ns.map V.int=natV (ns.map Int.toNat):=by
  unfold natV
  rw [List.map_map]
  refine List.map_congr_left fun z hz => ?_
  show V.int z=V.int ((z.toNat:Nat):Int)
  rw [Int.toNat_of_nonneg (h z hz)]
theorem outsOk_mem {n:Nat} {ns:List Int} (h:OutsOk n ns):∀ z∈ns,0≤z∧z<(n:Int):=fun z hz=>by
  have:=List.all_eq_true.mp h.1 z hz
  simpa using this
theorem fm_snoc {α β:Type} {l:List α} {i:Nat} {x:α} (f:α→List β) (h:l[i]? = some x):(l.take (i+1)).flatMap f=(l.take i).flatMap f++f x:=by
  rw [take_snoc h,List.flatMap_append,List.flatMap_singleton]
theorem fm_len {α β:Type} {f:α→List β} {n:Nat}:∀ (l:List α),(∀ x∈l,(f x).length=n)→(l.flatMap f).length=l.length*n
  | [],_=>by simp
  | x::l,h=>by
    rw [List.flatMap_cons,List.length_append,h x List.mem_cons_self,fm_len l fun y hy=>h y (List.mem_cons_of_mem _ hy),List.length_cons,Nat.succ_mul]
    omega
section
variable {P:Program} {w:World} {K:PySem.W.Frag} {mg:Str→Option Value} {base:Heap} {C:Addr}
abbrev st_Bench_answer_table:Stmt:=inClass (top 63) 17
theorem sc_Bench_answer_table:FnScope ["self","numbers","outs","refusal","rows","out"] ["self","numbers"] (defScope st_Bench_answer_table):=⟨rfl,rfl,rfl,by decide +kernel,rfl,by decide +kernel,by decide +kernel⟩
def spTableA (K:PySem.W.Frag) (C:Addr):Sp:=fun vs H Q _ => ∃ (xs:List Addr) (a dx nl:Addr) (s:State) (ns:List Int),vs=[.ref a,.ref nl]∧BenchIs K C xs H a dx s∧SqL K H nl (ns.map V.int)∧AnsTo H Q (s.asked (.table ns))
theorem can_Bench_answer_table (T:Txt K mg) (BC:BCls K C) (S:MSrc K C "answer_table" "Bench.answer_table" st_Bench_answer_table ["self","numbers"]) (c_read_outs:Can P w K mg base 43 "read_outs" ["numbers","count"] (spReadOuts K)) (c_Bench_read_refusal:CanM P w K mg base 43 C "read_refusal" ["self","read"] (spReadRef K C))
    (c_Bench_line_derivatives:CanM P w K mg base 51 C "line_derivatives" ["self","number"] (spLineDer K C)) (c_tell:Can P w K mg base 45 "tell" ["head","fractions"] (spTell K)) :
    CanM P w K mg base 55 C "answer_table" ["self","numbers"] (spTableA K C):=by
  have cl_Bench:=BC.cl
  refine S.can sc_Bench_answer_table (fun vs H Q E h => ?_) (fun f cdv A outer s H vs Q E hr h => ?_)
  · obtain ⟨xs,a,dx,nl,s,ns,rfl,_⟩:=h
    rfl
  · obtain ⟨xs,a,dx,nl,s,ns,rfl,hB,hnl,q⟩:=h
    refine ⟨_,(pss_cons (ps_set (i:=2) sc_Bench_answer_table.nd rfl (Or.inl rfl) (pe_can c_read_outs (hr.mono (by decide)) (pa_cons (pv 1) (pa_cons (pe_callB call_len_seq rfl T.n_len PySem.boot_len (pa_cons (pe_fld (pv 0) rfl) pa_nil)) pa_nil))))
      (pss_cons (ps_set (i:=3) sc_Bench_answer_table.nd rfl (Or.inl rfl) (pe_canM c_Bench_read_refusal cl_Bench (hr.mono (by decide)) (pv 0) (pa_cons (pv 2) pa_nil)))
      (pss_cons (ps_if (pt_cmpR op_notN (pv 3) pe_non (nomark _)) (pss_one (ps_ret (pe_lst (pa_cons (pv 3) pa_nil)))) pss_nil)
      (pss_cons (ps_set (i:=4) sc_Bench_answer_table.nd rfl (Or.inl rfl) (pe_lst pa_nil))
      (pss_cons (ps_for PassesOwn.never rfl (pi_list (pv 2)) (pg_name (i:=5) sc_Bench_answer_table.nd rfl (Or.inl rfl)) (pss_one (ps_expr (pe_bm PySem.F.plainAttrs_list PySem.F.slot_list_extend PySem.F.type_list_extend mt_extend (pv 4) (pa_cons (pe_canM c_Bench_line_derivatives cl_Bench (hr.mono (by decide)) (pv 0) (pa_cons (pv 5) pa_nil)) pa_nil)))))
      (pss_one (ps_ret (pe_can c_tell (hr.mono (by decide)) (pa_cons (pe_lst (pa_cons (pe_callB call_len_seq rfl T.n_len PySem.boot_len (pa_cons (pv 4) pa_nil)) pa_nil)) (pa_cons (pv 4) pa_nil)))))))))),?_⟩
    obtain ⟨l,r,t,hp,k,ob,hax,hd⟩:=id hB
    obtain ⟨as,hl,hpp⟩:=id hd.ln
    have hla:=Paired.length hpp
    have hc:=hd.hc
    refine ⟨_,rfl,_,rfl,a,C,dx,_,_,rfl,ob,BC.cl,BC.nL,rfl,l,_,rfl,.inl (SqL.of hl),?_⟩
    rw [List.length_map,hla]
    refine ⟨nl,ns,s.code.length,rfl,hnl,fun H1 s1 hN => ?_,fun H1 p s1 hp1 hO hpo => ?_⟩
    · have ob1:=s1 _ _ ob
      refine ⟨_,rfl,a,dx,_,rfl,ob1,rfl,_,rfl,xs,a,dx,s,.non,rfl,hB.keep s1,?_⟩
      refine ⟨_,rfl,rfl,_,rfl,iteBT rfl ⟨_,rfl,(by show 1≤sizeLine; decide),?_⟩⟩
      exact q.one (by rw [asked_table,outs_out hN]; rfl) s1
    · have ob1:=s1 _ _ ob
      have ho:=outs_in (s:=s) hO
      refine ⟨_,rfl,a,dx,_,rfl,ob1,rfl,_,rfl,xs,a,dx,s,.ref p,rfl,hB.keep s1,?_⟩
      rw [if_neg (by intro e; cases e)]
      cases hv:s.vals with
      | error n=>
        refine ⟨_,rfl,rfl,_,rfl,iteBT rfl ⟨_,rfl,(by show 1≤sizeLine; decide),?_⟩⟩
        exact q.one (by rw [asked_table,ho,bindO,hv]; rfl) s1
      | ok us=>
        have R:=(hd.ready ob hv).keep s1
        have hn:=R.hn
        have hmem:=outsOk_mem hO
        have glen:∀ x:Nat,(Vagraf.gradient s.inputs s.code us x).length=s.inputs:=fun x=>byInput_length _ _ _
        refine ⟨_,rfl,rfl,_,rfl,iteBF rfl ?_⟩
        refine ⟨Nat.zero_le _,fun rl hrl => ?_⟩
        have s2:=Same.new (o:=.lst []) hrl
        have hrl0:=s1.free hrl
        refine ⟨_,rfl,p,rfl,⟨_,SqL.of (s2 _ _ hpo)⟩,for_list (K:=K) (a:=p) (xs:=ns.map V.int) (fun i σ H' => ∃ v5:Option V,σ=[some (.ref a),some (.ref nl),some (.ref p),some .non,some (.ref rl),v5]∧Same H1 H'∧IsFs K H' rl (((ns.map Int.toNat).take i).flatMap (Vagraf.gradient s.inputs s.code us)))
          ⟨none,rfl,s2,[],upd_same,.nil⟩ (fun i σ H' _ ⟨_,_,s3,_⟩=>SqL.of (s3 _ _ hpo)) ?_ ?_⟩
        · rintro i x σ H2 hx ⟨v5,rfl,s3,es,hE1,hE2⟩
          obtain ⟨z,hz,rfl⟩:=ofmapI hx
          have hzz:=hmem z (List.mem_of_getElem? hz)
          have hzn:(ns.map Int.toNat)[i]? = some z.toNat:=by rw [List.getElem?_map,hz]; rfl
          have R2:=R.keep s3
          have hil:=(List.getElem?_eq_some_iff.mp hz).1
          have h12:=hO.2
          have hesl:=Paired.length hE2
          rw [fm_len _ (fun x _=>glen x),List.length_take,List.length_map] at hesl
          refine ⟨_,rfl,.inl ⟨rfl,_,SqL.of hE1⟩,_,rfl,a,dx,_,rfl,R2.ob,rfl,_,rfl,a,dx,l,r,t,s,us,k,z.toNat,(by rw [show ((z.toNat:Nat):Int)=z by omega]; rfl),R2,by omega,fun H3 p3 s4 hp3 hF3 => ?_⟩
          obtain ⟨gs,hg1,hg2⟩:=hF3
          have hgl:=Paired.length hg2
          rw [glen] at hgl
          have hE3:=s4 _ _ hE1
          have hmul:min i ns.length*s.inputs≤12*12:=Nat.mul_le_mul (by omega) hn
          refine ⟨rl,p3,_,_,rfl,rfl,hE3,hg1,by rw [List.length_map,List.length_map]; exact line_le (by omega),?_⟩
          refine ⟨_,rfl,samePut hrl (s3.trans s4),es++gs,by rw [upd_same,List.map_append],?_⟩
          rw [fm_snoc _ hzn]
          exact pappend (putF' (keepF hE2 s4) hE3) (putF' hg2 hE3)
        · rintro σ H2 ⟨v5,rfl,s3,hE⟩
          rw [List.length_map,← List.length_map Int.toNat,List.take_length] at hE
          obtain ⟨es,hE1,hE2⟩:=id hE
          have hesl:=Paired.length hE2
          have hflen:((ns.map Int.toNat).flatMap (Vagraf.gradient s.inputs s.code us)).length=ns.length*s.inputs:=by rw [fm_len _ (fun x _=>glen x),List.length_map]
          have hmul:ns.length*s.inputs≤12*12:=Nat.mul_le_mul hO.2 hn
          refine ⟨_,rfl,rl,_,rfl,.inl (SqL.of hE1),(by show 1≤sizeLine; decide),fun l1 hl1 => ?_⟩
          have s4:=Same.new (o:=.lst [V.int (((es.map V.ref).length:Nat):Int)]) hl1
          have e1:([V.int (((es.map V.ref).length:Nat):Int)]:List V)=[(((ns.map Int.toNat).flatMap (Vagraf.gradient s.inputs s.code us)).length:Int)].map V.int:=by rw [List.length_map,hesl]; rfl
          refine ⟨_,rfl,l1,rl,[(((ns.map Int.toNat).flatMap (Vagraf.gradient s.inputs s.code us)).length:Int)],_,rfl,?_,hE.keep s4,(by show 1≤2000; decide),by rw [hflen]; omega,fun H4 p4 s5 hp4 hA4 => ?_⟩
          · rw [← e1]
            exact SqL.of upd_same
          · refine q.tell ?_ ((s1.trans s3).trans s4) s5 hp4 hA4
            rw [asked_table,ho,bindO,hv]
            rfl
abbrev st_Bench_answer_along:Stmt:=inClass (top 63) 18
theorem sc_Bench_answer_along:FnScope ["self","number","numbers","direction","refusal","slope","derivative","step"] ["self","number","numbers"] (defScope st_Bench_answer_along):=⟨rfl,rfl,rfl,by decide +kernel,rfl,by decide +kernel,by decide +kernel⟩
def spAlongA (K:PySem.W.Frag) (C:Addr):Sp:=fun vs H Q _ => ∃ (xs:List Addr) (a dx nl:Addr) (s:State) (i:Int) (ns:List Int),vs=[.ref a,.int i,.ref nl]∧BenchIs K C xs H a dx s∧SqL K H nl (ns.map V.int)∧ns.length≤400∧(∀ z∈ns,z.natAbs≤10 ^ 18)∧AnsTo H Q (s.asked (.along i ns))
theorem fracs_N (n:Nat) (ns:List Int):Vagraf.fracs n ns=match fracsN n ns with | some fs => .ok fs | none => .error (-2):=fracs_eq n ns
theorem fracsN_some {n:Nat} {ns:List Int} {fs:List Frac} (h:fracsN n ns=some fs):fs.length=n∧VagraLine.fracsOf ns=some fs:=by
  unfold fracsN at h
  cases e:VagraLine.fracsOf ns with
  | none=>rw [e] at h; cases h
  | some gs=>
    rw [e] at h
    simp only at h
    by_cases hl:gs.length=n
    · rw [if_pos hl] at h
      cases h
      exact ⟨hl,rfl⟩
    · rw [if_neg hl] at h
      cases h
theorem can_Bench_answer_along (T:Txt K mg) (BC:BCls K C) (S:MSrc K C "answer_along" "Bench.answer_along" st_Bench_answer_along ["self","number","numbers"]) (c_Bench_is_line:CanM P w K mg base 43 C "is_line" ["self","number"] (spIsLine K C)) (c_read_fractions:Can P w K mg base 45 "read_fractions" ["numbers","count"] (spReadFr K)) (c_Bench_read_refusal:CanM P w K mg base 43 C "read_refusal" ["self","read"] (spReadRef K C))
    (c_Bench_line_derivatives:CanM P w K mg base 51 C "line_derivatives" ["self","number"] (spLineDer K C)) (c_plus:Can P w K mg base 43 "plus" ["first","second"] (spPlus K)) (c_times:Can P w K mg base 43 "times" ["first","second"] (spTimes K)) (c_tell:Can P w K mg base 45 "tell" ["head","fractions"] (spTell K)) :
    CanM P w K mg base 55 C "answer_along" ["self","number","numbers"] (spAlongA K C):=by
  have cl_Bench:=BC.cl
  obtain ⟨a_ZERO,h_ZERO,i_ZERO⟩:=T.t_ZERO
  refine S.can sc_Bench_answer_along (fun vs H Q E h => ?_) (fun f cdv A outer s H vs Q E hr h => ?_)
  · obtain ⟨xs,a,dx,nl,s,i,ns,rfl,_⟩:=h
    rfl
  · obtain ⟨xs,a,dx,nl,s,i,ns,rfl,hB,hnl,hlen,hbd,q⟩:=h
    refine ⟨_,(pss_cons (ps_if (pt_not (pt_val (pe_canM c_Bench_is_line cl_Bench (hr.mono (by decide)) (pv 0) (pa_cons (pv 1) pa_nil)))) (pss_one (ps_ret (pe_lst (pa_cons (pe_gc T.c_BAD_NUMBER) pa_nil)))) pss_nil)
      (pss_cons (ps_set (i:=3) sc_Bench_answer_along.nd rfl (Or.inl rfl) (pe_can c_read_fractions (hr.mono (by decide)) (pa_cons (pv 2) (pa_cons (pe_fld (pv 0) rfl) pa_nil))))
      (pss_cons (ps_set (i:=4) sc_Bench_answer_along.nd rfl (Or.inl rfl) (pe_canM c_Bench_read_refusal cl_Bench (hr.mono (by decide)) (pv 0) (pa_cons (pv 3) pa_nil)))
      (pss_cons (ps_if (pt_cmpR op_notN (pv 4) pe_non (nomark _)) (pss_one (ps_ret (pe_lst (pa_cons (pv 4) pa_nil)))) pss_nil)
      (pss_cons (ps_set (i:=5) sc_Bench_answer_along.nd rfl (Or.inl rfl) (pe_glob rfl h_ZERO rfl (v:=V.ref a_ZERO)))
      (pss_cons (ps_for PassesOwn.never rfl (pi_zip rfl T.n_zip (pa_cons (pe_canM c_Bench_line_derivatives cl_Bench (hr.mono (by decide)) (pv 0) (pa_cons (pv 1) pa_nil)) (pa_cons (pv 3) pa_nil))) (pg_tup rfl (pgs_cons (pg_name (i:=6) sc_Bench_answer_along.nd rfl (Or.inl rfl)) (pgs_cons (pg_name (i:=7) sc_Bench_answer_along.nd rfl (Or.inl rfl)) pgs_nil))) (pss_one (ps_set (i:=5) sc_Bench_answer_along.nd rfl (Or.inl rfl) (pe_can c_plus (hr.mono (by decide)) (pa_cons (pv 5) (pa_cons (pe_can c_times (hr.mono (by decide)) (pa_cons (pv 6) (pa_cons (pv 7) pa_nil))) pa_nil))))))
      (pss_one (ps_ret (pe_can c_tell (hr.mono (by decide)) (pa_cons (pe_lst (pa_cons pe_int pa_nil)) (pa_cons (pe_lst (pa_cons (pv 5) pa_nil)) pa_nil))))))))))),?_⟩
    obtain ⟨l,r,t,hp,k,ob,hax,hd⟩:=id hB
    have hn:=hd.hn
    refine ⟨_,rfl,a,dx,_,rfl,ob,rfl,_,rfl,xs,a,dx,s,i,rfl,hB,_,rfl,?_⟩
    by_cases hi:0≤i∧i<(s.code.length:Int)
    case neg=>
      refine iteBT (by simp [hi]) ⟨(by show 1≤sizeLine; decide),?_⟩
      exact q.one (by rw [asked_along,line_out hi]; rfl) (Same.refl H)
    refine iteBF (by simp [hi]) ?_
    have hln:=line_in (s:=s) hi
    refine ⟨_,rfl,_,rfl,a,C,dx,_,_,rfl,ob,BC.cl,BC.nI,rfl,nl,ns,s.inputs,rfl,hnl,by omega,by omega,fun H1 s1 hN => ?_,fun H1 p fs s1 hp1 hW hF => ?_⟩
    · have ob1:=s1 _ _ ob
      refine ⟨_,rfl,a,dx,_,rfl,ob1,rfl,_,rfl,xs,a,dx,s,.non,rfl,hB.keep s1,?_⟩
      refine ⟨_,rfl,rfl,_,rfl,iteBT rfl ⟨_,rfl,(by show 1≤sizeLine; decide),?_⟩⟩
      exact q.one (by rw [asked_along,hln,bindO,fracs_N,hN]; rfl) s1
    · have ob1:=s1 _ _ ob
      obtain ⟨hfl,hfo⟩:=fracsN_some hW
      have hft:=fracsOf_told ns fs hfo hbd
      refine ⟨_,rfl,a,dx,_,rfl,ob1,rfl,_,rfl,xs,a,dx,s,.ref p,rfl,hB.keep s1,?_⟩
      rw [if_neg (by intro e; cases e)]
      cases hv:s.vals with
      | error n=>
        refine ⟨_,rfl,rfl,_,rfl,iteBT rfl ⟨_,rfl,(by show 1≤sizeLine; decide),?_⟩⟩
        exact q.one (by rw [asked_along,hln,bindO,fracs_N,hW]; show (s.vals >>= _)=_; rw [hv]; rfl) s1
      | ok us=>
        have R:=(hd.ready ob hv).keep s1
        have hc:=R.hc
        refine ⟨_,rfl,rfl,_,rfl,iteBF rfl ?_⟩
        obtain ⟨E1,hTB,fE⟩:=tape_fit (c:=s.code) R.hc R.lt
        have hsw:=(one_AllB (n:=s.code.length) (i:=i.toNat)).sweptN fE.pos hTB s.code.length (by rw [R.tis.1]; exact Nat.le_refl _)
        have hgr:=hsw.byN s.inputs s.code s.code.length (Nat.le_refl _) (by rw [sweepN_length,seeds_length]; exact Nat.le_refl _)
        rw [byN_all (Nat.le_refl _)] at hgr
        have ge:Vagraf.gradient s.inputs s.code us i.toNat=Vagraf.byInput s.inputs s.code (sweepN (Vagraf.tape s.code us) (seeds s.code.length [(i.toNat,Vagraa.one)]) s.code.length):=by
          unfold Vagraf.gradient Vagraf.pulled
          rw [gradient_eq R]
        rw [← ge] at hgr
        have gl:(Vagraf.gradient s.inputs s.code us i.toNat).length=s.inputs:=byInput_length _ _ _
        obtain ⟨Dd,fd,hdA⟩:=told_common hft
        have f1:Fit 0 0 1 1:=⟨by decide,by decide,by decide⟩
        have f2:=(f1.mul ((fit402 fE).pow s.code.length)).times (k:=s.code.length) (j:=7) (by omega)
        have b1:64000*s.code.length≤64000*80:=Nat.mul_le_mul_left _ hc
        have b2:402*s.code.length≤402*80:=Nat.mul_le_mul_left _ hc
        have b3:60*fs.length≤60*12:=Nat.mul_le_mul_left _ (by omega)
        have f3:=f2.mul fd
        have f4:=f3.times (k:=16) (j:=4) (by decide)
        refine ⟨_,rfl,a,dx,_,rfl,R.ob,rfl,_,rfl,a,dx,l,r,t,s,us,k,i.toNat,(by rw [show ((i.toNat:Nat):Int)=i by omega]; rfl),R,by omega,fun H2 gp s2 hgp hG => ?_⟩
        obtain ⟨ga,hga,hgb⟩:=id hG
        obtain ⟨fa,hfa,hfb⟩:=hF.keep s2
        have hgal:=Paired.length hgb
        have hfal:=Paired.length hfb
        have s12:=s1.trans s2
        refine ⟨_,rfl,gp,p,_,_,rfl,SqL.of hga,SqL.of hfa,for_zip (K:=K) (a:=gp) (b:=p) (xs:=ga.map V.ref) (ys:=fa.map V.ref) (by rw [List.length_map,List.length_map]; omega) (fun j σ H' => ∃ (sa:Addr) (v6 v7:Option V),σ=[some (.ref a),some (.int i),some (.ref nl),some (.ref p),some .non,some (.ref sa),v6,v7]∧Same H2 H'∧IsF K H' sa (dotN (Vagraf.gradient s.inputs s.code us i.toNat) fs j))
          ⟨a_ZERO,none,none,rfl,Same.refl H2,⟨i_ZERO _,zero_wf⟩⟩ (fun j σ H' _ ⟨_,_,_,_,s3,_⟩=>⟨SqL.of (s3 _ _ hga),SqL.of (s3 _ _ hfa)⟩) ?_ ?_⟩
        · rintro j x y Tp σ H3 hx hy ⟨sa,v6,v7,rfl,s3,hS⟩ hT
          obtain ⟨b,hb,rfl⟩:=ofmap hx
          obtain ⟨d,hd',rfl⟩:=ofmap hy
          obtain ⟨g,hg1,hg2⟩:=pgetL hgb hb
          obtain ⟨h,hh1,hh2⟩:=pgetL hfb hd'
          have hjg:=(List.getElem?_eq_some_iff.mp hg1).1
          have hjf:=(List.getElem?_eq_some_iff.mp hh1).1
          have sT:=Same.new (o:=.tup [V.ref b,V.ref d]) hT
          have s4:=s3.trans sT
          have bg:=hgr g (List.mem_of_getElem? hg1)
          have bh:=hdA h (List.mem_of_getElem? hh1)
          obtain ⟨dw,db⟩:=dotN_bd hgr hdA j (by omega) (by omega)
          refine ⟨Tp,_,rfl,SqT.of upd_same,rfl,_,_,rfl,_,_,rfl,rfl,?_⟩
          refine ⟨_,rfl,_,rfl,_,rfl,b,d,g,h,rfl,hg2.keep s4,hh2.keep s4,f2.small bg.2 (by omega),fd.small bh.2 (by omega),fun p2 hp2 => ?_⟩
          have s5:=Same.new (o:=.tup (tupF (Vagraa.mul g h))) hp2
          refine ⟨sa,p2,_,_,rfl,(hS.keep sT).keep s5,IsF.new (mul_wf bg.1 bh.1),f4.small (db.mono (Nat.dvd_refl _) (Nat.mul_le_mul_right _ (by omega))) (by omega),f3.small (Bd.mul bg.1 bh.1 bg.2 bh.2) (by omega),fun p3 hp3 => ?_⟩
          have s6:=Same.new (o:=.tup (tupF (Vagraa.add (dotN (Vagraf.gradient s.inputs s.code us i.toNat) fs j) (Vagraa.mul g h)))) hp3
          refine ⟨p3,_,_,rfl,(s4.trans s5).trans s6,?_⟩
          rw [dotN_succ hg1 hh1]
          exact IsF.new (add_wf dw (mul_wf bg.1 bh.1))
        · rintro σ H3 ⟨sa,v6,v7,rfl,s3,hS⟩
          rw [List.length_map,hgal,dotN_all (Nat.le_refl _)] at hS
          refine ⟨(by show 1≤sizeLine; decide),fun l1 hl1 => ?_⟩
          have s4:=Same.new (o:=.lst [V.int 1]) hl1
          refine ⟨_,rfl,(by show 1≤sizeLine; decide),fun l2 hl2 => ?_⟩
          have s5:=Same.new (o:=.lst [V.ref sa]) hl2
          refine ⟨l1,l2,[1],[Vagraf.dot (Vagraf.gradient s.inputs s.code us i.toNat) fs],rfl,SqL.of (s5 _ _ upd_same),⟨[sa],upd_same,.cons ((hS.keep s4).keep s5) .nil⟩,(by show 1≤2000; decide),(by show 1≤2000; decide),fun H4 p4 s6 hp4 hA4 => ?_⟩
          refine q.tell ?_ (((s12.trans s3).trans s4).trans s5) s6 hp4 hA4
          rw [asked_along,hln,bindO,fracs_N,hW]
          show (s.vals >>= _)=_
          rw [hv]
          rfl
end
end Ts
end
section
set_option maxRecDepth 100000
set_option maxHeartbeats 4000000
namespace Ts
open PySem PySem.Spec PyProof.Rows L2
open Vagraa (Frac)
open VagraLine (Line at_ fracsTold)
open Vagraf (State seeds Worked takeOut takenOut worked)
section
variable {P:Program} {w:World} {K:PySem.W.Frag} {mg:Str→Option Value} {base:Heap} {C Cw:Addr}
theorem made_work {B H':Hp} {x dx g cc l r t a0 d0:Addr} {gs cs:List Addr} {s:State} {us:List Frac} {fk:Int} {outs:List Nat} {E1:Nat} {H0:Hp} (R:Ready K C H0 a0 d0 l r t s us fk) (hTB:TapeB E1 (2 ^ 400) (Vagraf.tape s.code us)) (fE:Fit 64000 400 E1 (2 ^ 400)) (ho:outs.length≤12)
    (W:WaysIs K Cw B H' x dx g cc gs cs s.code.length (s.code.length+outs.length) (puts noWay (wayL s.code (Vagraf.tape s.code us) outs)) (Ct noWay (wayL s.code (Vagraf.tape s.code us) outs)) 0 0)
    (gd:GoodI s.code.length (s.code.length+outs.length) E1 (2 ^ 400) (wayL s.code (Vagraf.tape s.code us) outs).length (puts noWay (wayL s.code (Vagraf.tape s.code us) outs))) :
    ∃ B0,Fit 64000 412 E1 B0∧WorkIs K Cw B H' x dx g cc gs cs s.code.length (s.code.length+outs.length) E1 B0 0 (worked s.code us outs):=by
  obtain ⟨e1,e2⟩:=waysOf_ok s.code us outs
  have hc:=R.hc
  have hlen:(wayL s.code (Vagraf.tape s.code us) outs).length≤2 ^ 12:=by
    unfold wayL
    rw [List.length_append]
    have h1:=lineL_len (t:=Vagraf.tape s.code us) (fun ps h=>(hTB ps h).1) _ (Nat.le_refl _)
    have h2:=outL_len s.code.length outs outs.length
    have h3:=R.tis.1
    omega
  refine ⟨_,fE.times hlen,?_,e2,?_⟩
  · show WaysIs K Cw B H' x dx g cc gs cs _ _ (wget (Vagraf.waysOf s.code us outs)) (fun u x=>(wget (Vagraf.waysOf s.code us outs) u x).isSome) 0 0
    rw [e1]
    exact W
  · show GoodW _ _ _ (2 ^ 0*_) (wget (Vagraf.waysOf s.code us outs))
    rw [e1,Nat.pow_zero,Nat.one_mul]
    exact gd.good
abbrev st_Bench_answer_eliminate:Stmt:=inClass (top 63) 19
theorem sc_Bench_answer_eliminate:FnScope ["self","out_numbers","order_numbers","outs","order","refusal","ways","number","left","place"] ["self","out_numbers","order_numbers"] (defScope st_Bench_answer_eliminate):=⟨rfl,rfl,rfl,by decide +kernel,rfl,by decide +kernel,by decide +kernel⟩
def spElimA (K:PySem.W.Frag) (C:Addr):Sp:=fun vs H Q _ => ∃ (xs:List Addr) (a dx nl ol:Addr) (s:State) (ns os:List Int),vs=[.ref a,.ref nl,.ref ol]∧BenchIs K C xs H a dx s∧SqL K H nl (ns.map V.int)∧SqL K H ol (os.map V.int)∧AnsTo H Q (s.asked (.eliminate ns os))
theorem can_Bench_answer_eliminate (T:Txt K mg) (BC:BCls K C) (WC:WCls K Cw) (S:MSrc K C "answer_eliminate" "Bench.answer_eliminate" st_Bench_answer_eliminate ["self","out_numbers","order_numbers"]) (c_read_outs:Can P w K mg base 43 "read_outs" ["numbers","count"] (spReadOuts K)) (c_read_order:Can P w K mg base 45 "read_order" ["numbers","lines"] (spReadOrder K))
    (c_Bench_run_refusal:CanM P w K mg base 41 C "run_refusal" ["self"] (spRunRef K C)) (mkW:PySem.W.makesIn K Cw=true) (kpW:PySem.W.keepIn K (.ref Cw)=true) (g_Ways:mg "Ways" = some (.ref Cw)) (c_init:CanM P w K mg base 47 Cw "__init__" ["self","lines","tape","outs"] (spWaysInit K Cw))
    (c_Ways_take_out:CanM P w K mg base 47 Cw "take_out" ["self","number"] (spTakeW K Cw)) (c_by_inputs:Can P w K mg base 45 "by_inputs" ["lines","inputs","sums"] (spByIn K)) (c_Ways_worths_to_end:CanM P w K mg base 41 Cw "worths_to_end" ["self","place"] (spWorths K Cw)) (c_tell:Can P w K mg base 45 "tell" ["head","fractions"] (spTell K)) :
    CanM P w K mg base 55 C "answer_eliminate" ["self","out_numbers","order_numbers"] (spElimA K C):=by
  have cl_Bench:=BC.cl
  have cl_Ways:=WC.cl
  obtain ⟨f_i,fd_i,F_Ways___init__,b_Ways___init__,m_i⟩:=c_init
  have M_Ways:Mk K Cw f_i:=⟨mkW,m_i.at_,m_i.fn,kpW⟩
  refine S.can sc_Bench_answer_eliminate (fun vs H Q E h => ?_) (fun f cdv A outer s H vs Q E hr h => ?_)
  · obtain ⟨xs,a,dx,nl,ol,s,ns,os,rfl,_⟩:=h
    rfl
  · obtain ⟨xs,a,dx,nl,ol,s,ns,os,rfl,hB,hnl,hol,q⟩:=h
    refine ⟨_,(pss_cons (ps_set (i:=3) sc_Bench_answer_eliminate.nd rfl (Or.inl rfl) (pe_can c_read_outs (hr.mono (by decide)) (pa_cons (pv 1) (pa_cons (pe_callB call_len_seq rfl T.n_len PySem.boot_len (pa_cons (pe_fld (pv 0) rfl) pa_nil)) pa_nil))))
      (pss_cons (ps_set (i:=4) sc_Bench_answer_eliminate.nd rfl (Or.inl rfl) (pe_can c_read_order (hr.mono (by decide)) (pa_cons (pv 2) (pa_cons (pe_fld (pv 0) rfl) pa_nil))))
      (pss_cons (ps_if (PW.pt (pw_or (pt_cmpR op_isN (pv 3) pe_non (nomark _)) (pw_or1 (pt_cmpR op_isN (pv 4) pe_non (nomark _))))) (pss_one (ps_ret (pe_lst (pa_cons (pe_gc T.c_BAD_FORM) pa_nil)))) pss_nil)
      (pss_cons (ps_set (i:=5) sc_Bench_answer_eliminate.nd rfl (Or.inl rfl) (pe_canM0 c_Bench_run_refusal cl_Bench (hr.mono (by decide)) (pv 0)))
      (pss_cons (ps_if (pt_cmpR op_notN (pv 5) pe_non (nomark _)) (pss_one (ps_ret (pe_lst (pa_cons (pv 5) pa_nil)))) pss_nil)
      (pss_cons (ps_set (i:=6) sc_Bench_answer_eliminate.nd rfl (Or.inl rfl) (pe_make M_Ways F_Ways___init__ (hr.mono (by decide)) rfl g_Ways b_Ways___init__ .nil pass0 (pa_cons (pe_fld (pv 0) rfl) (pa_cons (pe_fld (pv 0) rfl) (pa_cons (pv 3) pa_nil)))))
      (pss_cons (ps_for PassesOwn.never rfl (pi_list (pv 4)) (pg_name (i:=7) sc_Bench_answer_eliminate.nd rfl (Or.inl rfl)) (pss_one (ps_expr (pe_canM c_Ways_take_out cl_Ways (hr.mono (by decide)) (pv 6) (pa_cons (pv 7) pa_nil)))))
      (pss_cons (ps_set (i:=8) sc_Bench_answer_eliminate.nd rfl (Or.inl rfl) (pe_lst pa_nil))
      (pss_cons (ps_for PassesOwn.never rfl (pi_range1 rfl T.n_range (pa_cons (pe_callB call_len_seq rfl T.n_len PySem.boot_len (pa_cons (pv 3) pa_nil)) pa_nil)) (pg_name (i:=9) sc_Bench_answer_eliminate.nd rfl (Or.inl rfl)) (pss_one (ps_expr (pe_bm PySem.F.plainAttrs_list PySem.F.slot_list_extend PySem.F.type_list_extend mt_extend (pv 8) (pa_cons (pe_can c_by_inputs (hr.mono (by decide)) (pa_cons (pe_fld (pv 0) rfl) (pa_cons (pe_fld (pv 0) rfl) (pa_cons (pe_canM c_Ways_worths_to_end cl_Ways (hr.mono (by decide)) (pv 6) (pa_cons (pv 9) pa_nil)) pa_nil)))) pa_nil)))))
      (pss_one (ps_ret (pe_can c_tell (hr.mono (by decide)) (pa_cons (pe_lst (pa_cons (pe_fld (pv 6) rfl) (pa_cons (pe_fld (pv 6) rfl) pa_nil))) (pa_cons (pv 8) pa_nil)))))))))))))),?_⟩
    obtain ⟨l,r,t,hp,k,ob,hax,hd⟩:=id hB
    obtain ⟨as,hl,hpp⟩:=id hd.ln
    have hla:=Paired.length hpp
    have hc:=hd.hc
    refine ⟨_,rfl,_,rfl,a,C,dx,_,_,rfl,ob,BC.cl,BC.nL,rfl,l,_,rfl,.inl (SqL.of hl),?_⟩
    rw [List.length_map,hla]
    have hord:∀ H1,Same H H1→IsLns K H1 l s.code∧SqL K H1 ol (os.map V.int)∧H1 a=some (.ins C dx (bfs s.inputs l hp k r t)):=fun H1 s1=>⟨hd.ln.keep s1,s1.seq hol,s1 _ _ ob⟩
    refine ⟨nl,ns,s.code.length,rfl,hnl,fun H1 s1 hN => ?_,fun H1 p s1 hp1 hO hpo => ?_⟩
    · obtain ⟨o1,o2,o3⟩:=hord H1 s1
      have bad:∀ H2 (v:V),Same H H2→∀ p,H2 p=none→Q (.ref p) (upd H2 p (.lst [V.int (-2)])):=fun H2 _ s2=>q.one (by rw [asked_eliminate,outs_out hN]; rfl) s2
      refine ⟨_,rfl,_,rfl,a,C,dx,_,_,rfl,o3,BC.cl,BC.nL,rfl,ol,l,os,s.code,rfl,o2,o1,by omega,fun H2 s2 _ => ?_,fun H2 p2 s2 _ _ _ => ?_⟩
      · refine ⟨_,rfl,rfl,_,rfl,iteBT rfl (iteBT rfl ⟨(by show 1≤sizeLine; decide),?_⟩)⟩
        exact bad H2 .non (s1.trans s2)
      · refine ⟨_,rfl,rfl,_,rfl,iteBT rfl (iteBT rfl ⟨(by show 1≤sizeLine; decide),?_⟩)⟩
        exact bad H2 .non (s1.trans s2)
    obtain ⟨o1,o2,o3⟩:=hord H1 s1
    have ho:=outs_in (s:=s) hO
    refine ⟨_,rfl,_,rfl,a,C,dx,_,_,rfl,o3,BC.cl,BC.nL,rfl,ol,l,os,s.code,rfl,o2,o1,by omega,fun H2 s2 hbad => ?_,fun H2 p2 s2 hp2 hOr hpr => ?_⟩
    · refine ⟨_,rfl,rfl,_,rfl,iteBF rfl ⟨_,rfl,rfl,_,rfl,iteBT rfl ⟨(by show 1≤sizeLine; decide),?_⟩⟩⟩
      exact q.one (by rw [asked_eliminate,ho,bindO,order_out hbad]; rfl) (s1.trans s2)
    have hor:=order_in (s:=s) hOr
    have s12:=s1.trans s2
    have ob2:=s12 _ _ ob
    have hB2:=hB.keep s12
    refine ⟨_,rfl,rfl,_,rfl,iteBF rfl ⟨_,rfl,rfl,_,rfl,iteBF rfl ?_⟩⟩
    refine ⟨_,rfl,a,dx,_,rfl,ob2,rfl,xs,a,dx,s,rfl,hB2,?_⟩
    cases hv:s.vals with
    | error n=>
      refine ⟨_,rfl,rfl,_,rfl,iteBT rfl ⟨_,rfl,(by show 1≤sizeLine; decide),?_⟩⟩
      exact q.one (by rw [asked_eliminate,ho,bindO,hor,bindO,hv]; rfl) s12
    | ok us=>
      have R:=(hd.ready ob hv).keep s12
      have hn:=R.hn
      refine ⟨_,rfl,rfl,_,rfl,iteBF rfl ?_⟩
      have hmem:=outsOk_mem hO
      have h12:=hO.2
      have hpo2:H2 p=some (.lst (natV (ns.map Int.toNat))):=by
        rw [s2 _ _ hpo,ints_nat (n:=0) fun z hz=>(hmem z hz).1]
      have hpr2:H2 p2=some (.lst (natV (os.map Int.toNat))):=by
        rw [hpr,ints_nat (n:=0) fun z hz=>by have:=List.all_eq_true.mp hOr.1 z hz; simpa using this]
      obtain ⟨E1,hTB,fE⟩:=tape_fit (c:=s.code) R.hc R.lt
      have hoc:∀ o∈ns.map Int.toNat,o<s.code.length:=fun o ho'=>by
        obtain ⟨z,hz,rfl⟩:=List.mem_map.mp ho'
        have:=hmem z hz
        omega
      have hol12:(ns.map Int.toNat).length≤12:=by rw [List.length_map]; exact h12
      refine ⟨_,rfl,a,C,dx,_,_,rfl,R.ob,BC.cl,BC.nL,rfl,_,rfl,a,C,dx,_,_,rfl,R.ob,BC.cl,BC.nT,rfl,_,rfl,fun x dw hx hdw hne => ?_⟩
      have sW:Same H2 (upd (upd H2 dw (.own x)) x (.ins Cw dw [])):=(Same.new hdw).trans (Same.new (by rw [upd_ne (fun e=>hne e.symm)]; exact hx))
      refine ⟨H2,x,dw,l,t,p,s.code,Vagraf.tape s.code us,ns.map Int.toNat,E1,2 ^ 400,64000,400,rfl,upd_same,sW,hx,R.ln,R.tp,R.tis,hpo2,R.use,hoc,by omega,by omega,hTB,Nat.one_le_two_pow,fE,by decide,fun H3 g cc gs cs W3 gd3=>⟨rfl,?_⟩⟩
      obtain ⟨B0,f0,Wk3⟩:=made_work R hTB fE hol12 W3 gd3
      generalize hM:s.code.length+(ns.map Int.toNat).length=M at *
      have hM92:M≤92:=by omega
      have hsz:∀ t,t≤80→64000*M+1+(t+412)*M≤60000000:=fun t ht=>by
        have h1:64000*M≤64000*92:=Nat.mul_le_mul_left _ hM92
        have h2:(t+412)*M≤492*92:=Nat.mul_le_mul (by omega) hM92
        omega
      have hordl:(os.map Int.toNat).length≤80:=by
        rw [List.length_map,hOr.2.1]
        have hs:Vagraf.inner s.code ⊆ List.range s.code.length:=fun z hz=>List.mem_range.mpr (inner_mem hz)
        have:=(inner_nd s.code).length_le_of_subset hs
        rw [List.length_range] at this
        omega
      refine ⟨_,rfl,p2,rfl,⟨_,SqL.of (W3.sm _ _ hpr2)⟩,for_list (K:=K) (a:=p2) (xs:=natV (os.map Int.toNat)) (fun i σ H' => ∃ (v7 v8 v9:Option V) (gs' cs':List Addr),σ=[some (.ref a),some (.ref nl),some (.ref ol),some (.ref p),some (.ref p2),some .non,some (.ref x),v7,v8,v9]∧WorkIs K Cw H2 H' x dw g cc gs' cs' s.code.length M E1 B0 i (takenOut ((os.map Int.toNat).take i) (worked s.code us (ns.map Int.toNat))))
        ⟨none,none,none,gs,cs,rfl,Wk3⟩ (fun i σ H' _ ⟨_,_,_,_,_,_,Wk'⟩=>SqL.of (Wk'.W.sm _ _ hpr2)) ?_ ?_⟩
      · rintro i y σ H4 hy ⟨v7,v8,v9,gs',cs',rfl,Wk4⟩
        obtain ⟨v,hv',rfl⟩:=natV_get hy
        have hiv:=(List.getElem?_eq_some_iff.mp hv').1
        refine ⟨_,rfl,x,dw,_,rfl,Wk4.W.ob,rfl,_,rfl,H2,x,dw,g,cc,gs',cs',_,M,E1,B0,64000,412,i,v,_,rfl,Wk4,order_lt hOr v (List.mem_of_getElem? hv'),by omega,by omega,f0,hsz i (by omega),fun H5 gs2 cs2 Wk5 => ?_⟩
        refine ⟨_,_,_,gs2,cs2,rfl,?_⟩
        rw [take_snoc hv',taken_snoc]
        exact Wk5
      · rintro σ H4 ⟨v7,v8,v9,gs',cs',rfl,Wk4⟩
        rw [natV_len,List.take_length] at Wk4
        generalize hwk:takenOut (os.map Int.toNat) (worked s.code us (ns.map Int.toNat))=wk at *
        have R4:=R.keep Wk4.W.sm
        have s4:=s12.trans Wk4.W.sm
        refine ⟨Nat.zero_le _,fun ll hll => ?_⟩
        have s5:=Same.new (o:=.lst []) hll
        have hpo4:=Wk4.W.sm _ _ hpo2
        have hbl:∀ e,(Vagraf.byInput s.inputs s.code (endL (wget wk.ways) s.code.length (s.code.length+e))).length=s.inputs:=fun e=>byInput_length _ _ _
        refine ⟨_,rfl,p,_,rfl,.inl (SqL.of (s5 _ _ hpo4)),_,rfl,by omega,(by rw [natV_len]; omega),for_range (lo:=0) (n:=(((natV (ns.map Int.toNat)).length:Nat):Int).toNat) (fun i σ H' => ∃ v9:Option V,σ=[some (.ref a),some (.ref nl),some (.ref ol),some (.ref p),some (.ref p2),some .non,some (.ref x),v7,some (.ref ll),v9]∧Same H4 H'∧IsFs K H' ll (((ns.map Int.toNat).zipIdx.take i).flatMap fun o=>Vagraf.byInput s.inputs s.code (endL (wget wk.ways) s.code.length (s.code.length+o.2))))
          ⟨_,rfl,s5,[],upd_same,.nil⟩ ?_ ?_⟩
        · rintro i σ H5 hi ⟨v9',rfl,s6,es,hE1,hE2⟩
          have hil:i<(ns.map Int.toNat).length:=by
            have h1:=natV_len (ns.map Int.toNat)
            rw [h1] at hi
            omega
          have hzi:(ns.map Int.toNat).zipIdx[i]? = some ((ns.map Int.toNat)[i],i):=by
            rw [List.getElem?_zipIdx,List.getElem?_eq_getElem hil]
            simp
          have W6:=Wk4.W.keep s6
          have R6:=R4.keep s6
          have ei:(V.int ((0:Int)+(i:Nat)))=V.int ((i:Nat):Int):=by rw [Int.zero_add]
          rw [ei]
          refine ⟨_,rfl,.inl ⟨rfl,_,SqL.of hE1⟩,_,rfl,a,C,dx,_,_,rfl,R6.ob,BC.cl,BC.nL,rfl,_,rfl,a,C,dx,_,_,rfl,R6.ob,BC.cl,BC.nI,rfl,_,rfl,x,dw,_,rfl,W6.ob,rfl,_,rfl,H2,x,dw,g,cc,gs',cs',_,M,_,_,_,_,i,rfl,W6,by omega,fun H7 p7 s7 hp7 hF7 => ?_⟩
          have fE2:Fit 64000 (80+412+1) E1 (2 ^ 80*B0+1):=by
            have h1:=f0.times (k:=2 ^ 80) (j:=80) (Nat.le_refl _)
            refine ⟨h1.pos,h1.den,?_⟩
            have h2:=h1.num
            rw [Nat.pow_succ]
            have h3:1≤2 ^ (80+412):=Nat.one_le_two_pow
            omega
          have gd80:GoodW s.code.length M E1 (2 ^ 80*B0) (wget wk.ways):=Wk4.gd.mono (Nat.mul_le_mul_right _ (Nat.pow_le_pow_right (by decide) hordl))
          have hb1:64000*M≤64000*92:=Nat.mul_le_mul_left _ hM92
          have hb2:(80+412+1)*M≤493*92:=Nat.mul_le_mul_left _ hM92
          refine ⟨l,p7,s.inputs,s.code,_,_,_,_,_,rfl,(R6.keep s7).ln,hF7,by unfold endList; rw [List.length_map,List.length_range],by omega,by omega,R.ins,end_AllB gd80 (s.code.length+i),fE2.pow M,by omega,fun H8 p8 s8 hp8 hF8 => ?_⟩
          obtain ⟨bs,hb3,hb4⟩:=hF8
          have hE3:=s8 _ _ (s7 _ _ hE1)
          have hesl:=Paired.length hE2
          rw [fm_len _ (fun o _=>hbl o.2),List.length_take,List.length_zipIdx] at hesl
          have hbsl:=Paired.length hb4
          rw [byInput_length] at hbsl
          have hmul:min i (ns.map Int.toNat).length*s.inputs≤12*12:=Nat.mul_le_mul (by omega) hn
          refine ⟨ll,p8,_,_,rfl,rfl,hE3,hb3,by rw [List.length_map,List.length_map]; exact line_le (by omega),?_⟩
          refine ⟨_,rfl,samePut hll ((s6.trans s7).trans s8),es++bs,by rw [upd_same,List.map_append],?_⟩
          rw [fm_snoc _ hzi]
          exact pappend (putF' (keepF (keepF hE2 s7) s8) hE3) (putF' hb4 hE3)
        · rintro σ H5 ⟨v9',rfl,s6,hE⟩
          have el:((((natV (ns.map Int.toNat)).length:Nat):Int).toNat)=(ns.map Int.toNat).zipIdx.length:=by rw [natV_len,List.length_zipIdx]; omega
          rw [el,List.take_length,← table_eq] at hE
          have W6:=Wk4.W.keep s6
          have hTl:(Vagraf.tableOf s.inputs s.code (ns.map Int.toNat) wk.ways).length≤144:=by
            rw [table_eq,fm_len _ (fun o _=>hbl o.2),List.length_zipIdx]
            exact Nat.mul_le_mul hol12 hn
          refine ⟨_,rfl,x,Cw,dw,_,_,rfl,W6.ob,WC.cl,WC.nP,rfl,_,rfl,x,Cw,dw,_,_,rfl,W6.ob,WC.cl,WC.nS,rfl,(by show 2≤sizeLine; decide),fun l1 hl1 => ?_⟩
          have s7:=Same.new (o:=.lst [V.int (wk.products:Int),V.int (wk.sums:Int)]) hl1
          refine ⟨_,rfl,l1,ll,[(wk.products:Int),(wk.sums:Int)],_,rfl,SqL.of upd_same,hE.keep s7,(by show 2≤2000; decide),by omega,fun H8 p8 s8 hp8 hA8 => ?_⟩
          refine q.tell ?_ ((s4.trans s6).trans s7) s8 hp8 hA8
          rw [asked_eliminate,ho,bindO,hor,bindO,hv,bindO,hwk]
abbrev st_Bench_answer_greedy:Stmt:=inClass (top 63) 20
theorem sc_Bench_answer_greedy:FnScope ["self","numbers","outs","refusal","ways","order"] ["self","numbers"] (defScope st_Bench_answer_greedy):=⟨rfl,rfl,rfl,by decide +kernel,rfl,by decide +kernel,by decide +kernel⟩
def spGreedyA (K:PySem.W.Frag) (C:Addr):Sp:=fun vs H Q _ => ∃ (xs:List Addr) (a dx nl:Addr) (s:State) (ns:List Int),vs=[.ref a,.ref nl]∧BenchIs K C xs H a dx s∧SqL K H nl (ns.map V.int)∧AnsTo H Q (s.asked (.greedy ns))
theorem can_Bench_answer_greedy (T:Txt K mg) (BC:BCls K C) (WC:WCls K Cw) (S:MSrc K C "answer_greedy" "Bench.answer_greedy" st_Bench_answer_greedy ["self","numbers"]) (c_read_outs:Can P w K mg base 43 "read_outs" ["numbers","count"] (spReadOuts K)) (c_Bench_read_refusal:CanM P w K mg base 43 C "read_refusal" ["self","read"] (spReadRef K C))
    (mkW:PySem.W.makesIn K Cw=true) (kpW:PySem.W.keepIn K (.ref Cw)=true) (g_Ways:mg "Ways" = some (.ref Cw)) (c_init:CanM P w K mg base 47 Cw "__init__" ["self","lines","tape","outs"] (spWaysInit K Cw)) (c_take_out_greedily:Can P w K mg base 49 "take_out_greedily" ["ways","waiting"] (spGreedy K Cw)) (c_lines_to_take_out:Can P w K mg base 43 "lines_to_take_out" ["lines"] (spToTake K)) :
    CanM P w K mg base 55 C "answer_greedy" ["self","numbers"] (spGreedyA K C):=by
  have cl_Bench:=BC.cl
  have cl_Ways:=WC.cl
  obtain ⟨f_i,fd_i,F_Ways___init__,b_Ways___init__,m_i⟩:=c_init
  have M_Ways:Mk K Cw f_i:=⟨mkW,m_i.at_,m_i.fn,kpW⟩
  refine S.can sc_Bench_answer_greedy (fun vs H Q E h => ?_) (fun f cdv A outer s H vs Q E hr h => ?_)
  · obtain ⟨xs,a,dx,nl,s,ns,rfl,_⟩:=h
    rfl
  · obtain ⟨xs,a,dx,nl,s,ns,rfl,hB,hnl,q⟩:=h
    refine ⟨_,(pss_cons (ps_set (i:=2) sc_Bench_answer_greedy.nd rfl (Or.inl rfl) (pe_can c_read_outs (hr.mono (by decide)) (pa_cons (pv 1) (pa_cons (pe_callB call_len_seq rfl T.n_len PySem.boot_len (pa_cons (pe_fld (pv 0) rfl) pa_nil)) pa_nil))))
      (pss_cons (ps_set (i:=3) sc_Bench_answer_greedy.nd rfl (Or.inl rfl) (pe_canM c_Bench_read_refusal cl_Bench (hr.mono (by decide)) (pv 0) (pa_cons (pv 2) pa_nil)))
      (pss_cons (ps_if (pt_cmpR op_notN (pv 3) pe_non (nomark _)) (pss_one (ps_ret (pe_lst (pa_cons (pv 3) pa_nil)))) pss_nil)
      (pss_cons (ps_set (i:=4) sc_Bench_answer_greedy.nd rfl (Or.inl rfl) (pe_make M_Ways F_Ways___init__ (hr.mono (by decide)) rfl g_Ways b_Ways___init__ .nil pass0 (pa_cons (pe_fld (pv 0) rfl) (pa_cons (pe_fld (pv 0) rfl) (pa_cons (pv 2) pa_nil)))))
      (pss_cons (ps_set (i:=5) sc_Bench_answer_greedy.nd rfl (Or.inl rfl) (pe_can c_take_out_greedily (hr.mono (by decide)) (pa_cons (pv 4) (pa_cons (pe_can c_lines_to_take_out (hr.mono (by decide)) (pa_cons (pe_fld (pv 0) rfl) pa_nil)) pa_nil))))
      (pss_one (ps_ret (pe_op op_cat (pe_lst (pa_cons (pe_fld (pv 4) rfl) (pa_cons (pe_fld (pv 4) rfl) pa_nil))) (pv 5))))))))),?_⟩
    obtain ⟨l,r,t,hp,k,ob,hax,hd⟩:=id hB
    obtain ⟨as,hl,hpp⟩:=id hd.ln
    have hla:=Paired.length hpp
    have hc:=hd.hc
    refine ⟨_,rfl,_,rfl,a,C,dx,_,_,rfl,ob,BC.cl,BC.nL,rfl,l,_,rfl,.inl (SqL.of hl),?_⟩
    rw [List.length_map,hla]
    refine ⟨nl,ns,s.code.length,rfl,hnl,fun H1 s1 hN => ?_,fun H1 p s1 hp1 hO hpo => ?_⟩
    · have ob1:=s1 _ _ ob
      refine ⟨_,rfl,a,dx,_,rfl,ob1,rfl,_,rfl,xs,a,dx,s,.non,rfl,hB.keep s1,?_⟩
      refine ⟨_,rfl,rfl,_,rfl,iteBT rfl ⟨_,rfl,(by show 1≤sizeLine; decide),?_⟩⟩
      exact q.one (by rw [asked_greedy,outs_out hN]; rfl) s1
    · have ob1:=s1 _ _ ob
      have ho:=outs_in (s:=s) hO
      refine ⟨_,rfl,a,dx,_,rfl,ob1,rfl,_,rfl,xs,a,dx,s,.ref p,rfl,hB.keep s1,?_⟩
      rw [if_neg (by intro e; cases e)]
      cases hv:s.vals with
      | error n=>
        refine ⟨_,rfl,rfl,_,rfl,iteBT rfl ⟨_,rfl,(by show 1≤sizeLine; decide),?_⟩⟩
        exact q.one (by rw [asked_greedy,ho,bindO,hv]; rfl) s1
      | ok us=>
        have R:=(hd.ready ob hv).keep s1
        refine ⟨_,rfl,rfl,_,rfl,iteBF rfl ?_⟩
        have hmem:=outsOk_mem hO
        have h12:=hO.2
        have hpo2:H1 p=some (.lst (natV (ns.map Int.toNat))):=by rw [hpo,ints_nat (n:=0) fun z hz=>(hmem z hz).1]
        obtain ⟨E1,hTB,fE⟩:=tape_fit (c:=s.code) R.hc R.lt
        have hoc:∀ o∈ns.map Int.toNat,o<s.code.length:=fun o ho'=>by
          obtain ⟨z,hz,rfl⟩:=List.mem_map.mp ho'
          have:=hmem z hz
          omega
        have hol12:(ns.map Int.toNat).length≤12:=by rw [List.length_map]; exact h12
        refine ⟨_,rfl,a,C,dx,_,_,rfl,R.ob,BC.cl,BC.nL,rfl,_,rfl,a,C,dx,_,_,rfl,R.ob,BC.cl,BC.nT,rfl,_,rfl,fun x dw hx hdw hne => ?_⟩
        have sW:Same H1 (upd (upd H1 dw (.own x)) x (.ins Cw dw [])):=(Same.new hdw).trans (Same.new (by rw [upd_ne (fun e=>hne e.symm)]; exact hx))
        refine ⟨H1,x,dw,l,t,p,s.code,Vagraf.tape s.code us,ns.map Int.toNat,E1,2 ^ 400,64000,400,rfl,upd_same,sW,hx,R.ln,R.tp,R.tis,hpo2,R.use,hoc,by omega,by omega,hTB,Nat.one_le_two_pow,fE,by decide,fun H3 g cc gs cs W3 gd3=>⟨rfl,?_⟩⟩
        obtain ⟨B0,f0,Wk3⟩:=made_work R hTB fE hol12 W3 gd3
        generalize hM:s.code.length+(ns.map Int.toNat).length=M at *
        have hM92:M≤92:=by omega
        have hinl:(Vagraf.inner s.code).length≤80:=by
          have hs:Vagraf.inner s.code ⊆ List.range s.code.length:=fun z hz=>List.mem_range.mpr (inner_mem hz)
          have:=(inner_nd s.code).length_le_of_subset hs
          rw [List.length_range] at this
          omega
        have hsz:64000*M+1+((Vagraf.inner s.code).length+412)*M≤60000000:=by
          have h1:64000*M≤64000*92:=Nat.mul_le_mul_left _ hM92
          have h2:((Vagraf.inner s.code).length+412)*M≤492*92:=Nat.mul_le_mul (by omega) hM92
          omega
        have R3:=R.keep W3.sm
        refine ⟨_,rfl,_,rfl,a,C,dx,_,_,rfl,R3.ob,BC.cl,BC.nL,rfl,l,s.code,rfl,R3.ln,by omega,fun H4 wl s4 hwl hwl2 => ?_⟩
        have W4:=Wk3.W.grow s4
        have sB4:Same H1 (reb H1 H3 H4):=reb_same Wk3.W.sm
        have hwl4:reb H1 H3 H4 wl=some (.lst (natV (Vagraf.inner s.code))):=(reb_new hwl).trans hwl2
        refine ⟨reb H1 H3 H4,x,dw,g,cc,wl,gs,cs,_,M,E1,B0,64000,412,_,Vagraf.inner s.code,rfl,⟨W4,Wk3.nd,Wk3.gd⟩,hwl4,inner_nd _,fun v hv'=>inner_mem hv',by omega,by omega,f0,hsz,fun H5 gs2 cs2 od Wk5 hod => ?_⟩
        have s5:Same H H5:=(s1.trans sB4).trans Wk5.W.sm
        have hgd:Vagraf.greedyFrom (Vagraf.inner s.code).length (Vagraf.inner s.code) (worked s.code us (ns.map Int.toNat))=Vagraf.greedy s.code us (ns.map Int.toNat):=rfl
        rw [hgd] at Wk5 hod
        generalize hwk:takenOut (Vagraf.greedy s.code us (ns.map Int.toNat)) (worked s.code us (ns.map Int.toNat))=wk at *
        have hodl:(natV (Vagraf.greedy s.code us (ns.map Int.toNat))).length≤1000000∨True:=.inr trivial
        refine ⟨_,rfl,x,Cw,dw,_,_,rfl,Wk5.W.ob,WC.cl,WC.nP,rfl,_,rfl,x,Cw,dw,_,_,rfl,Wk5.W.ob,WC.cl,WC.nS,rfl,(by show 2≤sizeLine; decide),fun l1 hl1 => ?_⟩
        have s6:=Same.new (o:=.lst [V.int (wk.products:Int),V.int (wk.sums:Int)]) hl1
        refine ⟨_,rfl,l1,od,_,_,rfl,rfl,upd_same,s6 _ _ hod,?_,fun p7 hp7 => ?_⟩
        · rw [natV_len]
          show 2+_≤sizeLine
          have hgl:∀ (f:Nat) (l:List Nat) (wk:Worked),(Vagraf.greedyFrom f l wk).length≤f:=by
            intro f
            induction f with
            | zero=>intro l wk; exact Nat.le_refl _
            | succ f ih=>
              intro l wk
              show (match Vagraf.cheapest wk.ways l with | none=>[] | some v=>v::Vagraf.greedyFrom f (l.filter fun u => !decide (u=v)) (takeOut v wk)).length≤_
              cases Vagraf.cheapest wk.ways l with
              | none=>exact Nat.zero_le _
              | some v=>
                show (v::Vagraf.greedyFrom f _ _).length≤_
                rw [List.length_cons]
                have:=ih (l.filter fun u => !decide (u=v)) (takeOut v wk)
                omega
          have:=hgl (Vagraf.inner s.code).length (Vagraf.inner s.code) (worked s.code us (ns.map Int.toNat))
          rw [hgd] at this
          exact line_le (by omega)
        · refine q.tell (x:=.ok ([(wk.products:Int),(wk.sums:Int)]++(Vagraf.greedy s.code us (ns.map Int.toNat)).map Int.ofNat)) ?_ (s5.trans s6) (Same.new hp7) hp7 ?_
          · rw [asked_greedy,ho,bindO,hv,bindO,hwk]
          · rw [upd_same]
            show _=some (HO.lst (List.map V.int ([(wk.products:Int),(wk.sums:Int)]++(Vagraf.greedy s.code us (ns.map Int.toNat)).map Int.ofNat)))
            rw [List.map_append,← natV_int]
            rfl
end
end Ts
end
section
set_option maxRecDepth 100000
set_option maxHeartbeats 4000000
namespace Ts
open PySem PySem.Spec PyProof.Rows L2
open Vagraa (Frac)
open VagraLine (Line at_ fracsTold)
open Vagraf (State seeds)
def InDom (H:Hp) (xs:List Addr):Prop:=∀ x∈xs,∃ o,H x=some o
theorem InDom.out {H:Hp} {xs:List Addr} (h:InDom H xs) {y:Addr} (hy:H y=none):y ∉ xs:=fun hm=>by
  obtain ⟨o,e⟩:=h y hm
  rw [hy] at e
  cases e
theorem run_div {ps vs:List Frac} {n:Nat} {c:List Line} (hw:VagraLine.well n c=true) (h:VagraLine.run (some 200) ps c = .ok vs):∀ i j,VagraLine.Line.div i j∈c→(at_ vs j).num≠0:=fun i j hm=>by
  obtain ⟨m,hm⟩:=List.getElem?_of_mem hm
  obtain ⟨_,hlen,_,hval⟩:=run_ok c [] vs h (fun f hf=>by cases hf)
  have hv:=hval m _ hm
  have hj:=(well_at hw hm).1 j (by simp [VagraLine.Line.uses])
  have hml:=(List.getElem?_eq_some_iff.mp hm).1
  simp only [List.length_nil,Nat.zero_add] at hv hlen
  have e:at_ (vs.take m) j=at_ vs j:=by
    unfold VagraLine.at_
    rw [List.getD_eq_getElem?_getD,List.getD_eq_getElem?_getD,List.getElem?_take_of_lt hj]
  intro h0
  have hz:Vagraa.isZero (at_ (vs.take m) j)=true:=by rw [e]; simp [Vagraa.isZero,h0]
  have:VagraLine.Line.value ps (vs.take m) (.div i j)=none:=by
    show (if Vagraa.isZero (at_ (vs.take m) j)=true then none else _)=none
    rw [if_pos hz]
  rw [this] at hv
  cases hv
theorem sqt_upd {K:PySem.W.Frag} {H:Hp} {x y:Addr} {o o':HO} {xs:List V} (hx:H x=some o) (hn:NoTup o) (h:SqT K H y xs):SqT K (upd H x o') y xs:=by
  rcases h with (q | ⟨ob,q⟩) | q
  · exact .inl (.inl (by rw [upd_ne (ne_of q hx (by intro z; subst z; exact hn))]; exact q))
  · exact .inl (.inr ⟨ob,by rw [upd_ne (ne_of q hx (by intro z; subst z; exact hn))]; exact q⟩)
  · exact .inr q
section
variable {P:Program} {w:World} {K:PySem.W.Frag} {mg:Str→Option Value} {base:Heap} {C:Addr}
abbrev st_Bench___init__:Stmt:=inClass (top 63) 0
theorem sc_Bench___init__:FnScope ["self"] ["self"] (defScope st_Bench___init__):=⟨rfl,rfl,rfl,by decide +kernel,rfl,by decide +kernel,by decide +kernel⟩
def spBenchInit (K:PySem.W.Frag) (C:Addr):Sp:=fun vs H Q _ => ∃ (a dx:Addr),vs=[.ref a]∧H a=some (.ins C dx [])∧∀ H',SameBut a H H'→BenchIs K C [] H' a dx Vagraf.start→Q .non H'
theorem can_Bench___init__ (T:Txt K mg) (BC:BCls K C) (S:MSrc K C "__init__" "Bench.__init__" st_Bench___init__ ["self"]):CanM P w K mg base 41 C "__init__" ["self"] (spBenchInit K C):=by
  refine S.can sc_Bench___init__ (fun vs H Q E h => ?_) (fun f cdv A outer s H vs Q E hr h => ?_)
  · obtain ⟨a,dx,rfl,_⟩:=h
    rfl
  · obtain ⟨a,dx,rfl,ha,q⟩:=h
    refine ⟨_,(pss_cons (ps_fld (pv 0) pe_int rfl)
      (pss_cons (ps_fld (pv 0) (pe_lst pa_nil) rfl)
      (pss_cons (ps_fld (pv 0) pe_bl rfl)
      (pss_cons (ps_fld (pv 0) (pe_gc T.c_NO_FAULT) rfl)
      (pss_cons (ps_fld (pv 0) (pe_lst pa_nil) rfl)
      (pss_one (ps_fld (pv 0) (pe_lst pa_nil) rfl))))))),?_⟩
    refine ⟨_,rfl,a,C,dx,_,rfl,ha,BC.cl,BC.nI,(by show 0<1000; decide),?_⟩
    refine ⟨Nat.zero_le _,fun l hl => ?_⟩
    have hla:l≠a:=fun e=>by rw [e,upd_same] at hl; cases hl
    refine ⟨_,rfl,a,C,dx,_,rfl,by rw [upd_ne hla.symm,upd_same],BC.cl,BC.nL,(by show 1<1000; decide),?_⟩
    refine ⟨_,rfl,a,C,dx,_,rfl,upd_same,BC.cl,BC.nH,(by show 2<1000; decide),?_⟩
    refine ⟨_,rfl,a,C,dx,_,rfl,upd_same,BC.cl,BC.nF,(by show 3<1000; decide),?_⟩
    rw [upd_upd,upd_upd]
    refine ⟨Nat.zero_le _,fun r hrr => ?_⟩
    have hra:r≠a:=fun e=>by rw [e,upd_same] at hrr; cases hrr
    refine ⟨_,rfl,a,C,dx,_,rfl,by rw [upd_ne hra.symm,upd_same],BC.cl,BC.nR,(by show 4<1000; decide),?_⟩
    refine ⟨Nat.zero_le _,fun t ht => ?_⟩
    have hta:t≠a:=fun e=>by rw [e,upd_same] at ht; cases ht
    refine ⟨_,rfl,a,C,dx,_,rfl,by rw [upd_ne hta.symm,upd_same],BC.cl,BC.nT,(by show 5<1000; decide),?_⟩
    have hl0:H l=none:=by rw [upd_ne hla] at hl; exact hl
    have hlr:r≠l:=fun e=>by rw [e,upd_ne hla,upd_same] at hrr; cases hrr
    have hr0:H r=none:=by rw [upd_ne hra,upd_ne hlr,upd_ne hra] at hrr; exact hrr
    have hrt:t≠r:=fun e=>by rw [e,upd_ne hra,upd_same] at ht; cases ht
    have hlt:t≠l:=fun e=>by rw [e,upd_ne hla,upd_ne hlr.symm,upd_ne hla,upd_same] at ht; cases ht
    have ht0:H t=none:=by rw [upd_ne hta,upd_ne hrt,upd_ne hta,upd_ne hlt,upd_ne hta] at ht; exact ht
    refine q _ (fun b o e hb => ?_) ⟨l,r,t,false,0,upd_same,by simp,?_⟩
    · rw [upd_ne hb,upd_ne (ne_of_none e ht0),upd_ne hb,upd_ne (ne_of_none e hr0),upd_ne hb,upd_ne (ne_of_none e hl0),upd_ne hb]
      exact e
    · refine ⟨⟨[],?_,.nil⟩,by simp,by decide,by decide,by decide,rfl,fun p hp=>by cases hp⟩
      rw [upd_ne hla,upd_ne hlt.symm,upd_ne hla,upd_ne hlr.symm,upd_ne hla,upd_same]
      rfl
def StepTo (K:PySem.W.Frag) (C:Addr) (xs:List Addr) (H:Hp) (a dx:Addr) (s:State) (c:Vagraf.Call) (Q:VK):Prop:=∀ H' p,SameBut a H H'→H p=none→BenchIs K C xs H' a dx (Vagraf.step s c).1→H' p=some (.lst ((VagrafNeutral.encode (Vagraf.step s c).2).map V.int))→Q (.ref p) H'
theorem StepTo.bad {xs:List Addr} {H H1:Hp} {a dx:Addr} {s:State} {c:Vagraf.Call} {Q:VK} {n:Int} (h:StepTo K C xs H a dx s c Q) (hB:BenchIs K C xs H a dx s) (e:Vagraf.outcome s c = .error n) (s1:Same H H1):∀ p,H1 p=none→Q (.ref p) (upd H1 p (.lst [V.int n])):=fun p hp=>by
  have es:Vagraf.step s c=(s,.refused n):=by unfold Vagraf.step; rw [e]
  have s2:=s1.trans (Same.new (o:=.lst [V.int n]) hp)
  refine h _ p (SameBut.of s2) (s1.free hp) ?_ ?_
  · rw [es]
    exact hB.keep s2
  · rw [upd_same,es]
    rfl
abbrev st_Bench_answer_code:Stmt:=inClass (top 63) 7
theorem sc_Bench_answer_code:FnScope ["self","inputs","numbers","lines"] ["self","inputs","numbers"] (defScope st_Bench_answer_code):=⟨rfl,rfl,rfl,by decide +kernel,rfl,by decide +kernel,by decide +kernel⟩
def spCodeA (K:PySem.W.Frag) (C:Addr):Sp:=fun vs H Q _ => ∃ (xs:List Addr) (a dx nl:Addr) (s:State) (n:Int) (ns:List Int),vs=[.ref a,.int n,.ref nl]∧BenchIs K C xs H a dx s∧InDom H xs∧SqL K H nl (ns.map V.int)∧ns.length≤400∧StepTo K C xs H a dx s (.code n ns) Q
theorem code_out1 {s:State} {n:Int} {ns:List Int} (h:n<0∨12<n):Vagraf.outcome s (.code n ns) = .error (-1):=by
  show (Vagraf.refuseIf (decide (n<0)||decide (((12:Nat):Int)<n)) (-1) >>= _)=_
  have e:(decide (n<0)||decide (((12:Nat):Int)<n))=true:=by
    rcases h with h | h
    · simp [h]
    · have:((12:Nat):Int)<n:=h
      rw [decide_eq_true this,Bool.or_true]
  rw [e]
  rfl
theorem code_in {s:State} {n:Int} {ns:List Int} (h:¬ (n<0∨12<n)):Vagraf.outcome s (.code n ns)=match VagraLine.codeOf ns.length ns with
    | none => .error (-2)
    | some c=>(do
      Vagraf.refuseIf (decide (80<c.length)) (-7)
      Vagraf.refuseIf (!VagraLine.well n.toNat c) (-3)
      .ok (⟨n.toNat,c,none⟩,[(c.length:Int)])):=by
  show (Vagraf.refuseIf (decide (n<0)||decide (((12:Nat):Int)<n)) (-1) >>= _)=_
  have e:(decide (n<0)||decide (((12:Nat):Int)<n))=false:=by
    have h1:¬ n<0:=fun q=>h (.inl q)
    have h2:¬ ((12:Nat):Int)<n:=fun q=>h (.inr q)
    rw [decide_eq_false h1,decide_eq_false h2]
    rfl
  rw [e]
  rfl
theorem can_Bench_answer_code (T:Txt K mg) (BC:BCls K C) (S:MSrc K C "answer_code" "Bench.answer_code" st_Bench_answer_code ["self","inputs","numbers"]) (c_read_lines:Can P w K mg base 45 "read_lines" ["numbers"] (spReadLines K)) (c_uses_are_sound:Can P w K mg base 45 "uses_are_sound" ["lines","inputs"] (spSound K)) :
    CanM P w K mg base 55 C "answer_code" ["self","inputs","numbers"] (spCodeA K C):=by
  refine S.can sc_Bench_answer_code (fun vs H Q E h => ?_) (fun f cdv A outer s H vs Q E hr h => ?_)
  · obtain ⟨xs,a,dx,nl,s,n,ns,rfl,_⟩:=h
    rfl
  · obtain ⟨xs,a,dx,nl,s,n,ns,rfl,hB,hD,hnl,hlen,q⟩:=h
    refine ⟨_,(pss_cons (ps_if (PW.pt (pw_or (pt_cmpR op_lt (pv 1) pe_int (nomark _)) (pw_or1 (pt_cmpR op_gt (pv 1) (pe_gc T.c_MOST_INPUTS) (nomark _))))) (pss_one (ps_ret (pe_lst (pa_cons (pe_gc T.c_BAD_NUMBER) pa_nil)))) pss_nil)
      (pss_cons (ps_set (i:=3) sc_Bench_answer_code.nd rfl (Or.inl rfl) (pe_can c_read_lines (hr.mono (by decide)) (pa_cons (pv 2) pa_nil)))
      (pss_cons (ps_if (pt_cmpR op_isN (pv 3) pe_non (nomark _)) (pss_one (ps_ret (pe_lst (pa_cons (pe_gc T.c_BAD_FORM) pa_nil)))) pss_nil)
      (pss_cons (ps_if (pt_cmpR op_gt (pe_callB call_len_seq rfl T.n_len PySem.boot_len (pa_cons (pv 3) pa_nil)) (pe_gc T.c_MOST_LINES) (nomark _)) (pss_one (ps_ret (pe_lst (pa_cons (pe_gc T.c_TOO_MANY_LINES) pa_nil)))) pss_nil)
      (pss_cons (ps_if (pt_not (pt_val (pe_can c_uses_are_sound (hr.mono (by decide)) (pa_cons (pv 3) (pa_cons (pv 1) pa_nil))))) (pss_one (ps_ret (pe_lst (pa_cons (pe_gc T.c_BAD_USE) pa_nil)))) pss_nil)
      (pss_cons (ps_fld (pv 0) (pv 1) rfl)
      (pss_cons (ps_fld (pv 0) (pv 3) rfl)
      (pss_cons (ps_fld (pv 0) pe_bl rfl)
      (pss_one (ps_ret (pe_lst (pa_cons (pe_callB call_len_seq rfl T.n_len PySem.boot_len (pa_cons (pv 3) pa_nil)) pa_nil)))))))))))),?_⟩
    obtain ⟨l,r,t,hp,k,ob,hax,hd⟩:=id hB
    refine ⟨_,rfl,_,_,rfl,rfl,_,rfl,?_⟩
    by_cases h1:n<0
    · refine iteBT (by simpa using h1) (iteBT rfl ⟨(by show 1≤sizeLine; decide),?_⟩)
      exact q.bad hB (code_out1 (.inl h1)) (Same.refl H)
    refine iteBF (by simpa using h1) ?_
    refine ⟨_,rfl,_,_,rfl,rfl,_,rfl,?_⟩
    by_cases h2:12<n
    · refine iteBT (by simpa using h2) ⟨(by show 1≤sizeLine; decide),?_⟩
      exact q.bad hB (code_out1 (.inr h2)) (Same.refl H)
    refine iteBF (by simpa using h2) ?_
    have hin:=code_in (s:=s) (ns:=ns) (show ¬ (n<0∨12<n) by omega)
    refine ⟨_,rfl,nl,ns,rfl,hnl,by omega,fun H1 s1 hN => ?_,fun H1 p c s1 hp1 hC hL => ?_⟩
    · refine ⟨_,rfl,rfl,_,rfl,iteBT rfl ⟨(by show 1≤sizeLine; decide),?_⟩⟩
      exact q.bad hB (by rw [hin,show VagraLine.codeOf ns.length ns=none from hN]) s1
    · rw [show VagraLine.codeOf ns.length ns=some c from hC] at hin
      obtain ⟨as,hl1,hp2⟩:=id hL
      have hla:=Paired.length hp2
      refine ⟨_,rfl,rfl,_,rfl,iteBF rfl ?_⟩
      refine ⟨_,rfl,p,_,rfl,.inl (SqL.of hl1),_,_,rfl,rfl,_,rfl,?_⟩
      rw [List.length_map,hla]
      by_cases h3:80<c.length
      · refine iteBT (decide_eq_true (by show (80:Int)<(c.length:Int); omega)) ⟨(by show 1≤sizeLine; decide),?_⟩
        exact q.bad hB (by rw [hin]; simp only [h3,decide_true]; rfl) s1
      refine iteBF (decide_eq_false (by show ¬ ((80:Int)<(c.length:Int)); omega)) ?_
      obtain ⟨m,rfl⟩:∃ m:Nat,n=(m:Int):=⟨n.toNat,by omega⟩
      refine ⟨_,rfl,_,rfl,p,c,m,rfl,hL,fun H2 s2=>⟨_,rfl,?_⟩⟩
      rw [Int.toNat_natCast] at hin
      have s12:=s1.trans s2
      cases hwl:VagraLine.well m c with
      | false=>
        refine iteBT rfl ⟨(by show 1≤sizeLine; decide),?_⟩
        exact q.bad hB (by rw [hin]; simp only [h3,decide_false,hwl]; rfl) s12
      | true=>
        have es:Vagraf.step s (.code (m:Int) ns)=(⟨m,c,none⟩,.told [(c.length:Int)]):=by
          unfold Vagraf.step
          rw [hin]
          simp only [h3,decide_false,hwl]
          rfl
        refine iteBF rfl ?_
        have ob2:=s12 _ _ ob
        refine ⟨_,rfl,_,rfl,a,C,dx,_,rfl,ob2,BC.cl,BC.nI,(by show 6<1000; decide),?_⟩
        refine ⟨_,rfl,_,rfl,a,C,dx,_,rfl,upd_same,BC.cl,BC.nL,(by show 6<1000; decide),?_⟩
        refine ⟨_,rfl,a,C,dx,_,rfl,upd_same,BC.cl,BC.nH,(by show 6<1000; decide),?_⟩
        rw [upd_upd,upd_upd]
        have hpa:p≠a:=fun e=>by rw [e,ob] at hp1; cases hp1
        have hl2:IsLns K H2 p c:=hL.keep s2
        have hl3:=ln_upd (o':=.ins C dx (bfs m p false k r t)) ob2 trivial hl2 hpa
        obtain ⟨as3,h31,h32⟩:=id hl3
        have hla3:=Paired.length h32
        refine ⟨_,rfl,p,_,rfl,.inl (SqL.of h31),(by show 1≤sizeLine; decide),fun p5 hp5 => ?_⟩
        have s5:=Same.new (o:=.lst [V.int (((as3.map V.ref).length:Nat):Int)]) hp5
        have hp5a:p5≠a:=fun e=>by rw [e,upd_same] at hp5; cases hp5
        refine q _ p5 (fun b o e hb => ?_) ?_ ?_ ?_
        · refine s5 _ _ ?_
          rw [upd_ne hb]
          exact s12 _ _ e
        · refine s12.free ?_
          rw [upd_ne hp5a] at hp5
          exact hp5
        · rw [es]
          refine ⟨p,r,t,false,k,s5 _ _ upd_same,hax,?_⟩
          exact ⟨hl3.keep s5,hD.out hp1,by show m≤12; omega,by show c.length≤80; omega,hwl,rfl,fun p' hp'=>by cases hp'⟩
        · rw [upd_same,es,List.length_map,hla3]
          rfl
abbrev st_Bench_answer_point:Stmt:=inClass (top 63) 8
theorem sc_Bench_answer_point:FnScope ["self","numbers","point","outcome"] ["self","numbers"] (defScope st_Bench_answer_point):=⟨rfl,rfl,rfl,by decide +kernel,rfl,by decide +kernel,by decide +kernel⟩
def spPointA (K:PySem.W.Frag) (C:Addr):Sp:=fun vs H Q _ => ∃ (xs:List Addr) (a dx nl:Addr) (s:State) (ns:List Int),vs=[.ref a,.ref nl]∧BenchIs K C xs H a dx s∧InDom H xs∧SqL K H nl (ns.map V.int)∧ns.length≤400∧StepTo K C xs H a dx s (.point ns) Q
theorem point_out (s:State) (ns:List Int):Vagraf.outcome s (.point ns)=(Vagraf.fracs s.inputs ns >>= fun p => .ok ({ s with point:=some p },Vagraf.ranTold s p)):=rfl
theorem can_Bench_answer_point (T:Txt K mg) (BC:BCls K C) (S:MSrc K C "answer_point" "Bench.answer_point" st_Bench_answer_point ["self","numbers"]) (c_read_fractions:Can P w K mg base 45 "read_fractions" ["numbers","count"] (spReadFr K)) (c_run:Can P w K mg base 49 "run" ["lines","point"] (spRun K)) (c_make_tape:Can P w K mg base 47 "make_tape" ["lines","results"] (spTape K)) :
    CanM P w K mg base 55 C "answer_point" ["self","numbers"] (spPointA K C):=by
  refine S.can sc_Bench_answer_point (fun vs H Q E h => ?_) (fun f cdv A outer s H vs Q E hr h => ?_)
  · obtain ⟨xs,a,dx,nl,s,ns,rfl,_⟩:=h
    rfl
  · obtain ⟨xs,a,dx,nl,s,ns,rfl,hB,hD,hnl,hlen,q⟩:=h
    refine ⟨_,(pss_cons (ps_set (i:=2) sc_Bench_answer_point.nd rfl (Or.inl rfl) (pe_can c_read_fractions (hr.mono (by decide)) (pa_cons (pv 1) (pa_cons (pe_fld (pv 0) rfl) pa_nil))))
      (pss_cons (ps_if (pt_cmpR op_isN (pv 2) pe_non (nomark _)) (pss_one (ps_ret (pe_lst (pa_cons (pe_gc T.c_BAD_FORM) pa_nil)))) pss_nil)
      (pss_cons (ps_set (i:=3) sc_Bench_answer_point.nd rfl (Or.inl rfl) (pe_can c_run (hr.mono (by decide)) (pa_cons (pe_fld (pv 0) rfl) (pa_cons (pv 2) pa_nil))))
      (pss_cons (ps_fld (pv 0) pe_bl rfl)
      (pss_cons (ps_fld (pv 0) (pe_ix ix_tup (pv 3) pe_int (fun _ _=>rfl)) rfl)
      (pss_cons (ps_fld (pv 0) (pe_ix ix_tup (pv 3) pe_int (fun _ _=>rfl)) rfl)
      (pss_cons (ps_if (pt_cmpR op_ne (pe_fld (pv 0) rfl) (pe_gc T.c_NO_FAULT) (nomark _)) (pss_one (ps_ret (pe_lst (pa_cons pe_int (pa_cons (pe_callB call_len_seq rfl T.n_len PySem.boot_len (pa_cons (pe_fld (pv 0) rfl) pa_nil)) (pa_cons (pe_fld (pv 0) rfl) pa_nil)))))) pss_nil)
      (pss_cons (ps_fld (pv 0) (pe_can c_make_tape (hr.mono (by decide)) (pa_cons (pe_fld (pv 0) rfl) (pa_cons (pe_fld (pv 0) rfl) pa_nil))) rfl)
      (pss_one (ps_ret (pe_lst (pa_cons pe_int pa_nil)))))))))))),?_⟩
    obtain ⟨l,r,t,hp,k,ob,hax,hd⟩:=id hB
    have hn:=hd.hn
    have hc:=hd.hc
    refine ⟨_,rfl,_,rfl,a,C,dx,_,_,rfl,ob,BC.cl,BC.nI,rfl,nl,ns,s.inputs,rfl,hnl,by omega,by omega,fun H1 s1 hN => ?_,fun H1 pp fs s1 hpp hW hF => ?_⟩
    · refine ⟨_,rfl,rfl,_,rfl,iteBT rfl ⟨(by show 1≤sizeLine; decide),?_⟩⟩
      exact q.bad hB (by rw [point_out,fracs_N,hN]; rfl) s1
    · obtain ⟨hfl,hfo⟩:=fracsN_some hW
      have hout:Vagraf.step s (.point ns)=({ s with point:=some fs },.told (Vagraf.ranTold s fs)):=by
        unfold Vagraf.step
        rw [point_out,fracs_N,hW]
        rfl
      have ob1:=s1 _ _ ob
      refine ⟨_,rfl,rfl,_,rfl,iteBF rfl ?_⟩
      refine ⟨_,rfl,a,C,dx,_,_,rfl,ob1,BC.cl,BC.nL,rfl,_,rfl,l,pp,s.code,fs,rfl,hd.ln.keep s1,hF,by rw [hfl]; exact hd.wl,by omega,fun H2 tt rl fk gs s2 hrl0 htt hR hRun => ?_⟩
      have s12:=s1.trans s2
      have ob2:=s12 _ _ ob
      have hrl:H rl=none:=s1.free hrl0
      have hrla:rl≠a:=fun e=>by rw [e,ob] at hrl; cases hrl
      refine ⟨_,rfl,a,C,dx,_,rfl,ob2,BC.cl,BC.nH,(by show 6<1000; decide),?_⟩
      refine ⟨_,rfl,_,_,_,_,rfl,rfl,sqt_upd ob2 trivial htt,atc0,_,rfl,a,C,dx,_,rfl,upd_same,BC.cl,BC.nF,(by show 6<1000; decide),?_⟩
      rw [upd_upd]
      refine ⟨_,rfl,_,_,_,_,rfl,rfl,sqt_upd ob2 trivial htt,atc1,_,rfl,a,C,dx,_,rfl,upd_same,BC.cl,BC.nR,(by show 6<1000; decide),?_⟩
      rw [upd_upd]
      have ob3:(upd H2 a (.ins C dx (bfs s.inputs l true fk rl t))) a=some (.ins C dx (bfs s.inputs l true fk rl t)):=upd_same
      have ob3':(upd H2 a (.ins C dx (putF "results" (.ref rl) (putF "fault" (.int fk) (putF "has_point" (.bl true) (bfs s.inputs l hp k r t))))))=upd H2 a (.ins C dx (bfs s.inputs l true fk rl t)):=rfl
      rw [ob3']
      have hR3:IsFs K (upd H2 a (.ins C dx (bfs s.inputs l true fk rl t))) rl gs:=fs_upd ob2 trivial hR hrla
      have hla:l≠a:=fun e=>by
        obtain ⟨_,z,_⟩:=hd.ln
        rw [e,ob] at z
        cases z
      have hL3:IsLns K (upd H2 a (.ins C dx (bfs s.inputs l true fk rl t))) l s.code:=ln_upd ob2 trivial (hd.ln.keep s12) hla
      have sb3:SameBut a H (upd H2 a (.ins C dx (bfs s.inputs l true fk rl t))):=fun b o e hb=>by rw [upd_ne hb]; exact s12 _ _ e
      have fr3:∀ y,(upd H2 a (.ins C dx (bfs s.inputs l true fk rl t))) y=none→H y=none:=fun y hy=>by
        have hya:y≠a:=fun e=>by rw [e,upd_same] at hy; cases hy
        rw [upd_ne hya] at hy
        exact s12.free hy
      generalize upd H2 a (.ins C dx (bfs s.inputs l true fk rl t))=H3 at *
      refine ⟨_,rfl,a,C,dx,_,_,rfl,ob3,BC.cl,BC.nF,rfl,rfl,_,rfl,?_⟩
      cases hrun:VagraLine.run (some 200) fs s.code with
      | error e=>
        obtain ⟨r1,r2,r3⟩:fk=(e.kind:Int)∧gs.length=e.line∧fk≠0:=by unfold RunIs at hRun; rw [hrun] at hRun; exact hRun
        refine iteBT (by simp [r3]) ?_
        obtain ⟨bs,hb1,hb2⟩:=id hR3
        have hbl:=Paired.length hb2
        refine ⟨_,rfl,a,C,dx,_,_,rfl,ob3,BC.cl,BC.nR,rfl,rl,_,rfl,.inl (SqL.of hb1),_,rfl,a,C,dx,_,_,rfl,ob3,BC.cl,BC.nF,rfl,(by show 3≤sizeLine; decide),fun p5 hp5 => ?_⟩
        have s5:=Same.new (o:=.lst [V.int 1,V.int (((bs.map V.ref).length:Nat):Int),V.int fk]) hp5
        refine q _ p5 (sb3.trans (SameBut.of s5)) (fr3 _ hp5) ?_ ?_
        · rw [hout]
          refine ⟨l,rl,t,true,fk,s5 _ _ ob3,hax,?_⟩
          exact ⟨hL3.keep s5,hd.lx,hd.hn,hd.hc,hd.wl,rfl,fun p' hp'=>by
            cases hp'
            exact ⟨gs,hD.out hrl,hR3.keep s5,hRun,fun h0=>absurd h0 r3⟩⟩
        · rw [upd_same,hout]
          show _=some (HO.lst ((Vagraf.ranTold s fs).map V.int))
          have er:Vagraf.ranTold s fs=[1,(e.line:Int),(e.kind:Int)]:=by
            show (match VagraLine.run (some 200) fs s.code with | .ok _=>[0] | .error e=>[1,(e.line:Int),(e.kind:Int)])=_
            rw [hrun]
          rw [er,List.length_map,hbl,r2,r1]
          rfl
      | ok vs=>
        obtain ⟨rfl,rfl⟩:fk=0∧gs=vs:=by unfold RunIs at hRun; rw [hrun] at hRun; exact hRun
        refine iteBF (by simp) ?_
        obtain ⟨g1,g2,_,_⟩:=run_ok s.code [] gs hrun (fun f hf=>by cases hf)
        have g2':gs.length=s.code.length:=by simpa using g2
        refine ⟨_,rfl,a,C,dx,_,_,rfl,ob3,BC.cl,BC.nL,rfl,_,rfl,a,C,dx,_,_,rfl,ob3,BC.cl,BC.nR,rfl,l,rl,s.code,gs,rfl,hL3,hR3,g2'.symm,by omega,g1,(fun x hx u hu => ?_),run_div hd.wl hrun,fun H4 tp s4 htp hTp => ?_⟩
        · obtain ⟨m,hm⟩:=List.getElem?_of_mem hx
          have h1:=(well_at hd.wl hm).1 u hu
          have h2:=(List.getElem?_eq_some_iff.mp hm).1
          omega
        · have ob4:=s4 _ _ ob3
          refine ⟨_,rfl,a,C,dx,_,rfl,ob4,BC.cl,BC.nT,(by show 6<1000; decide),?_⟩
          have ob5':(upd H4 a (.ins C dx (putF "tape" (.ref tp) (bfs s.inputs l true 0 rl t))))=upd H4 a (.ins C dx (bfs s.inputs l true 0 rl tp)):=rfl
          rw [ob5']
          have htpa:tp≠a:=fun e=>by rw [e,ob3] at htp; cases htp
          obtain ⟨ts,t1,t2,t3⟩:=hTp
          refine ⟨(by show 1≤sizeLine; decide),fun p5 hp5 => ?_⟩
          have s5:=Same.new (o:=.lst [V.int 0]) hp5
          have hp5a:p5≠a:=fun e=>by rw [e,upd_same] at hp5; cases hp5
          refine q _ p5 (fun b o e hb => ?_) ?_ ?_ ?_
          · refine s5 _ _ ?_
            rw [upd_ne hb]
            exact s4 _ _ (sb3 b o e hb)
          · rw [upd_ne hp5a] at hp5
            exact fr3 _ (s4.free hp5)
          · rw [hout]
            refine ⟨l,rl,tp,true,0,s5 _ _ upd_same,hax,?_⟩
            refine ⟨(ln_upd ob4 trivial (hL3.keep s4) hla).keep s5,hd.lx,hd.hn,hd.hc,hd.wl,rfl,fun p' hp' => ?_⟩
            cases hp'
            refine ⟨gs,hD.out hrl,(fs_upd ob4 trivial (hR3.keep s4) hrla).keep s5,hRun,fun _=>⟨hD.out (fr3 _ htp),ts,?_,?_,fun y hy=>hD.out (fr3 _ (t3 y hy))⟩⟩
            · refine s5 _ _ ?_
              rw [upd_ne htpa]
              exact t1
            · refine keepFs (Paired.mapP t2 fun y fs' hy => ?_) s5
              obtain ⟨cs,c1,_⟩:=id hy
              exact fs_upd ob4 trivial hy (fun e=>by rw [e,ob4] at c1; cases c1)
          · rw [upd_same,hout]
            show _=some (HO.lst ((Vagraf.ranTold s fs).map V.int))
            have er:Vagraf.ranTold s fs=[0]:=by
              show (match VagraLine.run (some 200) fs s.code with | .ok _=>[0] | .error e=>[1,(e.line:Int),(e.kind:Int)])=_
              rw [hrun]
            rw [er]
            rfl
end
end Ts
end
section
set_option maxRecDepth 100000
set_option maxHeartbeats 4000000
namespace Ts
open PySem PySem.Spec PyProof.Rows L2
open Vagraa (Frac)
open VagraLine (Line at_ fracsTold)
open Vagraf (State seeds)
def rfs (nl i:Nat):List (Str×V):=[("numbers",.ref nl),("at",.int (i:Int))]
structure RCls (K:PySem.W.Frag) (C:Addr):Prop where
  cl:Cls K C
  nN:NoAttr K C "numbers"
  nA:NoAttr K C "at"
theorem sql_upd {K:PySem.W.Frag} {H:Hp} {x y:Addr} {C dx:Addr} {fs:List (Str×V)} {o':HO} {xs:List V} (hx:H x=some (.ins C dx fs)) (h:SqL K H y xs):SqL K (upd H x o') y xs:=by
  rcases h with (q | ⟨ob,q⟩) | q
  · exact .inl (.inl (by rw [upd_ne (ne_of q hx (by intro z; cases z))]; exact q))
  · exact .inl (.inr ⟨ob,by rw [upd_ne (ne_of q hx (by intro z; cases z))]; exact q⟩)
  · exact .inr q
section
variable {P:Program} {w:World} {K:PySem.W.Frag} {mg:Str→Option Value} {base:Heap} {C:Addr}
abbrev st_Reader___init__:Stmt:=inClass (top 79) 0
theorem sc_Reader___init__:FnScope ["self","numbers"] ["self","numbers"] (defScope st_Reader___init__):=⟨rfl,rfl,rfl,by decide +kernel,rfl,by decide +kernel,by decide +kernel⟩
def spReaderInit (K:PySem.W.Frag) (C:Addr):Sp:=fun vs H Q _ => ∃ (a dx nl:Addr),vs=[.ref a,.ref nl]∧H a=some (.ins C dx [])∧Q .non (upd H a (.ins C dx (rfs nl 0)))
theorem can_Reader___init__ (T:Txt K mg) (RC:RCls K C) (S:MSrc K C "__init__" "Reader.__init__" st_Reader___init__ ["self","numbers"]):CanM P w K mg base 41 C "__init__" ["self","numbers"] (spReaderInit K C):=by
  refine S.can sc_Reader___init__ (fun vs H Q E h => ?_) (fun f cdv A outer s H vs Q E hr h => ?_)
  · obtain ⟨a,dx,nl,rfl,_⟩:=h
    rfl
  · obtain ⟨a,dx,nl,rfl,ha,q⟩:=h
    refine ⟨_,(pss_cons (ps_fld (pv 0) (pv 1) rfl)
      (pss_one (ps_fld (pv 0) pe_int rfl))),?_⟩
    refine ⟨_,rfl,_,rfl,a,C,dx,_,rfl,ha,RC.cl,RC.nN,(by show 0<1000; decide),?_⟩
    refine ⟨_,rfl,a,C,dx,_,rfl,upd_same,RC.cl,RC.nA,(by show 1<1000; decide),?_⟩
    rw [upd_upd]
    exact q
abbrev st_Reader_has_more:Stmt:=inClass (top 79) 1
theorem sc_Reader_has_more:FnScope ["self"] ["self"] (defScope st_Reader_has_more):=⟨rfl,rfl,rfl,by decide +kernel,rfl,by decide +kernel,by decide +kernel⟩
def spHasMore (K:PySem.W.Frag) (C:Addr):Sp:=fun vs H Q _ => ∃ (a dx nl:Addr) (i:Nat) (l:List Int),vs=[.ref a]∧H a=some (.ins C dx (rfs nl i))∧SqL K H nl (l.map V.int)∧Q (.bl (decide ((i:Int)<(l.length:Int)))) H
theorem can_Reader_has_more (T:Txt K mg) (RC:RCls K C) (S:MSrc K C "has_more" "Reader.has_more" st_Reader_has_more ["self"]):CanM P w K mg base 41 C "has_more" ["self"] (spHasMore K C):=by
  refine S.can sc_Reader_has_more (fun vs H Q E h => ?_) (fun f cdv A outer s H vs Q E hr h => ?_)
  · obtain ⟨a,dx,nl,i,l,rfl,_⟩:=h
    rfl
  · obtain ⟨a,dx,nl,i,l,rfl,ha,hn,q⟩:=h
    refine ⟨_,(pss_one (ps_ret (pe_cmpR op_lt (pe_fld (pv 0) rfl) (pe_callB call_len_seq rfl T.n_len PySem.boot_len (pa_cons (pe_fld (pv 0) rfl) pa_nil)) (nomark _)))),?_⟩
    refine ⟨_,rfl,a,C,dx,_,_,rfl,ha,RC.cl,RC.nA,rfl,_,rfl,a,C,dx,_,_,rfl,ha,RC.cl,RC.nN,rfl,nl,_,rfl,.inl hn,_,_,rfl,rfl,?_⟩
    rw [List.length_map]
    exact q
abbrev st_Reader_take_number:Stmt:=inClass (top 79) 2
theorem sc_Reader_take_number:FnScope ["self","number"] ["self"] (defScope st_Reader_take_number):=⟨rfl,rfl,rfl,by decide +kernel,rfl,by decide +kernel,by decide +kernel⟩
def spTakeNum (K:PySem.W.Frag) (C:Addr):Sp:=fun vs H Q _ => ∃ (a dx nl:Addr) (i:Nat) (l:List Int) (z:Int),vs=[.ref a]∧H a=some (.ins C dx (rfs nl i))∧SqL K H nl (l.map V.int)∧l[i]? = some z∧Q (.int z) (upd H a (.ins C dx (rfs nl (i+1))))
theorem can_Reader_take_number (T:Txt K mg) (RC:RCls K C) (S:MSrc K C "take_number" "Reader.take_number" st_Reader_take_number ["self"]):CanM P w K mg base 41 C "take_number" ["self"] (spTakeNum K C):=by
  refine S.can sc_Reader_take_number (fun vs H Q E h => ?_) (fun f cdv A outer s H vs Q E hr h => ?_)
  · obtain ⟨a,dx,nl,i,l,z,rfl,_⟩:=h
    rfl
  · obtain ⟨a,dx,nl,i,l,z,rfl,ha,hn,hz,q⟩:=h
    refine ⟨_,(pss_cons (ps_set (i:=1) sc_Reader_take_number.nd rfl (Or.inl rfl) (pe_ix ix_list (pe_fld (pv 0) rfl) (pe_fld (pv 0) rfl) (fun _ _=>rfl)))
      (pss_cons (ps_fld (pv 0) (pe_op op_add (pe_fld (pv 0) rfl) pe_int) rfl)
      (pss_one (ps_ret (pv 1))))),?_⟩
    refine ⟨_,rfl,a,C,dx,_,_,rfl,ha,RC.cl,RC.nN,rfl,_,rfl,a,C,dx,_,_,rfl,ha,RC.cl,RC.nA,rfl,nl,_,_,_,rfl,rfl,hn,atN rfl (imapI hz),?_⟩
    refine ⟨_,rfl,a,C,dx,_,_,rfl,ha,RC.cl,RC.nA,rfl,_,_,rfl,rfl,_,rfl,a,C,dx,_,rfl,ha,RC.cl,RC.nA,(by show 2<1000; decide),?_⟩
    exact ⟨_,rfl,q⟩
abbrev st_Reader_take_row:Stmt:=inClass (top 79) 3
theorem sc_Reader_take_row:FnScope ["self","length","row"] ["self"] (defScope st_Reader_take_row):=⟨rfl,rfl,rfl,by decide +kernel,rfl,by decide +kernel,by decide +kernel⟩
def spTakeRow (K:PySem.W.Frag) (C:Addr):Sp:=fun vs H Q _ => ∃ (a dx nl:Addr) (i:Nat) (l x t:List Int),vs=[.ref a]∧H a=some (.ins C dx (rfs nl i))∧SqL K H nl (l.map V.int)∧l.drop i=(x.length:Int)::(x++t)∧∀ H' p,SameBut a H H'→H p=none→H' a=some (.ins C dx (rfs nl (i+1+x.length)))→H' p=some (.lst (x.map V.int))→l.drop (i+1+x.length)=t→Q (.ref p) H'
theorem can_Reader_take_row (T:Txt K mg) (RC:RCls K C) (S:MSrc K C "take_row" "Reader.take_row" st_Reader_take_row ["self"]) (c_Reader_take_number:CanM P w K mg base 41 C "take_number" ["self"] (spTakeNum K C)):CanM P w K mg base 43 C "take_row" ["self"] (spTakeRow K C):=by
  have cl_Reader:=RC.cl
  refine S.can sc_Reader_take_row (fun vs H Q E h => ?_) (fun f cdv A outer s H vs Q E hr h => ?_)
  · obtain ⟨a,dx,nl,i,l,x,t,rfl,_⟩:=h
    rfl
  · obtain ⟨a,dx,nl,i,l,x,t,rfl,ha,hn,hdr,q⟩:=h
    refine ⟨_,(pss_cons (ps_set (i:=1) sc_Reader_take_row.nd rfl (Or.inl rfl) (pe_canM0 c_Reader_take_number cl_Reader (hr.mono (by decide)) (pv 0)))
      (pss_cons (ps_set (i:=2) sc_Reader_take_row.nd rfl (Or.inl rfl) (pe_slice sl_list (pe_fld (pv 0) rfl) (po_some (pe_fld (pv 0) rfl)) (po_some (pe_op op_add (pe_fld (pv 0) rfl) (pv 1)))))
      (pss_cons (ps_fld (pv 0) (pe_op op_add (pe_fld (pv 0) rfl) (pv 1)) rfl)
      (pss_one (ps_ret (pv 2)))))),?_⟩
    obtain ⟨h1,h2,h3⟩:=drop_at hdr
    obtain ⟨r1,r2,r3⟩:=drop_row h2
    refine ⟨_,rfl,a,dx,_,rfl,ha,rfl,a,dx,nl,i,l,_,rfl,ha,hn,h1,?_⟩
    have hn1:SqL K (upd H a (.ins C dx (rfs nl (i+1)))) nl (l.map V.int):=sql_upd ha hn
    have ha1:(upd H a (.ins C dx (rfs nl (i+1)))) a=some (.ins C dx (rfs nl (i+1))):=upd_same
    have sb1:SameBut a H (upd H a (.ins C dx (rfs nl (i+1)))):=SameBut.put
    have fr1:∀ p,(upd H a (.ins C dx (rfs nl (i+1)))) p=none→H p=none:=fun p hp=>by
      have:p≠a:=fun e=>by rw [e,upd_same] at hp; cases hp
      rw [upd_ne this] at hp
      exact hp
    generalize upd H a (.ins C dx (rfs nl (i+1)))=H1 at *
    refine ⟨_,rfl,a,C,dx,_,_,rfl,ha1,RC.cl,RC.nN,rfl,_,rfl,a,C,dx,_,_,rfl,ha1,RC.cl,RC.nA,rfl,_,rfl,_,rfl,a,C,dx,_,_,rfl,ha1,RC.cl,RC.nA,rfl,_,rfl,_,_,rfl,rfl,_,rfl,nl,_,rfl,hn1,fun p hp => ?_⟩
    have ecut:cutV (l.map V.int) (some (((i+1:Nat)):Int)) (some ((((i+1:Nat)):Int)+((x.length:Nat):Int)))=x.map V.int:=by
      have:=cut_nat V.int l (i+1) (i+1+x.length) (by
        rcases r3 with r3 | r3
        · exact r3
        · rw [r3]; simp; omega)
      rw [show i+1+x.length - (i+1)=x.length by omega,r1] at this
      rw [← this]
      congr 2
    rw [ecut]
    have s2:=Same.new (o:=.lst (x.map V.int)) hp
    have hpa:p≠a:=fun e=>by rw [e,ha1] at hp; cases hp
    refine ⟨_,rfl,a,C,dx,_,_,rfl,s2 _ _ ha1,RC.cl,RC.nA,rfl,_,rfl,_,_,rfl,rfl,_,rfl,a,C,dx,_,rfl,s2 _ _ ha1,RC.cl,RC.nA,(by show 2<1000; decide),?_⟩
    refine ⟨_,rfl,?_⟩
    refine q _ p (fun b o e hb => ?_) (fr1 p hp) ?_ ?_ r2
    · rw [upd_ne hb]
      exact s2 _ _ (sb1 b o e hb)
    · rw [upd_same]
      rfl
    · rw [upd_ne hpa,upd_same]
end
end Ts
end
section
set_option maxRecDepth 100000
set_option maxHeartbeats 4000000
namespace Ts
open PySem PySem.Spec PyProof.Rows L2
open Vagraa (Frac)
open VagraLine (Line at_ fracsTold)
open Vagraf (State seeds)
section
variable {K:PySem.W.Frag} {C Cr:Addr} {xs:List Addr} {H H':Hp} {a dx rd rx:Addr} {s:State} {fs fs':List (Str×V)}
theorem bench_but (h:BenchIs K C xs H a dx s) (hr:H rd=some (.ins Cr rx fs)) (hm:rd∈xs) (sb:SameBut rd H H'):BenchIs K C xs H' a dx s:=by
  have key:∀ y,y ∉ xs→y≠rd:=fun y hy e=>hy (e▸hm)
  have tp:∀ {y:Addr} {zs:List V},SqT K H y zs→SqT K H' y zs:=fun {y zs} q=>by
    rcases q with (q | ⟨ob,q⟩) | q
    · exact .inl (.inl (sb _ _ q (ne_of q hr (by intro z; cases z))))
    · exact .inl (.inr ⟨ob,sb _ _ q (ne_of q hr (by intro z; cases z))⟩)
    · exact .inr q
  have fr:∀ {y:Addr} {gs:List Frac},IsFs K H y gs→y≠rd→IsFs K H' y gs:=fun {y gs} ⟨as,h1,h2⟩ hy=>⟨as,sb _ _ h1 hy,Paired.mapP h2 fun _ _ q=>⟨tp q.at_,q.wf⟩⟩
  obtain ⟨l,r,t,hp,k,h1,h2,h3⟩:=h
  refine ⟨l,r,t,hp,k,sb _ _ h1 (key a h2),h2,{ h3 with ln := ?_,run:=fun p hp' => ?_ }⟩
  · obtain ⟨as,g1,g2⟩:=h3.ln
    exact ⟨as,sb _ _ g1 (key l h3.lx),Paired.mapP g2 fun _ _ ⟨ns,q1,q2⟩=>⟨ns,tp q1,q2⟩⟩
  · obtain ⟨gs,g1,g2,g3,g4⟩:=h3.run p hp'
    refine ⟨gs,g1,fr g2 (key r g1),g3,fun hk => ?_⟩
    obtain ⟨q1,as,q2,q3,q4⟩:=g4 hk
    refine ⟨q1,as,sb _ _ q2 (key t q1),?_,q4⟩
    refine paired_pt (Paired.length q3) fun i y gs' hy hgs => ?_
    obtain ⟨gs2,z1,z2⟩:=pgetL q3 hy
    rw [hgs] at z1
    cases z1
    exact fr z2 (key y (q4 y (List.mem_of_getElem? hy)))
theorem dom_but (h:InDom H xs) (hr:H rd=some (.ins Cr rx fs)) (hr':H' rd=some (.ins Cr rx fs')) (sb:SameBut rd H H'):InDom H' xs:=fun x hx=>by
  by_cases e:x=rd
  · rw [e]; exact ⟨_,hr'⟩
  · obtain ⟨o,ho⟩:=h x hx
    exact ⟨o,sb _ _ ho e⟩
theorem sql_but {y:Addr} {zs:List V} (hr:H rd=some (.ins Cr rx fs)) (q:SqL K H y zs) (sb:SameBut rd H H'):SqL K H' y zs:=by
  rcases q with (q | ⟨ob,q⟩) | q
  · exact .inl (.inl (sb _ _ q (ne_of q hr (by intro z; cases z))))
  · exact .inl (.inr ⟨ob,sb _ _ q (ne_of q hr (by intro z; cases z))⟩)
  · exact .inr q
theorem ob_put {o o':HO} (h:H a=some o) (hne:rd≠a) (hr:H rd=some (.ins Cr rx fs)):(upd H rd o') a=some o:=by rw [upd_ne hne.symm]; exact h
end
section
variable {P:Program} {w:World} {K:PySem.W.Frag} {mg:Str→Option Value} {base:Heap} {C Cr:Addr}
abbrev st_answer_call:Stmt:=top 80
theorem sc_answer_call:FnScope ["bench","reader","call","inputs","number","outs"] ["bench","reader"] (defScope st_answer_call):=⟨rfl,rfl,rfl,by decide +kernel,rfl,by decide +kernel,by decide +kernel⟩
def spAnsCall (K:PySem.W.Frag) (C Cr:Addr):Sp:=fun vs H Q _ => ∃ (xs:List Addr) (a dx rd rx nl:Addr) (s:State) (l:List Int) (i:Nat) (c:List (List Int)) (t:List Int),vs=[.ref a,.ref rd]∧BenchIs K C xs H a dx s∧rd∈xs∧InDom H xs∧H rd=some (.ins Cr rx (rfs nl i))∧SqL K H nl (l.map V.int)∧PyFlat.call PyVagraf.shape (l.drop i)=some (c,t)∧VagrafNeutral.asked1 c=true ∧
  ∀ H' p i',(∀ b o,H b=some o→b≠a→b≠rd→H' b=some o)→H p=none→BenchIs K C xs H' a dx (VagrafNeutral.step s c).1→H' rd=some (.ins Cr rx (rfs nl i'))→l.drop i'=t→i<i'→H' p=some (.lst ((VagrafNeutral.step s c).2.map V.int))→Q (.ref p) H'
theorem can_answer_call (T:Txt K mg) (BC:BCls K C) (RC:RCls K Cr) (S:Src K mg "answer_call" st_answer_call ["bench","reader"]) (c_Reader_take_number:CanM P w K mg base 41 Cr "take_number" ["self"] (spTakeNum K Cr)) (c_Reader_take_row:CanM P w K mg base 43 Cr "take_row" ["self"] (spTakeRow K Cr))
    (c_Bench_answer_code:CanM P w K mg base 55 C "answer_code" ["self","inputs","numbers"] (spCodeA K C))
    (c_Bench_answer_point:CanM P w K mg base 55 C "answer_point" ["self","numbers"] (spPointA K C))
    (c_Bench_answer_value:CanM P w K mg base 55 C "answer_value" ["self","number"] (spValue K C))
    (c_Bench_answer_values:CanM P w K mg base 55 C "answer_values" ["self"] (spValues K C))
    (c_Bench_answer_tape:CanM P w K mg base 55 C "answer_tape" ["self"] (spTapeA K C))
    (c_Bench_answer_gradient:CanM P w K mg base 55 C "answer_gradient" ["self","number"] (spGradient K C))
    (c_Bench_answer_pull:CanM P w K mg base 55 C "answer_pull" ["self","numbers"] (spPull K C))
    (c_Bench_answer_sums:CanM P w K mg base 55 C "answer_sums" ["self","numbers"] (spSumsA K C))
    (c_Bench_answer_sweep:CanM P w K mg base 55 C "answer_sweep" ["self","number","numbers"] (spSweepA K C))
    (c_Bench_answer_cost:CanM P w K mg base 55 C "answer_cost" ["self","numbers"] (spCostA K C))
    (c_Bench_answer_table:CanM P w K mg base 55 C "answer_table" ["self","numbers"] (spTableA K C))
    (c_Bench_answer_along:CanM P w K mg base 55 C "answer_along" ["self","number","numbers"] (spAlongA K C))
    (c_Bench_answer_eliminate:CanM P w K mg base 55 C "answer_eliminate" ["self","out_numbers","order_numbers"] (spElimA K C))
    (c_Bench_answer_greedy:CanM P w K mg base 55 C "answer_greedy" ["self","numbers"] (spGreedyA K C)) :
    Can P w K mg base 57 "answer_call" ["bench","reader"] (spAnsCall K C Cr):=by
  have cl_Bench:=BC.cl
  have cl_Reader:=RC.cl
  refine S.can sc_answer_call (fun vs H Q E h => ?_) (fun f cdv A outer s H vs Q E hr h => ?_)
  · obtain ⟨xs,a,dx,rd,rx,nl,s,l,i,c,t,rfl,_⟩:=h
    rfl
  · obtain ⟨xs,a,dx,rd,rx,nl,s,l,i,c,t,rfl,hB,hrx,hdom,hrd,hnl,hcall,hask,q⟩:=h
    refine ⟨_,(pss_cons (ps_set (i:=2) sc_answer_call.nd rfl (Or.inl rfl) (pe_canM0 c_Reader_take_number cl_Reader (hr.mono (by decide)) (pv 1)))
      (pss_cons (ps_if (pt_cmpR op_eq (pv 2) (pe_gc T.c_CODE) (nomark _)) (pss_cons (ps_set (i:=3) sc_answer_call.nd rfl (Or.inl rfl) (pe_canM0 c_Reader_take_number cl_Reader (hr.mono (by decide)) (pv 1)))
      (pss_one (ps_ret (pe_canM c_Bench_answer_code cl_Bench (hr.mono (by decide)) (pv 0) (pa_cons (pv 3) (pa_cons (pe_canM0 c_Reader_take_row cl_Reader (hr.mono (by decide)) (pv 1)) pa_nil)))))) pss_nil)
      (pss_cons (ps_if (pt_cmpR op_eq (pv 2) (pe_gc T.c_POINT) (nomark _)) (pss_one (ps_ret (pe_canM c_Bench_answer_point cl_Bench (hr.mono (by decide)) (pv 0) (pa_cons (pe_canM0 c_Reader_take_row cl_Reader (hr.mono (by decide)) (pv 1)) pa_nil)))) pss_nil)
      (pss_cons (ps_if (pt_cmpR op_eq (pv 2) (pe_gc T.c_VALUE) (nomark _)) (pss_one (ps_ret (pe_canM c_Bench_answer_value cl_Bench (hr.mono (by decide)) (pv 0) (pa_cons (pe_canM0 c_Reader_take_number cl_Reader (hr.mono (by decide)) (pv 1)) pa_nil)))) pss_nil)
      (pss_cons (ps_if (pt_cmpR op_eq (pv 2) (pe_gc T.c_VALUES) (nomark _)) (pss_one (ps_ret (pe_canM0 c_Bench_answer_values cl_Bench (hr.mono (by decide)) (pv 0)))) pss_nil)
      (pss_cons (ps_if (pt_cmpR op_eq (pv 2) (pe_gc T.c_TAPE) (nomark _)) (pss_one (ps_ret (pe_canM0 c_Bench_answer_tape cl_Bench (hr.mono (by decide)) (pv 0)))) pss_nil)
      (pss_cons (ps_if (pt_cmpR op_eq (pv 2) (pe_gc T.c_GRADIENT) (nomark _)) (pss_one (ps_ret (pe_canM c_Bench_answer_gradient cl_Bench (hr.mono (by decide)) (pv 0) (pa_cons (pe_canM0 c_Reader_take_number cl_Reader (hr.mono (by decide)) (pv 1)) pa_nil)))) pss_nil)
      (pss_cons (ps_if (pt_cmpR op_eq (pv 2) (pe_gc T.c_PULL) (nomark _)) (pss_one (ps_ret (pe_canM c_Bench_answer_pull cl_Bench (hr.mono (by decide)) (pv 0) (pa_cons (pe_canM0 c_Reader_take_row cl_Reader (hr.mono (by decide)) (pv 1)) pa_nil)))) pss_nil)
      (pss_cons (ps_if (pt_cmpR op_eq (pv 2) (pe_gc T.c_SUMS) (nomark _)) (pss_one (ps_ret (pe_canM c_Bench_answer_sums cl_Bench (hr.mono (by decide)) (pv 0) (pa_cons (pe_canM0 c_Reader_take_row cl_Reader (hr.mono (by decide)) (pv 1)) pa_nil)))) pss_nil)
      (pss_cons (ps_if (pt_cmpR op_eq (pv 2) (pe_gc T.c_SWEEP) (nomark _)) (pss_cons (ps_set (i:=4) sc_answer_call.nd rfl (Or.inl rfl) (pe_canM0 c_Reader_take_number cl_Reader (hr.mono (by decide)) (pv 1)))
      (pss_one (ps_ret (pe_canM c_Bench_answer_sweep cl_Bench (hr.mono (by decide)) (pv 0) (pa_cons (pv 4) (pa_cons (pe_canM0 c_Reader_take_row cl_Reader (hr.mono (by decide)) (pv 1)) pa_nil)))))) pss_nil)
      (pss_cons (ps_if (pt_cmpR op_eq (pv 2) (pe_gc T.c_COST) (nomark _)) (pss_one (ps_ret (pe_canM c_Bench_answer_cost cl_Bench (hr.mono (by decide)) (pv 0) (pa_cons (pe_canM0 c_Reader_take_row cl_Reader (hr.mono (by decide)) (pv 1)) pa_nil)))) pss_nil)
      (pss_cons (ps_if (pt_cmpR op_eq (pv 2) (pe_gc T.c_TABLE) (nomark _)) (pss_one (ps_ret (pe_canM c_Bench_answer_table cl_Bench (hr.mono (by decide)) (pv 0) (pa_cons (pe_canM0 c_Reader_take_row cl_Reader (hr.mono (by decide)) (pv 1)) pa_nil)))) pss_nil)
      (pss_cons (ps_if (pt_cmpR op_eq (pv 2) (pe_gc T.c_ALONG) (nomark _)) (pss_cons (ps_set (i:=4) sc_answer_call.nd rfl (Or.inl rfl) (pe_canM0 c_Reader_take_number cl_Reader (hr.mono (by decide)) (pv 1)))
      (pss_one (ps_ret (pe_canM c_Bench_answer_along cl_Bench (hr.mono (by decide)) (pv 0) (pa_cons (pv 4) (pa_cons (pe_canM0 c_Reader_take_row cl_Reader (hr.mono (by decide)) (pv 1)) pa_nil)))))) pss_nil)
      (pss_cons (ps_if (pt_cmpR op_eq (pv 2) (pe_gc T.c_ELIMINATE) (nomark _)) (pss_cons (ps_set (i:=5) sc_answer_call.nd rfl (Or.inl rfl) (pe_canM0 c_Reader_take_row cl_Reader (hr.mono (by decide)) (pv 1)))
      (pss_one (ps_ret (pe_canM c_Bench_answer_eliminate cl_Bench (hr.mono (by decide)) (pv 0) (pa_cons (pv 5) (pa_cons (pe_canM0 c_Reader_take_row cl_Reader (hr.mono (by decide)) (pv 1)) pa_nil)))))) pss_nil)
      (pss_cons (ps_if (pt_cmpR op_eq (pv 2) (pe_gc T.c_GREEDY) (nomark _)) (pss_one (ps_ret (pe_canM c_Bench_answer_greedy cl_Bench (hr.mono (by decide)) (pv 0) (pa_cons (pe_canM0 c_Reader_take_row cl_Reader (hr.mono (by decide)) (pv 1)) pa_nil)))) pss_nil)
      (pss_one ps_never)))))))))))))))),?_⟩
    have hra:rd≠a:=fun e=>by
      obtain ⟨_,_,_,_,_,_,hax,_⟩:=hB
      exact hax (e▸hrx)
    obtain ⟨p,r,hpr⟩:∃ p r,l.drop i=p::r:=by
      cases e:l.drop i with
      | nil=>rw [e] at hcall; cases hcall
      | cons p r=>exact ⟨p,r,rfl⟩
    rw [hpr] at hcall
    obtain ⟨h1,hd1,h3⟩:=drop_at hpr
    refine ⟨_,rfl,rd,rx,_,rfl,hrd,rfl,rd,rx,nl,i,l,p,rfl,hrd,hnl,h1,?_⟩
    have hB1:=hB.put (o':=.ins Cr rx (rfs nl (i+1))) hrd trivial hrx
    have hr1:(upd H rd (.ins Cr rx (rfs nl (i+1)))) rd=some (.ins Cr rx (rfs nl (i+1))):=upd_same
    have hn1:SqL K (upd H rd (.ins Cr rx (rfs nl (i+1)))) nl (l.map V.int):=sql_upd hrd hnl
    have sb1:SameBut rd H (upd H rd (.ins Cr rx (rfs nl (i+1)))):=SameBut.put
    have hdom1:InDom (upd H rd (.ins Cr rx (rfs nl (i+1)))) xs:=dom_but hdom hrd hr1 sb1
    generalize upd H rd (.ins Cr rx (rfs nl (i+1)))=H1 at *
    obtain ⟨l0,r0,t0,hp0,k0,ob1,hax,hd0⟩:=id hB1
    have free:∀ {H1:Hp} {fs:List (Str×V)} {y:Addr},SameBut rd H H1→H1 rd=some (.ins Cr rx fs)→H1 y=none→H y=none:=fun {H1 fs y} sb hr hy=>by
      cases e:H y with
      | none=>rfl
      | some o=>
        have:y≠rd:=fun z=>by rw [z,hr] at hy; cases hy
        rw [sb _ _ e this] at hy
        cases hy
    have finQ:∀ (k:Vagraf.Call),VagrafNeutral.callOf c=some k→Vagraf.outcome s k=(do let l ← s.asked k; .ok (s,l))→∀ (H1:Hp) (i':Nat),SameBut rd H H1→BenchIs K C xs H1 a dx s→H1 rd=some (.ins Cr rx (rfs nl i'))→l.drop i'=t→i<i'→AnsTo H1 Q (s.asked k):=by
      intro k hk ho H1 i' sb hb hr hd hi H' p' s2 hp hA
      obtain ⟨e1,e2⟩:=step_ask ho
      have es:VagrafNeutral.step s c=((Vagraf.step s k).1,VagrafNeutral.encode (Vagraf.step s k).2):=by unfold VagrafNeutral.step; rw [hk]
      refine q H' p' i' (fun b o e _ hb'=>s2 _ _ (sb b o e hb')) (free sb hr hp) ?_ (s2 _ _ hr) hd hi ?_
      · rw [es,e1]
        exact hb.keep s2
      · rw [es,e2]
        exact hA
    have finS:∀ (k:Vagraf.Call),VagrafNeutral.callOf c=some k→∀ (H1:Hp) (i':Nat),SameBut rd H H1→H1 rd=some (.ins Cr rx (rfs nl i'))→l.drop i'=t→i<i'→StepTo K C xs H1 a dx s k Q:=by
      intro k hk H1 i' sb hr hd hi H' p' s2 hp hb hA
      have es:VagrafNeutral.step s c=((Vagraf.step s k).1,VagrafNeutral.encode (Vagraf.step s k).2):=by unfold VagrafNeutral.step; rw [hk]
      refine q H' p' i' (fun b o e hb1 hb'=>s2 _ _ (sb b o e hb') hb1) (free sb hr hp) ?_ (s2 _ _ hr hra) hd hi ?_
      · rw [es]
        exact hb
      · rw [es]
        exact hA
    by_cases e0:p=0
    · subst e0
      obtain ⟨z,x,rfl,rfl⟩:=call_11 (by decide) hcall
      obtain ⟨g1,g2,g3⟩:=drop_at hd1
      refine ⟨_,rfl,rfl,_,rfl,iteBT rfl ?_⟩
      have hask0:(VagrafNeutral.whole60 z&&((x.all (fun (z:Int)=>VagrafNeutral.whole60 z))&&decide (x.length≤400)))=true:=hask
      rw [Bool.and_eq_true,Bool.and_eq_true,decide_eq_true_eq] at hask0
      obtain ⟨_,hall,hxl⟩:=hask0
      refine ⟨_,rfl,rd,rx,_,rfl,hr1,rfl,rd,rx,nl,i+1,l,z,rfl,hr1,hn1,g1,?_⟩
      have hBm:=hB1.put (o':=.ins Cr rx (rfs nl (i+1+1))) hr1 trivial hrx
      have obm:=ob_put ob1 hra hr1 (o':=.ins Cr rx (rfs nl (i+1+1)))
      have hrm:(upd H1 rd (.ins Cr rx (rfs nl (i+1+1)))) rd=some (.ins Cr rx (rfs nl (i+1+1))):=upd_same
      have hnm:SqL K (upd H1 rd (.ins Cr rx (rfs nl (i+1+1)))) nl (l.map V.int):=sql_upd hr1 hn1
      have sbm:SameBut rd H (upd H1 rd (.ins Cr rx (rfs nl (i+1+1)))):=sb1.trans SameBut.put
      have domm:InDom (upd H1 rd (.ins Cr rx (rfs nl (i+1+1)))) xs:=dom_but hdom1 hr1 hrm SameBut.put
      generalize upd H1 rd (.ins Cr rx (rfs nl (i+1+1)))=Hm at *
      refine ⟨_,rfl,a,dx,_,rfl,obm,rfl,_,rfl,_,rfl,rd,rx,_,rfl,hrm,rfl,rd,rx,nl,i+1+1,l,x,t,rfl,hrm,hnm,g2,fun H2 p2 sb2 hp2 hr2 hl2 hd2 => ?_⟩
      have hB2:=bench_but hBm hrm hrx sb2
      exact ⟨xs,a,dx,p2,s,z,x,rfl,hB2,dom_but domm hrm hr2 sb2,SqL.of hl2,(by omega),finS (.code z x) rfl H2 (i+1+1+1+x.length) (sbm.trans sb2) hr2 hd2 (by omega)⟩
    by_cases e1:p=1
    · subst e1
      obtain ⟨x,rfl,rfl⟩:=call_01 (by decide) hcall
      refine ⟨_,rfl,rfl,_,rfl,iteBF rfl ?_⟩
      refine ⟨_,rfl,rfl,_,rfl,iteBT rfl ?_⟩
      have hask1:((x.all (fun (z:Int)=>VagrafNeutral.whole60 z))&&decide (x.length≤200))=true:=hask
      rw [Bool.and_eq_true,decide_eq_true_eq] at hask1
      obtain ⟨hall,hxl⟩:=hask1
      refine ⟨_,rfl,a,dx,_,rfl,ob1,rfl,_,rfl,rd,rx,_,rfl,hr1,rfl,rd,rx,nl,i+1,l,x,t,rfl,hr1,hn1,hd1,fun H2 p2 sb2 hp2 hr2 hl2 hd2 => ?_⟩
      have hB2:=bench_but hB1 hr1 hrx sb2
      exact ⟨xs,a,dx,p2,s,x,rfl,hB2,dom_but hdom1 hr1 hr2 sb2,SqL.of hl2,(by omega),finS (.point x) rfl H2 (i+1+1+x.length) (sb1.trans sb2) hr2 hd2 (by omega)⟩
    by_cases e2:p=2
    · subst e2
      obtain ⟨z,rfl,rfl⟩:=call_10 (by decide) hcall
      obtain ⟨g1,g2,g3⟩:=drop_at hd1
      refine ⟨_,rfl,rfl,_,rfl,iteBF rfl ?_⟩
      refine ⟨_,rfl,rfl,_,rfl,iteBF rfl ?_⟩
      refine ⟨_,rfl,rfl,_,rfl,iteBT rfl ?_⟩
      refine ⟨_,rfl,a,dx,_,rfl,ob1,rfl,_,rfl,rd,rx,_,rfl,hr1,rfl,rd,rx,nl,i+1,l,z,rfl,hr1,hn1,g1,?_⟩
      exact ⟨xs,a,dx,s,z,rfl,hB1.put hr1 trivial hrx,finQ (.value z) rfl rfl _ (i+1+1) (sb1.trans SameBut.put) (hB1.put hr1 trivial hrx) upd_same g2 (by omega)⟩
    by_cases e3:p=3
    · subst e3
      obtain ⟨rfl,rfl⟩:=call_00 (by decide) hcall
      refine ⟨_,rfl,rfl,_,rfl,iteBF rfl ?_⟩
      refine ⟨_,rfl,rfl,_,rfl,iteBF rfl ?_⟩
      refine ⟨_,rfl,rfl,_,rfl,iteBF rfl ?_⟩
      refine ⟨_,rfl,rfl,_,rfl,iteBT rfl ?_⟩
      exact ⟨_,rfl,a,dx,_,rfl,ob1,rfl,xs,a,dx,s,rfl,hB1,finQ .values rfl rfl H1 (i+1) sb1 hB1 hr1 hd1 (by omega)⟩
    by_cases e4:p=4
    · subst e4
      obtain ⟨rfl,rfl⟩:=call_00 (by decide) hcall
      refine ⟨_,rfl,rfl,_,rfl,iteBF rfl ?_⟩
      refine ⟨_,rfl,rfl,_,rfl,iteBF rfl ?_⟩
      refine ⟨_,rfl,rfl,_,rfl,iteBF rfl ?_⟩
      refine ⟨_,rfl,rfl,_,rfl,iteBF rfl ?_⟩
      refine ⟨_,rfl,rfl,_,rfl,iteBT rfl ?_⟩
      exact ⟨_,rfl,a,dx,_,rfl,ob1,rfl,xs,a,dx,s,rfl,hB1,finQ .tape rfl rfl H1 (i+1) sb1 hB1 hr1 hd1 (by omega)⟩
    by_cases e5:p=5
    · subst e5
      obtain ⟨z,rfl,rfl⟩:=call_10 (by decide) hcall
      obtain ⟨g1,g2,g3⟩:=drop_at hd1
      refine ⟨_,rfl,rfl,_,rfl,iteBF rfl ?_⟩
      refine ⟨_,rfl,rfl,_,rfl,iteBF rfl ?_⟩
      refine ⟨_,rfl,rfl,_,rfl,iteBF rfl ?_⟩
      refine ⟨_,rfl,rfl,_,rfl,iteBF rfl ?_⟩
      refine ⟨_,rfl,rfl,_,rfl,iteBF rfl ?_⟩
      refine ⟨_,rfl,rfl,_,rfl,iteBT rfl ?_⟩
      refine ⟨_,rfl,a,dx,_,rfl,ob1,rfl,_,rfl,rd,rx,_,rfl,hr1,rfl,rd,rx,nl,i+1,l,z,rfl,hr1,hn1,g1,?_⟩
      exact ⟨xs,a,dx,s,z,rfl,hB1.put hr1 trivial hrx,finQ (.gradient z) rfl rfl _ (i+1+1) (sb1.trans SameBut.put) (hB1.put hr1 trivial hrx) upd_same g2 (by omega)⟩
    by_cases e6:p=6
    · subst e6
      obtain ⟨x,rfl,rfl⟩:=call_01 (by decide) hcall
      refine ⟨_,rfl,rfl,_,rfl,iteBF rfl ?_⟩
      refine ⟨_,rfl,rfl,_,rfl,iteBF rfl ?_⟩
      refine ⟨_,rfl,rfl,_,rfl,iteBF rfl ?_⟩
      refine ⟨_,rfl,rfl,_,rfl,iteBF rfl ?_⟩
      refine ⟨_,rfl,rfl,_,rfl,iteBF rfl ?_⟩
      refine ⟨_,rfl,rfl,_,rfl,iteBF rfl ?_⟩
      refine ⟨_,rfl,rfl,_,rfl,iteBT rfl ?_⟩
      have hask1:((x.all (fun (z:Int)=>VagrafNeutral.whole60 z))&&decide (x.length≤400))=true:=hask
      rw [Bool.and_eq_true,decide_eq_true_eq] at hask1
      obtain ⟨hall,hxl⟩:=hask1
      refine ⟨_,rfl,a,dx,_,rfl,ob1,rfl,_,rfl,rd,rx,_,rfl,hr1,rfl,rd,rx,nl,i+1,l,x,t,rfl,hr1,hn1,hd1,fun H2 p2 sb2 hp2 hr2 hl2 hd2 => ?_⟩
      have hB2:=bench_but hB1 hr1 hrx sb2
      exact ⟨xs,a,dx,p2,s,x,rfl,hB2,SqL.of hl2,(by omega),w60s hall,finQ (.pull x) rfl rfl H2 (i+1+1+x.length) (sb1.trans sb2) hB2 hr2 hd2 (by omega)⟩
    by_cases e7:p=7
    · subst e7
      obtain ⟨x,rfl,rfl⟩:=call_01 (by decide) hcall
      refine ⟨_,rfl,rfl,_,rfl,iteBF rfl ?_⟩
      refine ⟨_,rfl,rfl,_,rfl,iteBF rfl ?_⟩
      refine ⟨_,rfl,rfl,_,rfl,iteBF rfl ?_⟩
      refine ⟨_,rfl,rfl,_,rfl,iteBF rfl ?_⟩
      refine ⟨_,rfl,rfl,_,rfl,iteBF rfl ?_⟩
      refine ⟨_,rfl,rfl,_,rfl,iteBF rfl ?_⟩
      refine ⟨_,rfl,rfl,_,rfl,iteBF rfl ?_⟩
      refine ⟨_,rfl,rfl,_,rfl,iteBT rfl ?_⟩
      have hask1:((x.all (fun (z:Int)=>VagrafNeutral.whole60 z))&&decide (x.length≤400))=true:=hask
      rw [Bool.and_eq_true,decide_eq_true_eq] at hask1
      obtain ⟨hall,hxl⟩:=hask1
      refine ⟨_,rfl,a,dx,_,rfl,ob1,rfl,_,rfl,rd,rx,_,rfl,hr1,rfl,rd,rx,nl,i+1,l,x,t,rfl,hr1,hn1,hd1,fun H2 p2 sb2 hp2 hr2 hl2 hd2 => ?_⟩
      have hB2:=bench_but hB1 hr1 hrx sb2
      exact ⟨xs,a,dx,p2,s,x,rfl,hB2,SqL.of hl2,(by omega),w60s hall,finQ (.sums x) rfl rfl H2 (i+1+1+x.length) (sb1.trans sb2) hB2 hr2 hd2 (by omega)⟩
    by_cases e8:p=8
    · subst e8
      obtain ⟨z,x,rfl,rfl⟩:=call_11 (by decide) hcall
      obtain ⟨g1,g2,g3⟩:=drop_at hd1
      refine ⟨_,rfl,rfl,_,rfl,iteBF rfl ?_⟩
      refine ⟨_,rfl,rfl,_,rfl,iteBF rfl ?_⟩
      refine ⟨_,rfl,rfl,_,rfl,iteBF rfl ?_⟩
      refine ⟨_,rfl,rfl,_,rfl,iteBF rfl ?_⟩
      refine ⟨_,rfl,rfl,_,rfl,iteBF rfl ?_⟩
      refine ⟨_,rfl,rfl,_,rfl,iteBF rfl ?_⟩
      refine ⟨_,rfl,rfl,_,rfl,iteBF rfl ?_⟩
      refine ⟨_,rfl,rfl,_,rfl,iteBF rfl ?_⟩
      refine ⟨_,rfl,rfl,_,rfl,iteBT rfl ?_⟩
      have hask0:(VagrafNeutral.whole60 z&&((x.all (fun (z:Int)=>VagrafNeutral.whole60 z))&&decide (x.length≤400)))=true:=hask
      rw [Bool.and_eq_true,Bool.and_eq_true,decide_eq_true_eq] at hask0
      obtain ⟨_,hall,hxl⟩:=hask0
      refine ⟨_,rfl,rd,rx,_,rfl,hr1,rfl,rd,rx,nl,i+1,l,z,rfl,hr1,hn1,g1,?_⟩
      have hBm:=hB1.put (o':=.ins Cr rx (rfs nl (i+1+1))) hr1 trivial hrx
      have obm:=ob_put ob1 hra hr1 (o':=.ins Cr rx (rfs nl (i+1+1)))
      have hrm:(upd H1 rd (.ins Cr rx (rfs nl (i+1+1)))) rd=some (.ins Cr rx (rfs nl (i+1+1))):=upd_same
      have hnm:SqL K (upd H1 rd (.ins Cr rx (rfs nl (i+1+1)))) nl (l.map V.int):=sql_upd hr1 hn1
      have sbm:SameBut rd H (upd H1 rd (.ins Cr rx (rfs nl (i+1+1)))):=sb1.trans SameBut.put
      have domm:InDom (upd H1 rd (.ins Cr rx (rfs nl (i+1+1)))) xs:=dom_but hdom1 hr1 hrm SameBut.put
      generalize upd H1 rd (.ins Cr rx (rfs nl (i+1+1)))=Hm at *
      refine ⟨_,rfl,a,dx,_,rfl,obm,rfl,_,rfl,_,rfl,rd,rx,_,rfl,hrm,rfl,rd,rx,nl,i+1+1,l,x,t,rfl,hrm,hnm,g2,fun H2 p2 sb2 hp2 hr2 hl2 hd2 => ?_⟩
      have hB2:=bench_but hBm hrm hrx sb2
      exact ⟨xs,a,dx,p2,s,z,x,rfl,hB2,SqL.of hl2,(by omega),w60s hall,finQ (.sweep z x) rfl rfl H2 (i+1+1+1+x.length) (sbm.trans sb2) hB2 hr2 hd2 (by omega)⟩
    by_cases e9:p=9
    · subst e9
      obtain ⟨x,rfl,rfl⟩:=call_01 (by decide) hcall
      refine ⟨_,rfl,rfl,_,rfl,iteBF rfl ?_⟩
      refine ⟨_,rfl,rfl,_,rfl,iteBF rfl ?_⟩
      refine ⟨_,rfl,rfl,_,rfl,iteBF rfl ?_⟩
      refine ⟨_,rfl,rfl,_,rfl,iteBF rfl ?_⟩
      refine ⟨_,rfl,rfl,_,rfl,iteBF rfl ?_⟩
      refine ⟨_,rfl,rfl,_,rfl,iteBF rfl ?_⟩
      refine ⟨_,rfl,rfl,_,rfl,iteBF rfl ?_⟩
      refine ⟨_,rfl,rfl,_,rfl,iteBF rfl ?_⟩
      refine ⟨_,rfl,rfl,_,rfl,iteBF rfl ?_⟩
      refine ⟨_,rfl,rfl,_,rfl,iteBT rfl ?_⟩
      have hask1:((x.all (fun (z:Int)=>VagrafNeutral.whole60 z))&&decide (x.length≤400))=true:=hask
      rw [Bool.and_eq_true,decide_eq_true_eq] at hask1
      obtain ⟨hall,hxl⟩:=hask1
      refine ⟨_,rfl,a,dx,_,rfl,ob1,rfl,_,rfl,rd,rx,_,rfl,hr1,rfl,rd,rx,nl,i+1,l,x,t,rfl,hr1,hn1,hd1,fun H2 p2 sb2 hp2 hr2 hl2 hd2 => ?_⟩
      have hB2:=bench_but hB1 hr1 hrx sb2
      exact ⟨xs,a,dx,p2,s,x,rfl,hB2,SqL.of hl2,(by omega),w60s hall,finQ (.cost x) rfl rfl H2 (i+1+1+x.length) (sb1.trans sb2) hB2 hr2 hd2 (by omega)⟩
    by_cases e10:p=10
    · subst e10
      obtain ⟨x,rfl,rfl⟩:=call_01 (by decide) hcall
      refine ⟨_,rfl,rfl,_,rfl,iteBF rfl ?_⟩
      refine ⟨_,rfl,rfl,_,rfl,iteBF rfl ?_⟩
      refine ⟨_,rfl,rfl,_,rfl,iteBF rfl ?_⟩
      refine ⟨_,rfl,rfl,_,rfl,iteBF rfl ?_⟩
      refine ⟨_,rfl,rfl,_,rfl,iteBF rfl ?_⟩
      refine ⟨_,rfl,rfl,_,rfl,iteBF rfl ?_⟩
      refine ⟨_,rfl,rfl,_,rfl,iteBF rfl ?_⟩
      refine ⟨_,rfl,rfl,_,rfl,iteBF rfl ?_⟩
      refine ⟨_,rfl,rfl,_,rfl,iteBF rfl ?_⟩
      refine ⟨_,rfl,rfl,_,rfl,iteBF rfl ?_⟩
      refine ⟨_,rfl,rfl,_,rfl,iteBT rfl ?_⟩
      have hask1:((x.all (fun (z:Int)=>VagrafNeutral.whole60 z))&&decide (x.length≤200))=true:=hask
      rw [Bool.and_eq_true,decide_eq_true_eq] at hask1
      obtain ⟨hall,hxl⟩:=hask1
      refine ⟨_,rfl,a,dx,_,rfl,ob1,rfl,_,rfl,rd,rx,_,rfl,hr1,rfl,rd,rx,nl,i+1,l,x,t,rfl,hr1,hn1,hd1,fun H2 p2 sb2 hp2 hr2 hl2 hd2 => ?_⟩
      have hB2:=bench_but hB1 hr1 hrx sb2
      exact ⟨xs,a,dx,p2,s,x,rfl,hB2,SqL.of hl2,finQ (.table x) rfl rfl H2 (i+1+1+x.length) (sb1.trans sb2) hB2 hr2 hd2 (by omega)⟩
    by_cases e11:p=11
    · subst e11
      obtain ⟨z,x,rfl,rfl⟩:=call_11 (by decide) hcall
      obtain ⟨g1,g2,g3⟩:=drop_at hd1
      refine ⟨_,rfl,rfl,_,rfl,iteBF rfl ?_⟩
      refine ⟨_,rfl,rfl,_,rfl,iteBF rfl ?_⟩
      refine ⟨_,rfl,rfl,_,rfl,iteBF rfl ?_⟩
      refine ⟨_,rfl,rfl,_,rfl,iteBF rfl ?_⟩
      refine ⟨_,rfl,rfl,_,rfl,iteBF rfl ?_⟩
      refine ⟨_,rfl,rfl,_,rfl,iteBF rfl ?_⟩
      refine ⟨_,rfl,rfl,_,rfl,iteBF rfl ?_⟩
      refine ⟨_,rfl,rfl,_,rfl,iteBF rfl ?_⟩
      refine ⟨_,rfl,rfl,_,rfl,iteBF rfl ?_⟩
      refine ⟨_,rfl,rfl,_,rfl,iteBF rfl ?_⟩
      refine ⟨_,rfl,rfl,_,rfl,iteBF rfl ?_⟩
      refine ⟨_,rfl,rfl,_,rfl,iteBT rfl ?_⟩
      have hask0:(VagrafNeutral.whole60 z&&((x.all (fun (z:Int)=>VagrafNeutral.whole60 z))&&decide (x.length≤200)))=true:=hask
      rw [Bool.and_eq_true,Bool.and_eq_true,decide_eq_true_eq] at hask0
      obtain ⟨_,hall,hxl⟩:=hask0
      refine ⟨_,rfl,rd,rx,_,rfl,hr1,rfl,rd,rx,nl,i+1,l,z,rfl,hr1,hn1,g1,?_⟩
      have hBm:=hB1.put (o':=.ins Cr rx (rfs nl (i+1+1))) hr1 trivial hrx
      have obm:=ob_put ob1 hra hr1 (o':=.ins Cr rx (rfs nl (i+1+1)))
      have hrm:(upd H1 rd (.ins Cr rx (rfs nl (i+1+1)))) rd=some (.ins Cr rx (rfs nl (i+1+1))):=upd_same
      have hnm:SqL K (upd H1 rd (.ins Cr rx (rfs nl (i+1+1)))) nl (l.map V.int):=sql_upd hr1 hn1
      have sbm:SameBut rd H (upd H1 rd (.ins Cr rx (rfs nl (i+1+1)))):=sb1.trans SameBut.put
      have domm:InDom (upd H1 rd (.ins Cr rx (rfs nl (i+1+1)))) xs:=dom_but hdom1 hr1 hrm SameBut.put
      generalize upd H1 rd (.ins Cr rx (rfs nl (i+1+1)))=Hm at *
      refine ⟨_,rfl,a,dx,_,rfl,obm,rfl,_,rfl,_,rfl,rd,rx,_,rfl,hrm,rfl,rd,rx,nl,i+1+1,l,x,t,rfl,hrm,hnm,g2,fun H2 p2 sb2 hp2 hr2 hl2 hd2 => ?_⟩
      have hB2:=bench_but hBm hrm hrx sb2
      exact ⟨xs,a,dx,p2,s,z,x,rfl,hB2,SqL.of hl2,(by omega),w60s hall,finQ (.along z x) rfl rfl H2 (i+1+1+1+x.length) (sbm.trans sb2) hB2 hr2 hd2 (by omega)⟩
    by_cases e12:p=12
    · subst e12
      obtain ⟨x,y,rfl,rfl⟩:=call_02 (by decide) hcall
      refine ⟨_,rfl,rfl,_,rfl,iteBF rfl ?_⟩
      refine ⟨_,rfl,rfl,_,rfl,iteBF rfl ?_⟩
      refine ⟨_,rfl,rfl,_,rfl,iteBF rfl ?_⟩
      refine ⟨_,rfl,rfl,_,rfl,iteBF rfl ?_⟩
      refine ⟨_,rfl,rfl,_,rfl,iteBF rfl ?_⟩
      refine ⟨_,rfl,rfl,_,rfl,iteBF rfl ?_⟩
      refine ⟨_,rfl,rfl,_,rfl,iteBF rfl ?_⟩
      refine ⟨_,rfl,rfl,_,rfl,iteBF rfl ?_⟩
      refine ⟨_,rfl,rfl,_,rfl,iteBF rfl ?_⟩
      refine ⟨_,rfl,rfl,_,rfl,iteBF rfl ?_⟩
      refine ⟨_,rfl,rfl,_,rfl,iteBF rfl ?_⟩
      refine ⟨_,rfl,rfl,_,rfl,iteBF rfl ?_⟩
      refine ⟨_,rfl,rfl,_,rfl,iteBT rfl ?_⟩
      refine ⟨_,rfl,rd,rx,_,rfl,hr1,rfl,rd,rx,nl,i+1,l,x,_,rfl,hr1,hn1,hd1,fun H2 p2 sb2 hp2 hr2 hl2 hd2 => ?_⟩
      have hB2:=bench_but hB1 hr1 hrx sb2
      have ob2:=sb2 _ _ ob1 hra.symm
      have hn2:SqL K H2 nl (l.map V.int):=sql_but hr1 hn1 sb2
      refine ⟨_,rfl,a,dx,_,rfl,ob2,rfl,_,rfl,_,rfl,rd,rx,_,rfl,hr2,rfl,rd,rx,nl,i+1+1+x.length,l,y,t,rfl,hr2,hn2,hd2,fun H3 p3 sb3 hp3 hr3 hl3 hd3 => ?_⟩
      have hB3:=bench_but hB2 hr2 hrx sb3
      have hp2r:p2≠rd:=fun e=>by rw [e,hr2] at hl2; cases hl2
      exact ⟨xs,a,dx,p2,p3,s,x,y,rfl,hB3,SqL.of (sb3 _ _ hl2 hp2r),SqL.of hl3,finQ (.eliminate x y) rfl rfl H3 (i+1+1+x.length+1+y.length) ((sb1.trans sb2).trans sb3) hB3 hr3 hd3 (by omega)⟩
    by_cases e13:p=13
    · subst e13
      obtain ⟨x,rfl,rfl⟩:=call_01 (by decide) hcall
      refine ⟨_,rfl,rfl,_,rfl,iteBF rfl ?_⟩
      refine ⟨_,rfl,rfl,_,rfl,iteBF rfl ?_⟩
      refine ⟨_,rfl,rfl,_,rfl,iteBF rfl ?_⟩
      refine ⟨_,rfl,rfl,_,rfl,iteBF rfl ?_⟩
      refine ⟨_,rfl,rfl,_,rfl,iteBF rfl ?_⟩
      refine ⟨_,rfl,rfl,_,rfl,iteBF rfl ?_⟩
      refine ⟨_,rfl,rfl,_,rfl,iteBF rfl ?_⟩
      refine ⟨_,rfl,rfl,_,rfl,iteBF rfl ?_⟩
      refine ⟨_,rfl,rfl,_,rfl,iteBF rfl ?_⟩
      refine ⟨_,rfl,rfl,_,rfl,iteBF rfl ?_⟩
      refine ⟨_,rfl,rfl,_,rfl,iteBF rfl ?_⟩
      refine ⟨_,rfl,rfl,_,rfl,iteBF rfl ?_⟩
      refine ⟨_,rfl,rfl,_,rfl,iteBF rfl ?_⟩
      refine ⟨_,rfl,rfl,_,rfl,iteBT rfl ?_⟩
      have hask1:((x.all (fun (z:Int)=>VagrafNeutral.whole60 z))&&decide (x.length≤200))=true:=hask
      rw [Bool.and_eq_true,decide_eq_true_eq] at hask1
      obtain ⟨hall,hxl⟩:=hask1
      refine ⟨_,rfl,a,dx,_,rfl,ob1,rfl,_,rfl,rd,rx,_,rfl,hr1,rfl,rd,rx,nl,i+1,l,x,t,rfl,hr1,hn1,hd1,fun H2 p2 sb2 hp2 hr2 hl2 hd2 => ?_⟩
      have hB2:=bench_but hB1 hr1 hrx sb2
      exact ⟨xs,a,dx,p2,s,x,rfl,hB2,SqL.of hl2,finQ (.greedy x) rfl rfl H2 (i+1+1+x.length) (sb1.trans sb2) hB2 hr2 hd2 (by omega)⟩
    exfalso
    have hp:p<0∨13<p:=by omega
    rw [call_none (shape_none hp)] at hcall
    cases hcall
end
end Ts
end
section
set_option maxRecDepth 100000
set_option maxHeartbeats 4000000
namespace Ts
open PySem PySem.Spec PyProof.Rows L2
open Vagraa (Frac)
open VagraLine (Line at_ fracsTold)
open Vagraf (State seeds)
def LenOk (r:Vagraf.R (List Int)):Prop:=(ansR r).length≤1000
theorem len_bind {α:Type} {m:Vagraf.R α} {f:α→Vagraf.R (List Int)} (h:∀ x,m = .ok x→LenOk (f x)):LenOk (m >>= f):=by
  cases m with
  | error n=>show (1:Nat)≤1000; decide
  | ok x=>exact h x rfl
theorem len_tell {hd:List Int} {fs:List Frac} (h:hd.length+2*fs.length≤1000):LenOk (Vagraf.tell hd fs):=by
  unfold LenOk Vagraf.tell
  split
  · show (1:Nat)≤1000; decide
  · show (hd++fracsTold fs).length≤1000
    rw [List.length_append,fracs_len]
    exact h
theorem len_counted {fs:List Frac} (h:fs.length≤400):LenOk (Vagraf.counted fs):=len_tell (by show 1+_≤1000; omega)
theorem vals_len {s:State} {vs:List Frac} (h:s.vals = .ok vs):vs.length=s.code.length:=by
  unfold State.vals at h
  cases hp:s.point with
  | none=>rw [hp] at h; cases h
  | some p=>
    rw [hp] at h
    have h':(match VagraLine.run (some 200) p s.code with | .ok vs=>(.ok vs:Vagraf.R (List Frac)) | .error _ => .error (-5)) = .ok vs:=h
    cases hr:VagraLine.run (some 200) p s.code with
    | error e=>rw [hr] at h'; cases h'
    | ok us=>
      rw [hr] at h'
      cases h'
      obtain ⟨_,g2,_,_⟩:=run_ok s.code [] vs hr (fun f hf=>by cases hf)
      simpa using g2
theorem partials_len (vs:List Frac) (v:Frac) (l:Line):(Vagraf.partials vs v l).length≤2:=by cases l <;> simp [Vagraf.partials]
theorem tape_len {c:List Line} {vs:List Frac} (h:vs.length=c.length):(Vagraf.tape c vs).length=c.length:=by
  unfold Vagraf.tape
  rw [List.length_map,List.length_zip]
  omega
theorem tape_flat {c:List Line} {vs:List Frac} (h:vs.length=c.length):((Vagraf.tape c vs).flatMap fun x=>x.map fun p=>p.2).length≤2*c.length:=by
  rw [← tpD_flat]
  have:=flat_len (tpD (Vagraf.tape c vs)) fun ps hps=>by
    obtain ⟨qs,hq,rfl⟩:=List.mem_map.mp hps
    unfold Vagraf.tape at hq
    obtain ⟨x,_,rfl⟩:=List.mem_map.mp hq
    rw [List.length_map]
    exact partials_len _ _ _
  unfold tpD at this ⊢
  rw [List.length_map,tape_len h] at this
  exact this
theorem outs_len {s:State} {l:List Int} {o:List Nat} (h:s.outs l = .ok o):o.length≤12:=by
  by_cases hk:OutsOk s.code.length l
  · rw [outs_in hk] at h
    cases h
    rw [List.length_map]
    exact hk.2
  · rw [outs_out hk] at h
    cases h
theorem greedy_len:∀ (f:Nat) (l:List Nat) (wk:Vagraf.Worked),(Vagraf.greedyFrom f l wk).length≤f
  | 0,_,_=>Nat.le_refl _
  | f+1,l,wk=>by
    show (match Vagraf.cheapest wk.ways l with | none=>[] | some v=>v::Vagraf.greedyFrom f (l.filter fun u => !decide (u=v)) (Vagraf.takeOut v wk)).length≤_
    cases Vagraf.cheapest wk.ways l with
    | none=>exact Nat.zero_le _
    | some v=>
      show (v::Vagraf.greedyFrom f _ _).length≤_
      rw [List.length_cons]
      have:=greedy_len f (l.filter fun u => !decide (u=v)) (Vagraf.takeOut v wk)
      omega
theorem inner_len (c:List Line):(Vagraf.inner c).length≤c.length:=by
  have hs:Vagraf.inner c ⊆ List.range c.length:=fun z hz=>List.mem_range.mpr (inner_mem hz)
  have:=(inner_nd c).length_le_of_subset hs
  rw [List.length_range] at this
  exact this
theorem ask_len {s:State} (hn:s.inputs≤12) (hc:s.code.length≤80) (k:Vagraf.Call):LenOk (s.asked k):=by
  cases k with
  | code n l=>show (1:Nat)≤1000; decide
  | point l=>show (1:Nat)≤1000; decide
  | value i=>rw [asked_value]; exact len_bind fun _ _=>len_bind fun _ _=>len_counted (by show 1≤400; decide)
  | values=>rw [asked_values]; exact len_bind fun vs hv=>len_counted (by rw [vals_len hv]; omega)
  | tape=>
    rw [asked_tape]
    refine len_bind fun vs hv=>len_tell ?_
    have h1:=tape_len (vals_len hv)
    have h2:=tape_flat (vals_len hv)
    rw [List.length_cons,List.length_map,h1]
    omega
  | gradient i=>rw [asked_gradient]; exact len_bind fun _ _=>len_bind fun _ _=>len_counted (by show (Vagraf.byInput _ _ _).length≤400; rw [byInput_length]; omega)
  | pull l=>rw [asked_pull]; exact len_bind fun _ _=>len_bind fun _ _=>len_counted (by show (Vagraf.byInput _ _ _).length≤400; rw [byInput_length]; omega)
  | sums l=>rw [asked_sums]; exact len_bind fun _ _=>len_bind fun _ _=>len_counted (by unfold Vagraf.sums; rw [sweep_all,sweepN_length,seeds_length]; omega)
  | sweep i l=>rw [asked_sweep]; exact len_bind fun _ _=>len_bind fun _ _=>len_bind fun _ _=>len_counted (by rw [sweepN_length,seeds_length]; omega)
  | cost l=>rw [asked_cost]; exact len_bind fun _ _=>len_bind fun _ _=>(by show (2:Nat)≤1000; decide)
  | table l=>
    rw [asked_table]
    refine len_bind fun o ho=>len_bind fun vs _=>len_counted ?_
    have gl:∀ x:Nat,(Vagraf.gradient s.inputs s.code vs x).length=s.inputs:=fun x=>byInput_length _ _ _
    rw [fm_len (n:=s.inputs) _ fun x _=>gl x]
    have:=Nat.mul_le_mul (outs_len ho) hn
    omega
  | along i l=>rw [asked_along]; exact len_bind fun _ _=>len_bind fun _ _=>len_bind fun _ _=>len_counted (by show 1≤400; decide)
  | eliminate l o=>
    rw [asked_eliminate]
    refine len_bind fun o ho=>len_bind fun _ _=>len_bind fun vs _=>len_tell ?_
    rw [table_eq,fm_len (n:=s.inputs) _ fun x _=>byInput_length _ _ _,List.length_zipIdx]
    have:=Nat.mul_le_mul (outs_len ho) hn
    show 2+_≤1000
    omega
  | greedy l=>
    rw [asked_greedy]
    refine len_bind fun o ho=>len_bind fun vs _ => ?_
    show (_++_:List Int).length≤1000
    rw [List.length_append,List.length_map]
    have h1:=greedy_len (Vagraf.inner s.code).length (Vagraf.inner s.code) (Vagraf.worked s.code vs o)
    have h2:=inner_len s.code
    have h3:(Vagraf.greedy s.code vs o).length≤(Vagraf.inner s.code).length:=h1
    show 2+_≤1000
    omega
theorem step_len {s:State} (hn:s.inputs≤12) (hc:s.code.length≤80) (c:List (List Int)):(VagrafNeutral.step s c).2.length≤1000:=by
  unfold VagrafNeutral.step
  cases VagrafNeutral.callOf c with
  | none=>show (1:Nat)≤1000; decide
  | some k=>
    show (VagrafNeutral.encode (Vagraf.step s k).2).length≤1000
    have gen:Vagraf.outcome s k=(do let l ← s.asked k; .ok (s,l))→(VagrafNeutral.encode (Vagraf.step s k).2).length≤1000:=fun h=>by
      rw [(step_ask h).2]
      exact ask_len hn hc k
    cases k with
    | code n l=>
      unfold Vagraf.step
      by_cases h1:n<0∨12<n
      · rw [code_out1 h1]; show (1:Nat)≤1000; decide
      · rw [code_in h1]
        cases VagraLine.codeOf l.length l with
        | none=>show (1:Nat)≤1000; decide
        | some c=>
          simp only
          cases decide (80<c.length) with
          | true=>show (1:Nat)≤1000; decide
          | false=>
            cases VagraLine.well n.toNat c with
            | true=>show (1:Nat)≤1000; decide
            | false=>show (1:Nat)≤1000; decide
    | point l=>
      unfold Vagraf.step
      rw [point_out]
      cases Vagraf.fracs s.inputs l with
      | error n=>show (1:Nat)≤1000; decide
      | ok p=>
        show (Vagraf.ranTold s p).length≤1000
        unfold Vagraf.ranTold
        split
        · show (1:Nat)≤1000; decide
        · show (3:Nat)≤1000; decide
    | _=>exact gen rfl
section
variable {K:PySem.W.Frag} {C:Addr} {xs:List Addr} {H:Hp} {a dx:Addr} {s:State}
theorem BenchIs.add (h:BenchIs K C xs H a dx s) {x:Addr} (hx:H x=none):BenchIs K C (x::xs) H a dx s:=by
  obtain ⟨l,r,t,hp,k,h1,h2,h3⟩:=h
  have ne:∀ y o,H y=some o→y ∉ xs→y ∉ x::xs:=fun y o e hy hm=>by
    rcases List.mem_cons.mp hm with q | q
    · rw [q,hx] at e; cases e
    · exact hy q
  refine ⟨l,r,t,hp,k,h1,ne _ _ h1 h2,{ h3 with lx := ?_,run:=fun p hp' => ?_ }⟩
  · obtain ⟨as,g1,_⟩:=h3.ln
    exact ne _ _ g1 h3.lx
  · obtain ⟨gs,g1,g2,g3,g4⟩:=h3.run p hp'
    obtain ⟨bs,b1,_⟩:=id g2
    refine ⟨gs,ne _ _ b1 g1,g2,g3,fun hk => ?_⟩
    obtain ⟨q1,as,q2,q3,q4⟩:=g4 hk
    refine ⟨ne _ _ q2 q1,as,q2,q3,fun y hy => ?_⟩
    obtain ⟨gs',_,q5⟩:=paired_memL q3 hy
    obtain ⟨cs,c1,_⟩:=q5
    exact ne _ _ c1 (q4 y hy)
theorem BenchIs.sizes (h:BenchIs K C xs H a dx s):s.inputs≤12∧s.code.length≤80:=by
  obtain ⟨_,_,_,_,_,_,_,h3⟩:=h
  exact ⟨h3.hn,h3.hc⟩
end
theorem told_cons (x:List Int) (l:List (List Int)):PyFlat.told (x::l)=((x.length:Int)::x)++PyFlat.told l:=by
  unfold PyFlat.told
  rw [List.flatMap_cons]
theorem asked_open {l:List Int} (h:PyVagraf.answers_asked l=true):∃ cs,PyFlat.calls PyVagraf.shape l.length l=some cs∧cs.length≤400∧(∀ c∈cs,VagrafNeutral.asked1 c=true)∧PyVagraf.answers l=PyFlat.told (PyFlat.played VagrafNeutral.step Vagraf.start cs):=by
  have h':(match PyVagraf.calls l with
    | none=>false
    | some cs=>PyFlat.atMost 400 cs&&VagrafNeutral.asked cs)=true:=h
  have ha:PyVagraf.answers l=match PyVagraf.calls l with
    | none=>[]
    | some cs=>PyFlat.told (PyFlat.played VagrafNeutral.step VagrafNeutral.start cs):=rfl
  have hc:PyVagraf.calls l=match PyFlat.calls PyVagraf.shape l.length l with
    | none=>none
    | some cs=>some (cs.map PyVagraf.whole):=rfl
  cases e:PyFlat.calls PyVagraf.shape l.length l with
  | none=>
    rw [e] at hc
    rw [hc] at h'
    cases h'
  | some cs=>
    rw [e] at hc
    have em:cs.map PyVagraf.whole=cs:=by
      conv=>rhs; rw [← List.map_id cs]
      exact List.map_congr_left fun c _=>whole_id c
    simp only [em] at hc
    rw [hc] at h' ha
    simp only [Bool.and_eq_true] at h'
    have h1:cs.length≤400:=by
      have:=h'.1
      unfold PyFlat.atMost at this
      simpa using this
    have h2:=h'.2
    unfold VagrafNeutral.asked at h2
    rw [Bool.and_eq_true,List.all_eq_true] at h2
    exact ⟨cs,rfl,h1,h2.1,ha⟩
section
variable {P:Program} {w:World} {K:PySem.W.Frag} {mg:Str→Option Value} {base:Heap} {C Cr:Addr}
abbrev st_answers:Stmt:=top 81
theorem sc_answers:FnScope ["calls","bench","reader","told","answer"] ["calls"] (defScope st_answers):=⟨rfl,rfl,rfl,by decide +kernel,rfl,by decide +kernel,by decide +kernel⟩
def spAnswers (K:PySem.W.Frag):Sp:=fun vs H Q _ => ∃ (nl:Addr) (l:List Int),vs=[.ref nl]∧SqL K H nl (l.map V.int)∧PyVagraf.answers_asked l=true∧∀ (H':Hp) (p:Addr),H' p=some (.lst ((PyVagraf.answers l).map V.int))→Q (.ref p) H'
theorem can_answers {fA:Addr} {fdA:FuncData} (T:Txt K mg) (BC:BCls K C) (RC:RCls K Cr) (FA:Fun K "answers" "answers" st_answers fA fdA) (mkB:PySem.W.makesIn K C=true) (kpB:PySem.W.keepIn K (.ref C)=true) (g_Bench:mg "Bench" = some (.ref C)) (mkR:PySem.W.makesIn K Cr=true) (kpR:PySem.W.keepIn K (.ref Cr)=true) (g_Reader:mg "Reader" = some (.ref Cr))
    (c_bi:CanM P w K mg base 41 C "__init__" ["self"] (spBenchInit K C)) (c_ri:CanM P w K mg base 41 Cr "__init__" ["self","numbers"] (spReaderInit K Cr)) (c_Reader_has_more:CanM P w K mg base 41 Cr "has_more" ["self"] (spHasMore K Cr)) (c_answer_call:Can P w K mg base 57 "answer_call" ["bench","reader"] (spAnsCall K C Cr)) :
    FnOk P w K mg base CX0 59 fA fdA ["calls"] (spAnswers K):=by
  have cl_Bench:=BC.cl
  have cl_Reader:=RC.cl
  obtain ⟨f_b,fd_b,F_Bench___init__,b_Bench___init__,m_b⟩:=c_bi
  have M_Bench:Mk K C f_b:=⟨mkB,m_b.at_,m_b.fn,kpB⟩
  obtain ⟨f_r,fd_r,F_Reader___init__,b_Reader___init__,m_r⟩:=c_ri
  have M_Reader:Mk K Cr f_r:=⟨mkR,m_r.at_,m_r.fn,kpR⟩
  refine FA.ok sc_answers (fun vs H Q E h => ?_) (fun cdv A outer s H vs Q E hr h => ?_)
  · obtain ⟨nl,l,rfl,_⟩:=h
    rfl
  · obtain ⟨nl,l,rfl,hnl,hask,q⟩:=h
    refine ⟨_,(pss_cons (ps_set (i:=1) sc_answers.nd rfl (Or.inl rfl) (pe_make0 M_Bench F_Bench___init__ (hr.mono (by decide)) rfl g_Bench b_Bench___init__ .nil pass0))
      (pss_cons (ps_set (i:=2) sc_answers.nd rfl (Or.inl rfl) (pe_make M_Reader F_Reader___init__ (hr.mono (by decide)) rfl g_Reader b_Reader___init__ .nil pass0 (pa_cons (pv 0) pa_nil)))
      (pss_cons (ps_set (i:=3) sc_answers.nd rfl (Or.inl rfl) (pe_lst pa_nil))
      (pss_cons (ps_while PassesOwn.never (pt_val (pe_canM0 c_Reader_has_more cl_Reader (hr.mono (by decide)) (pv 2))) (pss_cons (ps_set (i:=4) sc_answers.nd rfl (Or.inl rfl) (pe_can c_answer_call (hr.mono (by decide)) (pa_cons (pv 1) (pa_cons (pv 2) pa_nil))))
      (pss_cons (ps_expr (pe_bm PySem.F.plainAttrs_list PySem.F.slot_list_append PySem.F.type_list_append mt_append (pv 3) (pa_cons (pe_callB call_len_seq rfl T.n_len PySem.boot_len (pa_cons (pv 4) pa_nil)) pa_nil)))
      (pss_one (ps_expr (pe_bm PySem.F.plainAttrs_list PySem.F.slot_list_extend PySem.F.type_list_extend mt_extend (pv 3) (pa_cons (pv 4) pa_nil)))))))
      (pss_one (ps_ret (pv 3))))))),?_⟩
    obtain ⟨cs0,hcs0,hlen0,hask0,hans⟩:=asked_open hask
    intro a dx na nd ne
    refine ⟨a,dx,rfl,upd_same,fun H1 sb1 hB1=>⟨rfl,?_⟩⟩
    have s1:Same H H1:=fun b o e=>sb1 b o (by rw [upd_ne (ne_of_none e na),upd_ne (ne_of_none e nd)]; exact e) (ne_of_none e na)
    refine ⟨_,rfl,fun rd rx nr nx ner => ?_⟩
    refine ⟨rd,rx,nl,rfl,upd_same,rfl,?_⟩
    rw [upd_upd]
    have sx:Same H1 (upd H1 rx (.own rd)):=Same.new nx
    have nr':(upd H1 rx (.own rd)) rd=none:=by rw [upd_ne (fun e=>ner e.symm)]; exact nr
    have sr:=Same.new (o:=.ins Cr rx (rfs nl 0)) nr'
    have hB2:=((hB1.keep sx).add nr').keep sr
    have s2:Same H (upd (upd H1 rx (.own rd)) rd (.ins Cr rx (rfs nl 0))):=(s1.trans sx).trans sr
    have hrd2:(upd (upd H1 rx (.own rd)) rd (.ins Cr rx (rfs nl 0))) rd=some (.ins Cr rx (rfs nl 0)):=upd_same
    have hrd0:H rd=none:=s1.free nr
    have hard:a≠rd:=fun e=>by
      obtain ⟨_,_,_,_,_,ob,_,_⟩:=hB1
      rw [e,nr] at ob
      cases ob
    generalize upd (upd H1 rx (.own rd)) rd (.ins Cr rx (rfs nl 0))=H2 at *
    refine ⟨Nat.zero_le _,fun tl htl => ?_⟩
    have st:=Same.new (o:=.lst []) htl
    have hB3:=(hB2.add htl).keep st
    have s3:=s2.trans st
    have htl0:=s2.free htl
    have hat:tl≠a:=fun e=>by
      obtain ⟨_,_,_,_,_,ob,_,_⟩:=hB2
      rw [← e,htl] at ob
      cases ob
    have hrt:tl≠rd:=fun e=>by rw [e,hrd2] at htl; cases htl
    refine while_by (fun σ H' => ∃ (v4:Option V) (s:State) (i f:Nat) (cs:List (List (List Int))) (td:List Int),σ=[some (.ref nl),some (.ref a),some (.ref rd),some (.ref tl),v4]∧Same H H'∧BenchIs K C [tl,rd] H' a dx s∧H' rd=some (.ins Cr rx (rfs nl i))∧H' tl=some (.lst (td.map V.int))∧PyFlat.calls PyVagraf.shape f (l.drop i)=some cs∧(∀ c∈cs,VagrafNeutral.asked1 c=true)∧td++PyFlat.told (PyFlat.played VagrafNeutral.step s cs)=PyVagraf.answers l∧td.length+1001*cs.length≤400400)
      (fun _ H'=>match H' rd with | some (.ins _ _ fs)=>(match fs.lookup ("at" : Str) with | some (.int z)=>l.length - z.toNat | _=>0) | _=>0)
      ⟨none,Vagraf.start,0,l.length,cs0,[],rfl,s3,hB3,st _ _ hrd2,upd_same,hcs0,hask0,by rw [hans]; rfl,by show 0+_≤_; omega⟩ ?_
      (fun σ H Q Q' hQ ⟨v,e1,a1,dx1,fs1,e2,e3,e4,a2,dx2,nl2,i2,l2,e5,e6,e7,c2,e8,qq⟩=>⟨v,e1,a1,dx1,fs1,e2,e3,e4,a2,dx2,nl2,i2,l2,e5,e6,e7,c2,e8,hQ _ _ qq⟩)
    rintro σ H4 ⟨v4,s,i,f,cs,td,rfl,s4,hB4,hR4,hT4,hcs,hask4,htd,htl4⟩
    refine ⟨_,rfl,rd,rx,_,rfl,hR4,rfl,rd,rx,nl,i,l,rfl,hR4,s4.seq hnl,_,rfl,?_⟩
    by_cases hi:i<l.length
    case neg=>
      refine iteBF (decide_eq_false (by omega)) ?_
      rw [List.drop_eq_nil_of_le (by omega)] at hcs
      have:=calls_nil hcs
      subst this
      have e:td=PyVagraf.answers l:=by
        have h0:td++[]=PyVagraf.answers l:=htd
        rw [List.append_nil] at h0
        exact h0
      refine ⟨_,rfl,?_⟩
      rw [e] at hT4
      exact q _ _ hT4
    refine iteBT (decide_eq_true (by omega)) ?_
    obtain ⟨p,r,hpr⟩:∃ p r,l.drop i=p::r:=⟨_,_,List.drop_eq_getElem_cons hi⟩
    rw [hpr] at hcs
    obtain ⟨f',c,t,cs',hc1,hc2,rfl⟩:=calls_step hcs
    obtain ⟨hn,hc⟩:=hB4.sizes
    have hdom:InDom H4 [tl,rd]:=fun x hx=>by
      rcases List.mem_cons.mp hx with e | hx
      · rw [e]; exact ⟨_,hT4⟩
      · rw [List.mem_singleton.mp hx]; exact ⟨_,hR4⟩
    refine ⟨_,rfl,_,rfl,[tl,rd],a,dx,rd,rx,nl,s,l,i,c,t,rfl,hB4,by simp,hdom,hR4,s4.seq hnl,by rw [hpr]; exact hc1,hask4 c List.mem_cons_self,fun H5 p5 i' fr5 hp5 hB5 hR5 hd5 hii hA5 => ?_⟩
    have hsl:=step_len hn hc c
    have s5:Same H H5:=fun b o e=>fr5 b o (s4 b o e) (ne_of_none e na) (ne_of_none e hrd0)
    have hT5:=fr5 _ _ hT4 hat hrt
    have hpt:p5≠tl:=fun e=>by rw [e,hT4] at hp5; cases hp5
    have hcl:cs'.length+1=(c::cs').length:=rfl
    have hb1:td.length+1001+1001*cs'.length≤400400:=by
      rw [List.length_cons] at htl4
      omega
    refine ⟨_,rfl,.inl ⟨rfl,_,SqL.of hT5⟩,_,rfl,p5,_,rfl,.inl (SqL.of hA5),tl,_,_,rfl,rfl,hT5,by rw [List.length_map]; exact line_lt (by omega),?_⟩
    have hB6:=hB5.put (o':=.lst (td.map V.int++[V.int ((((VagrafNeutral.step s c).2.map V.int).length:Nat):Int)])) hT5 trivial (by simp)
    have hT6:(upd H5 tl (.lst (td.map V.int++[V.int ((((VagrafNeutral.step s c).2.map V.int).length:Nat):Int)]))) tl=some (.lst (td.map V.int++[V.int ((((VagrafNeutral.step s c).2.map V.int).length:Nat):Int)])):=upd_same
    have hR6:(upd H5 tl (.lst (td.map V.int++[V.int ((((VagrafNeutral.step s c).2.map V.int).length:Nat):Int)]))) rd=some (.ins Cr rx (rfs nl i')):=by rw [upd_ne hrt.symm]; exact hR5
    have hA6:(upd H5 tl (.lst (td.map V.int++[V.int ((((VagrafNeutral.step s c).2.map V.int).length:Nat):Int)]))) p5=some (.lst ((VagrafNeutral.step s c).2.map V.int)):=by rw [upd_ne hpt]; exact hA5
    have s6:Same H (upd H5 tl (.lst (td.map V.int++[V.int ((((VagrafNeutral.step s c).2.map V.int).length:Nat):Int)]))):=samePut htl0 s5
    generalize upd H5 tl (.lst (td.map V.int++[V.int ((((VagrafNeutral.step s c).2.map V.int).length:Nat):Int)]))=H6 at *
    refine ⟨_,rfl,.inl ⟨rfl,_,SqL.of hT6⟩,_,rfl,tl,p5,_,_,rfl,rfl,hT6,hA6,?_,?_⟩
    · rw [List.length_append,List.length_map,List.length_map]
      show td.length+1+_≤sizeLine
      exact line_le (by omega)
    refine ⟨⟨_,(VagrafNeutral.step s c).1,i',f',cs',td++((((VagrafNeutral.step s c).2.length:Nat):Int)::(VagrafNeutral.step s c).2),rfl,samePut htl0 s6,hB6.put hT6 trivial (by simp),by rw [upd_ne hrt.symm]; exact hR6,?_,by rw [hd5]; exact hc2,fun c' hc'=>hask4 c' (List.mem_cons_of_mem _ hc'),?_,?_⟩,?_⟩
    · rw [upd_same,List.map_append,List.map_cons,List.append_assoc,List.length_map]
      rfl
    · rw [← htd]
      show _=td++PyFlat.told ((VagrafNeutral.step s c).2::PyFlat.played VagrafNeutral.step (VagrafNeutral.step s c).1 cs')
      rw [told_cons,List.append_assoc]
    · rw [List.length_append,List.length_cons]
      omega
    · show (match (upd H6 tl _) rd with | some (.ins _ _ fs)=>(match fs.lookup ("at" : Str) with | some (.int z)=>l.length - z.toNat | _=>0) | _=>0)<(match H4 rd with | some (.ins _ _ fs)=>(match fs.lookup ("at" : Str) with | some (.int z)=>l.length - z.toNat | _=>0) | _=>0)
      rw [upd_ne hrt.symm,hR6,hR4]
      show l.length - ((i':Nat):Int).toNat<l.length - ((i:Nat):Int).toNat
      rw [Int.toNat_natCast,Int.toNat_natCast]
      omega
end
end Ts
end
section
set_option maxRecDepth 100000
set_option maxHeartbeats 4000000
namespace Ts
open PySem PySem.Spec PyProof.Rows L2
theorem top_mk {P:Program} {w:World} {K:PySem.W.Frag} {mg:Str→Option Value} {Cw Cb Cr fA:Addr} {fdA:FuncData} (hP:P.given.tree=none) (T:Txt K mg) (WC:WCls K Cw) (BC:BCls K Cb) (RC:RCls K Cr)
    (mkW:PySem.W.makesIn K Cw=true) (kpW:PySem.W.keepIn K (.ref Cw)=true) (gW:mg "Ways" = some (.ref Cw)) (mkB:PySem.W.makesIn K Cb=true) (kpB:PySem.W.keepIn K (.ref Cb)=true) (gB:mg "Bench" = some (.ref Cb)) (mkR:PySem.W.makesIn K Cr=true) (kpR:PySem.W.keepIn K (.ref Cr)=true) (gR:mg "Reader" = some (.ref Cr))
    (hbd:∀ f,Meth K Cw "products_for" f→Bnd K Cw "products_for" f)
    (S_common_divisor:Src K mg "common_divisor" st_common_divisor ["first","second"])
    (S_lowest:Src K mg "lowest" st_lowest ["numerator","denominator"])
    (S_negative:Src K mg "negative" st_negative ["fraction"])
    (S_inverse:Src K mg "inverse" st_inverse ["fraction"])
    (S_plus:Src K mg "plus" st_plus ["first","second"])
    (S_minus:Src K mg "minus" st_minus ["first","second"])
    (S_times:Src K mg "times" st_times ["first","second"])
    (S_over:Src K mg "over" st_over ["first","second"])
    (S_weight:Src K mg "weight" st_weight ["fraction"])
    (S_read_fractions:Src K mg "read_fractions" st_read_fractions ["numbers","count"])
    (S_well_formed:Src K mg "well_formed" st_well_formed ["line"])
    (S_read_lines:Src K mg "read_lines" st_read_lines ["numbers"])
    (S_is_operation:Src K mg "is_operation" st_is_operation ["line"])
    (S_lines_used:Src K mg "lines_used" st_lines_used ["line"])
    (S_uses_are_sound:Src K mg "uses_are_sound" st_uses_are_sound ["lines","inputs"])
    (S_line_value:Src K mg "line_value" st_line_value ["line","results","point"])
    (S_run:Src K mg "run" st_run ["lines","point"])
    (S_own_derivatives:Src K mg "own_derivatives" st_own_derivatives ["line","value","results"])
    (S_make_tape:Src K mg "make_tape" st_make_tape ["lines","results"])
    (S_read_weights:Src K mg "read_weights" st_read_weights ["numbers","count"])
    (S_weight_on_one:Src K mg "weight_on_one" st_weight_on_one ["number","count"])
    (S_sweep_sums:Src K mg "sweep_sums" st_sweep_sums ["lines","tape","weights","down_to"])
    (S_sweep_cost:Src K mg "sweep_cost" st_sweep_cost ["lines","sums"])
    (S_by_inputs:Src K mg "by_inputs" st_by_inputs ["lines","inputs","sums"])
    (S_read_outs:Src K mg "read_outs" st_read_outs ["numbers","count"])
    (S_lines_to_take_out:Src K mg "lines_to_take_out" st_lines_to_take_out ["lines"])
    (S_read_order:Src K mg "read_order" st_read_order ["numbers","lines"])
    (S_take_out_greedily:Src K mg "take_out_greedily" st_take_out_greedily ["ways","waiting"])
    (S_tell:Src K mg "tell" st_tell ["head","fractions"])
    (S_answer_call:Src K mg "answer_call" st_answer_call ["bench","reader"])
    (S_Ways___init__:MSrc K Cw "__init__" "Ways.__init__" st_Ways___init__ ["self","lines","tape","outs"])
    (S_Ways_add_way:MSrc K Cw "add_way" "Ways.add_way" st_Ways_add_way ["self","source","target","worth"])
    (S_Ways_take_out:MSrc K Cw "take_out" "Ways.take_out" st_Ways_take_out ["self","number"])
    (S_Ways_products_for:MSrc K Cw "products_for" "Ways.products_for" st_Ways_products_for ["self","number"])
    (S_Ways_worths_to_end:MSrc K Cw "worths_to_end" "Ways.worths_to_end" st_Ways_worths_to_end ["self","place"])
    (S_Bench___init__:MSrc K Cb "__init__" "Bench.__init__" st_Bench___init__ ["self"])
    (S_Bench_is_line:MSrc K Cb "is_line" "Bench.is_line" st_Bench_is_line ["self","number"])
    (S_Bench_run_refusal:MSrc K Cb "run_refusal" "Bench.run_refusal" st_Bench_run_refusal ["self"])
    (S_Bench_read_refusal:MSrc K Cb "read_refusal" "Bench.read_refusal" st_Bench_read_refusal ["self","read"])
    (S_Bench_sums_down_to:MSrc K Cb "sums_down_to" "Bench.sums_down_to" st_Bench_sums_down_to ["self","number","weights"])
    (S_Bench_input_derivatives:MSrc K Cb "input_derivatives" "Bench.input_derivatives" st_Bench_input_derivatives ["self","weights"])
    (S_Bench_line_derivatives:MSrc K Cb "line_derivatives" "Bench.line_derivatives" st_Bench_line_derivatives ["self","number"])
    (S_Bench_answer_code:MSrc K Cb "answer_code" "Bench.answer_code" st_Bench_answer_code ["self","inputs","numbers"])
    (S_Bench_answer_point:MSrc K Cb "answer_point" "Bench.answer_point" st_Bench_answer_point ["self","numbers"])
    (S_Bench_answer_value:MSrc K Cb "answer_value" "Bench.answer_value" st_Bench_answer_value ["self","number"])
    (S_Bench_answer_values:MSrc K Cb "answer_values" "Bench.answer_values" st_Bench_answer_values ["self"])
    (S_Bench_answer_tape:MSrc K Cb "answer_tape" "Bench.answer_tape" st_Bench_answer_tape ["self"])
    (S_Bench_answer_gradient:MSrc K Cb "answer_gradient" "Bench.answer_gradient" st_Bench_answer_gradient ["self","number"])
    (S_Bench_answer_pull:MSrc K Cb "answer_pull" "Bench.answer_pull" st_Bench_answer_pull ["self","numbers"])
    (S_Bench_answer_sums:MSrc K Cb "answer_sums" "Bench.answer_sums" st_Bench_answer_sums ["self","numbers"])
    (S_Bench_answer_sweep:MSrc K Cb "answer_sweep" "Bench.answer_sweep" st_Bench_answer_sweep ["self","number","numbers"])
    (S_Bench_answer_cost:MSrc K Cb "answer_cost" "Bench.answer_cost" st_Bench_answer_cost ["self","numbers"])
    (S_Bench_answer_table:MSrc K Cb "answer_table" "Bench.answer_table" st_Bench_answer_table ["self","numbers"])
    (S_Bench_answer_along:MSrc K Cb "answer_along" "Bench.answer_along" st_Bench_answer_along ["self","number","numbers"])
    (S_Bench_answer_eliminate:MSrc K Cb "answer_eliminate" "Bench.answer_eliminate" st_Bench_answer_eliminate ["self","out_numbers","order_numbers"])
    (S_Bench_answer_greedy:MSrc K Cb "answer_greedy" "Bench.answer_greedy" st_Bench_answer_greedy ["self","numbers"])
    (S_Reader___init__:MSrc K Cr "__init__" "Reader.__init__" st_Reader___init__ ["self","numbers"])
    (S_Reader_has_more:MSrc K Cr "has_more" "Reader.has_more" st_Reader_has_more ["self"])
    (S_Reader_take_number:MSrc K Cr "take_number" "Reader.take_number" st_Reader_take_number ["self"])
    (S_Reader_take_row:MSrc K Cr "take_row" "Reader.take_row" st_Reader_take_row ["self"])
    (FA:Fun K "answers" "answers" st_answers fA fdA) (base:Heap):FnOk P w K mg base CX0 59 fA fdA ["calls"] (spAnswers K):=by
  have c_common_divisor:=can_common_divisor (P:=P) (w:=w) (base:=base) S_common_divisor
  have c_lowest:=can_lowest (P:=P) (w:=w) (base:=base) hP S_lowest c_common_divisor
  have c_negative:=can_negative (P:=P) (w:=w) (base:=base) S_negative
  have c_inverse:=can_inverse (P:=P) (w:=w) (base:=base) S_inverse
  have c_plus:=can_plus (P:=P) (w:=w) (base:=base) hP S_plus c_common_divisor
  have c_minus:=can_minus (P:=P) (w:=w) (base:=base) S_minus c_plus c_negative
  have c_times:=can_times (P:=P) (w:=w) (base:=base) hP S_times c_common_divisor
  have c_over:=can_over (P:=P) (w:=w) (base:=base) S_over c_times c_inverse
  have c_weight:=can_weight (P:=P) (w:=w) (base:=base) T S_weight
  have c_well_formed:=can_well_formed (P:=P) (w:=w) (base:=base) T S_well_formed
  have c_read_lines:=can_read_lines (P:=P) (w:=w) (base:=base) T S_read_lines c_well_formed
  have c_is_operation:=can_is_operation (P:=P) (w:=w) (base:=base) T S_is_operation
  have c_lines_used:=can_lines_used (P:=P) (w:=w) (base:=base) T S_lines_used c_is_operation
  have c_uses_are_sound:=can_uses_are_sound (P:=P) (w:=w) (base:=base) T S_uses_are_sound c_lines_used
  have c_read_fractions:=can_read_fractions (P:=P) (w:=w) (base:=base) T S_read_fractions c_lowest
  have c_line_value:=can_line_value (P:=P) (w:=w) (base:=base) T S_line_value c_lowest c_negative c_plus c_minus c_times c_over
  have c_run:=can_run (P:=P) (w:=w) (base:=base) T S_run c_line_value c_weight
  have c_own_derivatives:=can_own_derivatives (P:=P) (w:=w) (base:=base) T S_own_derivatives c_inverse c_negative c_times
  have c_make_tape:=can_make_tape (P:=P) (w:=w) (base:=base) T S_make_tape c_own_derivatives
  have c_read_weights:=can_read_weights (P:=P) (w:=w) (base:=base) T S_read_weights c_lowest c_plus
  have c_weight_on_one:=can_weight_on_one (P:=P) (w:=w) (base:=base) T S_weight_on_one
  have c_sweep_sums:=can_sweep_sums (P:=P) (w:=w) (base:=base) T S_sweep_sums c_lines_used c_plus c_times
  have c_sweep_cost:=can_sweep_cost (P:=P) (w:=w) (base:=base) T S_sweep_cost
  have c_by_inputs:=can_by_inputs (P:=P) (w:=w) (base:=base) T S_by_inputs c_plus
  have c_read_outs:=can_read_outs (P:=P) (w:=w) (base:=base) T S_read_outs
  have c_lines_to_take_out:=can_lines_to_take_out (P:=P) (w:=w) (base:=base) T S_lines_to_take_out
  have c_read_order:=can_read_order (P:=P) (w:=w) (base:=base) T S_read_order c_lines_to_take_out
  have c_Ways_add_way:=can_Ways_add_way (P:=P) (w:=w) (base:=base) T WC S_Ways_add_way c_plus
  have c_Ways_products_for:=can_Ways_products_for (P:=P) (w:=w) (base:=base) T WC S_Ways_products_for
  have c_Ways_worths_to_end:=can_Ways_worths_to_end (P:=P) (w:=w) (base:=base) T WC S_Ways_worths_to_end
  have c_Ways_take_out:=can_Ways_take_out (P:=P) (w:=w) (base:=base) T WC S_Ways_take_out c_times c_Ways_add_way
  have c_Ways___init__:=can_Ways___init__ (P:=P) (w:=w) (base:=base) T WC S_Ways___init__ c_lines_used c_Ways_add_way
  have c_takeW:=take_to_W c_Ways_take_out
  have c_take_out_greedily:=can_take_out_greedily (P:=P) (w:=w) (base:=base) T WC S_take_out_greedily c_Ways_products_for hbd c_takeW
  have c_tell:=can_tell (P:=P) (w:=w) (base:=base) T S_tell c_weight
  have c_Bench_is_line:=can_Bench_is_line (P:=P) (w:=w) (base:=base) T BC S_Bench_is_line
  have c_Bench_run_refusal:=can_Bench_run_refusal (P:=P) (w:=w) (base:=base) T BC S_Bench_run_refusal
  have c_Bench_read_refusal:=can_Bench_read_refusal (P:=P) (w:=w) (base:=base) T BC S_Bench_read_refusal c_Bench_run_refusal
  have c_Bench_sums_down_to:=can_Bench_sums_down_to (P:=P) (w:=w) (base:=base) T BC S_Bench_sums_down_to c_sweep_sums
  have c_Bench_input_derivatives:=can_Bench_input_derivatives (P:=P) (w:=w) (base:=base) T BC S_Bench_input_derivatives c_by_inputs c_Bench_sums_down_to
  have c_Bench_line_derivatives:=can_Bench_line_derivatives (P:=P) (w:=w) (base:=base) T BC S_Bench_line_derivatives c_weight_on_one c_Bench_input_derivatives
  have c_Bench_answer_value:=can_Bench_answer_value (P:=P) (w:=w) (base:=base) T BC S_Bench_answer_value c_Bench_is_line c_Bench_run_refusal c_tell
  have c_Bench_answer_values:=can_Bench_answer_values (P:=P) (w:=w) (base:=base) T BC S_Bench_answer_values c_Bench_run_refusal c_tell
  have c_Bench_answer_gradient:=can_Bench_answer_gradient (P:=P) (w:=w) (base:=base) T BC S_Bench_answer_gradient c_Bench_is_line c_Bench_run_refusal c_Bench_line_derivatives c_tell
  have c_Bench_answer_tape:=can_Bench_answer_tape (P:=P) (w:=w) (base:=base) T BC S_Bench_answer_tape c_Bench_run_refusal c_tell
  have c_Bench_answer_pull:=can_Bench_answer_pull (P:=P) (w:=w) (base:=base) T BC S_Bench_answer_pull c_read_weights c_Bench_read_refusal c_Bench_input_derivatives c_tell
  have c_Bench_answer_sums:=can_Bench_answer_sums (P:=P) (w:=w) (base:=base) T BC S_Bench_answer_sums c_read_weights c_Bench_read_refusal c_Bench_sums_down_to c_tell
  have c_Bench_answer_sweep:=can_Bench_answer_sweep (P:=P) (w:=w) (base:=base) T BC S_Bench_answer_sweep c_Bench_is_line c_read_weights c_Bench_read_refusal c_Bench_sums_down_to c_tell
  have c_Bench_answer_cost:=can_Bench_answer_cost (P:=P) (w:=w) (base:=base) T BC S_Bench_answer_cost c_read_weights c_Bench_read_refusal c_is_operation c_Bench_sums_down_to c_sweep_cost
  have c_Bench_answer_table:=can_Bench_answer_table (P:=P) (w:=w) (base:=base) T BC S_Bench_answer_table c_read_outs c_Bench_read_refusal c_Bench_line_derivatives c_tell
  have c_Bench_answer_along:=can_Bench_answer_along (P:=P) (w:=w) (base:=base) T BC S_Bench_answer_along c_Bench_is_line c_read_fractions c_Bench_read_refusal c_Bench_line_derivatives c_plus c_times c_tell
  have c_Bench_answer_eliminate:=can_Bench_answer_eliminate (P:=P) (w:=w) (base:=base) T BC WC S_Bench_answer_eliminate c_read_outs c_read_order c_Bench_run_refusal mkW kpW gW c_Ways___init__ c_takeW c_by_inputs c_Ways_worths_to_end c_tell
  have c_Bench_answer_greedy:=can_Bench_answer_greedy (P:=P) (w:=w) (base:=base) T BC WC S_Bench_answer_greedy c_read_outs c_Bench_read_refusal mkW kpW gW c_Ways___init__ c_take_out_greedily c_lines_to_take_out
  have c_Bench___init__:=can_Bench___init__ (P:=P) (w:=w) (base:=base) T BC S_Bench___init__
  have c_Bench_answer_code:=can_Bench_answer_code (P:=P) (w:=w) (base:=base) T BC S_Bench_answer_code c_read_lines c_uses_are_sound
  have c_Bench_answer_point:=can_Bench_answer_point (P:=P) (w:=w) (base:=base) T BC S_Bench_answer_point c_read_fractions c_run c_make_tape
  have c_Reader___init__:=can_Reader___init__ (P:=P) (w:=w) (base:=base) T RC S_Reader___init__
  have c_Reader_has_more:=can_Reader_has_more (P:=P) (w:=w) (base:=base) T RC S_Reader_has_more
  have c_Reader_take_number:=can_Reader_take_number (P:=P) (w:=w) (base:=base) T RC S_Reader_take_number
  have c_Reader_take_row:=can_Reader_take_row (P:=P) (w:=w) (base:=base) T RC S_Reader_take_row c_Reader_take_number
  have c_answer_call:=can_answer_call (P:=P) (w:=w) (base:=base) T BC RC S_answer_call c_Reader_take_number c_Reader_take_row c_Bench_answer_code c_Bench_answer_point c_Bench_answer_value c_Bench_answer_values c_Bench_answer_tape c_Bench_answer_gradient c_Bench_answer_pull c_Bench_answer_sums c_Bench_answer_sweep c_Bench_answer_cost c_Bench_answer_table c_Bench_answer_along c_Bench_answer_eliminate c_Bench_answer_greedy
  exact can_answers T BC RC FA mkB kpB gB mkR kpR gR c_Bench___init__ c_Reader___init__ c_Reader_has_more c_answer_call
section
variable {K:PySem.W.Frag} {h:Heap} {mg:Str→Option Value}
theorem mk_gc {x:Str} {n:Int} {t:Tok} (X:K.In h) (G:h.Ns mainGlobals mg) (a:PySem.W.nsIn K mainGlobals x=some (some (.int n t))):Gc mg x (.int n):=⟨_,PySem.W.mg_of X G a,⟨t,rfl⟩⟩
theorem mk_tup {x:Str} {f:Addr} {dct:Option Addr} {its:Array Value} {n:Nat} {sl:Array (Option Value)} {xs:List V} (X:K.In h) (G:h.Ns mainGlobals mg) (a:PySem.W.nsIn K mainGlobals x=some (some (.ref f))) (l:K.lookup f=some ⟨.type "tuple",dct,.seq its n,sl⟩) (v:Vals xs its.toList) (hz:its.size≤sizeLine) :
    ∃ b,mg x=some (.ref b)∧∀ H,SqT K H b xs:=⟨f,PySem.W.mg_of X G a,fun H => .inr ⟨_,its,n,l,rfl,rfl,hz,v⟩⟩
theorem mk_src {x:Str} {st:Stmt} {ps:List Str} {f:Addr} {oc:Value} {od an:Option Addr} {osl:Array (Option Value)} {kV doc pm cdv ct:Value} (X:K.In h) (G:h.Ns mainGlobals mg) (a:PySem.W.nsIn K mainGlobals x=some (some (.ref f))) (l:K.lookup f=some ⟨oc,od,.func (PySem.W.fnOf x x (defArgs st) (defBody st) (defScope st) .none kV doc pm an cdv ct),osl⟩)
    (c:PySem.W.codeIn K cdv x=true) (k:PySem.W.keepIn K (.ref f)=true) (b:∀ (kV doc pm:Value) (an:Option Addr) (cdv ct:Value) (us:List Value),us.length=ps.length→bindArgs (PySem.W.fnOf x x (defArgs st) (defBody st) (defScope st) .none kV doc pm an cdv ct) ⟨us,[]⟩=pure (ps.zip us)):Src K mg x st ps :=
  ⟨f,_,fun_mk l c k,(fun_mk l c k).binds b,PySem.W.mg_of X G a⟩
theorem mk_msrc {cn:Str} {C:Addr} {m qual:Str} {st:Stmt} {ps:List Str} {f:Addr} {oc:Value} {od an:Option Addr} {osl:Array (Option Value)} {kV doc pm cdv ct:Value} (X:K.In h) (gC:mg cn=some (.ref C)) (a:PySem.W.findIn K (.ref C) m=some (some (.ref f))) (i:PySem.W.isFn K (.ref f)=true) (l:K.lookup f=some ⟨oc,od,.func (PySem.W.fnOf m qual (defArgs st) (defBody st) (defScope st) .none kV doc pm an cdv ct),osl⟩)
    (c:PySem.W.codeIn K cdv qual=true) (k:PySem.W.keepIn K (.ref f)=true) (b:∀ (kV doc pm:Value) (an:Option Addr) (cdv ct:Value) (us:List Value),us.length=ps.length→bindArgs (PySem.W.fnOf m qual (defArgs st) (defBody st) (defScope st) .none kV doc pm an cdv ct) ⟨us,[]⟩=pure (ps.zip us)):MSrc K C m qual st ps :=
  ⟨f,_,fun_mk l c k,(fun_mk l c k).binds b,a,i,k⟩
theorem mk_bnd {cn:Str} {C:Addr} {m:Str} {f:Addr} (X:K.In h) (gC:mg cn=some (.ref C)) (a:PySem.W.findIn K (.ref C) m=some (some (.ref f))) (g:PySem.W.specialIn K (.ref f) "__get__" = some (some (.builtin "function.__get__"))) (t:PySem.W.takesIn K (.ref f)=some false) (cp:PySem.W.copiedNames.contains m=false):∀ f',Meth K C m f'→Bnd K C m f':=fun f' M=>by
  have e:=M.at_
  rw [a] at e
  cases e
  exact ⟨M,g,t,cp⟩
theorem mk_cls {x:Str} {C:Addr} (X:K.In h) (gC:mg x=some (.ref C)) (pg:PySem.W.plainGet K C Str.empty=true) (hd:PySem.W.hasDictIn K C=true) (po:PySem.W.plainOver K C=true) (sa:PySem.W.findIn K (.ref C) "__setattr__" = some (some (.builtin "object.__setattr__"))) (mk:PySem.W.makesIn K C=true) (kc:PySem.W.keepIn K (.ref C)=true):Cls K C∧PySem.W.makesIn K C=true∧PySem.W.keepIn K (.ref C)=true:=⟨⟨pg,hd,po,sa⟩,mk,kc⟩
theorem mk_no {x:Str} {C:Addr} {f:Str} (X:K.In h) (gC:mg x=some (.ref C)) (n:PySem.W.findIn K (.ref C) f=some none):NoAttr K C f:=n
theorem mk_ans {P:Program} {w:World} {fa f:Addr} {oc:Value} {od an:Option Addr} {osl:Array (Option Value)} {kV doc pm cdv ct:Value} (X:K.In h) (G:h.Ns mainGlobals mg) (hm:mg "answers" = some (.ref fa)) (a:PySem.W.nsIn K mainGlobals "answers" = some (some (.ref f)))
    (l:K.lookup f=some ⟨oc,od,.func (PySem.W.fnOf "answers" "answers" (defArgs st_answers) (defBody st_answers) (defScope st_answers) .none kV doc pm an cdv ct),osl⟩) (c:PySem.W.codeIn K cdv "answers" = true) (k:PySem.W.keepIn K (.ref f)=true)
    (F:∀ (fdA:FuncData),Fun K "answers" "answers" st_answers fa fdA→∀ base,FnOk P w K mg base CX0 59 fa fdA ["calls"] (spAnswers K)) :
    ∃ fd:FuncData,(∀ (s:Shared) (us:List Value),us.length=(["calls"]:List Str).length→BindsTo s fd ⟨us,[]⟩ ((["calls"]:List Str).zip us))∧∀ base:Heap,K.In base→base.Ns mainGlobals mg→FnOk P w K mg base CX0 59 fa fd ["calls"] (spAnswers K):=by
  have e:=hm.symm.trans (PySem.W.mg_of X G a)
  cases e
  exact ⟨_,fun s us hu=>match us,hu with | [_],_ => .of_eq rfl,fun base _ _=>F _ (fun_mk l c k) base⟩
end
end Ts
end
namespace PySem.W.Fast
def tw8547502524697848382:=()
def tw1577480674397843819:=()
def tw15664184719170962065:=()
def tw14412476176694238201:=()
def tw7205284807262335237:=()
def tw8749037524505233710:=()
def tw10144504816901321158:=()
def tw9898621880110077887:=()
def tw2327048905348088689:=()
def tw14410745317959303041:=()
def tw16593257825854646181:=()
def tw10111273358949453957:=()
def tw16687383303245405658:=()
def tw12659295610157703108:=()
def tw6165996148484654994:=()
def tw5096576932923199590:=()
def tw2589671009255048686:=()
def tw2881685437010805914:=()
def tw13705280170684431550:=()
def tw11458416661791577599:=()
def tw11023741343800908750:=()
def tw15538243580255116436:=()
def tw16071325316583769021:=()
def tw11269975638386514450:=()
def tw17237778994695531390:=()
def tw1703000059310514219:=()
def tw15278171098506843678:=()
def tw9436050023872786227:=()
def tw16901007423135682655:=()
def tw11995807708948810157:=()
def tw17437009249684134935:=()
def tw14250315251999152911:=()
def tw14573089825233657023:=()
def tw4804865673285334056:=()
def tw4373115128250211423:=()
def tw2814986217614967932:=()
def tw14349662400977868865:=()
def tw4465807869110558126:=()
def tw1930991463003329962:=()
def tw4488273854118256696:=()
def tw6361638064408014738:=()
def tw14245819250543142857:=()
def tw18402929504031682861:=()
def tw9487794677223751594:=()
def tw3675946599482881590:=()
def tw13526337168583182120:=()
def tw17549225498430941197:=()
def tw12558942334676971700:=()
def tw12244288423078523226:=()
def tw8030075293583462579:=()
def tw6611163726400669991:=()
def tw12715460408546797414:=()
def tw5683391658312873882:=()
def tw16067775686551212810:=()
def tw7038290724935467421:=()
def tw17221764094116271822:=()
def tw14889902763461754192:=()
def tw6752832295308026527:=()
def tw6401995578628676115:=()
def tw6938813309829851063:=()
def tw5099209665344611289:=()
def tw14772342932268266472:=()
def tw13850549576417202984:=()
def tw1750861322486106907:=()
def tw472095979936181065:=()
def tw10260181121519027786:=()
def tw2664552004053039476:=()
def tw17744241358251529076:=()
def tw3983921102379300609:=()
def tw10937930114698616095:=()
def tw12256670578699459194:=()
def tw3375050003296530290:=()
def tw15701823209741509075:=()
def tw15067078563385814062:=()
def tw9163301774713385779:=()
def tw12143744034025158789:=()
def tw17312225737439580396:=()
def tw9559970420331006147:=()
def tw4894259297493083829:=()
def tw11347773158103460190:=()
def tw13645819039412548023:=()
def tw3037122546699085120:=()
def tw3591914801311690038:=()
def tw1369009738491481156:=()
def tw17938097196496726377:=()
def tw12164799374771315478:=()
def tw7076965920689563924:=()
def tw2308253850611575469:=()
def tw11618522147082723662:=()
def tw2941164230293015204:=()
def tw10382763765298478767:=()
def tw5750247420753024217:=()
def tw7633029775826807590:=()
def tw292084994622742520:=()
def tw15151868511571477144:=()
def tw7510440396555204109:=()
def tw6319825126757569151:=()
def tw14690534459136176335:=()
def tw2794485058631380974:=()
def tw11055574073813128074:=()
def tw10609703941048061308:=()
def tw15480014830184075966:=()
def tw4446229552889843656:=()
def tw1922790174168388392:=()
def tw9228026722552419352:=()
def tw17421211997555567033:=()
def tw15538503438369791921:=()
def tw14045656770550133959:=()
def tw9524887146952434977:=()
def tw6516365611466411202:=()
def tw1824339487435999570:=()
def tw6769319380603786730:=()
def tw8111583219943467063:=()
def tw17697865494396663992:=()
def tw11096466993533056708:=()
def tw7113471479547967129:=()
def tw14625200906730817036:=()
def tw6952776320789896229:=()
def tw18105106300723810058:=()
def tw15778465393989485243:=()
def tw12788654765053781438:=()
def tw5184158547427939558:=()
def tw17862930740788477454:=()
def tw12179126210267156994:=()
def tw2423414265322440866:=()
def tw13458673993223121857:=()
def tw16402715788289200884:=()
def tw4614578830520837151:=()
def tw8335800227966941366:=()
def tw3472907697355836204:=()
def tw1002755852430404764:=()
def tw4146212511508764543:=()
def tw1408847088668306901:=()
def tw17175375726379188500:=()
def tw16120405405406197159:=()
def tw6539069405888676611:=()
def tw12279126204828818106:=()
def tw12115921463192145669:=()
def tw13147374175270370026:=()
def tw4093710180082680824:=()
def tw15912791842699513768:=()
def tw11896980702013315599:=()
def tw8111031963445737921:=()
def tw1124618963696959140:=()
def tw7699071862702069810:=()
def tw13446376868204268351:=()
def tw10720539460263025828:=()
def tw2967527273620454658:=()
def tw16223880257451012540:=()
def tw18240821554672230766:=()
def tw10899033528246818713:=()
def tw11145948170193493149:=()
def tw11677083985797205337:=()
def tw9971731948805590899:=()
def tw15592471661287602519:=()
def tw9387486206767426651:=()
def tw16009435843010092063:=()
def tw895632516159912173:=()
def tw16842902315366785290:=()
def tw2307018115389629359:=()
def tw12511474279077741540:=()
def tw12969132294880266668:=()
def tw11697530278218067597:=()
def tw5415799034098618295:=()
def tw9877872616326596180:=()
def tw180920437539108924:=()
def tw4014001826123791079:=()
def tw10875262930490548389:=()
def tw16613105072058712574:=()
def tw332098190112661501:=()
def tw10964751072628766369:=()
def tw15204426286930143177:=()
def tw11087095356371068402:=()
def tw17185276742545143404:=()
def tw18033701008616773997:=()
def tw14805093618021827:=()
def tw8695176222878494178:=()
def tw11623939493628296334:=()
def tw11185308818944441014:=()
def tw15726931044164604425:=()
def tw7291036919701307864:=()
def tw12036942119408604602:=()
def tw3350910714041542439:=()
def tw3823605106737954698:=()
def tw900684282820155188:=()
def tw10766150815100794403:=()
def tw572390538108648880:=()
def tw17848580522745913519:=()
def tw4309888518914690662:=()
def tw16028434372851943509:=()
def tw3350791520616150617:=()
def tw6318138241114133787:=()
def tw15176741365126396670:=()
def tw8631088321820193846:=()
def tw16184035107780947796:=()
def tw15120269347430060516:=()
def tw16099203847788358734:=()
def tw15437248525698547345:=()
def tw12963603567865832215:=()
def tw12864524043911798654:=()
def tw1074555040942509469:=()
def tw3703778121649484899:=()
def tw11918349576094823433:=()
def tw9173472982277002217:=()
def tw5777126185497416039:=()
def tw2687871112611262319:=()
def tw16974309909981383064:=()
def tw16932504131753918643:=()
def tw14393301549955111748:=()
def tw10048479056251168407:=()
def tw9179921158450858488:=()
def tw2272455129275234913:=()
def tw16021277200181015463:=()
def tw15545810150810586583:=()
def tw9804251459117621374:=()
def tw5445630242712935423:=()
def tw16846841903098245034:=()
def tw7719865989959124035:=()
def tw7011745075456055072:=()
def tw3551569997388263855:=()
def tw177183670601157552:=()
def tw13659856216959671041:=()
def tw8544570877119474114:=()
def tw7135364848445565185:=()
def tw10232548610428845974:=()
def tw679684150067626304:=()
def tw13729869157515207893:=()
def tw9730483103565804340:=()
def tw3442659178959934265:=()
def tw16778249137025191608:=()
def tw6153711965572363646:=()
def tw2171889407774084851:=()
def tw7970786823512535795:=()
def tw3419073445833407794:=()
def tw5428331405411038123:=()
def tw17698260611848382248:=()
def tw13817306189848943237:=()
def tw8420909652849012263:=()
def tw690055791193808186:=()
def tw15843766697182240396:=()
def tw1033803999716275438:=()
def tw3423202144478145667:=()
def tw173154223648767795:=()
def tw10695493589822853316:=()
def tw15747529019491637961:=()
def tw876128431729990514:=()
def tw4684441934125676968:=()
def tw14846721878907775418:=()
def tw5575363933596137321:=()
def tw13279638670856163972:=()
def tw16362626718367115191:=()
def tw6258612982497657616:=()
def tw2154800565875504711:=()
def tw8561776347713169407:=()
def tw4637892163129641025:=()
def tw2516404781905744584:=()
def tw14779854539659119537:=()
def tw16183995314098300444:=()
def tw8993302035928057812:=()
def tw2655680836626126803:=()
def tw4837922328112089430:=()
def tw16998903344615725498:=()
def tw11542258161511158710:=()
def tw6624949521465022623:=()
def tw5417798820437789276:=()
def tw4387478026399439285:=()
def tw11947398228768806286:=()
def tw8711301766402491255:=()
def tw16828667424471095755:=()
def tw12729160847402862406:=()
def tw4554934640672701684:=()
def tw17089046466227731774:=()
def tw12573794723859690916:=()
def tw5330422019847758752:=()
def tw6404356466387822678:=()
def tw11801035814039650603:=()
def tw879824444566512157:=()
def tw17675768233224964415:=()
def tw12643853074882140826:=()
def tw11563667648902721008:=()
def tw1154781973355213005:=()
def tw17587361798010736184:=()
def tw13897180401878701872:=()
def tw18191761843100268462:=()
def tw6836748610615580525:=()
def tw8016187012222582897:=()
def tw5511575794974288579:=()
def tw13127037345434779519:=()
def tw3302536468932901993:=()
def tw5941317420234713902:=()
def tw15281664239512291916:=()
def tw13012721198312285520:=()
def tw4708400978398985897:=()
def tw6749805299124999291:=()
def tw5320646851091596831:=()
def tw2957289978398614874:=()
def tw11062107301960929269:=()
end PySem.W.Fast
open PySem PySem.W PyProof.Rows
set_option maxRecDepth 100000 in
set_option maxHeartbeats 0 in
theorem PySem.Challenge.cw_tapesweep_s01_answers_holds : PySem.Challenge.rw_tapesweep_s01_answers.Holds := by
  w_on; k_headS; (case hw=>exact ⟨[.list [.int 3]],by decide +kernel,by decide +kernel⟩)
  k_fillS
  refine L2.walk_specK (r:=PySem.Challenge.rw_tapesweep_s01_answers) (k:=59) (CX:=L2.CX0) (ps:=["calls"]) (sp:=Ts.spAnswers) (by decide +kernel) (by decide +kernel) rfl rfl ⟨rfl,by decide,by decide⟩ (fun w h Y=>PySem.W.kIn_of Y) ?F ?S (fun _ _ _ _ z=>z)
  case F=>
    intro w mg fa h Y KX G hmg
    have g_Ways:=PySem.W.mg_of (n := "Ways") KX G (by k_is)
    have x_Ways:=Ts.mk_cls (x := "Ways") KX g_Ways (by k_is) (by k_is) (by k_is) (by k_is) (by k_is) (by k_is)
    have C_Ways:=Ts.WCls.mk x_Ways.1 (Ts.mk_no (f := "first_end") KX g_Ways (by k_is)) (Ts.mk_no (f := "going") KX g_Ways (by k_is)) (Ts.mk_no (f := "coming") KX g_Ways (by k_is)) (Ts.mk_no (f := "products") KX g_Ways (by k_is)) (Ts.mk_no (f := "sums") KX g_Ways (by k_is))
    have g_Bench:=PySem.W.mg_of (n := "Bench") KX G (by k_is)
    have x_Bench:=Ts.mk_cls (x := "Bench") KX g_Bench (by k_is) (by k_is) (by k_is) (by k_is) (by k_is) (by k_is)
    have C_Bench:=Ts.BCls.mk x_Bench.1 (Ts.mk_no (f := "inputs") KX g_Bench (by k_is)) (Ts.mk_no (f := "lines") KX g_Bench (by k_is)) (Ts.mk_no (f := "has_point") KX g_Bench (by k_is)) (Ts.mk_no (f := "fault") KX g_Bench (by k_is)) (Ts.mk_no (f := "results") KX g_Bench (by k_is)) (Ts.mk_no (f := "tape") KX g_Bench (by k_is))
    have g_Reader:=PySem.W.mg_of (n := "Reader") KX G (by k_is)
    have x_Reader:=Ts.mk_cls (x := "Reader") KX g_Reader (by k_is) (by k_is) (by k_is) (by k_is) (by k_is) (by k_is)
    have C_Reader:=Ts.RCls.mk x_Reader.1 (Ts.mk_no (f := "numbers") KX g_Reader (by k_is)) (Ts.mk_no (f := "at") KX g_Reader (by k_is))
    have T:=Ts.Txt.mk (PySem.W.mg_none_of KX G (by k_is))
      (PySem.W.mg_none_of KX G (by k_is))
      (PySem.W.mg_none_of KX G (by k_is))
      (PySem.W.mg_none_of KX G (by k_is))
      (PySem.W.mg_none_of KX G (by k_is))
      (PySem.W.mg_none_of KX G (by k_is))
      (PySem.W.mg_none_of KX G (by k_is))
      (PySem.W.mg_none_of KX G (by k_is))
      (PySem.W.mg_none_of KX G (by k_is))
      (Ts.mk_tup KX G (by k_is) (by k_is) (by exact (.cons ⟨_,rfl⟩ (.cons ⟨_,rfl⟩ .nil))) (by decide))
      (Ts.mk_tup KX G (by k_is) (by k_is) (by exact (.cons ⟨_,rfl⟩ (.cons ⟨_,rfl⟩ .nil))) (by decide))
      (Ts.mk_tup KX G (by k_is) (by k_is) (by exact (.cons ⟨_,rfl⟩ (.cons ⟨_,rfl⟩ .nil))) (by decide))
      (Ts.mk_gc KX G (by k_is))
      (Ts.mk_gc KX G (by k_is))
      (Ts.mk_gc KX G (by k_is))
      (Ts.mk_gc KX G (by k_is))
      (Ts.mk_gc KX G (by k_is))
      (Ts.mk_gc KX G (by k_is))
      (Ts.mk_gc KX G (by k_is))
      (Ts.mk_tup KX G (by k_is) (by k_is) (by exact (.cons ⟨_,rfl⟩ (.cons ⟨_,rfl⟩ (.cons ⟨_,rfl⟩ (.cons ⟨_,rfl⟩ (.cons ⟨_,rfl⟩ (.cons ⟨_,rfl⟩ (.cons ⟨_,rfl⟩ .nil)))))))) (by decide))
      (Ts.mk_gc KX G (by k_is))
      (Ts.mk_gc KX G (by k_is))
      (Ts.mk_gc KX G (by k_is))
      (Ts.mk_gc KX G (by k_is))
      (Ts.mk_gc KX G (by k_is))
      (Ts.mk_gc KX G (by k_is))
      (Ts.mk_gc KX G (by k_is))
      (Ts.mk_gc KX G (by k_is))
      (Ts.mk_gc KX G (by k_is))
      (Ts.mk_gc KX G (by k_is))
      (Ts.mk_gc KX G (by k_is))
      (Ts.mk_tup KX G (by k_is) (by k_is) (by exact (.cons ⟨_,rfl⟩ (.cons ⟨_,rfl⟩ (.cons ⟨_,rfl⟩ (.cons ⟨_,rfl⟩ (.cons ⟨_,rfl⟩ (.cons ⟨_,rfl⟩ (.cons ⟨_,rfl⟩ .nil)))))))) (by decide))
      (Ts.mk_gc KX G (by k_is))
      (Ts.mk_gc KX G (by k_is))
      (Ts.mk_gc KX G (by k_is))
      (Ts.mk_gc KX G (by k_is))
      (Ts.mk_gc KX G (by k_is))
      (Ts.mk_gc KX G (by k_is))
      (Ts.mk_gc KX G (by k_is))
      (Ts.mk_gc KX G (by k_is))
      (Ts.mk_gc KX G (by k_is))
      (Ts.mk_gc KX G (by k_is))
      (Ts.mk_gc KX G (by k_is))
      (Ts.mk_gc KX G (by k_is))
      (Ts.mk_gc KX G (by k_is))
      (Ts.mk_gc KX G (by k_is))
      (Ts.mk_gc KX G (by k_is))
      (Ts.mk_gc KX G (by k_is))
      (Ts.mk_gc KX G (by k_is))
      (Ts.mk_gc KX G (by k_is))
    have S_common_divisor:=Ts.mk_src (x := "common_divisor") (st:=Ts.st_common_divisor) (ps:=["first","second"]) KX G (by k_is) (by k_is) (by k_is) (by k_is) (fun _ _ _ _ _ _ us hl=>match us,hl with | [_,_],_=>rfl)
    have S_lowest:=Ts.mk_src (x := "lowest") (st:=Ts.st_lowest) (ps:=["numerator","denominator"]) KX G (by k_is) (by k_is) (by k_is) (by k_is) (fun _ _ _ _ _ _ us hl=>match us,hl with | [_,_],_=>rfl)
    have S_negative:=Ts.mk_src (x := "negative") (st:=Ts.st_negative) (ps:=["fraction"]) KX G (by k_is) (by k_is) (by k_is) (by k_is) (fun _ _ _ _ _ _ us hl=>match us,hl with | [_],_=>rfl)
    have S_inverse:=Ts.mk_src (x := "inverse") (st:=Ts.st_inverse) (ps:=["fraction"]) KX G (by k_is) (by k_is) (by k_is) (by k_is) (fun _ _ _ _ _ _ us hl=>match us,hl with | [_],_=>rfl)
    have S_plus:=Ts.mk_src (x := "plus") (st:=Ts.st_plus) (ps:=["first","second"]) KX G (by k_is) (by k_is) (by k_is) (by k_is) (fun _ _ _ _ _ _ us hl=>match us,hl with | [_,_],_=>rfl)
    have S_minus:=Ts.mk_src (x := "minus") (st:=Ts.st_minus) (ps:=["first","second"]) KX G (by k_is) (by k_is) (by k_is) (by k_is) (fun _ _ _ _ _ _ us hl=>match us,hl with | [_,_],_=>rfl)
    have S_times:=Ts.mk_src (x := "times") (st:=Ts.st_times) (ps:=["first","second"]) KX G (by k_is) (by k_is) (by k_is) (by k_is) (fun _ _ _ _ _ _ us hl=>match us,hl with | [_,_],_=>rfl)
    have S_over:=Ts.mk_src (x := "over") (st:=Ts.st_over) (ps:=["first","second"]) KX G (by k_is) (by k_is) (by k_is) (by k_is) (fun _ _ _ _ _ _ us hl=>match us,hl with | [_,_],_=>rfl)
    have S_weight:=Ts.mk_src (x := "weight") (st:=Ts.st_weight) (ps:=["fraction"]) KX G (by k_is) (by k_is) (by k_is) (by k_is) (fun _ _ _ _ _ _ us hl=>match us,hl with | [_],_=>rfl)
    have S_read_fractions:=Ts.mk_src (x := "read_fractions") (st:=Ts.st_read_fractions) (ps:=["numbers","count"]) KX G (by k_is) (by k_is) (by k_is) (by k_is) (fun _ _ _ _ _ _ us hl=>match us,hl with | [_,_],_=>rfl)
    have S_well_formed:=Ts.mk_src (x := "well_formed") (st:=Ts.st_well_formed) (ps:=["line"]) KX G (by k_is) (by k_is) (by k_is) (by k_is) (fun _ _ _ _ _ _ us hl=>match us,hl with | [_],_=>rfl)
    have S_read_lines:=Ts.mk_src (x := "read_lines") (st:=Ts.st_read_lines) (ps:=["numbers"]) KX G (by k_is) (by k_is) (by k_is) (by k_is) (fun _ _ _ _ _ _ us hl=>match us,hl with | [_],_=>rfl)
    have S_is_operation:=Ts.mk_src (x := "is_operation") (st:=Ts.st_is_operation) (ps:=["line"]) KX G (by k_is) (by k_is) (by k_is) (by k_is) (fun _ _ _ _ _ _ us hl=>match us,hl with | [_],_=>rfl)
    have S_lines_used:=Ts.mk_src (x := "lines_used") (st:=Ts.st_lines_used) (ps:=["line"]) KX G (by k_is) (by k_is) (by k_is) (by k_is) (fun _ _ _ _ _ _ us hl=>match us,hl with | [_],_=>rfl)
    have S_uses_are_sound:=Ts.mk_src (x := "uses_are_sound") (st:=Ts.st_uses_are_sound) (ps:=["lines","inputs"]) KX G (by k_is) (by k_is) (by k_is) (by k_is) (fun _ _ _ _ _ _ us hl=>match us,hl with | [_,_],_=>rfl)
    have S_line_value:=Ts.mk_src (x := "line_value") (st:=Ts.st_line_value) (ps:=["line","results","point"]) KX G (by k_is) (by k_is) (by k_is) (by k_is) (fun _ _ _ _ _ _ us hl=>match us,hl with | [_,_,_],_=>rfl)
    have S_run:=Ts.mk_src (x := "run") (st:=Ts.st_run) (ps:=["lines","point"]) KX G (by k_is) (by k_is) (by k_is) (by k_is) (fun _ _ _ _ _ _ us hl=>match us,hl with | [_,_],_=>rfl)
    have S_own_derivatives:=Ts.mk_src (x := "own_derivatives") (st:=Ts.st_own_derivatives) (ps:=["line","value","results"]) KX G (by k_is) (by k_is) (by k_is) (by k_is) (fun _ _ _ _ _ _ us hl=>match us,hl with | [_,_,_],_=>rfl)
    have S_make_tape:=Ts.mk_src (x := "make_tape") (st:=Ts.st_make_tape) (ps:=["lines","results"]) KX G (by k_is) (by k_is) (by k_is) (by k_is) (fun _ _ _ _ _ _ us hl=>match us,hl with | [_,_],_=>rfl)
    have S_read_weights:=Ts.mk_src (x := "read_weights") (st:=Ts.st_read_weights) (ps:=["numbers","count"]) KX G (by k_is) (by k_is) (by k_is) (by k_is) (fun _ _ _ _ _ _ us hl=>match us,hl with | [_,_],_=>rfl)
    have S_weight_on_one:=Ts.mk_src (x := "weight_on_one") (st:=Ts.st_weight_on_one) (ps:=["number","count"]) KX G (by k_is) (by k_is) (by k_is) (by k_is) (fun _ _ _ _ _ _ us hl=>match us,hl with | [_,_],_=>rfl)
    have S_sweep_sums:=Ts.mk_src (x := "sweep_sums") (st:=Ts.st_sweep_sums) (ps:=["lines","tape","weights","down_to"]) KX G (by k_is) (by k_is) (by k_is) (by k_is) (fun _ _ _ _ _ _ us hl=>match us,hl with | [_,_,_,_],_=>rfl)
    have S_sweep_cost:=Ts.mk_src (x := "sweep_cost") (st:=Ts.st_sweep_cost) (ps:=["lines","sums"]) KX G (by k_is) (by k_is) (by k_is) (by k_is) (fun _ _ _ _ _ _ us hl=>match us,hl with | [_,_],_=>rfl)
    have S_by_inputs:=Ts.mk_src (x := "by_inputs") (st:=Ts.st_by_inputs) (ps:=["lines","inputs","sums"]) KX G (by k_is) (by k_is) (by k_is) (by k_is) (fun _ _ _ _ _ _ us hl=>match us,hl with | [_,_,_],_=>rfl)
    have S_read_outs:=Ts.mk_src (x := "read_outs") (st:=Ts.st_read_outs) (ps:=["numbers","count"]) KX G (by k_is) (by k_is) (by k_is) (by k_is) (fun _ _ _ _ _ _ us hl=>match us,hl with | [_,_],_=>rfl)
    have S_lines_to_take_out:=Ts.mk_src (x := "lines_to_take_out") (st:=Ts.st_lines_to_take_out) (ps:=["lines"]) KX G (by k_is) (by k_is) (by k_is) (by k_is) (fun _ _ _ _ _ _ us hl=>match us,hl with | [_],_=>rfl)
    have S_read_order:=Ts.mk_src (x := "read_order") (st:=Ts.st_read_order) (ps:=["numbers","lines"]) KX G (by k_is) (by k_is) (by k_is) (by k_is) (fun _ _ _ _ _ _ us hl=>match us,hl with | [_,_],_=>rfl)
    have S_take_out_greedily:=Ts.mk_src (x := "take_out_greedily") (st:=Ts.st_take_out_greedily) (ps:=["ways","waiting"]) KX G (by k_is) (by k_is) (by k_is) (by k_is) (fun _ _ _ _ _ _ us hl=>match us,hl with | [_,_],_=>rfl)
    have S_tell:=Ts.mk_src (x := "tell") (st:=Ts.st_tell) (ps:=["head","fractions"]) KX G (by k_is) (by k_is) (by k_is) (by k_is) (fun _ _ _ _ _ _ us hl=>match us,hl with | [_,_],_=>rfl)
    have S_answer_call:=Ts.mk_src (x := "answer_call") (st:=Ts.st_answer_call) (ps:=["bench","reader"]) KX G (by k_is) (by k_is) (by k_is) (by k_is) (fun _ _ _ _ _ _ us hl=>match us,hl with | [_,_],_=>rfl)
    have S_Ways___init__:=Ts.mk_msrc (m := "__init__") (qual := "Ways.__init__") (st:=Ts.st_Ways___init__) (ps:=["self","lines","tape","outs"]) KX g_Ways (by k_is) (by k_is) (by k_is) (by k_is) (by k_is) (fun _ _ _ _ _ _ us hl=>match us,hl with | [_,_,_,_],_=>rfl)
    have S_Ways_add_way:=Ts.mk_msrc (m := "add_way") (qual := "Ways.add_way") (st:=Ts.st_Ways_add_way) (ps:=["self","source","target","worth"]) KX g_Ways (by k_is) (by k_is) (by k_is) (by k_is) (by k_is) (fun _ _ _ _ _ _ us hl=>match us,hl with | [_,_,_,_],_=>rfl)
    have S_Ways_take_out:=Ts.mk_msrc (m := "take_out") (qual := "Ways.take_out") (st:=Ts.st_Ways_take_out) (ps:=["self","number"]) KX g_Ways (by k_is) (by k_is) (by k_is) (by k_is) (by k_is) (fun _ _ _ _ _ _ us hl=>match us,hl with | [_,_],_=>rfl)
    have S_Ways_products_for:=Ts.mk_msrc (m := "products_for") (qual := "Ways.products_for") (st:=Ts.st_Ways_products_for) (ps:=["self","number"]) KX g_Ways (by k_is) (by k_is) (by k_is) (by k_is) (by k_is) (fun _ _ _ _ _ _ us hl=>match us,hl with | [_,_],_=>rfl)
    have S_Ways_worths_to_end:=Ts.mk_msrc (m := "worths_to_end") (qual := "Ways.worths_to_end") (st:=Ts.st_Ways_worths_to_end) (ps:=["self","place"]) KX g_Ways (by k_is) (by k_is) (by k_is) (by k_is) (by k_is) (fun _ _ _ _ _ _ us hl=>match us,hl with | [_,_],_=>rfl)
    have S_Bench___init__:=Ts.mk_msrc (m := "__init__") (qual := "Bench.__init__") (st:=Ts.st_Bench___init__) (ps:=["self"]) KX g_Bench (by k_is) (by k_is) (by k_is) (by k_is) (by k_is) (fun _ _ _ _ _ _ us hl=>match us,hl with | [_],_=>rfl)
    have S_Bench_is_line:=Ts.mk_msrc (m := "is_line") (qual := "Bench.is_line") (st:=Ts.st_Bench_is_line) (ps:=["self","number"]) KX g_Bench (by k_is) (by k_is) (by k_is) (by k_is) (by k_is) (fun _ _ _ _ _ _ us hl=>match us,hl with | [_,_],_=>rfl)
    have S_Bench_run_refusal:=Ts.mk_msrc (m := "run_refusal") (qual := "Bench.run_refusal") (st:=Ts.st_Bench_run_refusal) (ps:=["self"]) KX g_Bench (by k_is) (by k_is) (by k_is) (by k_is) (by k_is) (fun _ _ _ _ _ _ us hl=>match us,hl with | [_],_=>rfl)
    have S_Bench_read_refusal:=Ts.mk_msrc (m := "read_refusal") (qual := "Bench.read_refusal") (st:=Ts.st_Bench_read_refusal) (ps:=["self","read"]) KX g_Bench (by k_is) (by k_is) (by k_is) (by k_is) (by k_is) (fun _ _ _ _ _ _ us hl=>match us,hl with | [_,_],_=>rfl)
    have S_Bench_sums_down_to:=Ts.mk_msrc (m := "sums_down_to") (qual := "Bench.sums_down_to") (st:=Ts.st_Bench_sums_down_to) (ps:=["self","number","weights"]) KX g_Bench (by k_is) (by k_is) (by k_is) (by k_is) (by k_is) (fun _ _ _ _ _ _ us hl=>match us,hl with | [_,_,_],_=>rfl)
    have S_Bench_input_derivatives:=Ts.mk_msrc (m := "input_derivatives") (qual := "Bench.input_derivatives") (st:=Ts.st_Bench_input_derivatives) (ps:=["self","weights"]) KX g_Bench (by k_is) (by k_is) (by k_is) (by k_is) (by k_is) (fun _ _ _ _ _ _ us hl=>match us,hl with | [_,_],_=>rfl)
    have S_Bench_line_derivatives:=Ts.mk_msrc (m := "line_derivatives") (qual := "Bench.line_derivatives") (st:=Ts.st_Bench_line_derivatives) (ps:=["self","number"]) KX g_Bench (by k_is) (by k_is) (by k_is) (by k_is) (by k_is) (fun _ _ _ _ _ _ us hl=>match us,hl with | [_,_],_=>rfl)
    have S_Bench_answer_code:=Ts.mk_msrc (m := "answer_code") (qual := "Bench.answer_code") (st:=Ts.st_Bench_answer_code) (ps:=["self","inputs","numbers"]) KX g_Bench (by k_is) (by k_is) (by k_is) (by k_is) (by k_is) (fun _ _ _ _ _ _ us hl=>match us,hl with | [_,_,_],_=>rfl)
    have S_Bench_answer_point:=Ts.mk_msrc (m := "answer_point") (qual := "Bench.answer_point") (st:=Ts.st_Bench_answer_point) (ps:=["self","numbers"]) KX g_Bench (by k_is) (by k_is) (by k_is) (by k_is) (by k_is) (fun _ _ _ _ _ _ us hl=>match us,hl with | [_,_],_=>rfl)
    have S_Bench_answer_value:=Ts.mk_msrc (m := "answer_value") (qual := "Bench.answer_value") (st:=Ts.st_Bench_answer_value) (ps:=["self","number"]) KX g_Bench (by k_is) (by k_is) (by k_is) (by k_is) (by k_is) (fun _ _ _ _ _ _ us hl=>match us,hl with | [_,_],_=>rfl)
    have S_Bench_answer_values:=Ts.mk_msrc (m := "answer_values") (qual := "Bench.answer_values") (st:=Ts.st_Bench_answer_values) (ps:=["self"]) KX g_Bench (by k_is) (by k_is) (by k_is) (by k_is) (by k_is) (fun _ _ _ _ _ _ us hl=>match us,hl with | [_],_=>rfl)
    have S_Bench_answer_tape:=Ts.mk_msrc (m := "answer_tape") (qual := "Bench.answer_tape") (st:=Ts.st_Bench_answer_tape) (ps:=["self"]) KX g_Bench (by k_is) (by k_is) (by k_is) (by k_is) (by k_is) (fun _ _ _ _ _ _ us hl=>match us,hl with | [_],_=>rfl)
    have S_Bench_answer_gradient:=Ts.mk_msrc (m := "answer_gradient") (qual := "Bench.answer_gradient") (st:=Ts.st_Bench_answer_gradient) (ps:=["self","number"]) KX g_Bench (by k_is) (by k_is) (by k_is) (by k_is) (by k_is) (fun _ _ _ _ _ _ us hl=>match us,hl with | [_,_],_=>rfl)
    have S_Bench_answer_pull:=Ts.mk_msrc (m := "answer_pull") (qual := "Bench.answer_pull") (st:=Ts.st_Bench_answer_pull) (ps:=["self","numbers"]) KX g_Bench (by k_is) (by k_is) (by k_is) (by k_is) (by k_is) (fun _ _ _ _ _ _ us hl=>match us,hl with | [_,_],_=>rfl)
    have S_Bench_answer_sums:=Ts.mk_msrc (m := "answer_sums") (qual := "Bench.answer_sums") (st:=Ts.st_Bench_answer_sums) (ps:=["self","numbers"]) KX g_Bench (by k_is) (by k_is) (by k_is) (by k_is) (by k_is) (fun _ _ _ _ _ _ us hl=>match us,hl with | [_,_],_=>rfl)
    have S_Bench_answer_sweep:=Ts.mk_msrc (m := "answer_sweep") (qual := "Bench.answer_sweep") (st:=Ts.st_Bench_answer_sweep) (ps:=["self","number","numbers"]) KX g_Bench (by k_is) (by k_is) (by k_is) (by k_is) (by k_is) (fun _ _ _ _ _ _ us hl=>match us,hl with | [_,_,_],_=>rfl)
    have S_Bench_answer_cost:=Ts.mk_msrc (m := "answer_cost") (qual := "Bench.answer_cost") (st:=Ts.st_Bench_answer_cost) (ps:=["self","numbers"]) KX g_Bench (by k_is) (by k_is) (by k_is) (by k_is) (by k_is) (fun _ _ _ _ _ _ us hl=>match us,hl with | [_,_],_=>rfl)
    have S_Bench_answer_table:=Ts.mk_msrc (m := "answer_table") (qual := "Bench.answer_table") (st:=Ts.st_Bench_answer_table) (ps:=["self","numbers"]) KX g_Bench (by k_is) (by k_is) (by k_is) (by k_is) (by k_is) (fun _ _ _ _ _ _ us hl=>match us,hl with | [_,_],_=>rfl)
    have S_Bench_answer_along:=Ts.mk_msrc (m := "answer_along") (qual := "Bench.answer_along") (st:=Ts.st_Bench_answer_along) (ps:=["self","number","numbers"]) KX g_Bench (by k_is) (by k_is) (by k_is) (by k_is) (by k_is) (fun _ _ _ _ _ _ us hl=>match us,hl with | [_,_,_],_=>rfl)
    have S_Bench_answer_eliminate:=Ts.mk_msrc (m := "answer_eliminate") (qual := "Bench.answer_eliminate") (st:=Ts.st_Bench_answer_eliminate) (ps:=["self","out_numbers","order_numbers"]) KX g_Bench (by k_is) (by k_is) (by k_is) (by k_is) (by k_is) (fun _ _ _ _ _ _ us hl=>match us,hl with | [_,_,_],_=>rfl)
    have S_Bench_answer_greedy:=Ts.mk_msrc (m := "answer_greedy") (qual := "Bench.answer_greedy") (st:=Ts.st_Bench_answer_greedy) (ps:=["self","numbers"]) KX g_Bench (by k_is) (by k_is) (by k_is) (by k_is) (by k_is) (fun _ _ _ _ _ _ us hl=>match us,hl with | [_,_],_=>rfl)
    have S_Reader___init__:=Ts.mk_msrc (m := "__init__") (qual := "Reader.__init__") (st:=Ts.st_Reader___init__) (ps:=["self","numbers"]) KX g_Reader (by k_is) (by k_is) (by k_is) (by k_is) (by k_is) (fun _ _ _ _ _ _ us hl=>match us,hl with | [_,_],_=>rfl)
    have S_Reader_has_more:=Ts.mk_msrc (m := "has_more") (qual := "Reader.has_more") (st:=Ts.st_Reader_has_more) (ps:=["self"]) KX g_Reader (by k_is) (by k_is) (by k_is) (by k_is) (by k_is) (fun _ _ _ _ _ _ us hl=>match us,hl with | [_],_=>rfl)
    have S_Reader_take_number:=Ts.mk_msrc (m := "take_number") (qual := "Reader.take_number") (st:=Ts.st_Reader_take_number) (ps:=["self"]) KX g_Reader (by k_is) (by k_is) (by k_is) (by k_is) (by k_is) (fun _ _ _ _ _ _ us hl=>match us,hl with | [_],_=>rfl)
    have S_Reader_take_row:=Ts.mk_msrc (m := "take_row") (qual := "Reader.take_row") (st:=Ts.st_Reader_take_row) (ps:=["self"]) KX g_Reader (by k_is) (by k_is) (by k_is) (by k_is) (by k_is) (fun _ _ _ _ _ _ us hl=>match us,hl with | [_],_=>rfl)
    have hbd:=Ts.mk_bnd (m := "products_for") KX g_Ways (by k_is) (by k_is) (by k_is) (by decide)
    exact Ts.mk_ans KX G hmg (by k_is) (by k_is) (by k_is) (by k_is) fun fdA FA base=>Ts.top_mk rfl T C_Ways C_Bench C_Reader x_Ways.2.1 x_Ways.2.2 g_Ways x_Bench.2.1 x_Bench.2.2 g_Bench x_Reader.2.1 x_Reader.2.2 g_Reader hbd S_common_divisor S_lowest S_negative S_inverse S_plus S_minus S_times S_over S_weight S_read_fractions S_well_formed S_read_lines S_is_operation S_lines_used S_uses_are_sound S_line_value S_run S_own_derivatives S_make_tape S_read_weights S_weight_on_one S_sweep_sums S_sweep_cost S_by_inputs S_read_outs S_lines_to_take_out S_read_order S_take_out_greedily S_tell S_answer_call S_Ways___init__ S_Ways_add_way S_Ways_take_out S_Ways_products_for S_Ways_worths_to_end S_Bench___init__ S_Bench_is_line S_Bench_run_refusal S_Bench_read_refusal S_Bench_sums_down_to S_Bench_input_derivatives S_Bench_line_derivatives S_Bench_answer_code S_Bench_answer_point S_Bench_answer_value S_Bench_answer_values S_Bench_answer_tape S_Bench_answer_gradient S_Bench_answer_pull S_Bench_answer_sums S_Bench_answer_sweep S_Bench_answer_cost S_Bench_answer_table S_Bench_answer_along S_Bench_answer_eliminate S_Bench_answer_greedy S_Reader___init__ S_Reader_has_more S_Reader_take_number S_Reader_take_row FA base
  case S=>
    intro K H xs a hO hwi hask hx
    cases hx with
    | cons h1 h2=>
      cases h2
      cases h1 with
      | lst hs ha=>
        have e:=L2.ints_dw a.1 _ ha
        subst e
        exact ⟨_,a.1,rfl,hs,hask,fun H' p hp => .lst (L2.SqL.of hp) (L2.dw_ints _)⟩
