package impl

import (
	"errors"
	"slices"
	"strconv"
	"strings"
)

// Kinds and limits of types.
const (
	TyInt      = 1
	TyText     = 2
	TyEnum     = 3
	TyCompound = 4
	TyArray    = 5
	TyRef      = 6

	MaxElement   = 24
	MaxTextSize  = 16
	MaxMembers   = 4
	MaxEnum      = 6
	MaxTypeDepth = 3
	MaxTypeArray = 4
)

const refSize = 2

// In the binary form of a TyInt type.
const (
	flagSigned = 1
	flagBig    = 2
)

// Type describes the elements of a dataset.
type Type struct {
	Kind    int64
	Size    int64
	Signed  bool
	Big     bool
	Names   []string
	Nums    []int64
	Members []Member
	Base    []Type
	Count   int64
}

// Member is a member of a compound type.
type Member struct {
	Name   string
	Offset int64
	Type   Type
}

// ValidType reports whether t is valid.
func ValidType(t Type) bool {
	_, ok := treeOf(t, MaxTypeDepth)
	return ok
}

// SameType reports whether a and b are deeply equal.
func SameType(a, b Type) bool {
	// Invalid types may share parts with themselves, so that recursion would
	// not end: a pair that has been compared is not compared again.
	work := []typePair{{&a, &b}}
	compared := map[typePair]bool{}
	for len(work) > 0 {
		last := len(work) - 1
		p := work[last]
		work = work[:last]
		if compared[p] {
			continue
		}
		compared[p] = true
		if !sameButParts(*p.a, *p.b) {
			return false
		}
		for i := range p.a.Members {
			work = append(work, typePair{&p.a.Members[i].Type, &p.b.Members[i].Type})
		}
		for i := range p.a.Base {
			work = append(work, typePair{&p.a.Base[i], &p.b.Base[i]})
		}
	}
	return true
}

// TypeSize returns the number of bytes of an element.
func TypeSize(t Type) int64 {
	tree, ok := treeOf(t, MaxTypeDepth)
	if !ok {
		return 0
	}
	return tree.size()
}

// TypeDepth returns the nesting depth of a type.
func TypeDepth(t Type) int64 {
	tree, ok := treeOf(t, MaxTypeDepth)
	if !ok {
		return 0
	}
	return tree.depth()
}

// PackedType returns a compound type without gaps.
func PackedType(t Type) Type {
	tree, ok := treeOf(t, MaxTypeDepth)
	if !ok {
		return Type{}
	}
	return typeOf(packedTree(tree))
}

// EncodeType returns the binary form of a type.
func EncodeType(t Type) string {
	tree, ok := treeOf(t, MaxTypeDepth)
	if !ok {
		return ""
	}
	return binaryOf(tree)
}

// DecodeType returns the type with a binary form.
func DecodeType(s string) (Type, bool) {
	t, ok := readType(s, (*typeReader).binaryType)
	// The reader takes more than binary forms; a type has exactly one.
	if !ok || EncodeType(t) != s {
		return Type{}, false
	}
	return t, true
}

// TypeText returns the text form of a type.
func TypeText(t Type) string {
	tree, ok := treeOf(t, MaxTypeDepth)
	if !ok {
		return ""
	}
	return textOf(tree)
}

// ParseType returns the type with a text form.
func ParseType(s string) (Type, bool) {
	t, ok := readType(s, (*typeReader).textType)
	// The reader takes more than text forms; a type has exactly one.
	if !ok || TypeText(t) != s {
		return Type{}, false
	}
	return t, true
}

type typePair struct{ a, b *Type }

// sameButParts compares everything but the types of members and of Base.
func sameButParts(a, b Type) bool {
	return a.Kind == b.Kind && a.Size == b.Size && a.Signed == b.Signed && a.Big == b.Big &&
		a.Count == b.Count && slices.Equal(a.Names, b.Names) && slices.Equal(a.Nums, b.Nums) &&
		slices.EqualFunc(a.Members, b.Members, samePlace) && len(a.Base) == len(b.Base)
}

func samePlace(a, b Member) bool {
	return a.Name == b.Name && a.Offset == b.Offset
}

// typeNode is a part of the tree of a valid type. It may share slices with
// the Type that it was made from, and is never changed.
type typeNode interface {
	kind() int64
	size() int64
	depth() int64
}

type intNode struct {
	bytes  int64
	signed bool
	big    bool
}

type textNode struct {
	bytes int64
}

type enumNode struct {
	base  intNode
	names []string
	nums  []int64
}

type compoundNode struct {
	bytes  int64
	fields []fieldNode
}

type fieldNode struct {
	name   string
	offset int64
	of     typeNode
}

type arrayNode struct {
	count int64
	base  typeNode
}

type refNode struct{}

func (n intNode) kind() int64      { return TyInt }
func (n textNode) kind() int64     { return TyText }
func (n enumNode) kind() int64     { return TyEnum }
func (n compoundNode) kind() int64 { return TyCompound }
func (n arrayNode) kind() int64    { return TyArray }
func (n refNode) kind() int64      { return TyRef }

func (n intNode) size() int64      { return n.bytes }
func (n textNode) size() int64     { return n.bytes }
func (n enumNode) size() int64     { return n.base.bytes }
func (n compoundNode) size() int64 { return n.bytes }
func (n arrayNode) size() int64    { return n.count * n.base.size() }
func (n refNode) size() int64      { return refSize }

func (n intNode) depth() int64   { return 1 }
func (n textNode) depth() int64  { return 1 }
func (n enumNode) depth() int64  { return 1 }
func (n arrayNode) depth() int64 { return 1 + n.base.depth() }
func (n refNode) depth() int64   { return 1 }

func (n compoundNode) depth() int64 {
	deepest := int64(0)
	for _, f := range n.fields {
		deepest = max(deepest, f.of.depth())
	}
	return 1 + deepest
}

func (n intNode) holds(number int64) bool {
	if n.signed {
		return PutInt(number, n.bytes) != ""
	}
	return PutUint(number, n.bytes) != ""
}

// treeOf returns the tree of a valid type whose depth is at most levels.
func treeOf(t Type, levels int64) (typeNode, bool) {
	if levels < 1 || !onlyListedFields(t) {
		return nil, false
	}
	switch t.Kind {
	case TyInt:
		return intTree(t)
	case TyText:
		return textNode{t.Size}, 1 <= t.Size && t.Size <= MaxTextSize
	case TyEnum:
		return enumTree(t)
	case TyCompound:
		return compoundTree(t, levels)
	case TyArray:
		return arrayTree(t, levels)
	case TyRef:
		return refNode{}, t.Size == refSize
	}
	return nil, false
}

// onlyListedFields reports whether all fields are zero that types of the kind
// do not use.
func onlyListedFields(t Type) bool {
	switch t.Kind {
	case TyInt:
		t.Size, t.Signed, t.Big = 0, false, false
	case TyText, TyRef:
		t.Size = 0
	case TyEnum:
		t.Base, t.Nums, t.Names = nil, nil, nil
	case TyCompound:
		t.Size, t.Members = 0, nil
	case TyArray:
		t.Count, t.Base = 0, nil
	}
	return t.Size == 0 && !t.Signed && !t.Big && t.Count == 0 &&
		len(t.Names) == 0 && len(t.Nums) == 0 && len(t.Members) == 0 && len(t.Base) == 0
}

func intTree(t Type) (typeNode, bool) {
	ok := false
	switch t.Size {
	case 1:
		ok = !t.Big
	case 2, 4:
		ok = true
	case 8:
		ok = t.Signed
	}
	return intNode{t.Size, t.Signed, t.Big}, ok
}

func enumTree(t Type) (typeNode, bool) {
	count := len(t.Nums)
	if len(t.Base) != 1 || t.Base[0].Kind != TyInt || count < 1 || count > MaxEnum || len(t.Names) != count {
		return nil, false
	}
	tree, ok := treeOf(t.Base[0], 1)
	base, isInt := tree.(intNode)
	if !ok || !isInt || !differentNames(t.Names) {
		return nil, false
	}
	for i, n := range t.Nums {
		if !base.holds(n) || i > 0 && n <= t.Nums[i-1] {
			return nil, false
		}
	}
	return enumNode{base, t.Names, t.Nums}, true
}

func compoundTree(t Type, levels int64) (typeNode, bool) {
	if t.Size < 1 || t.Size > MaxElement || len(t.Members) < 1 || len(t.Members) > MaxMembers {
		return nil, false
	}
	var names []string
	var fields []fieldNode
	end := int64(0)
	for _, m := range t.Members {
		of, ok := treeOf(m.Type, levels-1)
		if !ok || m.Offset < end || m.Offset > t.Size-of.size() {
			return nil, false
		}
		end = m.Offset + of.size()
		names = append(names, m.Name)
		fields = append(fields, fieldNode{m.Name, m.Offset, of})
	}
	return compoundNode{t.Size, fields}, differentNames(names)
}

func arrayTree(t Type, levels int64) (typeNode, bool) {
	if t.Count < 1 || t.Count > MaxTypeArray || len(t.Base) != 1 {
		return nil, false
	}
	base, ok := treeOf(t.Base[0], levels-1)
	if !ok {
		return nil, false
	}
	tree := arrayNode{t.Count, base}
	return tree, tree.size() <= MaxElement
}

func differentNames(names []string) bool {
	for i, name := range names {
		if !IsName(name) || slices.Contains(names[:i], name) {
			return false
		}
	}
	return true
}

// typeOf returns the type of a tree, in new memory.
func typeOf(n typeNode) Type {
	switch x := n.(type) {
	case intNode:
		return Type{Kind: TyInt, Size: x.bytes, Signed: x.signed, Big: x.big}
	case textNode:
		return Type{Kind: TyText, Size: x.bytes}
	case enumNode:
		return Type{Kind: TyEnum, Base: []Type{typeOf(x.base)}, Names: slices.Clone(x.names), Nums: slices.Clone(x.nums)}
	case compoundNode:
		t := Type{Kind: TyCompound, Size: x.bytes}
		for _, f := range x.fields {
			t.Members = append(t.Members, Member{Name: f.name, Offset: f.offset, Type: typeOf(f.of)})
		}
		return t
	case arrayNode:
		return Type{Kind: TyArray, Count: x.count, Base: []Type{typeOf(x.base)}}
	case refNode:
		return Type{Kind: TyRef, Size: refSize}
	}
	return Type{}
}

func packedTree(n typeNode) typeNode {
	switch x := n.(type) {
	case compoundNode:
		packed := compoundNode{}
		for _, f := range x.fields {
			of := packedTree(f.of)
			packed.fields = append(packed.fields, fieldNode{f.name, packed.bytes, of})
			packed.bytes += of.size()
		}
		return packed
	case arrayNode:
		return arrayNode{x.count, packedTree(x.base)}
	}
	return n
}

func binaryOf(n typeNode) string {
	switch x := n.(type) {
	case intNode:
		return octets(TyInt, x.bytes, intFlags(x))
	case textNode:
		return octets(TyText, x.bytes)
	case enumNode:
		s := octets(TyEnum) + binaryOf(x.base) + octets(int64(len(x.names)))
		for i, name := range x.names {
			s += binaryName(name) + PutInt(x.nums[i], 8)
		}
		return s
	case compoundNode:
		s := octets(TyCompound, x.bytes, int64(len(x.fields)))
		for _, f := range x.fields {
			s += binaryName(f.name) + octets(f.offset) + binaryOf(f.of)
		}
		return s
	case arrayNode:
		return octets(TyArray, x.count) + binaryOf(x.base)
	case refNode:
		return octets(TyRef)
	}
	return ""
}

func intFlags(n intNode) int64 {
	flags := int64(0)
	if n.signed {
		flags |= flagSigned
	}
	if n.big {
		flags |= flagBig
	}
	return flags
}

func binaryName(name string) string {
	return octets(int64(len(name))) + name
}

// octets returns a byte for each of the numbers.
func octets(numbers ...int64) string {
	var b []byte
	for _, n := range numbers {
		b = append(b, byte(n))
	}
	return string(b)
}

func textOf(n typeNode) string {
	switch x := n.(type) {
	case intNode:
		return intText(x)
	case textNode:
		return "text(" + decimal(x.bytes) + ")"
	case enumNode:
		s := "enum(" + intText(x.base)
		for i, name := range x.names {
			s += "," + name + "=" + decimal(x.nums[i])
		}
		return s + ")"
	case compoundNode:
		s := "record(" + decimal(x.bytes)
		for _, f := range x.fields {
			s += "," + f.name + "@" + decimal(f.offset) + ":" + textOf(f.of)
		}
		return s + ")"
	case arrayNode:
		return "array(" + decimal(x.count) + "," + textOf(x.base) + ")"
	case refNode:
		return "ref"
	}
	return ""
}

func intText(n intNode) string {
	s := "u" + decimal(n.bytes)
	if n.signed {
		s = "i" + decimal(n.bytes)
	}
	if n.big {
		s += "b"
	}
	return s
}

func decimal(n int64) string {
	return strconv.FormatInt(n, 10)
}

// readDecimal takes more than what decimal returns: a sign + and zeros before
// the number.
func readDecimal(word string) (int64, bool) {
	n, err := strconv.ParseInt(word, 10, 64)
	if err != nil {
		return 0, false
	}
	return n, true
}

var errTypeForm = errors.New("not the form of a type")

// typeReader reads binary and text forms of types from the start of rest. Its
// methods panic where they cannot continue. They let pass what is invalid or
// not canonical, because that shows when the type is written again; but levels
// limits their recursion.
type typeReader struct {
	rest string
}

// readType reads a type; it may be invalid, and a part of s may be left over.
func readType(s string, read func(r *typeReader, levels int64) Type) (t Type, ok bool) {
	defer func() {
		if recover() != nil {
			t, ok = Type{}, false
		}
	}()
	return read(&typeReader{s}, MaxTypeDepth), true
}

func (r *typeReader) bytes(n int64) string {
	if n > int64(len(r.rest)) {
		panic(errTypeForm)
	}
	s := r.rest[:n]
	r.rest = r.rest[n:]
	return s
}

func (r *typeReader) octet() int64 {
	return int64(r.bytes(1)[0])
}

func (r *typeReader) binaryType(levels int64) Type {
	if levels < 1 {
		panic(errTypeForm)
	}
	switch r.octet() {
	case TyInt:
		return r.binaryInt()
	case TyText:
		return Type{Kind: TyText, Size: r.octet()}
	case TyEnum:
		return r.binaryEnum()
	case TyCompound:
		return r.binaryCompound(levels)
	case TyArray:
		count := r.octet()
		return Type{Kind: TyArray, Count: count, Base: []Type{r.binaryType(levels - 1)}}
	case TyRef:
		return Type{Kind: TyRef, Size: refSize}
	}
	panic(errTypeForm)
}

func (r *typeReader) binaryInt() Type {
	size := r.octet()
	flags := r.octet()
	return Type{Kind: TyInt, Size: size, Signed: flags&flagSigned != 0, Big: flags&flagBig != 0}
}

func (r *typeReader) binaryEnum() Type {
	if r.octet() != TyInt {
		panic(errTypeForm)
	}
	t := Type{Kind: TyEnum, Base: []Type{r.binaryInt()}}
	for range r.octet() {
		name := r.bytes(r.octet())
		number, _ := GetInt(r.bytes(8), 0, 8)
		t.Names = append(t.Names, name)
		t.Nums = append(t.Nums, number)
	}
	return t
}

func (r *typeReader) binaryCompound(levels int64) Type {
	t := Type{Kind: TyCompound, Size: r.octet()}
	for range r.octet() {
		m := Member{}
		m.Name = r.bytes(r.octet())
		m.Offset = r.octet()
		m.Type = r.binaryType(levels - 1)
		t.Members = append(t.Members, m)
	}
	return t
}

// word takes the text before the next delimiter or the end.
func (r *typeReader) word() string {
	end := int64(len(r.rest))
scan:
	for i, c := range r.rest {
		switch c {
		case '(', ')', ',', '=', '@', ':':
			end = int64(i)
			break scan
		}
	}
	return r.bytes(end)
}

func (r *typeReader) number() int64 {
	return numberOfWord(r.word())
}

func (r *typeReader) expect(delimiter string) {
	if r.bytes(1) != delimiter {
		panic(errTypeForm)
	}
}

// expectMore reports whether a comma is next, and otherwise expects the end of a list.
func (r *typeReader) expectMore() bool {
	next := r.bytes(1)
	if next != "," && next != ")" {
		panic(errTypeForm)
	}
	return next == ","
}

func (r *typeReader) textType(levels int64) Type {
	if levels < 1 {
		panic(errTypeForm)
	}
	word := r.word()
	switch word {
	case "text":
		return r.textText()
	case "enum":
		return r.textEnum()
	case "record":
		return r.textCompound(levels)
	case "array":
		return r.textArray(levels)
	case "ref":
		return Type{Kind: TyRef, Size: refSize}
	}
	return intOfWord(word)
}

func (r *typeReader) textText() Type {
	r.expect("(")
	size := r.number()
	r.expect(")")
	return Type{Kind: TyText, Size: size}
}

func (r *typeReader) textEnum() Type {
	r.expect("(")
	t := Type{Kind: TyEnum, Base: []Type{intOfWord(r.word())}}
	for r.expectMore() {
		name := r.word()
		r.expect("=")
		t.Names = append(t.Names, name)
		t.Nums = append(t.Nums, r.number())
	}
	return t
}

func (r *typeReader) textCompound(levels int64) Type {
	r.expect("(")
	t := Type{Kind: TyCompound, Size: r.number()}
	for r.expectMore() {
		m := Member{Name: r.word()}
		r.expect("@")
		m.Offset = r.number()
		r.expect(":")
		m.Type = r.textType(levels - 1)
		t.Members = append(t.Members, m)
	}
	return t
}

func (r *typeReader) textArray(levels int64) Type {
	r.expect("(")
	count := r.number()
	r.expect(",")
	base := r.textType(levels - 1)
	r.expect(")")
	return Type{Kind: TyArray, Count: count, Base: []Type{base}}
}

func intOfWord(word string) Type {
	word, big := strings.CutSuffix(word, "b")
	size, signed := strings.CutPrefix(word, "i")
	if !signed {
		size = strings.TrimPrefix(word, "u")
	}
	return Type{Kind: TyInt, Size: numberOfWord(size), Signed: signed, Big: big}
}

func numberOfWord(word string) int64 {
	n, ok := readDecimal(word)
	if !ok {
		panic(errTypeForm)
	}
	return n
}
