package node_test

import (
	"fmt"
	"math"
	"math/rand"
	"slices"
	"strings"
	"testing"
	"unsafe"

	"chandler/api"
	"chandler/node"
	"chandler/pack"
)

type Node = node.Node

// text is one of so many bytes.
func text(length int) string { return strings.Repeat("x", length) }

func zeros(count int) string { return strings.Repeat("\x00", count) }

func leaf(pairs ...string) Node {
	n := Node{Leaf: true}
	for i := 0; i < len(pairs); i += 2 {
		n.Keys, n.Values = append(n.Keys, pairs[i]), append(n.Values, pairs[i+1])
	}
	return n
}

// other is a node of keys with the kids given.
func other(keys []string, kids ...int) Node { return Node{Keys: keys, Kids: kids} }

// rising are so many keys of so many bytes, in their order.
func rising(count, bytes int) []string {
	var keys []string
	for i := range count {
		keys = append(keys, fmt.Sprintf("%0*d", bytes, i))
	}
	return keys
}

// item is the item of that number, or the zero one.
func item[T any](list []T, i int) T {
	var none T
	if i < len(list) {
		return list[i]
	}
	return none
}

// entryByWords is what the chapter's words say of the bytes of an entry, also of one that lacks its value or kid.
func entryByWords(n Node, i int) string {
	if n.Leaf {
		return pack.Text(n.Keys[i]) + pack.Text(item(n.Values, i))
	}
	return pack.Text(n.Keys[i]) + pack.Uint(uint64(max(0, item(n.Kids, i))))
}

// bytesByWords is what the chapter's words say of the bytes of a node, also of one that isn't fit.
func bytesByWords(n Node) string {
	s := "\x02"
	if n.Leaf {
		s = "\x01"
	}
	s += pack.Uint(uint64(len(n.Keys)))
	for i := range n.Keys {
		s += entryByWords(n, i)
	}
	return s
}

// whole is the node with its entries alone, each with what it lacks.
func whole(n Node) Node {
	w := Node{Leaf: n.Leaf, Keys: n.Keys}
	for i := range n.Keys {
		if n.Leaf {
			w.Values = append(w.Values, item(n.Values, i))
		} else {
			w.Kids = append(w.Kids, item(n.Kids, i))
		}
	}
	return w
}

// splitByWords is what the words of P4.3 say of Split: of all counts of first entries the least that has half of the weight.
func splitByWords(n Node) []Node {
	n = whole(n)
	if len(bytesByWords(n)) <= 1024 || len(n.Keys) < 2 {
		return []Node{n}
	}
	weight := func(from, to int) int {
		sum := 0
		for i := from; i < to; i++ {
			sum += len(entryByWords(n, i))
		}
		return sum
	}
	cut := 1
	for cut < len(n.Keys)-1 && weight(0, cut) < weight(cut, len(n.Keys)) {
		cut++
	}
	piece := func(from, to int) Node {
		p := Node{Leaf: n.Leaf, Keys: n.Keys[from:to]}
		if n.Leaf {
			p.Values = n.Values[from:to]
		} else {
			p.Kids = n.Kids[from:to]
		}
		return p
	}
	return []Node{piece(0, cut), piece(cut, len(n.Keys))}
}

// show tells a node in short: of a long text the beginning and the length.
func show(n Node) string {
	short := func(list []string) []string {
		var told []string
		for _, s := range list[:min(len(list), 40)] {
			if len(s) > 12 {
				s = fmt.Sprintf("%s..%d", s[:4], len(s))
			}
			told = append(told, s)
		}
		return told
	}
	return fmt.Sprintf("{%v %q %q %v}", n.Leaf, short(n.Keys), short(n.Values), n.Kids[:min(len(n.Kids), 40)])
}

// alike tells whether two nodes are the same; a list that is nil is as an empty one.
func alike(a, b Node) bool {
	return a.Leaf == b.Leaf && slices.Equal(a.Keys, b.Keys) && slices.Equal(a.Values, b.Values) && slices.Equal(a.Kids, b.Kids)
}

func wantNode(t *testing.T, what string, got, want Node) {
	t.Helper()
	if !alike(got, want) {
		t.Errorf("%s = %s, want %s", what, show(got), show(want))
	}
}

// wantFit asks that the node has these bytes, and they this node.
func wantFit(t *testing.T, n Node, want string) {
	t.Helper()
	if s, e := node.Encode(n); s != want || e != api.OK {
		t.Errorf("Encode(%s) = %.50q, %d, want %.50q", show(n), s, e, want)
	}
	wantDecoded(t, want, n)
}

func wantDecoded(t *testing.T, s string, want Node) {
	t.Helper()
	n, e := node.Decode(s)
	if e != api.OK {
		t.Errorf("Decode of %d bytes, %.50q: %d", len(s), s, e)
	}
	wantNode(t, fmt.Sprintf("Decode(%.50q)", s), n, want)
}

func wantNoNode(t *testing.T, s string) {
	t.Helper()
	if n, e := node.Decode(s); e != api.ErrNode || n.Leaf || n.Keys != nil || n.Values != nil || n.Kids != nil {
		t.Errorf("Decode of %d bytes, %.50q = %s, %d, want the zero node and ErrNode", len(s), s, show(n), e)
	}
}

func wantUnfit(t *testing.T, n Node) {
	t.Helper()
	if s, e := node.Encode(n); s != "" || e != api.ErrNode {
		t.Errorf("Encode(%s) = %.50q, %d, want ErrNode", show(n), s, e)
	}
}

func wantWeight(t *testing.T, n Node, want int) {
	t.Helper()
	if w := node.Weight(n); w != want {
		t.Errorf("Weight(%s) = %d, want %d", show(n), w, want)
	}
}

func wantSplit(t *testing.T, n Node, want ...Node) {
	t.Helper()
	got := node.Split(n)
	if len(got) != len(want) {
		t.Fatalf("Split(%s) is %d nodes, want %d", show(n), len(got), len(want))
	}
	for i := range got {
		wantNode(t, fmt.Sprintf("Split(%s)[%d]", show(n), i), got[i], want[i])
	}
}

func wantPlace(t *testing.T, keys []string, key string, want int, there bool) {
	t.Helper()
	for _, n := range []Node{{Leaf: true, Keys: keys}, {Keys: keys}} {
		if at, ok := node.Place(n, key); at != want || ok != there {
			t.Errorf("Place(%s, %.50q) = %d, %v, want %d, %v", show(n), key, at, ok, want, there)
		}
	}
}

// TestExamples holds the chapter's examples.
func TestExamples(t *testing.T) {
	wantFit(t, leaf("a", "x"), "\x01\x01\x01a\x01x")
	keys := []string{"b", "d"}
	wantPlace(t, keys, "a", 0, false)
	wantPlace(t, keys, "b", 0, true)
	wantPlace(t, keys, "c", 0, false)
	wantPlace(t, keys, "e", 1, false)
}

// fitNodes are nodes with their bytes, written out.
func fitNodes() []struct {
	n Node
	s string
} {
	return []struct {
		n Node
		s string
	}{
		{leaf(), "\x01\x00"},
		{leaf("a", ""), "\x01\x01\x01a\x00"},
		{leaf("\x00", "\x00"), "\x01\x01\x01\x00\x01\x00"},
		{leaf("\x00", "", "\x00\x00", ""), "\x01\x02\x01\x00\x00\x02\x00\x00\x00"},
		{leaf("a", "", "ab", "y", "b", "xyz"), "\x01\x03\x01a\x00\x02ab\x01y\x01b\x03xyz"},
		{leaf("A", "same", "\x7f", "same", "\x80", "same", "\xff", "same"), "\x01\x04\x01A\x04same\x01\x7f\x04same\x01\x80\x04same\x01\xff\x04same"},
		{leaf(text(48), text(200)), "\x01\x01\x30" + text(48) + "\xc8\x01" + text(200)},
		{leaf("k", text(127)), "\x01\x01\x01k\x7f" + text(127)},
		{leaf("k", text(128)), "\x01\x01\x01k\x80\x01" + text(128)},
		{other([]string{"a"}, 1), "\x02\x01\x01a\x01"},
		{other([]string{"\x00"}, 127), "\x02\x01\x01\x00\x7f"},
		{other([]string{text(48)}, 128), "\x02\x01\x30" + text(48) + "\x80\x01"},
		{other([]string{"a", "b"}, 16383, 16382), "\x02\x02\x01a\xff\x7f\x01b\xfe\x7f"},
		{other([]string{"a", "b", "ba"}, 7, 7, 1), "\x02\x03\x01a\x07\x01b\x07\x02ba\x01"},
	}
}

// TestForms holds P4.1 by bytes that are written out.
func TestForms(t *testing.T) {
	for _, c := range fitNodes() {
		wantFit(t, c.n, c.s)
		wantWeight(t, c.n, len(c.s))
		if s := bytesByWords(c.n); s != c.s {
			t.Errorf("the test's own words: %q, want %q", s, c.s)
		}
	}
	wantFit(t, Node{Leaf: true, Keys: []string{}, Values: []string{}, Kids: []int{}}, "\x01\x00")
	wantFit(t, Node{Leaf: true, Keys: []string{"a"}, Values: []string{"x"}, Kids: []int{}}, "\x01\x01\x01a\x01x")
	wantFit(t, Node{Keys: []string{"a"}, Values: []string{}, Kids: []int{3}}, "\x02\x01\x01a\x03")
}

// TestManyEntries holds P4.1 of nodes whose number of entries has one byte, or two.
func TestManyEntries(t *testing.T) {
	for count := 1; count <= 255; count++ {
		n, o := leaf(), other(nil)
		for i := range count {
			key := string([]byte{byte(i)})
			n.Keys, n.Values = append(n.Keys, key), append(n.Values, "")
			o.Keys, o.Kids = append(o.Keys, key), append(o.Kids, 255-i)
		}
		o.Kids[count-1] = 1
		wantFit(t, n, bytesByWords(n))
		if len(bytesByWords(o)) <= 1024 {
			wantFit(t, o, bytesByWords(o))
		}
	}
	keys := rising(128, 3)
	n := leaf()
	for _, key := range keys {
		n.Keys, n.Values = append(n.Keys, key), append(n.Values, "")
	}
	wantFit(t, n, "\x01\x80\x01\x03"+strings.Join(keys, "\x00\x03")+"\x00")
	keys = []string{"\xffz"}
	for b := range 256 {
		keys = append(keys, string([]byte{byte(b)}))
	}
	for b := range 62 {
		keys = append(keys, string([]byte{byte(b), 0}))
	}
	slices.Sort(keys)
	n = Node{Leaf: true, Keys: keys, Values: make([]string, len(keys))} // as many entries as a node can have
	if w := len(bytesByWords(n)); len(keys) != 319 || w != 1023 {
		t.Fatalf("%d entries, %d bytes", len(keys), w)
	}
	wantFit(t, n, bytesByWords(n))
}

// TestUnfit holds P4.1's ErrNode of Encode, and of Decode where the node has bytes.
func TestUnfit(t *testing.T) {
	for _, n := range []Node{
		leaf("", ""), leaf("", "x", "a", "x"), leaf("a", "", "", ""), leaf(text(49), ""), leaf("a", "", text(49), ""), leaf(text(1000), ""), // no keys
		leaf("a", text(201)), leaf("a", text(1000)), leaf("a", "", "b", text(201)), leaf("a", text(201), "b", ""), // no values
		leaf("a", "x", "a", "x"), leaf("a", "x", "a", "y"), leaf("b", "", "a", ""), leaf("a", "", "c", "", "b", ""), leaf("ab", "", "a", ""), // not rising
		leaf("\x80", "", "\x7f", ""), leaf("a", "", "A", ""), leaf("a\x00", "", "a", ""), leaf("a", "", "b", "", "b", ""), leaf("é", "", "z", ""),
		other(nil), // no entry
		other([]string{""}, 1), other([]string{text(49)}, 1), other([]string{"a", "a"}, 1, 2), other([]string{"b", "a"}, 1, 2), other([]string{"a", ""}, 1, 2),
		other([]string{"a"}, 0), other([]string{"a"}, 16384), other([]string{"a", "b"}, 1, 0), other([]string{"a", "b"}, 0, 1), other([]string{"a", "b"}, 1, 16384),
		other([]string{"a"}, 1<<32), other([]string{"a"}, 1<<32+1), other([]string{"a"}, math.MaxInt), other([]string{"a", "b"}, 16384, 1), other([]string{"a"}, 20000),
	} {
		wantUnfit(t, n)
		wantNoNode(t, bytesByWords(n))
		wantNoNode(t, bytesByWords(n)+zeros(9))
	}
	for _, n := range []Node{
		{}, {Keys: []string{}, Kids: []int{}}, other(nil, 1), {Values: []string{""}},
		other([]string{"a"}, -1), other([]string{"a"}, math.MinInt), other([]string{"a"}, math.MinInt+1), other([]string{"a", "b"}, 1, -1),
		{Leaf: true, Keys: []string{"a"}}, {Leaf: true, Keys: []string{"a", "b"}, Values: []string{"x"}}, // unlike lengths
		{Leaf: true, Values: []string{""}}, {Leaf: true, Keys: []string{"a"}, Values: []string{"x", ""}}, {Leaf: true, Keys: []string{"a"}, Values: []string{"x", text(201)}},
		other([]string{"a"}), other([]string{"a", "b"}, 1), other([]string{"a"}, 1, 2), other([]string{"a"}, 1, 0),
		{Leaf: true, Kids: []int{1}}, {Leaf: true, Kids: []int{0}}, {Leaf: true, Keys: []string{"a"}, Values: []string{"x"}, Kids: []int{1}}, // of both kinds
		{Leaf: true, Keys: []string{"a"}, Kids: []int{1}}, {Keys: []string{"a"}, Values: []string{"x"}}, {Keys: []string{"a"}, Values: []string{""}, Kids: []int{1}},
		{Keys: []string{"a"}, Values: []string{"x"}, Kids: []int{1}}, {Values: []string{"x"}, Kids: []int{1}},
	} {
		wantUnfit(t, n)
	}
}

// weighing are nodes of just so many bytes, of both kinds, each of nodes that are fit but for the bytes.
func weighing(t *testing.T, bytes int) []Node {
	t.Helper()
	long := leaf()
	for i, key := range rising(5, 48) {
		long.Keys, long.Values = append(long.Keys, key), append(long.Values, text(150-i))
	}
	for len(bytesByWords(long)) < bytes {
		long.Values[4] += "x"
	}
	short := leaf()
	for _, key := range rising(203, 3) {
		short.Keys, short.Values = append(short.Keys, key), append(short.Values, "")
	}
	for len(bytesByWords(short)) < bytes {
		short.Values[100] += "x"
	}
	inner := other(append(rising(20, 48), "1"))
	for i := range inner.Keys {
		inner.Kids = append(inner.Kids, []int{5, 16383}[i%2])
	}
	for len(bytesByWords(inner)) < bytes {
		inner.Keys[20] += "x"
	}
	nodes := []Node{long, short, inner}
	for _, n := range nodes {
		if len(bytesByWords(n)) != bytes {
			t.Fatalf("%s has %d bytes, not %d", show(n), len(bytesByWords(n)), bytes)
		}
	}
	return nodes
}

// TestSize holds P4.1 and P4.3 of nodes of just Size bytes, and of one byte more.
func TestSize(t *testing.T) {
	for _, n := range weighing(t, 1024) {
		wantFit(t, n, bytesByWords(n))
		wantWeight(t, n, 1024)
		wantSplit(t, n, n)
		wantDecoded(t, bytesByWords(n)+"\x00", n)
		wantNoNode(t, bytesByWords(n)+"\x01")
	}
	for _, n := range weighing(t, 1025) {
		wantUnfit(t, n)
		wantWeight(t, n, 1025)
		wantNoNode(t, bytesByWords(n))
		wantNoNode(t, bytesByWords(n)+zeros(1023))
		if len(node.Split(n)) != 2 {
			t.Errorf("%s isn't split", show(n))
		}
	}
}

// TestSizeByZero holds P4.1 of a node of one byte more than Size that ends in a zero byte: the bytes of no fit node with fewer.
func TestSizeByZero(t *testing.T) {
	for _, n := range weighing(t, 1022) {
		if !n.Leaf {
			continue
		}
		n.Keys, n.Values = append(n.Keys, "z"), append(n.Values, "")
		if s := bytesByWords(n); len(s) != 1025 || s[1024] != 0 {
			t.Fatalf("%d bytes", len(s))
		}
		wantUnfit(t, n)
		wantNoNode(t, bytesByWords(n))
		wantNoNode(t, bytesByWords(n)[:1024])
		wantNoNode(t, bytesByWords(n)+"\x00")
	}
}

// TestDecodeBehind holds P4.1 of zero bytes and of others behind a node's bytes.
func TestDecodeBehind(t *testing.T) {
	for _, c := range fitNodes() {
		for _, count := range []int{1, 2, 9, api.Size - len(c.s), api.Size, 1 << 20} {
			wantDecoded(t, c.s+zeros(count), c.n)
			wantNoNode(t, c.s+zeros(count)+"\x01")
			wantNoNode(t, c.s+"\x01"+zeros(count))
			wantNoNode(t, c.s+zeros(count)+"\x80"+zeros(count))
		}
		for _, behind := range []string{"\x01", " ", "0", "\xff", "\x01\x00", c.s, "\x00" + c.s} {
			wantNoNode(t, c.s+behind)
		}
		for count := range len(c.s) { // a node's last bytes count, also if they are zero
			wantNoNode(t, c.s[:count])
		}
	}
}

// TestDecodeRefused holds P4.1's ErrNode of bytes that are no node's.
func TestDecodeRefused(t *testing.T) {
	nine := strings.Repeat("\xff", 9)
	for _, s := range []string{
		"", "\x00", zeros(1024), zeros(5000), "\x03", "\x03\x00", "\x03\x01\x01a\x01x", "\x80\x01", "\x81\x00\x00", "\xff", "a", "1", // no such kind
		"\x00\x01\x00", "\x00\x01\x01\x01a\x01x", // zero bytes ahead
		"\x01", "\x02", "\x02\x00", "\x02\x00\x00", "\x01\x80", "\x01" + nine, "\x01\x80\x00", "\x01\x81\x00\x01a\x01x", "\x01" + nine + "\x02", // the number
		"\x01\x01", "\x01\x02\x01a\x01x", "\x02\x02\x01a\x01", "\x01\x00\x01a\x01x", "\x01\x01\x01a\x01x\x01b\x01y", "\x02\x01\x01a\x01\x01b\x02",
		"\x01" + nine + "\x01", "\x01" + nine + "\x01\x01a\x01x", "\x02" + nine + "\x01\x01a\x01", "\x01" + pack.Uint(1<<32+1) + "\x01a\x01x", "\x01" + pack.Uint(1<<63) + "\x01a\x01x",
		"\x01\x01\x00\x01x", "\x01\x01\x00\x00", "\x02\x01\x00\x01", "\x01\x01\x02a", "\x01\x01\x01", "\x01\x01\x81\x00a\x01x", "\x01\x01\x80\x00\x00", // the key
		"\x01\x01" + nine + "\x01a\x01x", "\x01\x01" + pack.Uint(1<<32+1) + "a\x01x", "\x01\x01\x31" + text(49) + "\x00", "\x02\x01\x31" + text(49) + "\x01", "\x01\x01\x7fa",
		"\x01\x01\x01a", "\x01\x01\x01a\x01", "\x01\x01\x01a\x02x", "\x01\x01\x01a\x81\x00x", "\x01\x01\x01a\x80\x00", "\x01\x01\x01a" + nine + "\x01x", // the value
		"\x01\x01\x01a\xc9\x01" + text(201), "\x01\x01\x01a\xc8\x01" + text(199), "\x01\x01\x01a\x80",
		"\x02\x01\x01a", "\x02\x01\x01a\x00", "\x02\x01\x01a\x80", "\x02\x01\x01a\x80\x00", "\x02\x01\x01a\x81\x00", "\x02\x01\x01a\x80\x80\x01", "\x02\x01\x01a\xff\xff\x01", // the kid
		"\x02\x01\x01a" + nine + "\x01", "\x02\x01\x01a" + nine + "\x02", "\x02\x01\x01a" + pack.Uint(1<<32+1), "\x02\x01\x01a" + pack.Uint(1<<63), "\x02\x01\x01a" + pack.Uint(1<<63+1),
		"\x02\x01\x01a\x01x", "\x01\x01\x01a\x01\x01x", // of the other kind
		"\x01\x02\x01b\x00\x01a\x00", "\x01\x02\x01a\x00\x01a\x00", "\x02\x02\x01b\x01\x01a\x02", "\x02\x02\x01a\x01\x01a\x01", // not rising
		strings.Repeat("\x01", 1024), strings.Repeat("\x02", 1024), strings.Repeat("\xff", 1024), "\x01" + strings.Repeat("\x80", 5000),
		"\x01" + pack.Uint(1<<20) + strings.Repeat("\x01a\x00", 1<<20), "\x02" + pack.Uint(1<<20) + strings.Repeat("\x01a\x01", 1<<20),
	} {
		wantNoNode(t, s)
	}
}

// allTexts are all texts of up to so many bytes, each from 0 to 3, the shorter ones first.
func allTexts(longest int) []string {
	texts, last := []string{""}, []string{""}
	for range longest {
		var longer []string
		for _, s := range last {
			for b := range byte(4) {
				longer = append(longer, s+string([]byte{b}))
			}
		}
		texts, last = append(texts, longer...), longer
	}
	return texts
}

// TestDecodeAll holds P4.1 at all short texts of four bytes: just those are read that are a fit node's bytes and zero bytes.
func TestDecodeAll(t *testing.T) {
	const longest = 8
	nodes := map[string]Node{}
	note := func(n Node) {
		for s := bytesByWords(n); len(s) <= longest; s += "\x00" {
			nodes[s] = n
		}
	}
	note(leaf())
	parts := allTexts(3)
	for _, key := range parts[1:] {
		for _, value := range parts {
			note(leaf(key, value))
		}
		for kid := 1; kid <= 3; kid++ {
			note(other([]string{key}, kid))
		}
	}
	for low := range byte(4) {
		for high := low + 1; high < 4; high++ {
			keys := []string{string([]byte{low}), string([]byte{high})}
			note(leaf(keys[0], "", keys[1], ""))
			for kids := range 9 {
				note(other(keys, 1+kids/3, 1+kids%3))
			}
		}
	}
	read := 0
	for _, s := range allTexts(longest) {
		if n, there := nodes[s]; there {
			wantDecoded(t, s, n)
			read++
		} else {
			wantNoNode(t, s)
		}
	}
	if read != len(nodes) || read < 100 {
		t.Errorf("%d of %d nodes were asked for", read, len(nodes))
	}
}

// anyNodes are nodes of all kinds, most of them not fit, the same ones at each run.
func anyNodes(count int) []Node {
	dice := rand.New(rand.NewSource(4))
	lengths := []int{0, 1, 2, 3, 30, 48, 49, 127, 128, 200, 201, 600}
	kids := []int{math.MinInt, -1, 0, 1, 5, 127, 128, 16383, 16384, 1 << 31, 1 << 62, math.MaxInt}
	var nodes []Node
	for range count {
		n, longest := Node{Leaf: dice.Intn(2) == 0}, 1+dice.Intn(len(lengths))
		entries := dice.Intn(40)
		for i := range entries {
			n.Keys = append(n.Keys, text(lengths[dice.Intn(longest)])+fmt.Sprint(i))
		}
		for range entries + dice.Intn(5) - 2 {
			n.Values = append(n.Values, text(lengths[dice.Intn(longest)]))
		}
		for range entries + dice.Intn(5) - 2 {
			n.Kids = append(n.Kids, kids[dice.Intn(len(kids))])
		}
		nodes = append(nodes, n)
	}
	return nodes
}

// TestWeight holds P4.2.
func TestWeight(t *testing.T) {
	ab := []string{"a", "b"}
	for _, c := range []struct {
		n    Node
		want int
	}{
		{Node{}, 2}, {leaf(), 2}, {leaf("a", "x"), 6}, {leaf("", ""), 4}, {other([]string{""}, 1), 4},
		{leaf("b", "x", "a", "x", "a", "x"), 14}, {leaf(text(127), text(127)), 258}, {leaf(text(128), text(128)), 262}, {leaf(text(5000), text(20000)), 25007},
		{Node{Leaf: true, Keys: ab}, 8}, {Node{Leaf: true, Keys: ab, Values: []string{"xyz"}}, 11}, {Node{Leaf: true, Keys: ab, Values: []string{"", "xyz"}}, 11},
		{Node{Leaf: true, Keys: ab, Values: []string{"", "", text(300)}}, 8}, {Node{Leaf: true, Values: []string{text(300)}}, 2},
		{Node{Leaf: true, Keys: ab, Kids: []int{16384, 16384}}, 8}, {Node{Leaf: true, Kids: []int{1}}, 2},
		{Node{Keys: ab}, 8}, {other(ab, 128), 9}, {other(ab, 0, 128), 9}, {other(ab, 1, 2, 128), 8}, {other(nil, 128), 2},
		{Node{Keys: ab, Values: []string{"x", "x"}}, 8}, {Node{Keys: ab, Values: []string{text(300)}, Kids: []int{5, 5}}, 8},
		{other(ab, 127, 127), 8}, {other(ab, 128, 16383), 10}, {other(ab, 16384, 1<<21-1), 12}, {other(ab, 1<<21, math.MaxInt), 19},
		{other(ab, -1, 0), 8}, {other(ab, math.MinInt, -128), 8},
		{Node{Leaf: true, Keys: rising(127, 3)}, 2 + 127*5}, {Node{Leaf: true, Keys: rising(128, 3)}, 3 + 128*5}, {Node{Keys: rising(16384, 5)}, 4 + 16384*7},
	} {
		wantWeight(t, c.n, c.want)
	}
	for _, n := range anyNodes(2000) {
		wantWeight(t, n, len(bytesByWords(n)))
	}
}

// leafOf is a leaf whose entries have these weights.
func leafOf(weights ...int) Node {
	n := leaf()
	for i, w := range weights {
		rest := w - 4
		if rest > 128 {
			rest--
		}
		n.Keys, n.Values = append(n.Keys, fmt.Sprintf("%02d", i)), append(n.Values, text(rest))
	}
	return n
}

// TestSplit holds P4.3 of Split: how many entries the first node has.
func TestSplit(t *testing.T) {
	for _, c := range []struct {
		weights []int
		first   int
	}{
		{[]int{600, 600}, 1}, {[]int{4, 1100}, 1}, {[]int{1100, 4}, 1}, // at least one, and not all
		{[]int{4, 4, 1100}, 2}, {[]int{1100, 4, 4}, 1}, {[]int{4, 1100, 4}, 2}, {[]int{4, 4, 4, 4, 2000}, 4},
		{[]int{300, 300, 300, 300}, 2}, {[]int{300, 300, 300, 299}, 2}, {[]int{300, 299, 300, 299}, 2}, {[]int{299, 300, 300, 300}, 3}, {[]int{300, 299, 299, 301}, 3}, // just half, and less
		{[]int{300, 300, 300, 301}, 3}, {[]int{600, 300, 300}, 1}, {[]int{600, 300, 299}, 1}, {[]int{600, 300, 301}, 2}, {[]int{599, 300, 300}, 2}, {[]int{599, 300, 299}, 1},
		{[]int{300, 300, 600}, 2}, {[]int{300, 300, 601}, 2}, {[]int{200, 200, 200, 200, 200, 200, 200}, 4}, {[]int{400, 400, 400}, 2}, {[]int{201, 300, 400, 101, 200}, 3},
		{[]int{100, 101, 400, 601, 4}, 4}, {[]int{100, 101, 400, 597, 4}, 3}, {[]int{100, 101, 400, 596, 4}, 3}, {[]int{100, 101, 400, 598, 4}, 4},
	} {
		n := leafOf(c.weights...)
		for i, w := range c.weights {
			if len(entryByWords(n, i)) != w {
				t.Fatalf("an entry of the weight %d, not %d", len(entryByWords(n, i)), w)
			}
		}
		wantSplit(t, n, Node{Leaf: true, Keys: n.Keys[:c.first], Values: n.Values[:c.first]}, Node{Leaf: true, Keys: n.Keys[c.first:], Values: n.Values[c.first:]})
	}
	keys := rising(30, 40)
	var kids []int
	for i := range keys {
		kids = append(kids, 1000+i)
	}
	wantSplit(t, other(keys, kids...), other(keys[:15], kids[:15]...), other(keys[15:], kids[15:]...))
	kids[29] = math.MaxInt // seven bytes more
	wantSplit(t, other(keys, kids...), other(keys[:16], kids[:16]...), other(keys[16:], kids[16:]...))
	wantSplit(t, other(keys, kids[:29]...), other(keys[:15], kids[:15]...), other(keys[15:], append(slices.Clone(kids[15:29]), 0)...))
}

// TestSplitAlone holds P4.3 of nodes that stay alone, and what of them is told.
func TestSplitAlone(t *testing.T) {
	ab, long := []string{"a", "b"}, text(2000)
	for _, n := range []Node{{}, leaf(), leaf("a", "x"), other(ab, 1, 2), leaf(long, long), other([]string{long}, 1), leaf("b", "", "a", "", "a", ""), leaf("", "")} {
		wantSplit(t, n, n)
	}
	wantSplit(t, Node{Leaf: true, Values: []string{long}, Kids: []int{1}}, leaf())
	wantSplit(t, Node{Values: []string{long}, Kids: []int{1}}, Node{})
	wantSplit(t, Node{Leaf: true, Keys: ab, Values: []string{"x"}, Kids: []int{1, 2}}, leaf("a", "x", "b", ""))
	wantSplit(t, Node{Leaf: true, Keys: ab, Values: []string{"x", "y", long}}, leaf("a", "x", "b", "y"))
	wantSplit(t, Node{Leaf: true, Keys: []string{long}}, leaf(long, ""))
	wantSplit(t, Node{Keys: ab, Values: []string{long, long}, Kids: []int{7}}, other(ab, 7, 0))
	wantSplit(t, Node{Keys: ab, Kids: []int{7, 8, 9}}, other(ab, 7, 8))
	wantSplit(t, Node{Keys: ab}, other(ab, 0, 0))
	wantSplit(t, other(ab, -7, math.MinInt), other(ab, -7, math.MinInt)) // lower kids count as 0, and stand as they are
}

// TestSplitByWords holds P4.3 of Split at nodes of all kinds.
func TestSplitByWords(t *testing.T) {
	two := 0
	for _, n := range anyNodes(2000) {
		want := splitByWords(n)
		wantSplit(t, n, want...)
		two += len(want) - 1
	}
	if two < 500 || two > 1900 {
		t.Errorf("%d of 2000 nodes are split", two)
	}
}

// TestSplitFit holds that a node of one entry too many gives two that are fit, as a tree needs it.
func TestSplitFit(t *testing.T) {
	for count := 5; count < 200; count++ {
		n, o := leaf(), other(rising(count, 48))
		for i, key := range rising(count, 48) {
			n.Keys, n.Values = append(n.Keys, key), append(n.Values, text(i*37%201))
			o.Kids = append(o.Kids, 16383-i)
		}
		for _, over := range []Node{n, o} {
			if w := len(bytesByWords(over)); w <= 1024 || w > 1024+252 {
				continue
			}
			for _, half := range node.Split(over) {
				wantFit(t, half, bytesByWords(half))
			}
			wantNode(t, "the halves joined", node.Join(node.Split(over)[0], node.Split(over)[1]), over)
		}
	}
}

// TestJoin holds P4.3 of Join.
func TestJoin(t *testing.T) {
	ab, c := []string{"a", "b"}, []string{"c"}
	abc := []string{"a", "b", "c"}
	long := text(3000)
	for _, x := range []struct{ a, b, want Node }{
		{leaf("a", "x"), leaf("b", "y", "c", "z"), leaf("a", "x", "b", "y", "c", "z")},
		{other(ab, 5, 6), other(c, 7), other(abc, 5, 6, 7)},
		{leaf("b", "x"), leaf("a", "y", "b", ""), leaf("b", "x", "a", "y", "b", "")}, // in no order
		{leaf(), leaf("a", "x"), leaf("a", "x")}, {leaf("a", "x"), leaf(), leaf("a", "x")}, {leaf(), leaf(), leaf()}, {Node{}, Node{}, Node{}},
		{leaf("a", "x"), Node{}, leaf("a", "x")}, {Node{}, leaf("a", "x"), other([]string{"a"}, 0)}, {leaf(), Node{}, leaf()}, {Node{}, leaf(), Node{}},
		{leaf("a", "x"), other([]string{"b"}, 9), leaf("a", "x", "b", "")},
		{other([]string{"a"}, 9), leaf("b", "y"), other(ab, 9, 0)},
		{Node{Leaf: true, Keys: ab, Values: []string{"x"}, Kids: []int{5, 6}}, Node{Keys: c, Values: []string{"z"}, Kids: []int{7}}, leaf("a", "x", "b", "", "c", "z")},
		{Node{Keys: ab, Values: []string{"x", "y"}, Kids: []int{5}}, Node{Leaf: true, Keys: c, Values: []string{"z"}, Kids: []int{7}}, other(abc, 5, 0, 7)},
		{Node{Leaf: true, Keys: ab}, Node{Leaf: true, Keys: c}, leaf("a", "", "b", "", "c", "")},
		{Node{Keys: ab}, Node{Keys: c}, other(abc, 0, 0, 0)},
		{Node{Leaf: true, Keys: ab, Values: []string{"x", "y", "beyond"}}, Node{Leaf: true, Keys: c, Values: []string{"z", "beyond"}}, leaf("a", "x", "b", "y", "c", "z")},
		{other(ab, 5, 6, 60), other(c, 7, 70), other(abc, 5, 6, 7)},
		{Node{Leaf: true, Values: []string{"x"}, Kids: []int{1}}, Node{Leaf: true, Keys: c}, leaf("c", "")},
		{other(nil, 1), other(c), other(c, 0)},
		{other(ab, -1, math.MinInt), other(c, math.MaxInt), other(abc, -1, math.MinInt, math.MaxInt)},
		{leaf(long, long), leaf("", long), leaf(long, long, "", long)}, // however much it weighs
	} {
		wantNode(t, fmt.Sprintf("Join(%s, %s)", show(x.a), show(x.b)), node.Join(x.a, x.b), x.want)
	}
	nodes := anyNodes(1000)
	for i := 1; i < len(nodes); i++ {
		a, b := nodes[i-1], nodes[i]
		likeA := b
		likeA.Leaf = a.Leaf
		first, second := whole(a), whole(likeA)
		wantNode(t, fmt.Sprintf("Join(%s, %s)", show(a), show(b)), node.Join(a, b), Node{
			Leaf: a.Leaf, Keys: slices.Concat(first.Keys, second.Keys),
			Values: slices.Concat(first.Values, second.Values), Kids: slices.Concat(first.Kids, second.Kids),
		})
	}
}

// TestPlace holds P4.4.
func TestPlace(t *testing.T) {
	wantPlace(t, nil, "", 0, false)
	wantPlace(t, nil, "a", 0, false)
	wantPlace(t, []string{}, "a", 0, false)
	for _, keys := range [][]string{{"a"}, {""}, {"", "\x00"}, {"b", "ba", "c"}, {"\x00", "\x00\x00", "\x7f", "\x80", "\xff", "\xff\xff"}, {"A", "Z", "a", "z", "é"}, rising(20, 2), rising(300, 48)} {
		asked := []string{"", "\x00", "\x01", "0", "A", "a", "a\x00", "b", "bb", "e", "z", "é", "\x7f\xff", "\x80", "\xff", "\xff\x00", text(48), text(49), text(5000), strings.Repeat("\xff", 100)}
		for _, key := range keys {
			asked = append(asked, key, key+"\x00", key[:len(key)/2])
		}
		for _, key := range asked {
			want, there := 0, false
			for i, k := range keys {
				if k <= key {
					want, there = i, k == key
				}
			}
			wantPlace(t, keys, key, want, there)
		}
	}
	if at, ok := node.Place(Node{Leaf: true, Keys: []string{"b", "d"}, Values: []string{"x"}, Kids: []int{1, 2, 3}}, "d"); at != 1 || !ok {
		t.Errorf("of a node that isn't fit but whose keys rise: %d, %v", at, ok)
	}
}

// TestNoHold holds P1: all calls end, and none panics, at wrong arguments, also where the chapter says nothing of what is answered.
func TestNoHold(t *testing.T) {
	nodes := append(anyNodes(200),
		Node{}, Node{Leaf: true}, Node{Keys: make([]string, 5)}, Node{Leaf: true, Keys: make([]string, 3000)}, Node{Keys: make([]string, 3000)},
		Node{Values: make([]string, 5)}, Node{Kids: make([]int, 5)}, Node{Leaf: true, Values: make([]string, 5), Kids: make([]int, 5)},
		leaf("z", "", "a", ""), Node{Leaf: true, Keys: []string{text(1 << 20)}, Values: []string{text(1 << 20)}},
	)
	for i, n := range nodes {
		node.Encode(n)
		node.Decode(bytesByWords(n))
		node.Weight(n)
		node.Split(n)
		node.Join(n, nodes[(i+1)%len(nodes)])
		for _, key := range []string{"", "a", "\xff", text(1 << 10)} {
			if at, _ := node.Place(n, key); at < 0 || at > 0 && at >= len(n.Keys) {
				t.Errorf("Place of a node of %d keys: %d", len(n.Keys), at)
			}
		}
	}
}

// spare is the list with something behind its length in its memory.
func spare[T any](list []T, behind T) []T {
	return append(slices.Clone(list), behind, behind)[:len(list)]
}

// overwrite changes all that the lists of a node have, and what lies behind their lengths.
func overwrite(n Node) {
	for _, list := range [][]string{n.Keys, n.Values} {
		for i := range list[:cap(list)] {
			list[:cap(list)][i] = "overwritten"
		}
	}
	for i := range n.Kids[:cap(n.Kids)] {
		n.Kids[:cap(n.Kids)][i] = -99
	}
}

// copied is a node in memory of its own, to hold against one that might be changed.
func copied(n Node) Node {
	return Node{Leaf: n.Leaf, Keys: slices.Clone(n.Keys), Values: slices.Clone(n.Values), Kids: slices.Clone(n.Kids)}
}

// wantBehind asks that what lies behind the lists' lengths is as spare left it.
func wantBehind(t *testing.T, n Node) {
	t.Helper()
	for _, list := range [][]string{n.Keys, n.Values} {
		if behind := list[len(list) : len(list)+2]; behind[0] != "behind" || behind[1] != "behind" {
			t.Errorf("what lies behind a list's length was written: %v", behind)
		}
	}
	if behind := n.Kids[len(n.Kids) : len(n.Kids)+2]; behind[0] != -88 || behind[1] != -88 {
		t.Errorf("what lies behind a list's length was written: %v", behind)
	}
}

// TestNewMemory holds that nodes are answered as new memory, and that what is handed in is neither changed nor read beyond its length.
func TestNewMemory(t *testing.T) {
	nodes := anyNodes(500)
	for i, n := range nodes {
		n = Node{Leaf: n.Leaf, Keys: spare(n.Keys, "behind"), Values: spare(n.Values, "behind"), Kids: spare(n.Kids, -88)}
		before := copied(n)
		second := copied(nodes[(i+1)%len(nodes)])
		node.Encode(n)
		node.Weight(n)
		node.Place(n, "a")
		answers := append(node.Split(n), node.Join(n, second), node.Join(n, n), node.Join(second, n))
		for j := range answers {
			var others []Node
			for _, a := range answers {
				others = append(others, copied(a))
			}
			overwrite(answers[j])
			for k := range answers {
				if k != j {
					wantNode(t, "an answer behind a change of another one", answers[k], others[k])
				}
			}
			answers[j] = others[j]
		}
		wantNode(t, "what was handed in", n, before)
		wantNode(t, "what was handed in second", second, nodes[(i+1)%len(nodes)])
		wantBehind(t, n)
	}
}

// TestNewTexts holds that the texts of a node that is answered are new memory, too.
func TestNewTexts(t *testing.T) {
	key, value := strings.Clone("a key"), strings.Clone("a value")
	n := leaf(key, value)
	s, _ := node.Encode(n)
	decoded, _ := node.Decode(s)
	if unsafe.StringData(decoded.Keys[0]) == unsafe.StringData(s[3:]) {
		t.Errorf("Decode answers a piece of what was handed in")
	}
	for _, a := range []Node{node.Split(n)[0], node.Join(n, leaf()), node.Join(leaf(), n)} {
		if unsafe.StringData(a.Keys[0]) == unsafe.StringData(key) || unsafe.StringData(a.Values[0]) == unsafe.StringData(value) {
			t.Errorf("a text that was handed in is answered")
		}
	}
}

// TestApart holds P2, and that nothing is kept: what a call answers hangs on its arguments alone.
func TestApart(t *testing.T) {
	s := "\x01\x01\x01a\x01x"
	one, _ := node.Decode(s)
	two, _ := node.Decode(s)
	overwrite(one)
	wantNode(t, "a node that was decoded apart", two, leaf("a", "x"))
	wantDecoded(t, s, leaf("a", "x"))
	n := leaf("a", "x", "b", "y")
	joined := node.Join(n, n)
	overwrite(n)
	wantNode(t, "a node that was joined", joined, leaf("a", "x", "b", "y", "a", "x", "b", "y"))
}
