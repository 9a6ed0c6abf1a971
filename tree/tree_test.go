package tree_test

import (
	"fmt"
	"maps"
	"math"
	"slices"
	"strings"
	"testing"
	"unsafe"

	"chandler/api"
	"chandler/journal"
	"chandler/node"
	"chandler/pack"
	"chandler/sector"
	"chandler/tree"
)

type (
	change = tree.Change
	// content is what a tree is to hold.
	content map[string]string
	// image is what each sector of a disk holds.
	image []string
)

// text is one of so many bytes.
func text(length int) string { return strings.Repeat("x", length) }

func put(key, value string) change { return change{Key: key, Value: value} }

func gone(key string) change { return change{Key: key, Gone: true} }

// puts are changes that give each of these keys the value.
func puts(keys []string, value string) []change {
	var changes []change
	for _, key := range keys {
		changes = append(changes, put(key, value))
	}
	return changes
}

func allGone(keys []string) []change {
	var changes []change
	for _, key := range keys {
		changes = append(changes, gone(key))
	}
	return changes
}

// numbered are keys of so many bytes, of the numbers from one on, up to another.
func numbered(from, to, bytes int) []string {
	var keys []string
	for i := from; i < to; i++ {
		keys = append(keys, fmt.Sprintf("%0*d", bytes, i))
	}
	return keys
}

// with is the content with the changes made.
func (held content) with(changes []change) content {
	held = maps.Clone(held)
	if held == nil {
		held = content{}
	}
	for _, c := range changes {
		if c.Gone {
			delete(held, c.Key)
		} else {
			held[c.Key] = c.Value
		}
	}
	return held
}

// pairs are those of the content, in the order of their keys.
func (held content) pairs() []api.Pair {
	var pairs []api.Pair
	for _, key := range slices.Sorted(maps.Keys(held)) {
		pairs = append(pairs, api.Pair{Key: key, Value: held[key]})
	}
	return pairs
}

// bytes is P5.5's B.
func (held content) bytes() int {
	sum := 0
	for key, value := range held {
		sum += len(key) + len(value) + 4
	}
	return sum
}

// fitsLeaf tells whether all of it fits one leaf, as layer 4 weighs it.
func (held content) fitsLeaf() bool {
	n := node.Node{Leaf: true}
	for key, value := range held {
		n.Keys, n.Values = append(n.Keys, key), append(n.Values, value)
	}
	return node.Weight(n) <= api.Size
}

// diskFor is a disk of zero bytes on which the journal has so many sectors.
func diskFor(sectors, room int) *sector.Disk { return sector.New(room + 1 + sectors) }

func diskOf(t *testing.T, held image) *sector.Disk {
	t.Helper()
	d := sector.New(len(held))
	for at, data := range held {
		write(t, d, at, data)
	}
	return d
}

func write(t *testing.T, d *sector.Disk, at int, data string) {
	t.Helper()
	if e := d.Write(at, data); e != api.OK {
		t.Fatalf("writing sector %d of the disk: %d", at, e)
	}
}

// imageOf is what the disk holds; its power must be on.
func imageOf(t *testing.T, d *sector.Disk) image {
	t.Helper()
	held := make(image, d.Len())
	for at := range held {
		data, e := d.Read(at)
		if e != api.OK {
			t.Fatalf("reading sector %d of the disk: %d", at, e)
		}
		held[at] = data
	}
	return held
}

// switchOff takes the power by a refused write, so that nothing else changes.
func switchOff(t *testing.T, d *sector.Disk) {
	t.Helper()
	d.Cut(0)
	if e := d.Write(0, "lost"); e != api.ErrOff || d.On() {
		t.Fatalf("the power stays on: %d", e)
	}
}

func open(t *testing.T, d *sector.Disk, room int) *tree.Tree {
	t.Helper()
	x, e := tree.Open(d, room)
	if e != api.OK || x == nil {
		t.Fatalf("Open with room %d = %v, %d", room, x, e)
	}
	return x
}

func wantNotOpened(t *testing.T, d *sector.Disk, room int, want api.Errno) {
	t.Helper()
	if x, e := tree.Open(d, room); e != want || x != nil {
		t.Errorf("Open with room %d = %v, %d, want nil, %d", room, x, e, want)
	}
}

func wantApply(t *testing.T, x *tree.Tree, want api.Errno, changes ...change) {
	t.Helper()
	if e := x.Apply(changes...); e != want {
		t.Errorf("Apply of %d changes = %d, want %d", len(changes), e, want)
	}
}

// wantHeld asks that the tree tells just this content, by every call.
func wantHeld(t *testing.T, x *tree.Tree, want content) {
	t.Helper()
	if got := x.Scan("", math.MaxInt); !slices.Equal(got, want.pairs()) {
		t.Fatalf("the tree holds %d pairs, others than the %d that are asked for", len(got), len(want))
	}
	if x.Len() != len(want) {
		t.Errorf("Len = %d, want %d", x.Len(), len(want))
	}
	for key, value := range want {
		if got, there := x.Get(key); got != value || !there {
			t.Errorf("Get(%.9q) = %.9q, %v, want %.9q", key, got, there, value)
		}
	}
	wantRoom(t, x, want)
}

// wantRoom holds what P5.5 says of the sectors in use of any tree.
func wantRoom(t *testing.T, x *tree.Tree, held content) {
	t.Helper()
	sectors := x.Sectors()
	if sectors > 3+held.bytes()/100 || (sectors == 1) != (len(held) == 0) || sectors < 1 {
		t.Errorf("%d keys of %d bytes in all have %d sectors", len(held), held.bytes(), sectors)
	}
}

func wantAbsent(t *testing.T, x *tree.Tree, keys ...string) {
	t.Helper()
	for _, key := range keys {
		if got, there := x.Get(key); got != "" || there {
			t.Errorf("Get(%.9q) = %.9q, %v, want none", key, got, there)
		}
	}
}

// TestExample holds the chapter's example.
func TestExample(t *testing.T) {
	d := sector.New(100)
	x := open(t, d, 40)
	wantApply(t, x, api.OK, put("b", "2"), put("a", "1"))
	if got := x.Scan("", 9); !slices.Equal(got, []api.Pair{{Key: "a", Value: "1"}, {Key: "b", Value: "2"}}) {
		t.Errorf("Scan = %v", got)
	}
	wantApply(t, x, api.OK, gone("a"))
	for _, x := range []*tree.Tree{x, open(t, d, 40)} {
		wantHeld(t, x, content{"b": "2"})
		wantAbsent(t, x, "a")
	}
}

// TestOpenRefused holds P5.1's errors ahead of what the journal's sectors hold, and their order.
func TestOpenRefused(t *testing.T) {
	rooms := []int{math.MinInt, -1 << 32, -1, 0, api.MaxRoom + 1, 1<<32 + 1, math.MaxInt}
	off := sector.New(4)
	write(t, off, 0, "\xff")
	switchOff(t, off)
	for _, room := range append(rooms, 1, 4, api.MaxRoom) {
		wantNotOpened(t, nil, room, api.ErrNil)
	}
	for _, d := range []*sector.Disk{sector.New(0), sector.New(100), off} {
		for _, room := range rooms {
			wantNotOpened(t, d, room, api.ErrArg)
		}
	}
	for _, room := range []int{1, 4, api.MaxRoom} {
		wantNotOpened(t, sector.New(0), room, api.ErrAt)
		wantNotOpened(t, off, room, api.ErrOff)
	}
	off.Start()
	wantNotOpened(t, off, 4, api.ErrHead) // though the journal has no sector either
	write(t, off, 0, "")
	wantNotOpened(t, off, 4, api.ErrAt)
	wantNotOpened(t, off, 3, api.ErrAt)
	open(t, off, 2)
	wantNotOpened(t, sector.New(api.MaxRoom+1), api.MaxRoom, api.ErrAt)
	open(t, sector.New(api.MaxRoom+2), api.MaxRoom)
	open(t, sector.New(api.MaxSectors), 1)
}

// TestOpenEmpty holds P5.1 of disks of zero bytes: the tree is empty, and nothing is written, not even by an Apply of what is gone already.
func TestOpenEmpty(t *testing.T) {
	for _, c := range []struct{ sectors, room int }{{1, 1}, {1, 40}, {59, 40}, {1, api.MaxRoom}, {api.MaxSectors, 1}} {
		d := diskFor(c.sectors, c.room)
		d.Cut(0)
		for range 2 {
			x := open(t, d, c.room)
			wantHeld(t, x, nil)
			wantAbsent(t, x, "", "a", text(1<<10))
			wantApply(t, x, api.OK)
			if d.Writes() != 0 || !d.On() {
				t.Errorf("an Open, or an Apply without changes, writes")
			}
		}
		d.Start()
		x := open(t, d, c.room)
		wantApply(t, x, api.OK, gone("a"), gone(text(api.MaxKey)))
		wantHeld(t, x, nil)
		wantHeld(t, open(t, d, c.room), nil)
	}
}

// TestOpenAgain holds P5.1: what was applied is there, an Open of it writes nothing, and a tree that is opened goes on as the one ahead.
func TestOpenAgain(t *testing.T) {
	d := diskFor(300, 100)
	held := content{}
	for i, changes := range [][]change{
		{put("a", "1")}, puts(numbered(0, 20, 5), "a value"), puts(numbered(10, 15, 5), text(api.MaxValue)), allGone(numbered(0, 12, 5)),
		puts(numbered(1000, 1060, api.MaxKey), text(100)), {gone("a")}, allGone(numbered(1010, 1060, api.MaxKey)), puts(numbered(1005, 1030, 6), ""),
	} {
		wantApply(t, open(t, d, 100), api.OK, changes...)
		held = held.with(changes)
		before := d.Writes()
		wantHeld(t, open(t, d, 100), held)
		if d.Writes() != before {
			t.Errorf("the Open behind Apply %d writes", i)
		}
	}
}

// handMade is a disk on which the journal's sector 0 holds the anchor, and those from 1 on what is given.
func handMade(t *testing.T, anchor string, sectors ...string) *sector.Disk {
	t.Helper()
	d := diskFor(1+len(sectors), 4)
	write(t, d, 5, anchor)
	for i, data := range sectors {
		write(t, d, 6+i, data)
	}
	return d
}

// leafOf is a leaf's bytes, of these keys with a value of so many bytes each.
func leafOf(value int, keys ...string) string {
	n := node.Node{Leaf: true, Keys: keys}
	for range keys {
		n.Values = append(n.Values, text(value))
	}
	s, _ := node.Encode(n)
	return s
}

// otherOf is the bytes of a node of kids, each with its key.
func otherOf(keys string, kids ...int) string {
	s, _ := node.Encode(node.Node{Keys: strings.Split(keys, ""), Kids: kids})
	return s
}

// TestOpenTree holds P5.1 of trees that are made by hand as an Apply leaves them.
func TestOpenTree(t *testing.T) {
	for _, c := range []struct {
		d    *sector.Disk
		keys string
	}{
		{handMade(t, "\x01", leafOf(0, "a")), "a"}, {handMade(t, "\x02", leafOf(0, "b"), leafOf(0, "a")), "a"},
		{handMade(t, "\x01", leafOf(200, "a", "b", "c", "d", "e")), "abcde"}, {handMade(t, "", leafOf(0, "a")), ""},
		{handMade(t, "\x01", otherOf("ad", 2, 3), leafOf(100, "a", "b", "c"), leafOf(100, "d", "e", "f")), "abcdef"},
		{handMade(t, "\x02", leafOf(100, "d", "e", "f"), otherOf("ad", 3, 1), leafOf(100, "a", "b", "c")), "abcdef"},
	} {
		writes := c.d.Writes()
		x := open(t, c.d, 4)
		keys := ""
		for _, p := range x.Scan("", 99) {
			keys += p.Key
		}
		if keys != c.keys || c.d.Writes() != writes {
			t.Errorf("the tree holds %q, want %q", keys, c.keys)
		}
	}
}

// TestOpenNoTree holds P5.1's ErrTree: of sectors that no Apply leaves; and that such an Open writes nothing.
func TestOpenNoTree(t *testing.T) {
	left, right := leafOf(100, "a", "b", "c"), leafOf(100, "d", "e", "f")
	zeros := strings.Repeat("\x00", api.Size)
	for i, d := range []*sector.Disk{
		handMade(t, "\xff"), handMade(t, strings.Repeat("\xff", api.Size)), handMade(t, strings.Repeat("\x80", api.Size)), // no number
		handMade(t, "\x00\x01"), handMade(t, zeros[1:]+"\x01"), handMade(t, "\x01\x01", leafOf(0, "a")), handMade(t, "\x81\x00", leafOf(0, "a")),
		handMade(t, "\x01"), handMade(t, "\x02", leafOf(0, "a")), handMade(t, pack.Uint(1<<32+1), leafOf(0, "a")), handMade(t, pack.Uint(1<<63+1), leafOf(0, "a")), // no sector
		handMade(t, "\x01", ""), handMade(t, "\x01", "\x03\x01\x01a\x00"), handMade(t, "\x01", leafOf(0, "a")+"\x01"), handMade(t, "\x01", "\x01\x02\x01b\x00\x01a\x00"), // no node
		handMade(t, "\x01", leafOf(0)), handMade(t, "\x01", otherOf("a", 2), left), handMade(t, "\x01", otherOf("ad", 2, 3), left, leafOf(0)), // too little in it
		handMade(t, "\x01", otherOf("ad", 2, 3), left, leafOf(100, "d", "e")), handMade(t, "\x01", otherOf("ad", 2, 3), leafOf(0, "a"), right),
		handMade(t, "\x01", otherOf("a", 1)), handMade(t, "\x01", otherOf("ad", 2, 1), left), handMade(t, "\x01", otherOf("ad", 2, 2), left), // twice
		handMade(t, "\x01", otherOf("ab", 1, 1)), handMade(t, "\x01", otherOf("ad", 2, 4), left, right), handMade(t, "\x01", otherOf("ad", 2, api.MaxSectors-1), left, right), // no sector
		handMade(t, "\x01", otherOf("ac", 2, 3), left, right), handMade(t, "\x01", otherOf("Ad", 2, 3), left, right), // not the kid's lowest key
		handMade(t, "\x01", otherOf("ac", 2, 3), left, leafOf(100, "c", "d", "e")), handMade(t, "\x01", otherOf("ab", 2, 3), left, leafOf(100, "b", "d", "e")), // not rising
		handMade(t, "\x01", otherOf("ad", 2, 3), left, zeros), handMade(t, "\x01", otherOf("ad", 2, 3), zeros, right),
		handMade(t, "\x01", otherOf("ad", 2, 3), left, otherOf("dg", 4, 5), right, leafOf(100, "g", "h", "i")), // too few kids
	} {
		held := imageOf(t, d)
		writes := d.Writes()
		if x, e := tree.Open(d, 4); x != nil || e != api.ErrTree {
			t.Errorf("%d: Open = %v, %d, want %d", i, x, e, api.ErrTree)
		}
		if !slices.Equal(held, imageOf(t, d)) || d.Writes() != writes {
			t.Errorf("%d: Open writes", i)
		}
	}
}

// manyLeaves are the keys and the sectors of so many leaves.
func manyLeaves(count int) (string, []string) {
	keys, leaves := "", []string(nil)
	for i := range count {
		key := string(rune('a' + i))
		keys += key
		leaves = append(leaves, leafOf(100, key, key+"1", key+"2"))
	}
	return keys, leaves
}

// following are so many numbers from one on.
func following(from, count int) []int {
	var numbers []int
	for i := range count {
		numbers = append(numbers, from+i)
	}
	return numbers
}

// TestOpenThreeLevels holds P5.1 of a root with two nodes below it, of which one has so many leaves, the other one eight: too few are ErrTree.
func TestOpenThreeLevels(t *testing.T) {
	for _, kids := range []int{1, 2, 7, 8, 12} {
		keys, leaves := manyLeaves(kids + 8)
		few, eight := otherOf(keys[:kids], following(4, kids)...), otherOf(keys[kids:], following(4+kids, 8)...)
		d := handMade(t, "\x01", append([]string{otherOf(keys[:1]+keys[kids:kids+1], 2, 3), few, eight}, leaves...)...)
		if kids < 8 {
			wantNotOpened(t, d, 4, api.ErrTree)
		} else if x := open(t, d, 4); x.Len() != 3*(kids+8) || x.Sectors() != 4+kids+8 {
			t.Errorf("%d keys, %d sectors", x.Len(), x.Sectors())
		}
	}
}

// TestOpenUnlikeLevels holds P5.1's ErrTree of a root that has a leaf and a node of eight leaves below it, whichever stands first.
func TestOpenUnlikeLevels(t *testing.T) {
	keys, leaves := manyLeaves(9)
	d := handMade(t, "\x01", append([]string{otherOf(keys[:2], 3, 2), otherOf(keys[1:], following(4, 8)...)}, leaves...)...)
	wantNotOpened(t, d, 4, api.ErrTree)
	d = handMade(t, "\x01", append([]string{otherOf(keys[:1]+keys[8:], 2, 11), otherOf(keys[:8], following(3, 8)...)}, leaves...)...)
	wantNotOpened(t, d, 4, api.ErrTree)
}

// TestOpenSpoilt holds P5.1 and P1 of a tree's disk on which any of its sectors was overwritten, or which is opened with another room.
func TestOpenSpoilt(t *testing.T) {
	d := diskFor(60, 40)
	wantApply(t, open(t, d, 40), api.OK, puts(numbered(0, 60, 20), text(100))...)
	whole := imageOf(t, d)
	for at := range whole {
		for _, data := range []string{"", "\x01", "\x02", "\xff", text(api.Size), whole[41], whole[42], whole[43], whole[at][:200], whole[at][:api.Size-1] + "\x01"} {
			held := slices.Clone(whole)
			held[at] = data
			wantSomeOpen(t, diskOf(t, held), 40)
		}
	}
	for room := 1; room < 110; room++ {
		wantSomeOpen(t, diskOf(t, whole), room)
	}
}

// wantSomeOpen asks that an Open is refused as the chapter says, or answers a tree that can be used.
func wantSomeOpen(t *testing.T, d *sector.Disk, room int) {
	t.Helper()
	x, e := tree.Open(d, room)
	switch {
	case e == api.OK:
		held := content{}
		for _, p := range x.Scan("", math.MaxInt) {
			held[p.Key] = p.Value
		}
		wantHeld(t, x, held)
		changes := []change{put("000", "x"), gone("00000000000000000007"), put("~", text(api.MaxValue))}
		if e := x.Apply(changes...); e == api.OK {
			wantHeld(t, x, held.with(changes))
		} else if e != api.ErrFull && e != api.ErrBig {
			t.Errorf("Apply = %d", e)
		}
	case x != nil || e != api.ErrHead && e != api.ErrTree && e != api.ErrAt:
		t.Errorf("Open = %v, %d", x, e)
	}
}

// someContent has keys that begin alike, end in zero bytes, and have any bytes, with values of all lengths up to the limit.
func someContent() content {
	held := content{}
	for i := range 200 {
		held[fmt.Sprintf("%03d", i)] = text(i + 1)
		held[strings.Repeat("\x00", 1+i%api.MaxKey)] = ""
		held[strings.Repeat("k", 1+i%api.MaxKey)] = "\x00\xff"
		held["a"+strings.Repeat("\x00", i%5)+strings.Repeat("\xff", i%7)] = "\x00"
		held[string([]byte{byte(i), byte(255 - i)})] = text(api.MaxValue - i%3)
	}
	return held
}

// treeOf is a tree of the content, on a disk that has room for it.
func treeOf(t *testing.T, held content) *tree.Tree {
	t.Helper()
	x := open(t, diskFor(1000, 500), 500)
	var changes []change
	for _, p := range held.pairs() {
		changes = append(changes, put(p.Key, p.Value))
	}
	slices.Reverse(changes)
	for part := range slices.Chunk(changes, 20) {
		wantApply(t, x, api.OK, part...)
	}
	return x
}

// TestGetScan holds P5.2 of a tree of many leaves, of one, and of none.
func TestGetScan(t *testing.T) {
	for _, held := range []content{someContent(), {"b": "1", "d": "", "dd": "2"}, nil} {
		x := treeOf(t, held)
		wantHeld(t, x, held)
		pairs := held.pairs()
		froms := []string{"", "\x00", "\xff", "\xff\xff\xff", "a", "c", "d\x00", "~", text(1 << 10), strings.Repeat("\xff", 1<<10)}
		for key := range held {
			froms = append(froms, key, key+"\x00", key[:len(key)-1])
		}
		for _, from := range froms {
			if _, there := held[from]; !there {
				wantAbsent(t, x, from)
			}
			first := slices.IndexFunc(pairs, func(p api.Pair) bool { return p.Key >= from })
			var want []api.Pair
			if first >= 0 {
				want = pairs[first:]
			}
			for _, most := range []int{math.MinInt, -1, 0, 1, 2, 7, len(want) - 1, len(want), len(want) + 1, math.MaxInt} {
				if got := x.Scan(from, most); !slices.Equal(got, want[:min(max(most, 0), len(want))]) {
					t.Fatalf("Scan(%.9q, %d) of %d keys: %d pairs, others than is asked for", from, most, len(held), len(got))
				}
			}
		}
	}
}

// TestLimits holds P5.3 of keys and values at their limits, and that whatever bytes they have come back.
func TestLimits(t *testing.T) {
	d := diskFor(60, 100)
	x := open(t, d, 100)
	var changes []change
	for i, end := range []string{"\x00", "a", "\xff", "\n", "é"} {
		key := text(api.MaxKey-len(end)) + end
		changes = append(changes, put(end, end), put(key, strings.Repeat(end, api.MaxValue/len(end))), put(key[i+1:], ""), gone(key[:40-i]))
	}
	wantApply(t, x, api.OK, changes...)
	wantHeld(t, x, content{}.with(changes))
	wantHeld(t, open(t, d, 100), content{}.with(changes))
	wantAbsent(t, x, "", text(api.MaxKey), text(api.MaxKey+1), text(api.MaxKey)+"\x00")
}

// TestApplyRefused holds P5.3's errors of wrong changes, their order, and that nothing has changed; also of an empty tree.
func TestApplyRefused(t *testing.T) {
	longKey, longValue := text(api.MaxKey+1), text(api.MaxValue+1)
	refused := []struct {
		changes []change
		want    api.Errno
	}{
		{[]change{put("", "")}, api.ErrKey}, {[]change{gone("")}, api.ErrKey}, {[]change{put(longKey, "")}, api.ErrKey}, {[]change{gone(longKey)}, api.ErrKey},
		{[]change{put("", longValue)}, api.ErrKey}, {[]change{put(longKey, longValue)}, api.ErrKey}, {[]change{put(text(1<<20), "")}, api.ErrKey},
		{[]change{put("a", "1"), put("b", "2"), put("", "")}, api.ErrKey}, {[]change{put("", ""), put("a", longValue)}, api.ErrKey},
		{[]change{put("", ""), put("", "")}, api.ErrKey}, {[]change{put("", ""), put("a", ""), put("a", "")}, api.ErrKey},
		{[]change{put("a", longValue)}, api.ErrValue}, {[]change{{Key: "a", Value: longValue, Gone: true}}, api.ErrValue}, {[]change{put("a", text(1<<20))}, api.ErrValue},
		{[]change{put("b", ""), put("a", longValue), put("", "")}, api.ErrValue}, {[]change{put("a", ""), put("a", longValue)}, api.ErrValue},
		{[]change{put("a", longValue), put("b", ""), put("b", "")}, api.ErrValue}, {[]change{put(text(api.MaxKey), longValue)}, api.ErrValue},
		{[]change{put("a", "1"), put("a", "1")}, api.ErrTwice}, {[]change{put("a", "1"), gone("a")}, api.ErrTwice}, {[]change{gone("a"), gone("a")}, api.ErrTwice},
		{[]change{gone("b"), put("c", ""), put("b", "2")}, api.ErrTwice}, {[]change{put("a", ""), gone("a"), put("", "")}, api.ErrTwice},
		{[]change{gone("no"), gone("no")}, api.ErrTwice}, {[]change{put("a", ""), put("a", ""), put("b", longValue)}, api.ErrTwice},
		{append(puts(numbered(0, 1000, 4), text(200)), put("0007", "")), api.ErrTwice}, {append(puts(numbered(0, 1000, 4), text(200)), put("", "")), api.ErrKey}, // ahead of ErrFull
	}
	var none *tree.Tree
	for _, held := range []content{{}, {"a": "old", "b": ""}} {
		d := diskFor(5, 4)
		x := open(t, d, 4)
		wantApply(t, x, api.OK, put("z", ""))
		wantApply(t, x, api.OK, gone("z"))
		for key, value := range held {
			wantApply(t, x, api.OK, put(key, value))
		}
		d.Cut(0)
		for range 2 {
			for _, c := range refused {
				wantApply(t, none, api.ErrNil, c.changes...)
				wantApply(t, x, c.want, c.changes...)
			}
			wantApply(t, none, api.ErrNil)
			wantApply(t, x, api.OK)
			wantApply(t, x, api.OK, []change{}...)
			wantHeld(t, x, held)
			switchOff(t, d) // the second time round
		}
		d.Start()
		wantHeld(t, open(t, d, 4), held)
		wantApply(t, x, api.OK, put("c", "3"), gone("no"))
		wantHeld(t, x, held.with([]change{put("c", "3")}))
	}
}

// TestOff holds P5.3 of a tree whose Apply was answered ErrOff: it is asked no more, and tells what it held ahead, with the power off and on.
func TestOff(t *testing.T) {
	for _, left := range []int{0, 1, 2, 3, 4, 5} {
		d := diskFor(50, 40)
		x := open(t, d, 40)
		held := content{"a": "1", "b": "2"}
		wantApply(t, x, api.OK, put("a", "1"), put("b", "2"))
		d.Cut(left)
		// More than one leaf, so that more sectors are written than there are writes left.
		wantApply(t, x, api.ErrOff, append(puts(numbered(0, 10, 4), text(200)), gone("a"))...)
		for range 2 {
			for _, changes := range [][]change{nil, {put("c", "3")}, {put("", "")}, {put("c", text(201))}, {gone("a"), gone("a")}, puts(numbered(0, 1000, 4), text(200))} {
				wantApply(t, x, api.ErrOff, changes...)
			}
			wantHeld(t, x, held)
			wantAbsent(t, x, "0001", "c")
			d.Start() // the second time round
		}
		writes := d.Writes()
		wantApply(t, x, api.ErrOff, put("c", "3"))
		if d.Writes() != writes {
			t.Errorf("an Apply that is answered ErrOff writes")
		}
		wantApply(t, open(t, d, 40), api.OK, put("c", "3"))
	}
}

// TestGoneAlready holds P5.3: of keys that aren't there nothing has to go, and a value may come that is there already.
func TestGoneAlready(t *testing.T) {
	held := someContent()
	x := treeOf(t, held)
	wantApply(t, x, api.OK, gone("none"), gone("a\x01"), gone(text(api.MaxKey)), gone("\xff\xff\xff"), gone("\x01"))
	wantHeld(t, x, held)
	wantApply(t, x, api.OK, put("000", "x"), put("a", held["a"]), gone("none"))
	wantHeld(t, x, held)
	changes := []change{{Key: "000", Value: "a value, and gone", Gone: true}, {Key: "none", Value: text(api.MaxValue), Gone: true}}
	wantApply(t, x, api.OK, changes...)
	wantHeld(t, x, held.with(changes))
}

// TestNodes holds that the nodes stand in the journal's sectors as layer 4 says, the pairs of the tree in the leaves.
func TestNodes(t *testing.T) {
	d := diskFor(200, 100)
	x := open(t, d, 100)
	held := content{}.with(puts(numbered(0, 90, 30), text(150)))
	wantApply(t, x, api.OK, puts(numbered(0, 90, 30), text(150))...)
	j, e := journal.Open(d, 100)
	if e != api.OK {
		t.Fatalf("the journal isn't opened: %d", e)
	}
	nodes, found := 0, content{}
	for at := range j.Len() {
		data, _ := j.Read(at)
		n, e := node.Decode(data)
		if e != api.OK {
			continue
		}
		nodes++
		for i, value := range n.Values {
			found[n.Keys[i]] = value
		}
	}
	if nodes != x.Sectors()-1 || !maps.Equal(found, held) {
		t.Errorf("%d nodes with %d pairs, want %d with %d", nodes, len(found), x.Sectors()-1, len(held))
	}
}

// TestNoHold holds P1, and P5.2 and P5.3 of a nil tree.
func TestNoHold(t *testing.T) {
	var none *tree.Tree
	for _, s := range []string{"", "a", text(1 << 20)} {
		wantAbsent(t, none, s)
		for _, most := range []int{math.MinInt, -1, 0, 1, math.MaxInt} {
			if got := none.Scan(s, most); len(got) != 0 {
				t.Errorf("Scan of a nil tree: %v", got)
			}
		}
		wantApply(t, none, api.ErrNil, put(s, s), put(s, s))
	}
	wantApply(t, none, api.ErrNil)
	if none.Len() != 0 || none.Sectors() != 0 {
		t.Errorf("a nil tree has %d keys, %d sectors", none.Len(), none.Sectors())
	}
}

// TestApart holds P2: trees of two disks have nothing to do with one another.
func TestApart(t *testing.T) {
	a, b := diskFor(50, 40), diskFor(50, 40)
	one, other := open(t, a, 40), open(t, b, 40)
	wantApply(t, one, api.OK, puts(numbered(0, 20, 4), text(100))...)
	wantHeld(t, other, nil)
	wantApply(t, other, api.OK, put("0003", "other"))
	switchOff(t, b)
	wantApply(t, other, api.ErrOff, put("0004", "lost"))
	wantApply(t, one, api.OK, gone("0003"))
	wantHeld(t, one, content{}.with(puts(numbered(0, 20, 4), text(100))).with([]change{gone("0003")}))
	b.Start()
	wantHeld(t, open(t, b, 40), content{"0003": "other"})
}

// TestNewMemory holds that lists and texts that are handed in are not kept, nor changed, and that those that are answered are new.
func TestNewMemory(t *testing.T) {
	x := open(t, diskFor(50, 40), 40)
	held := content{"a": "1", "b": "2", "c": "3"}
	changes := []change{put("c", "3"), put("a", "1"), put("b", "2"), put("d", "behind")}
	handed := slices.Clone(changes)
	wantApply(t, x, api.OK, changes[:3]...)
	if !slices.Equal(changes, handed) {
		t.Errorf("what was handed in was changed: %v", changes)
	}
	for i := range changes {
		changes[i] = put("later", "later")
	}
	wantHeld(t, x, held)
	one, two := x.Scan("", 9), x.Scan("", 9)
	for i := range one[:cap(one)] {
		one[:cap(one)][i] = api.Pair{Key: "overwritten"}
	}
	if !slices.Equal(two, held.pairs()) {
		t.Errorf("two answers share memory: %v", two)
	}
	wantHeld(t, x, held)
	key, value := strings.Clone("a key"), strings.Clone("a value")
	wantApply(t, x, api.OK, put(key, value))
	texts := []string{key, value}
	for range 2 {
		got, _ := x.Get(key)
		p := x.Scan(key, 1)[0]
		texts = append(texts, got, p.Key, p.Value)
	}
	met := map[*byte]int{}
	for i, s := range texts {
		if met[unsafe.StringData(s)]++; met[unsafe.StringData(s)] > 1 {
			t.Errorf("the text %d shares its memory with another one", i)
		}
	}
}
