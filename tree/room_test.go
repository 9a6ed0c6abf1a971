package tree_test

import (
	"fmt"
	"maps"
	"math/rand"
	"slices"
	"strings"
	"testing"

	"chandler/api"
	"chandler/sector"
	"chandler/tree"
)

// run is a tree that takes changes, with all that is to be told of it.
type run struct {
	d    *sector.Disk
	x    *tree.Tree
	room int
	held content
	// bytes is P5.5's B, kept beside what is held as that would take long to add up each time.
	bytes int
	// leaf says that all that was held since there was no key fitted one leaf.
	leaf bool
	// most is the greatest number of sectors that were in use.
	most int
}

func newRun(t *testing.T, sectors, room int) *run {
	t.Helper()
	d := diskFor(sectors, room)
	return &run{d: d, x: open(t, d, room), room: room, held: content{}, leaf: true, most: 1}
}

// apply lets the changes be made, and holds what P5.5 says of the errors, of the sectors in use, and the chapter's words of which are used again.
func (r *run) apply(t *testing.T, changes ...change) api.Errno {
	t.Helper()
	before, writes := r.x.Sectors(), r.d.Writes()
	e := r.x.Apply(changes...)
	sectors := r.d.Len() - r.room - 1
	switch e {
	case api.OK:
		r.change(changes)
	case api.ErrFull:
		if before+9*len(changes) <= sectors {
			t.Fatalf("ErrFull of %d changes, with %d of %d sectors in use", len(changes), before, sectors)
		}
	case api.ErrBig:
		if 24*len(changes)+1 <= r.room {
			t.Fatalf("ErrBig of %d changes with room %d", len(changes), r.room)
		}
	default:
		t.Fatalf("Apply = %d", e)
	}
	if e != api.OK && (r.d.Writes() != writes || r.x.Sectors() != before) {
		t.Fatalf("an Apply that is answered %d changes something", e)
	}
	r.wantSectors(t)
	return e
}

func (r *run) change(changes []change) {
	for _, c := range changes {
		if old, there := r.held[c.Key]; there {
			r.bytes -= len(c.Key) + len(old) + 4
			delete(r.held, c.Key)
		}
		if !c.Gone {
			r.bytes += len(c.Key) + len(c.Value) + 4
			r.held[c.Key] = c.Value
		}
	}
}

func (r *run) wantSectors(t *testing.T) {
	t.Helper()
	sectors := r.x.Sectors()
	if sectors > 3+r.bytes/100 || (sectors == 1) != (len(r.held) == 0) {
		t.Fatalf("%d keys of %d bytes in all have %d sectors", len(r.held), r.bytes, sectors)
	}
	r.most = max(r.most, sectors)
	r.leaf = len(r.held) == 0 || r.leaf && r.held.fitsLeaf()
	if r.leaf && len(r.held) > 0 && sectors != 2 {
		t.Fatalf("%d keys that fit one leaf have %d sectors", len(r.held), sectors)
	}
	// By the number of those that were ever in use at once: none was taken anew while one of those was free.
	if r.most > 1 && r.d.Highest() != r.room+r.most {
		t.Fatalf("the highest sector written is %d, though never more than %d behind %d were in use", r.d.Highest(), r.most, r.room)
	}
}

// again opens the tree anew.
func (r *run) again(t *testing.T) {
	t.Helper()
	sectors := r.x.Sectors()
	r.x = open(t, r.d, r.room)
	if r.x.Sectors() != sectors {
		t.Fatalf("opened again, %d sectors are in use, ahead %d", r.x.Sectors(), sectors)
	}
}

// shape is of what kind the keys and values of a random run are.
type shape struct {
	sectors, room, keys, keyLength, valueLength, most int
}

// key is that of a number: some are short, others have as many bytes as the shape says, so that the lowest key of a node may grow much.
func (s shape) key(number int) string {
	key := fmt.Sprintf("%04x", number*7919%s.keys)
	if number%3 > 0 {
		key += strings.Repeat("k", max(0, s.keyLength-len(key)))
	}
	return key
}

// changes are up to the shape's most, of unlike keys; the share is of how many in ten are gone.
func (s shape) changes(r *rand.Rand, share int) []change {
	met := map[string]bool{}
	var changes []change
	for range 1 + r.Intn(s.most) {
		key := s.key(r.Intn(s.keys))
		if met[key] {
			continue
		}
		met[key] = true
		c := put(key, text(r.Intn(s.valueLength+1)))
		c.Gone = r.Intn(10) < share
		changes = append(changes, c)
	}
	return changes
}

// TestRandom holds P5.2, P5.3 and P5.5 of runs that grow and shrink by chance, on disks and with rooms great and small.
func TestRandom(t *testing.T) {
	answers := map[api.Errno]int{}
	for i, s := range []shape{
		{500, 500, 300, 8, 20, 20}, {500, 500, 2000, 48, 200, 20}, {500, 500, 2000, 48, 0, 20}, {2000, 300, 4000, 48, 200, 60}, {500, 25, 1000, 48, 30, 1},
		{500, 500, 3000, 4, 0, 100}, {30, 40, 300, 48, 200, 5}, {12, 500, 100, 20, 200, 10}, {500, 3, 400, 48, 200, 3}, {500, 1, 9, 8, 9, 2},
		{60, 30, 400, 30, 100, 12}, {500, 500, 30, 10, 40, 5}, {500, 500, 12, 6, 200, 12}, {2, 40, 20, 10, 100, 4}, {1, 40, 20, 10, 100, 4}, {200, 500, 900, 48, 127, 1},
	} {
		r := rand.New(rand.NewSource(int64(i)))
		x := newRun(t, s.sectors, s.room)
		for step := range 400 {
			answers[x.apply(t, s.changes(r, []int{1, 3, 9, 2, 8, 10}[step/20%6])...)]++
			if step%9 == 0 {
				x.again(t)
				wantHeld(t, x.x, x.held)
			}
		}
		x.apply(t, allGone(slices.Collect(maps.Keys(x.held)))...)
		wantHeld(t, x.x, x.held)
	}
	if answers[api.OK] < 3000 || answers[api.ErrFull] < 100 || answers[api.ErrBig] < 100 {
		t.Errorf("the answers are %v: too few of a kind to tell", answers)
	}
}

// TestGrowShrink holds P5.5 of trees that grow to many leaves, key by key with the least room, shrink to none, and grow again.
func TestGrowShrink(t *testing.T) {
	keys := numbered(0, 2500, api.MaxKey)
	mixed := slices.Clone(keys)
	rand.New(rand.NewSource(1)).Shuffle(len(mixed), func(i, j int) { mixed[i], mixed[j] = mixed[j], mixed[i] })
	falling := slices.Clone(keys)
	slices.Reverse(falling)
	for i, orders := range [][2][]string{{keys, falling}, {falling, mixed}, {mixed, keys}, {keys, keys}} {
		x := newRun(t, 2000, 25)
		for round := range 2 {
			for _, key := range orders[0] {
				if e := x.apply(t, put(key, text(api.MaxValue))); e != api.OK {
					t.Fatalf("%d: Apply = %d", i, e)
				}
			}
			wantHeld(t, x.x, x.held)
			if x.x.Sectors() < len(keys)/4 {
				t.Errorf("%d: too few sectors to hold all: %d", i, x.x.Sectors())
			}
			for at, key := range orders[1] {
				if e := x.apply(t, gone(key)); e != api.OK {
					t.Fatalf("%d: Apply = %d", i, e)
				}
				if at%700 == 0 {
					x.again(t)
					wantHeld(t, x.x, x.held)
				}
			}
			wantHeld(t, x.x, nil)
			if round == 0 {
				x.again(t)
			}
		}
	}
}

// TestManySectors holds P5.3 and P5.5 of a disk of the greatest size: it is filled, it is full, and it is emptied.
func TestManySectors(t *testing.T) {
	const room = 481
	x := newRun(t, api.MaxSectors-room-1, room)
	full := false
	from := 0
	for !full {
		e := x.x.Apply(puts(numbered(from, from+20, api.MaxKey), text(api.MaxValue))...)
		full = e == api.ErrFull
		if !full && e != api.OK {
			t.Fatalf("Apply = %d", e)
		}
		from += 20
	}
	from -= 20
	all := content{}.with(puts(numbered(0, from, api.MaxKey), text(api.MaxValue)))
	if x.x.Sectors()+9*20 <= api.MaxSectors-room-1 {
		t.Errorf("ErrFull with %d sectors in use", x.x.Sectors())
	}
	wantHeld(t, x.x, all)
	wantHeld(t, open(t, x.d, room), all)
	for at := 0; at < from; at += 20 {
		// From both ends, and in the middle, so that nodes are joined with neighbours on both sides.
		part := slices.Concat(numbered(at/2, at/2+10, api.MaxKey), numbered(from-at/2-10, from-at/2, api.MaxKey))
		if e := x.x.Apply(allGone(part)...); e != api.OK {
			t.Fatalf("Apply = %d", e)
		}
	}
	wantHeld(t, x.x, nil)
	wantHeld(t, open(t, x.d, room), nil)
}

// want asks for an answer beside all that apply holds.
func (r *run) want(t *testing.T, want api.Errno, changes ...change) {
	t.Helper()
	if e := r.apply(t, changes...); e != want {
		t.Fatalf("Apply of %d changes, with %d of %d sectors in use and room %d = %d, want %d", len(changes), r.x.Sectors(), r.d.Len()-r.room-1, r.room, e, want)
	}
}

// fullLeaf are changes that fill one leaf up to its last byte: 2, four times 204, and twice 103.
func fullLeaf() []change {
	return append(puts([]string{"a", "b", "c", "d"}, text(200)), puts([]string{"e", "f"}, text(100))...)
}

// TestOneLeaf holds P5.5 of what fits one leaf: it has two sectors, up to the last byte, and more for one byte more.
func TestOneLeaf(t *testing.T) {
	x := newRun(t, 20, 40)
	x.want(t, api.OK, fullLeaf()...)
	x.want(t, api.OK, put("f", text(100)), gone("none"))
	x.want(t, api.OK, gone("f"))
	x.want(t, api.OK, put("ff", text(99)))
	x.want(t, api.OK, put("a", text(199)), put("ff", text(100)))
	if x.x.Sectors() != 2 || !x.leaf {
		t.Errorf("what fills one leaf has %d sectors", x.x.Sectors())
	}
	x.want(t, api.OK, put("a", text(200)))
	if x.x.Sectors() < 3 || x.leaf {
		t.Errorf("what doesn't fit one leaf has %d sectors", x.x.Sectors())
	}
	// None in between, be it within an Apply or not, and there is one leaf again.
	x.want(t, api.OK, allGone([]string{"a", "b", "c", "d", "e", "ff"})...)
	x.want(t, api.OK, fullLeaf()...)
	x.want(t, api.OK, put("g", ""))
	x.want(t, api.OK, append(fullLeaf(), gone("g"))...)
	x.want(t, api.OK, allGone([]string{"a", "b", "c", "d", "e", "f"})...)
	x.want(t, api.OK, puts(numbered(0, 113, 8), "")...) // ten bytes each, and one more in the count
	if x.x.Sectors() < 3 {
		t.Errorf("what doesn't fit one leaf has %d sectors", x.x.Sectors())
	}
	x.want(t, api.OK, allGone(numbered(0, 113, 8))...)
	x.want(t, api.OK, puts(numbered(0, 102, 8), "")...)
	if x.x.Sectors() != 2 {
		t.Errorf("what fits one leaf has %d sectors", x.x.Sectors())
	}
}

// TestOneLeafInAnyOrder holds P5.5 of Applies ahead of which and behind which all fits one leaf, though it wouldn't in between, if the changes were made in the order in which they are handed in.
func TestOneLeafInAnyOrder(t *testing.T) {
	for _, changes := range [][]change{
		{put("a", text(100)), put("e", text(200)), gone("b"), put("bb", text(199))},
		{put("A", text(200)), put("B", text(200)), gone("a"), gone("d")},
		{put("e", text(200)), put("f", text(199)), gone("c"), put("x", "")},
		{put("e", text(149)), put("a", text(150)), put("f", text(149)), put("b", text(150))},
		{{Key: "e", Value: text(200), Gone: true}, put("g", text(100)), {Key: "none", Value: text(200), Gone: true}},
	} {
		permute(changes, 0, func(changes []change) {
			x := newRun(t, 20, 40)
			x.want(t, api.OK, fullLeaf()...)
			x.want(t, api.OK, changes...)
			if !x.leaf {
				t.Fatalf("it doesn't fit")
			}
			wantHeld(t, x.x, x.held)
		})
	}
}

// permute hands out the changes in every order of those from a number on.
func permute(changes []change, from int, yield func([]change)) {
	if from == len(changes) {
		yield(changes)
	}
	for i := from; i < len(changes); i++ {
		swapped := slices.Clone(changes)
		swapped[from], swapped[i] = swapped[i], swapped[from]
		permute(swapped, from+1, yield)
	}
}

// TestFull holds P5.3's ErrFull on disks of few sectors: nothing changes, what needs no further sector is taken, and so is more, as soon as something is gone.
func TestFull(t *testing.T) {
	for sectors := 1; sectors < 30; sectors++ {
		x := newRun(t, sectors, 40)
		count := 0
		for x.apply(t, put(numbered(count, count+1, 20)[0], text(200))) == api.OK {
			count++
		}
		// A leaf that is cut in two takes one sector more, the first time two.
		if used := x.x.Sectors(); used != sectors && used != 2 || used == 2 && sectors > 3 {
			t.Errorf("%d of %d sectors are in use, with %d keys, and no more are taken", used, sectors, count)
		}
		keys := numbered(0, count, 20)
		x.want(t, api.ErrFull, puts(numbered(count, count+500, 20), text(200))...)
		x.want(t, api.OK, gone("none"))
		x.want(t, api.OK)
		wantHeld(t, x.x, content{}.with(puts(keys, text(200))))
		x.again(t)
		for _, key := range keys {
			x.want(t, api.OK, put(key, strings.Repeat("y", 200)))
		}
		for _, key := range keys {
			x.want(t, api.OK, gone(key))
			x.apply(t, put(key, text(200)))
			x.apply(t, put(key[:19], text(200)))
		}
		x.want(t, api.OK, allGone(slices.Collect(maps.Keys(x.held)))...)
		x.want(t, api.OK, puts(keys, text(200))...)
		// As much goes as comes, though what comes is handed in first.
		x.want(t, api.OK, append(puts(numbered(1000, 1000+count, 20), text(200)), allGone(keys)...)...)
		wantHeld(t, x.x, x.held)
		x.want(t, api.OK, allGone(numbered(1000, 1000+count, 20))...)
		wantHeld(t, x.x, nil)
	}
}

// TestOtherSector holds P5.3 of an Apply in which a node goes, and another one comes that has the same lowest key, and stands elsewhere.
func TestOtherSector(t *testing.T) {
	x := newRun(t, 40, 40)
	// Nine of these fit a leaf, five are in each. Where the second leaf was, the new one will be.
	for _, key := range numbered(0, 31, 2) {
		x.want(t, api.OK, put(key, text(100)))
	}
	x.want(t, api.OK, allGone(numbered(5, 10, 2))...)
	x.want(t, api.OK, append(allGone(numbered(16, 20, 2)), puts([]string{"1:", "1;", "1<", "1="}, text(100))...)...)
	wantHeld(t, x.x, x.held)
	x.again(t)
	wantHeld(t, x.x, x.held)
}

// TestBig holds P5.3's ErrBig with rooms of few sectors, of changes that have more bytes than as many sectors: nothing changes, and as few as P5.5 says are taken.
func TestBig(t *testing.T) {
	keys := numbered(0, 600, 20)
	for room := 1; room < 80; room += 3 {
		x := newRun(t, 400, room)
		many := puts(keys[:room*5], text(200))
		x.want(t, api.ErrBig, many...)
		wantHeld(t, x.x, nil)
		if room < 25 {
			continue
		}
		few := (room - 1) / 24
		for part := range slices.Chunk(many, few) {
			x.want(t, api.OK, part...)
		}
		x.again(t)
		x.want(t, api.ErrBig, puts(keys[:room*5], strings.Repeat("y", 200))...)
		wantHeld(t, x.x, content{}.with(many))
		for part := range slices.Chunk(allGone(keys[:room*5]), few) {
			x.want(t, api.OK, part...)
		}
		wantHeld(t, x.x, nil)
	}
}

// TestLeastRooms holds P5.3's ErrBig of the least rooms: a first key changes a sector for it, and the one that says where it stands.
func TestLeastRooms(t *testing.T) {
	x := newRun(t, 9, 1)
	x.want(t, api.ErrBig, put("a", ""))
	x.want(t, api.OK, gone("a"))
	x = newRun(t, 9, 2)
	x.want(t, api.OK, put("a", ""), put("b", "2"))
	x.want(t, api.OK, put("a", "1"), gone("b"))
	x.want(t, api.ErrBig, puts(numbered(0, 9, 20), text(200))...)
	x.want(t, api.OK, gone("a"))
	wantHeld(t, x.x, nil)
}

// TestRoomForLeaves holds P5.3's ErrBig of values that change in as many leaves as the room has sectors, and in one more: no other sector changes.
func TestRoomForLeaves(t *testing.T) {
	x := newRun(t, 99, 25)
	keys := numbered(0, 156, 20)
	for _, key := range keys {
		x.want(t, api.OK, put(key, text(200)))
	}
	var apart []change
	for i := 0; i < len(keys); i += 6 { // a leaf has at most four of them
		apart = append(apart, put(keys[i], strings.Repeat("y", 200)))
	}
	x.want(t, api.ErrBig, apart...)
	x.want(t, api.OK, apart[1:]...)
	wantHeld(t, x.x, x.held)
	x.again(t)
	wantHeld(t, x.x, x.held)
}

// TestFullThenBigThenOff holds the order of P5.3's last errors, and that a tree that was answered one of the first two is asked on.
func TestFullThenBigThenOff(t *testing.T) {
	many, more := puts(numbered(0, 40, 20), text(200)), puts(numbered(0, 400, 20), text(200))
	x := newRun(t, 30, 5)
	x.want(t, api.OK, put("a", "1"))
	for range 2 {
		x.want(t, api.ErrFull, more...)
		x.want(t, api.ErrBig, many...)
		wantHeld(t, x.x, x.held)
		switchOff(t, x.d) // the second time round
	}
	x.d.Start()
	x.want(t, api.OK, put("b", "2"))
	switchOff(t, x.d)
	wantApply(t, x.x, api.ErrOff, put("c", "3"))
	wantApply(t, x.x, api.ErrOff, more...)
	wantApply(t, x.x, api.ErrOff, many...)
	wantHeld(t, x.x, x.held)
	x.d.Start()
	x.again(t)
	wantHeld(t, x.x, x.held)
	x.want(t, api.OK, put("c", "3"))
}
