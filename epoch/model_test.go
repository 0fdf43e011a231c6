package epoch_test

import (
	"reflect"
	"slices"
	"strings"
	"testing"

	"epoch/api"
	"epoch/epoch"
)

// model is what the document's words make of a Group. It keeps no secret but
// the root, and works out each other one anew, so that nothing it says hangs on
// what a Group keeps.
type model struct {
	root         api.Secret
	members, own int
	next         map[int]int   // of the members whose ratchet was needed
	kept         map[int][]int // generations that were passed over, the lowest first
}

func newModel(root api.Secret, members, own int) *model {
	return &model{root, members, own, map[int]int{}, map[int][]int{}}
}

func (m *model) protect(text []byte) []byte {
	generation := m.next[m.own]
	m.next[m.own] = generation + 1
	return frameBy(m.root, m.members, m.own, generation, text)
}

// why is the error that P9 names first, and how many are passed over.
func (m *model) why(frame []byte) (api.Errno, int) {
	if len(frame) < 7 || len(frame) > 47 || int(frame[0]) >= m.members {
		return api.ErrFrame, 0
	}
	member, generation := int(frame[0]), int(frame[1])*256+int(frame[2])
	if member == m.own {
		return api.ErrOwn, 0
	}
	passed := generation - m.next[member]
	if passed < 0 && !slices.Contains(m.kept[member], generation) {
		return api.ErrConsumed, 0
	}
	if passed > 5 {
		return api.ErrFar, 0
	}
	key, _ := epoch.Key(m.root, m.members, member, generation)
	if _, ok := epoch.Open(key, frame[:3], frame[3:]); !ok {
		return api.ErrSeal, max(passed, 0)
	}
	return api.OK, max(passed, 0)
}

func (m *model) unprotect(frame []byte) (epoch.Message, api.Errno) {
	if err, _ := m.why(frame); err != api.OK {
		return epoch.Message{}, err
	}
	member, generation := int(frame[0]), int(frame[1])*256+int(frame[2])
	key, _ := epoch.Key(m.root, m.members, member, generation)
	text, _ := epoch.Open(key, frame[:3], frame[3:])
	kept := m.kept[member]
	if generation < m.next[member] {
		kept = slices.DeleteFunc(kept, func(k int) bool { return k == generation })
	} else {
		for k := m.next[member]; k < generation; k++ {
			kept = append(kept, k)
		}
		m.next[member] = generation + 1
	}
	m.kept[member] = kept[max(0, len(kept)-4):]
	return epoch.Message{Member: member, Generation: generation, Text: text}, api.OK
}

func (m *model) dump() []api.Item {
	items := partsLeft(m.root, m.members, m.next)
	ways := strings.Fields(waysDown[m.members-1])
	for member := range m.members {
		if next, ok := m.next[member]; ok && next <= api.Last {
			items = append(items, headAt(downFrom(m.root, ways[member]), member, next))
		}
	}
	for member := range m.members {
		for _, generation := range m.kept[member] {
			items = append(items, keptAt(m.root, m.members, member, generation))
		}
	}
	return items
}

// partsLeft are the greatest parts without a member whose ratchet was needed.
func partsLeft(root api.Secret, members int, needed map[int]int) []api.Item {
	var items []api.Item
	ways := strings.Fields(waysDown[members-1])
	var down func(way string)
	down = func(way string) {
		item := api.Item{Kind: api.Node, From: -1, Secret: downFrom(root, way)}
		isNeeded := false
		for member, w := range ways {
			if strings.HasPrefix(strings.Trim(w, "."), way) {
				if item.From < 0 {
					item.From = member
				}
				item.To = member + 1
				_, is := needed[member]
				isNeeded = isNeeded || is
			}
		}
		if !isNeeded {
			items = append(items, item)
		} else if item.To-item.From > 1 {
			down(way + "L")
			down(way + "R")
		}
	}
	down("")
	return items
}

func keptAt(root api.Secret, members, member, generation int) api.Item {
	key, _ := epoch.Key(root, members, member, generation)
	return api.Item{Kind: api.Kept, From: member, To: member + 1, Generation: generation, Secret: key}
}

// halvings are those on the way to a member from the least part that is kept.
func (m *model) halvings(member int) int {
	if _, ok := m.next[member]; ok {
		return 0
	}
	ways := strings.Fields(waysDown[m.members-1])
	way := strings.Trim(ways[member], ".")
	count := len(way)
	for other := range m.next {
		shared := 0
		for ways[other][shared] == way[shared] {
			shared++
		}
		count = min(count, len(way)-shared-1)
	}
	return count
}

// work is the least that an Unprotect can derive, and the most that it may: the
// least is the halves, the ratchet, the next ones, the keys that will be kept,
// the key itself, the tag and the stream.
func (m *model) work(frame []byte) (least, most int) {
	err, passed := m.why(frame)
	if err != api.OK && err != api.ErrSeal {
		return 0, 0
	}
	member, generation := int(frame[0]), int(frame[1])*256+int(frame[2])
	text := len(frame) - 7
	if generation < m.next[member] {
		least, most = 1, 4+blocks(text)
	} else {
		halves := 2 * m.halvings(member)
		least, most = halves+passed+2, 4+halves+2*(passed+1)+blocks(text)
		if m.next[member] == 0 {
			least++
		}
	}
	if err == api.OK {
		least += blocks(text) + min(passed, 4)
		if m.next[member] <= generation && generation < api.Last {
			least++
		}
	}
	return least, most
}

// mustAgree hands a frame to a Group and to its model, and holds the one to the
// other: the answer, what is kept, and how much work it was.
func mustAgree(t *testing.T, g *epoch.Group, m *model, what string, frame []byte) api.Errno {
	t.Helper()
	least, most := m.work(frame)
	want, wantErr := m.unprotect(frame)
	before := g.Work()
	got, err := g.Unprotect(frame)
	if !reflect.DeepEqual(got, want) || err != wantErr {
		t.Errorf("P9: of %d of %d, %s, %x, is %v, %d, not %v, %d", m.own, m.members, what, frame, got, err, want, wantErr)
	}
	if derived := g.Work() - before; derived < least || derived > most {
		t.Errorf("P14: of %d of %d, %s, %x, derives %d secrets, not from %d to %d", m.own, m.members, what, frame, derived, least, most)
	}
	mustKeep(t, g, "behind "+what, m.dump())
	return err
}
