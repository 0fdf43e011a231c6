package epoch

import (
	"maps"
	"slices"

	"epoch/api"
)

// passedKeys are the keys that were passed over. Each lies in memory of its own
// that is overwritten when the key is forgotten: if they lay in the map itself,
// it would leave copies of them behind where it grows.
type passedKeys map[place]*api.Secret

func (k passedKeys) keep(p place, key api.Secret) { k[p] = &key }

// forget is asked only of a key that is kept.
func (k passedKeys) forget(p place) {
	clear(k[p][:])
	delete(k, p)
}

func (k passedKeys) forgetAll() {
	for p := range k {
		k.forget(p)
	}
}

// giveUp leaves a member no more keys than may be kept of it.
func (k passedKeys) giveUp(member int) {
	places := k.placesOf(member)
	for _, p := range places[:max(0, len(places)-api.MaxKept)] {
		k.forget(p)
	}
}

// placesOf are in order, so the lowest generations come first.
func (k passedKeys) placesOf(member int) []place {
	return slices.DeleteFunc(k.places(), func(p place) bool { return p.member != member })
}

// places are in order, since that of the map must not be seen.
func (k passedKeys) places() []place {
	return slices.SortedFunc(maps.Keys(k), place.compare)
}
