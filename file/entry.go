package file

import (
	"strings"

	"stemma/api"
	"stemma/crc"
	"stemma/nums"
	"stemma/space"
)

// entry is what there is of a file beside its name and its content. Its extents are never changed in place.
type entry struct {
	at      int // the number of its entry on the disk
	size    int
	extents []space.Extent
}

// text returns what the entry's sector begins with for a file of that name.
func (f entry) text(name string) string {
	var b strings.Builder
	b.WriteString(nums.Join(name))
	b.WriteString(nums.Put(f.size))
	b.WriteString(nums.Put(len(f.extents)))
	for _, x := range f.extents {
		b.WriteString(nums.Put(x.From))
		b.WriteString(nums.Put(x.N))
	}
	sum := crc.Sum(b.String())
	b.Write([]byte{byte(sum), byte(sum >> 8), byte(sum >> 16), byte(sum >> 24)})
	return b.String()
}

// parse returns the file of an entry's sector, and its name; false if it isn't that of a file. Whether the units are on
// the disk, and no other file's, shows only when all are claimed.
func parse(sector string) (string, entry, bool) {
	name, n, err := nums.Next(sector)
	if err != api.OK || !Good(name) {
		return "", entry{}, false
	}
	rest := sector[n:]
	// What isn't a number counts as 0 here: then the text of the entry is not what the sector has.
	number := func() int {
		x, n, _ := nums.Get(rest)
		rest = rest[n:]
		return x
	}
	f := entry{size: number()}
	count := number()
	if f.size > api.MaxFile || count > api.MaxExtents {
		return "", entry{}, false
	}
	for range count {
		from := number()
		f.extents = append(f.extents, space.Extent{From: from, N: number()})
	}
	if space.Count(f.extents) != unitsFor(f.size) || !holds(sector, f.text(name)) {
		return "", entry{}, false
	}
	return name, f, true
}
