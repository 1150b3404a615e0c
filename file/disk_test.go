package file_test

import (
	"fmt"
	"hash/crc32"
	"slices"
	"strings"
	"testing"

	"stemma/api"
	"stemma/file"
	"stemma/nums"
	"stemma/sector"
	"stemma/space"
)

// What the chapter says of the disk, written anew: nothing here asks package file.

// full returns the bytes of a sector to which data was written.
func full(data string) string { return data + strings.Repeat("\x00", 512-len(data)) }

// little returns the checksum of s, the lowest byte first.
func little(s string) string {
	n := crc32.ChecksumIEEE([]byte(s))
	return string([]byte{byte(n), byte(n >> 8), byte(n >> 16), byte(n >> 24)})
}

// sealed returns s with its checksum behind it.
func sealed(s string) string { return s + little(s) }

// headOf returns the head of a disk of so many sectors for so many files.
func headOf(sectors, files int) string {
	return full("SF" + string([]byte{byte(sectors >> 8), byte(sectors), byte(files >> 8), byte(files)}))
}

// bodyOf returns the entry of a file up to its checksum.
func bodyOf(name string, size int, l ...space.Extent) string {
	s := nums.Join(name) + nums.Put(size) + nums.Put(len(l))
	for _, x := range l {
		s += nums.Put(x.From) + nums.Put(x.N)
	}
	return s
}

// entryOf returns the entry of a file.
func entryOf(name string, size int, l ...space.Extent) string {
	return full(sealed(bodyOf(name, size, l...)))
}

// bitmapOf returns the bitmap in which these extents are allocated.
func bitmapOf(l ...space.Extent) string {
	var b [512]byte
	for _, x := range l {
		for i := x.From; i < x.From+x.N; i++ {
			b[i/8] |= 1 << (i % 8)
		}
	}
	return string(b[:])
}

// logHeadOf returns the head of a log that describes changes of these sectors to these contents.
func logHeadOf(sectors []int, images []string) string {
	s := "WL" + string([]byte{byte(len(sectors))})
	for _, i := range sectors {
		s += string([]byte{byte(i >> 8), byte(i)})
	}
	sum := s
	for _, x := range images {
		sum += full(x)
	}
	return full(s + little(sum))
}

// describe lays changes into the log of a disk for so many files, as a call does that the power broke off.
func describe(d *sector.Disk, files int, sectors []int, images []string) {
	d.Spoil(2+files, logHeadOf(sectors, images))
	for i, x := range images {
		d.Spoil(3+files+i, x)
	}
}

// disk returns a disk of n sectors, each of which has its number in it.
func disk(t *testing.T, n int) *sector.Disk {
	t.Helper()
	d, err := sector.New(n)
	if err != api.OK {
		t.Fatalf("New(%d): %d", n, err)
	}
	for i := range n {
		d.Spoil(i, fmt.Sprint("old ", i))
	}
	return d
}

// content returns the bytes of all sectors.
func content(t *testing.T, d *sector.Disk) []string {
	t.Helper()
	l := make([]string, d.Size())
	for i := range l {
		s, err := d.Read(i)
		if err != api.OK {
			t.Fatalf("Read(%d): %d", i, err)
		}
		l[i] = s
	}
	return l
}

// put makes the sectors of a disk durable as they are in l.
func put(d *sector.Disk, l []string) {
	for i, s := range l {
		d.Spoil(i, s)
	}
}

// off switches the power of a disk off.
func off(d *sector.Disk) {
	d.Cut(1)
	d.Sync()
}

// formatted returns a disk of n sectors for so many files.
func formatted(t *testing.T, n, files int) *sector.Disk {
	t.Helper()
	d := disk(t, n)
	is(t, fmt.Sprintf("Format of %d sectors for %d files", n, files), file.Format(d, files), api.OK)
	return d
}

// mount mounts a disk.
func mount(t *testing.T, d *sector.Disk) *file.Store {
	t.Helper()
	s, err := file.Mount(d)
	if s == nil || err != api.OK {
		t.Fatalf("Mount: %v, %d", s, err)
	}
	return s
}

// fresh returns a store of n sectors for so many files, and its disk.
func fresh(t *testing.T, n, files int) (*file.Store, *sector.Disk) {
	t.Helper()
	d := formatted(t, n, files)
	return mount(t, d), d
}

// is says what an error must be.
func is(t *testing.T, what string, err, want api.Errno) {
	t.Helper()
	if err != want {
		t.Errorf("%s: error %d, want %d", what, err, want)
	}
}

// ok says that a call must have succeeded, and ends the test if not.
func ok(t *testing.T, what string, err api.Errno) {
	t.Helper()
	if err != api.OK {
		t.Fatalf("%s: error %d", what, err)
	}
}

// short returns a text that an error can tell.
func short(s string) string { return fmt.Sprintf("%.20q of %d bytes", s, len(s)) }

// text returns n bytes, others for each seed and at each place.
func text(seed, n int) string {
	b := make([]byte, n)
	x := uint32(seed)*2654435761 + 12345
	for i := range b {
		x = x*1664525 + 1013904223
		b[i] = byte(x >> 24)
	}
	return string(b)
}

// has says which files a store must have, and no others; each is told by its name and its content.
func has(t *testing.T, what string, s *file.Store, files ...string) {
	t.Helper()
	var names []string
	for i := 0; i < len(files); i += 2 {
		name, data := files[i], files[i+1]
		names = append(names, name)
		if x, err := s.Read(name); x != data || err != api.OK {
			t.Errorf("%s: Read(%s): %s, %d; want %s", what, name, short(x), err, short(data))
		}
		if n, err := s.Size(name); n != len(data) || err != api.OK {
			t.Errorf("%s: Size(%s): %d, %d; want %d", what, name, n, err, len(data))
		}
	}
	slices.Sort(names)
	if l := s.Names(); !slices.Equal(l, names) {
		t.Errorf("%s: Names: %q, want %q", what, l, names)
	}
}

// free says what Free must answer.
func free(t *testing.T, what string, s *file.Store, units, entries int) {
	t.Helper()
	if x, y := s.Free(); x != units || y != entries {
		t.Errorf("%s: Free: %d, %d; want %d, %d", what, x, y, units, entries)
	}
}
