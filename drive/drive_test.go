package drive

import (
	"testing"

	"rack/api"
)

// bank: two drives, of 1 and 9 blocks.
func bank() *Bank {
	b := &Bank{}
	b.Add("a", 1)
	b.Add("b", 9)
	return b
}

func wantRead(t *testing.T, d *Drive, session, block, value int, err api.Errno) {
	t.Helper()
	if v, e := d.Read(session, block); v != value || e != err {
		t.Errorf("Read(%d, %d) = %d, %d, want %d, %d", session, block, v, e, value, err)
	}
}

func wantErr(t *testing.T, name string, got, want api.Errno) {
	t.Helper()
	if got != want {
		t.Errorf("%s = %d, want %d", name, got, want)
	}
}

func TestFind(t *testing.T) {
	b := bank()
	if b.Find("a") == nil || b.Find("b") == nil || b.Find("a") == b.Find("b") {
		t.Errorf("the drives are not found, or are one")
	}
	for _, name := range []string{"", "c", "aa", "a "} {
		if b.Find(name) != nil || (&Bank{}).Find(name) != nil {
			t.Errorf("a drive %q is found", name)
		}
	}
}

func TestBlocks(t *testing.T) {
	const most = 1<<63 - 1
	b := bank()
	for _, c := range []struct {
		name  string
		block int
		err   api.Errno
	}{
		{"a", 0, api.OK}, {"a", 1, api.ErrBlock}, {"a", -1, api.ErrBlock}, {"b", 0, api.OK}, {"b", 8, api.OK}, {"b", 9, api.ErrBlock}, {"b", most, api.ErrBlock}, {"b", -most - 1, api.ErrBlock},
	} {
		d := b.Find(c.name)
		wantRead(t, d, 0, c.block, 0, c.err)
		wantErr(t, "Write", d.Write(0, c.block, 255), c.err)
		wantErr(t, "Write of what may not be", d.Write(0, c.block, 256), max(c.err, api.ErrArg))
		wantErr(t, "Write of what may not be", d.Write(0, c.block, -1), max(c.err, api.ErrArg))
		if c.err == api.OK {
			wantRead(t, d, 0, c.block, 255, api.OK)
		}
	}
	wantRead(t, b.Find("b"), 0, 1, 0, api.OK)
}

func TestReserved(t *testing.T) {
	d := bank().Find("a")
	wantErr(t, "Release of what is free", d.Release(3), api.OK)
	wantErr(t, "Reserve", d.Reserve(0), api.OK)
	wantErr(t, "Reserve again", d.Reserve(0), api.OK)
	wantErr(t, "Reserve by another", d.Reserve(1), api.ErrReserved)
	wantErr(t, "Release by another", d.Release(1), api.ErrReserved)
	wantErr(t, "Write by another", d.Write(1, 9, 256), api.ErrReserved)
	wantRead(t, d, 1, 9, 0, api.ErrReserved)
	wantErr(t, "Write", d.Write(0, 0, 5), api.OK)
	wantErr(t, "Release", d.Release(0), api.OK)
	wantRead(t, d, 1, 0, 5, api.OK)
}

func TestFreeIsOfOneSession(t *testing.T) {
	b := bank()
	b.Add("c", 1)
	b.Find("a").Reserve(0)
	b.Find("b").Reserve(1)
	b.Find("c").Reserve(0)
	b.Free(0)
	b.Free(2)
	wantRead(t, b.Find("a"), 7, 0, 0, api.OK)
	wantRead(t, b.Find("b"), 7, 0, 0, api.ErrReserved)
	wantRead(t, b.Find("c"), 7, 0, 0, api.OK)
}

// A drive that is taken out is gone with all that was in it, and takes no other with it.
func TestRemove(t *testing.T) {
	b := bank()
	for _, name := range []string{"a", "b"} {
		d := b.Find(name)
		d.Write(0, 0, 7)
		d.Reserve(0)
	}
	b.Remove("a")
	b.Remove("c")
	if b.Find("a") != nil {
		t.Errorf("the drive is still there")
	}
	wantRead(t, b.Find("b"), 0, 0, 7, api.OK)
	wantRead(t, b.Find("b"), 1, 0, 0, api.ErrReserved)
	b.Add("a", 2)
	wantRead(t, b.Find("a"), 1, 0, 0, api.OK)
	wantRead(t, b.Find("a"), 1, 1, 0, api.OK)
	wantRead(t, b.Find("a"), 1, 2, 0, api.ErrBlock)
}
