package store

import (
	"math/rand"
	"strings"
	"testing"

	"rack/api"
)

// save, load: with power, and so without an error.
func save(t *testing.T, dev *api.Device, text string) {
	t.Helper()
	if err := Save(dev, text); err != api.OK {
		t.Fatalf("Save of %d bytes: %d", len(text), err)
	}
}

func load(t *testing.T, dev *api.Device, want string) {
	t.Helper()
	if text, err := Load(dev); text != want || err != api.OK {
		t.Fatalf("Load = %q, %d, want %q", text, err, want)
	}
}

// text: n bytes that differ from those of another seed and at their places.
func text(seed, n int) string {
	b := make([]byte, n)
	for i := range b {
		b[i] = byte(1 + (i*7+seed*11)%255)
	}
	return string(b)
}

func TestANewDeviceHasNoText(t *testing.T) {
	dev := api.NewDevice()
	load(t, dev, "")
	dev.Restore(-1)
	load(t, dev, "")
}

// Each length there may be, behind longer ones and shorter ones, in both rooms.
func TestEachLength(t *testing.T) {
	dev := api.NewDevice()
	for n := range api.MaxText + 1 {
		for _, length := range []int{n, api.MaxText - n, n, n} {
			save(t, dev, text(n, length))
			load(t, dev, text(n, length))
			dev.Restore(0)
			load(t, dev, text(n, length))
		}
	}
}

func TestLoadWritesNothing(t *testing.T) {
	dev := api.NewDevice()
	for i := range 4 {
		ahead := *dev
		load(t, dev, strings.Repeat("x", i))
		for k := range api.Sectors {
			was, _ := ahead.Read(k)
			is, _ := dev.Read(k)
			if string(was) != string(is) {
				t.Errorf("Load has written sector %d", k)
			}
		}
		save(t, dev, strings.Repeat("x", i+1))
	}
}

// The power goes at each call of Save, and each set of what was not flushed lasts.
func TestPowerInSave(t *testing.T) {
	for saved := range 3 {
		broken := 0
		for n := 0; ; n++ {
			dev := api.NewDevice()
			for i := range saved {
				save(t, dev, text(i, 300+i))
			}
			old, _ := Load(dev)
			dev.Arm(n)
			if err := Save(dev, text(9, api.MaxText)); err == api.OK {
				break
			} else if err != api.ErrPower || !dev.Dead() {
				t.Fatalf("Save with power for %d calls: %d", n, err)
			}
			broken++
			for keep := range 1 << min(n+1, 14) {
				after := *dev
				after.Restore(keep)
				if got, err := Load(&after); err != api.OK || (got != old && got != text(9, api.MaxText)) {
					t.Fatalf("power for %d calls, of the writes %b lasted: %q, %d", n, keep, got, err)
				}
			}
		}
		if broken == 0 {
			t.Errorf("Save never met a power that goes")
		}
	}
}

func TestPowerInLoad(t *testing.T) {
	dev := api.NewDevice()
	save(t, dev, text(1, api.MaxText))
	for n := 0; ; n++ {
		dev.Arm(n)
		got, err := Load(dev)
		if err == api.OK {
			break
		}
		if got != "" || err != api.ErrPower || !dev.Dead() {
			t.Fatalf("Load with power for %d calls: %q, %d", n, got, err)
		}
		dev.Restore(-1)
	}
	dev.Arm(-1)
	load(t, dev, text(1, api.MaxText))
}

// Whatever stands on the device, Load ends and does not panic; behind Save there is what was saved.
func TestAnyBytesOnTheDevice(t *testing.T) {
	rnd := rand.New(rand.NewSource(21))
	for i := range 500 {
		dev := api.NewDevice()
		for k := range api.Sectors {
			b := make([]byte, api.Bytes)
			rnd.Read(b)
			if i%2 == 0 {
				b = []byte(strings.Repeat(string(rune('a'+i%26)), api.Bytes))
			}
			dev.Write(k, b)
		}
		dev.Flush()
		if got, err := Load(dev); err != api.OK || strings.Contains(got, "\x00") {
			t.Fatalf("Load = %q, %d", got, err)
		}
		save(t, dev, "target x;")
		dev.Restore(0)
		load(t, dev, "target x;")
	}
}
