// Package store: a text on a device. Behind whatever happens to the power, the device has the text that was saved last or the one ahead of it, whole.
package store

import "rack/api"

// There are two rooms for a text. The head tells which of them holds; a new text is written into the other one, where it may break off at any place until the head tells of it. The head is one sector, for a write lasts whole or not at all. On a new device, all 0, the first room holds, with no text.
const (
	head = 0
	span = (api.MaxText + api.Bytes - 1) / api.Bytes // sectors of a room
)

// Load answers the text that lasts. What is read lasts already, for Save leaves nothing unflushed unless the power goes; so Load has nothing to write.
func Load(dev *api.Device) (string, api.Errno) {
	room, err := holding(dev)
	if err != api.OK {
		return "", err
	}
	var bytes []byte
	for i := 0; i < span; i++ {
		part, err := dev.Read(sector(room, i))
		if err != api.OK {
			return "", err
		}
		bytes = append(bytes, part...)
	}
	return untilZero(bytes), api.OK
}

// Save lays a text of at most MaxText bytes, none of them 0, on the device. The text is flushed ahead of the head, for else the head might last without it.
func Save(dev *api.Device, text string) api.Errno {
	old, err := holding(dev)
	if err != api.OK {
		return err
	}
	room := 1 - old
	err = fill(dev, room, text)
	if err != api.OK {
		return err
	}
	err = dev.Flush()
	if err != api.OK {
		return err
	}
	mark := make([]byte, api.Bytes)
	mark[0] = byte(room)
	err = dev.Write(head, mark)
	if err != api.OK {
		return err
	}
	return dev.Flush()
}

// holding answers the room that the head tells of.
func holding(dev *api.Device) (int, api.Errno) {
	mark, err := dev.Read(head)
	if err != api.OK {
		return 0, err
	}
	if len(mark) > 0 && mark[0] == 1 {
		return 1, api.OK
	}
	return 0, api.OK
}

// fill writes a text into a room, to the room's end: what an earlier text has left there must not be read behind it.
func fill(dev *api.Device, room int, text string) api.Errno {
	for i := 0; i < span; i++ {
		part := make([]byte, api.Bytes)
		for k := 0; k < api.Bytes && i*api.Bytes+k < len(text); k++ {
			part[k] = text[i*api.Bytes+k]
		}
		err := dev.Write(sector(room, i), part)
		if err != api.OK {
			return err
		}
	}
	return api.OK
}

// sector answers where part i of a room lies.
func sector(room int, i int) int {
	return head + 1 + room*span + i
}

// untilZero answers the bytes ahead of the first 0.
func untilZero(bytes []byte) string {
	for i := 0; i < len(bytes); i++ {
		if bytes[i] == 0 {
			return string(bytes[:i])
		}
	}
	return string(bytes)
}
