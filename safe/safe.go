// Package safe writes files of a disk in such a way that a name never refers to a part of its bytes.
package safe

import (
	"pollard/api"
	"pollard/disk"
)

// Write writes a file under a temporary name, and gives it its name when all its bytes are durable. What a write that
// failed has left under the temporary name is removed by the next one.
func Write(d *disk.Disk, temp, name string, b []byte) api.Errno {
	if err := d.Remove(temp); err != api.OK && err != api.ErrNone {
		return err
	}
	if err := d.Create(temp); err != api.OK {
		return err
	}
	if err := d.Append(temp, b); err != api.OK {
		return err
	}
	if err := d.Sync(temp); err != api.OK {
		return err
	}
	return d.Rename(temp, name)
}
